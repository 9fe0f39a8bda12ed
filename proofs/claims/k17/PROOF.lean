import PyProof.Rows.All
import Wide.All
import OpenK.AllK
import Wide.FinOn
import Lean
import PyProof.EqAt
import PyProof.EqKinds
import PyProof.TupleCall
import PyProof.ExcInit
import PyProof.InstStoreFacts
import PyProof.StrLawsFirst
import PyProof.StrLawsIn
import KE.KLam
import PyProof.ListMulRoad
import PyProof.Rows.ListMul
import PyProof.ZipIter
import PyProof.Draws
import PyProof.StrLaws
import PyProof.StrLawsIdx
import PyProof.ListStr
import PySem.Challenge.RW_striproam_k17_whole_first_strips
set_option linter.all false
set_option maxRecDepth 100000
set_option maxHeartbeats 4000000

-- CHANGE: your row's module here, as the last of these rows
set_option Elab.async false
set_option linter.all false
set_option maxRecDepth 100000
/-! THE HAND LAYER, for ints, bools, texts, own classes, LISTS and tuples (index, slices, in, append, pop ..), calls, loops. Paste it whole ahead of your own text; what your proof does not reach may be deleted. -/
namespace L2
open PySem PySem.Spec PyProof.Rows

/-- a key: an int or a str -/
abbrev Key := Sum Int Str
def keyIs : Key → Value → Bool
  | .inl k, v => Value.isInt k v
  | .inr x, v => Value.isStrOf x v
def keyH (w : World) : Key → Int
  | .inl k => hashInt k
  | .inr x => hashStr w x
theorem keyIs_shape : ∀ {k : Key} {v : Value}, keyIs k v = true → (∃ i t, k = Sum.inl i ∧ v = Value.int i t) ∨ (∃ x t, k = Sum.inr x ∧ v = Value.str x t)
  | .inl i, v, h => by
    obtain ⟨t, e⟩ := Value.isInt_shape (k := i) (v := v) h
    exact .inl ⟨i, t, rfl, e⟩
  | .inr x, v, h => by
    obtain ⟨t, e⟩ := Value.isStrOf_shape (x := x) (v := v) h
    exact .inr ⟨x, t, rfl, e⟩
theorem keyIs_int (i : Int) (t : Tok) : keyIs (.inl i) (.int i t) = true := by simp [keyIs, Value.isInt]
theorem keyIs_str (x : Str) (t : Tok) : keyIs (.inr x) (.str x t) = true := by simp [keyIs, Value.isStrOf]
theorem key_ll (a b : Int) : decide ((Sum.inl a : Key) = Sum.inl b) = (a == b) := by
  by_cases e : a = b
  · subst e; simp
  · have h : ¬ (Sum.inl a : Key) = Sum.inl b := fun q => e (Sum.inl.inj q)
    rw [decide_eq_false h]
    exact (beq_eq_false_iff_ne.mpr e).symm
theorem key_rr (a b : Str) : decide ((Sum.inr a : Key) = Sum.inr b) = decide (a = b) := by
  by_cases e : a = b
  · subst e; simp
  · have h : ¬ (Sum.inr a : Key) = Sum.inr b := fun q => e (Sum.inr.inj q)
    rw [decide_eq_false h, decide_eq_false e]
theorem key_lr (a : Int) (b : Str) : decide ((Sum.inl a : Key) = Sum.inr b) = false := decide_eq_false (fun q => nomatch q)
theorem key_rl (a : Str) (b : Int) : decide ((Sum.inr a : Key) = Sum.inl b) = false := decide_eq_false (fun q => nomatch q)

def mixKind (prog : Program) (w : World) : PySem.KeyKind prog w Key where
  is := keyIs
  hash := keyH w
  inj := fun v a b ha hb => by
    rcases keyIs_shape ha with ⟨i, t, rfl, rfl⟩ | ⟨x, t, rfl, rfl⟩
    · rcases keyIs_shape hb with ⟨j, u, rfl, e⟩ | ⟨y, u, rfl, e⟩
      · injection e with e1 _; rw [e1]
      · exact nomatch e
    · rcases keyIs_shape hb with ⟨j, u, rfl, e⟩ | ⟨y, u, rfl, e⟩
      · exact nomatch e
      · injection e with e1 _; rw [e1]
  byValue := fun k v h => by
    rcases keyIs_shape h with ⟨i, t, rfl, rfl⟩ | ⟨x, t, rfl, rfl⟩ <;> rfl
  pyHash := fun hv h => by
    rcases keyIs_shape hv with ⟨i, t, rfl, rfl⟩ | ⟨x, t, rfl, rfl⟩
    · exact wpAny_pyHash_int h
    · exact wpAny_pyHash_str h
  eqBool := fun hu hv h => by
    rcases keyIs_shape hu with ⟨i, t, rfl, rfl⟩ | ⟨x, t, rfl, rfl⟩
    · rcases keyIs_shape hv with ⟨j, u, rfl, rfl⟩ | ⟨y, u, rfl, rfl⟩
      · rw [key_ll] at h; exact wpAny_eqBool_int h
      · rw [key_lr] at h; exact SeqAt.EqAt.int_str i t y u _ _ _ _ h
    · rcases keyIs_shape hv with ⟨j, u, rfl, rfl⟩ | ⟨y, u, rfl, rfl⟩
      · rw [key_rl] at h; exact SeqAt.EqAt.str_int x t j u _ _ _ _ h
      · rw [key_rr] at h; exact wpAny_eqBool_str h
  «strs» := fun k x t v h => by
    rcases keyIs_shape h with ⟨i, u, rfl, e⟩ | ⟨y, u, rfl, e⟩
    · exact nomatch e
    · injection e with e1 _
      subst e1
      cases v <;> rfl

theorem mixKind_int (prog : Program) (w : World) (i : Int) (t : Tok) : (mixKind prog w).is (.inl i) (.int i t) = true := keyIs_int i t
theorem mixKind_str (prog : Program) (w : World) (x : Str) (t : Tok) : (mixKind prog w).is (.inr x) (.str x t) = true := keyIs_str x t
end L2

namespace L2
open PySem PySem.Spec PyProof.Rows

/-- a value, without the heap -/
inductive V where
  | non | bl (b : Bool) | int (i : Int) | str (x : Str) | byt (b : Array UInt8) | flt (b : UInt64) | ref (a : Addr) | ty (n : String)
  deriving DecidableEq

def RelV : V → Value → Prop
  | .non, u => u = Value.none
  | .bl b, u => u = Value.bool b
  | .int i, u => ∃ t, u = Value.int i t
  | .str x, u => ∃ t, u = Value.str x t
  | .byt b, u => ∃ t, u = Value.bytes b t
  | .flt b, u => ∃ t, u = Value.float b t
  | .ref a, u => u = Value.ref a
  | .ty n, u => u = Value.type n

abbrev Vals : List V → List Value → Prop := Paired RelV
theorem Vals.length {xs : List V} {us : List Value} (r : Vals xs us) : xs.length = us.length := Paired.length r
theorem Vals.get : ∀ {xs : List V} {us : List Value} {i : Nat} {x : V}, Vals xs us → xs[i]? = some x → ∃ u, us[i]? = some u ∧ RelV x u
  | _, _, _, _, .nil, e => by simp at e
  | _, _, 0, _, .cons r _, e => by simp at e; subst e; exact ⟨_, rfl, r⟩
  | _, _, i + 1, x, .cons _ t, e => by
    obtain ⟨u, h1, h2⟩ := Vals.get (i := i) (x := x) t (by simpa using e)
    exact ⟨u, by simpa using h1, h2⟩
theorem Vals.append : ∀ {xs ys : List V} {us ws : List Value}, Vals xs us → Vals ys ws → Vals (xs ++ ys) (us ++ ws)
  | _, _, _, _, .nil, s => s
  | _, _, _, _, .cons r t, s => .cons r (Vals.append t s)
theorem Vals.take : ∀ {xs : List V} {us : List Value} (n : Nat), Vals xs us → Vals (xs.take n) (us.take n)
  | _, _, 0, _ => .nil
  | _, _, _ + 1, .nil => .nil
  | _, _, n + 1, .cons r t => .cons r (Vals.take n t)
theorem Vals.drop : ∀ {xs : List V} {us : List Value} (n : Nat), Vals xs us → Vals (xs.drop n) (us.drop n)
  | _, _, 0, r => r
  | _, _, _ + 1, .nil => .nil
  | _, _, n + 1, .cons _ t => Vals.drop n t
def RelO : Option V → Option Value → Prop
  | some v, some u => RelV v u
  | none, none => True
  | _, _ => False
def KV {κ : Type} : List (κ × V) → List (κ × Value) → Prop := Paired fun (p : κ × V) (q : κ × Value) => p.1 = q.1 ∧ RelV p.2 q.2

/-- a key of a dict (00_mix): an int or a text -/
def kV : Key → V
  | .inl i => .int i
  | .inr x => .str x

/-- what stands at a tracked address -/
inductive HO where
  /-- a list -/
  | lst (xs : List V)
  /-- a tuple (never changes) -/
  | tup (xs : List V)
  /-- a dict whose keys are ints and texts; one whose keys are tuples of ints and texts (the empty one is both) -/
  | dK (kvs : List (Key × V)) | dT (kvs : List (List Key × V))
  /-- a set of ints: its members, its size -/
  | set (S : Int → Bool) (n : Nat)
  /-- an instance of the class at C, its dict at dx, its attributes -/
  | ins (C dx : Addr) (fs : List (Str × V))
  /-- the dict of the instance at x -/
  | own (x : Addr)
  /-- the dict of an exception -/
  | xd (fs : List (Str × V))
  /-- a bound method, f of x -/
  | met (f x : Addr)
  /-- a range object lo, lo + 1, .. below hi -/
  | rng (lo hi : Int)
  /-- a thing that is known to the object (the script; a dict while a loop walks it): read, never written while it is so -/
  | frz (o : Obj) (u : HO)
  /-- a code object's table -/
  | tbl (qs : List (Pos × Str))
  /-- a code object, by its name -/
  | cod (q : Str)
  /-- any other thing, by what is true of its one object (a def of one's own: SetO a S n := HO.ext fun h => ..) -/
  | ext (φ : Heap → Prop)

abbrev Hp := Addr → Option HO
def upd (H : Hp) (a : Addr) (o : HO) : Hp := fun b => if b = a then some o else H b
theorem upd_same {H : Hp} {a : Addr} {o : HO} : upd H a o a = some o := by unfold upd; rw [if_pos rfl]
theorem upd_ne {H : Hp} {a b : Addr} {o : HO} (h : b ≠ a) : upd H a o b = H b := by unfold upd; rw [if_neg h]
theorem upd_upd {H : Hp} {a : Addr} {o u : HO} : upd (upd H a o) a u = upd H a u := by
  funext b; unfold upd; split <;> rfl
theorem ne_of_none {H : Hp} {a b : Addr} {o : HO} (h : H a = some o) (h' : H b = none) : a ≠ b := by
  intro e; subst e; rw [h] at h'; cases h'

section
variable (P : Program) (w : World)
def ObjOk (H : Hp) (h : Heap) (a : Addr) : HO → Prop
  | .lst xs => xs.length ≤ sizeLine ∧ ∃ (its : List Value) (n : Nat), Vals xs its ∧ h.get? a = some { cls := .type "list", data := .seq its.toArray n }
  | .tup xs => xs.length ≤ sizeLine ∧ ∃ its : List Value, Vals xs its ∧ IsTup h a its.toArray
  | .dK kvs => kvs.length ≤ sizeLine ∧ (a == sysModules) = false ∧ ∃ vs, KV kvs vs ∧ h.DictOf (mixKind P w) a vs
  | .dT kvs => kvs.length ≤ sizeLine ∧ (a == sysModules) = false ∧ ∃ xs : List (List Key × Addr × Value),
      Paired (fun (p : List Key × V) (q : List Key × Addr × Value) => p.1 = q.1 ∧ H q.2.1 = some (.tup (p.1.map kV)) ∧ RelV p.2 q.2.2) kvs xs ∧
      ∃ o es ep, h.get? a = some o ∧ o.ExactDict ∧ o.data = .dict es ep ∧ es.toList = xs.map (entryOfKey (tupleKind (mixKind P w))) ∧ (xs.map (·.1)).Nodup
  | .set S n => h.SetOf (intKind P w) a S n
  | .ins C dx fs => H dx = some (.own a) ∧ fs.length ≤ 1000 ∧ dx ≠ a ∧ h.get? a = some (PySem.W.instObj C dx) ∧
      ∃ mA, h.Ns1 dx mA ∧ (∀ f, RelO (fs.lookup f) (mA f)) ∧ PySem.Within mA (fs.map (·.1))
  | .own _ => ∃ o, h.get? a = some o
  | .xd fs => ∃ mA, h.Ns1 a mA ∧ ∀ f, RelO (fs.lookup f) (mA f)
  | .rng lo hi => ∃ t u v, h.get? a = some { cls := .type "range", data := .fields #[.int lo t, .int hi u, .int 1 v] }
  | .frz o u => h.get? a = some o ∧ ObjOk H h a u
  | .tbl qs => ∃ ps : Array Value, h.get? a = some { cls := .none, data := .fields ps } ∧ TriplesOk ps.toList ∧ ∀ p ∈ qs, codeAmong p.1 ps.toList = none ∨ ∃ c, codeAmong p.1 ps.toList = some (.ref c) ∧ H c = some (.cod p.2)
  | .cod q => h.CodeRec (.ref a) q
  | .met f x => h.get? a = some (PySem.W.methodObj (.ref f) (.ref x))
  | .ext φ => φ h ∧ (∃ o, h.get? a = some o) ∧ ∀ h1 h2 : Heap, φ h1 → (∀ o, h1.get? a = some o → h2.get? a = some o) → φ h2
/-- the abstract heap is held -/
def HOk (H : Hp) (h : Heap) : Prop := ∀ a o, H a = some o → ObjOk P w H h a o
end

section
variable {P : Program} {w : World} {H H' : Hp} {h h' : Heap} {a : Addr} {o : HO}
theorem ObjOk.lt (x : ObjOk P w H h a o) : a < h.objs.size := by
  cases o with
  | lst xs => obtain ⟨_, _, _, _, e⟩ := x; exact Heap.lt_size e
  | tup xs => obtain ⟨_, _, _, p⟩ := x; exact p.lt
  | dK kvs => obtain ⟨_, _, _, _, o, _, _, e, _⟩ := x; exact Heap.lt_size e
  | dT kvs => obtain ⟨_, _, _, _, o, _, _, e, _⟩ := x; exact Heap.lt_size e
  | set S n => obtain ⟨o, _, _, _, e, _⟩ := x; exact Heap.lt_size e
  | ins C dx fs => obtain ⟨_, _, _, e, _⟩ := x; exact Heap.lt_size e
  | own y => obtain ⟨_, e⟩ := x; exact Heap.lt_size e
  | xd fs => obtain ⟨_, ⟨_, _, _, e, _⟩, _⟩ := x; exact Heap.lt_size e
  | rng lo hi => obtain ⟨_, _, _, e⟩ := x; exact Heap.lt_size e
  | frz ob u => obtain ⟨e, _⟩ := x; exact Heap.lt_size e
  | tbl qs => obtain ⟨ps, e, _⟩ := x; exact Heap.lt_size e
  | cod q => obtain ⟨c, o, vs, t, e, ho, _⟩ := x; cases e; exact Heap.lt_size ho
  | met f y => exact Heap.lt_size (show h.get? a = some _ from x)
  | ext φ => obtain ⟨_, ⟨_, e⟩, _⟩ := x; exact Heap.lt_size e
theorem Paired.mapP {α β : Type} {F G : α → β → Prop} : ∀ {l₁ : List α} {l₂ : List β}, Paired F l₁ l₂ → (∀ a b, F a b → G a b) → Paired G l₁ l₂
  | _, _, .nil, _ => .nil
  | _, _, .cons r t, f => .cons (f _ _ r) (Paired.mapP t f)
/-- what an object's description leans on: its own object, its own dict, the tuples -/
theorem ObjOk.stay (x : ObjOk P w H h a o) (k : ∀ b u, (b = a ∨ H b = some (.own a)) → h.get? b = some u → h'.get? b = some u)
    (ho : ∀ b, H b = some (.own a) → H' b = some (.own a)) (hc : ∀ b q, H b = some (.cod q) → H' b = some (.cod q)) (ht : ∀ b xs, H b = some (.tup xs) → H' b = some (.tup xs)) : ObjOk P w H' h' a o := by
  induction o with
  | lst xs => obtain ⟨z, its, n, r, e⟩ := x; exact ⟨z, its, n, r, k _ _ (.inl rfl) e⟩
  | tup xs => obtain ⟨z, its, r, ob, e, c⟩ := x; exact ⟨z, its, r, ob, k _ _ (.inl rfl) e, c⟩
  | dK kvs => obtain ⟨z, y, vs, r, ob, es, ep, e, c⟩ := x; exact ⟨z, y, vs, r, ob, es, ep, k _ _ (.inl rfl) e, c⟩
  | dT kvs =>
    obtain ⟨z, y, xs, r, ob, es, ep, e, c⟩ := x
    exact ⟨z, y, xs, Paired.mapP r fun p q z => ⟨z.1, ht _ _ z.2.1, z.2.2⟩, ob, es, ep, k _ _ (.inl rfl) e, c⟩
  | set S n => obtain ⟨ob, es, ep, t, e, c⟩ := x; exact ⟨ob, es, ep, t, k _ _ (.inl rfl) e, c⟩
  | ins C dx fs =>
    obtain ⟨d, z, ne, e, mA, ⟨od, es, ep, e2, c⟩, r⟩ := x
    exact ⟨ho _ d, z, ne, k _ _ (.inl rfl) e, mA, ⟨od, es, ep, k _ _ (.inr d) e2, c⟩, r⟩
  | own y => obtain ⟨ob, e⟩ := x; exact ⟨ob, k _ _ (.inl rfl) e⟩
  | xd fs => obtain ⟨mA, ⟨od, es, ep, e, c⟩, r⟩ := x; exact ⟨mA, ⟨od, es, ep, k _ _ (.inl rfl) e, c⟩, r⟩
  | rng lo hi => obtain ⟨t, u, v, e⟩ := x; exact ⟨t, u, v, k _ _ (.inl rfl) e⟩
  | frz ob u ih => obtain ⟨e, q⟩ := x; exact ⟨k _ _ (.inl rfl) e, ih q⟩
  | tbl qs =>
    obtain ⟨ps, e, t, r⟩ := x
    refine ⟨ps, k _ _ (.inl rfl) e, t, fun p hp => ?_⟩
    rcases r p hp with z | ⟨c, z, z2⟩
    · exact .inl z
    · exact .inr ⟨c, z, hc _ _ z2⟩
  | cod q =>
    obtain ⟨c, o, vs, t, e, ho, r⟩ := x
    cases e
    exact ⟨_, o, vs, t, rfl, k _ _ (.inl rfl) ho, r⟩
  | met f y =>
    have e : h.get? a = some (PySem.W.methodObj (.ref f) (.ref y)) := x
    show h'.get? a = some (PySem.W.methodObj (.ref f) (.ref y))
    exact k a _ (.inl rfl) e
  | ext φ => obtain ⟨p, ⟨o, e⟩, st⟩ := x; exact ⟨st _ _ p fun o q => k _ _ (.inl rfl) q, ⟨o, k _ _ (.inl rfl) e⟩, st⟩
theorem HOk.lt (x : HOk P w H h) (e : H a = some o) : a < h.objs.size := (x a o e).lt
theorem HOk.fresh (x : HOk P w H h) (e : h.objs.size ≤ a) : H a = none := by
  cases q : H a with
  | none => rfl
  | some u => exact absurd (Nat.lt_of_lt_of_le (x.lt q) e) (Nat.lt_irrefl _)
/-- every object of the heap is kept -/
theorem HOk.kept (x : HOk P w H h) (k : ∀ b u, h.get? b = some u → h'.get? b = some u) : HOk P w H h' := fun a o e =>
  (x a o e).stay (fun b u _ q => k b u q) (fun _ q => q) (fun _ _ q => q) fun _ _ q => q
/-- a new object is laid and tracked -/
theorem HOk.laid (x : HOk P w H h) (k : ∀ b u, h.get? b = some u → h'.get? b = some u) (hp : h.objs.size ≤ a) (new : ObjOk P w (upd H a o) h' a o) : HOk P w (upd H a o) h' := fun b u e => by
  have hn := x.fresh hp
  by_cases hb : b = a
  · subst hb; rw [upd_same] at e; cases e; exact new
  · rw [upd_ne hb] at e
    exact (x b u e).stay (fun c v _ q => k c v q) (fun c q => by rw [upd_ne (ne_of_none q hn)]; exact q) (fun c xs q => by rw [upd_ne (ne_of_none q hn)]; exact q) fun c xs q => by rw [upd_ne (ne_of_none q hn)]; exact q
end

/-- what may be read as u: it is u, or a known u -/
def Rd (H : Hp) (a : Addr) (u : HO) : Prop := H a = some u ∨ ∃ o, H a = some (.frz o u)
theorem Rd.ok {P : Program} {w : World} {H : Hp} {h : Heap} {a : Addr} {u : HO} (r : Rd H a u) (x : HOk P w H h) : ObjOk P w H h a u := by
  rcases r with r | ⟨o, r⟩
  · exact x a u r
  · obtain ⟨_, q⟩ := x a _ r
    exact q
/-- what may be written -/
def Mut : Option HO → Prop
  | some (.lst _) => True
  | some (.dK _) => True
  | some (.dT _) => True
  | some (.set _ _) => True
  | some (.ins _ _ _) => True
  | some (.ext _) => True
  | _ => False
section
variable {P : Program} {w : World} {H : Hp} {h h' : Heap} {x e : Addr} {o' : HO}
/-- the object at e is changed: x itself, or the dict of the instance x -/
theorem HOk.write (ok : HOk P w H h) (mu : Mut (H x)) (he : e = x ∨ H e = some (.own x)) (k : ∀ b u, b ≠ e → h.get? b = some u → h'.get? b = some u) (heo : ∃ u, h'.get? e = some u)
    (new : ObjOk P w (upd H x o') h' x o') : HOk P w (upd H x o') h' := fun b u q => by
  have nown : ∀ c y, H c = some (.own y) → c ≠ x := fun c y r z => by subst z; rw [r] at mu; exact mu
  have ntup : ∀ c xs, H c = some (.tup xs) → c ≠ x := fun c xs r z => by subst z; rw [r] at mu; exact mu
  have ncod : ∀ c xs, H c = some (.cod xs) → c ≠ x := fun c xs r z => by subst z; rw [r] at mu; exact mu
  by_cases hb : b = x
  · subst hb; rw [upd_same] at q; cases q; exact new
  · rw [upd_ne hb] at q
    by_cases hbe : b = e
    · have q' : H b = some (.own x) := by
        rcases he with z | z
        · exact absurd (hbe.trans z) hb
        · rw [hbe]; exact z
      rw [q] at q'; cases q'
      obtain ⟨v, hv⟩ := heo
      exact ⟨v, by rw [hbe]; exact hv⟩
    · refine (ok b u q).stay (fun c v hc r => k c v ?_ r) (fun c r => by rw [upd_ne (nown c b r)]; exact r) (fun c xs r => by rw [upd_ne (ncod c xs r)]; exact r) fun c xs r => by rw [upd_ne (ntup c xs r)]; exact r
      rcases hc with rfl | hc
      · exact hbe
      · rintro rfl
        rcases he with z | z
        · exact nown c b hc z
        · rw [hc] at z; cases z; exact hb rfl
end

/-! ### kept unless tracked; of the frames at fs (the callers') the slots may change (an exception that passes writes there); of the records at ex (iterators) nothing is said -/
structure Un (fs ex : List Addr) (H H' : Hp) (h h' : Heap) : Prop where
  keep : ∀ b o, h.get? b = some o → H b = none → b ∉ fs → b ∉ ex → h'.get? b = some o
  slot : ∀ b o, h.get? b = some o → H b = none → b ∈ fs → b ∉ ex → ∃ sl, h'.get? b = some { o with slots := sl }
  free : ∀ b o, h.get? b = some o → H b = none → b ∉ ex → H' b = none
  there : ∀ b o, h.get? b = some o → b ∉ ex → ∃ o', h'.get? b = some o'
  tups : ∀ b xs, H b = some (.tup xs) → H' b = some (.tup xs)
  frzs : ∀ b o u, H b = some (.frz o u) → H' b = some (.frz o u)
  tbls : ∀ b ps, H b = some (.tbl ps) → H' b = some (.tbl ps)
section
variable {fs fs' ex ex' : List Addr} {H H1 H2 : Hp} {h h1 h2 h' : Heap} {a x e : Addr} {o : HO}
theorem Un.any (u : Un fs ex H H1 h h1) {b : Addr} {ob : Obj} (q : h.get? b = some ob) (n : H b = none) (hx : b ∉ ex) : ∃ sl, h1.get? b = some { ob with slots := sl } := by
  by_cases hb : b ∈ fs
  · exact u.slot b ob q n hb hx
  · exact ⟨ob.slots, u.keep b ob q n hb hx⟩
theorem Un.kept (k : ∀ b u, h.get? b = some u → h'.get? b = some u) : Un fs ex H H h h' :=
  ⟨fun b ob q _ _ _ => k b ob q, fun b ob q _ _ _ => ⟨ob.slots, k b ob q⟩, fun _ _ _ n _ => n, fun b ob q _ => ⟨ob, k b ob q⟩, fun _ _ q => q, fun _ _ _ q => q, fun _ _ q => q⟩
theorem Un.refl : Un fs ex H H h h := Un.kept fun _ _ q => q
theorem Un.laid (k : ∀ b u, h.get? b = some u → h'.get? b = some u) (hp : h.objs.size ≤ a) (hn : H a = none) : Un fs ex H (upd H a o) h h' where
  keep := fun b u q _ _ _ => k b u q
  slot := fun b u q _ _ _ => ⟨u.slots, k b u q⟩
  free := fun b u q n _ => by rw [upd_ne (Nat.ne_of_lt (Nat.lt_of_lt_of_le (Heap.lt_size q) hp))]; exact n
  there := fun b u q _ => ⟨u, k b u q⟩
  tups := fun b xs q => by rw [upd_ne (ne_of_none q hn)]; exact q
  frzs := fun b u xs q => by rw [upd_ne (ne_of_none q hn)]; exact q
  tbls := fun b ps q => by rw [upd_ne (ne_of_none q hn)]; exact q
theorem Un.write (mu : Mut (H x)) (he : e = x ∨ H e = some (.own x)) (k : ∀ b u, b ≠ e → h.get? b = some u → h'.get? b = some u) (heo : ∃ u, h'.get? e = some u) : Un fs ex H (upd H x o) h h' := by
  have hx : ∀ b, H b = none → b ≠ x := fun b n z => by subst z; rw [n] at mu; exact mu
  have hb : ∀ b, H b = none → b ≠ e := fun b n z => by
    subst z
    rcases he with r | r
    · exact hx b n r
    · rw [n] at r; cases r
  have hm : ∀ b u, H b = some u → ¬ Mut (some u) → b ≠ x := fun b u q nm z => by subst z; rw [q] at mu; exact nm mu
  refine ⟨fun b u q n _ _ => k b u (hb b n) q, fun b u q n _ _ => ⟨u.slots, k b u (hb b n) q⟩, fun b u q n _ => by rw [upd_ne (hx b n)]; exact n, fun b u q _ => ?_,
    fun b xs q => by rw [upd_ne (hm b _ q fun z => z)]; exact q, fun b u xs q => by rw [upd_ne (hm b _ q fun z => z)]; exact q, fun b ps q => by rw [upd_ne (hm b _ q fun z => z)]; exact q⟩
  by_cases hbe : b = e
  · subst hbe; exact heo
  · exact ⟨u, k b u hbe q⟩
end

/-! ### the heap without what is tracked -/
def trk (h : Heap) (H : Hp) : List Addr := (List.range h.objs.size).filter fun a => (H a).isSome
def hidT (h : Heap) (H : Hp) : Heap := PySem.W.hideAll h (trk h H)
theorem hidT_size (h : Heap) (H : Hp) : (hidT h H).objs.size = h.objs.size := PySem.W.hideAll_size _ _
theorem hidT_get {h : Heap} {H : Hp} {b : Addr} {o : Obj} (e : h.get? b = some o) (n : H b = none) : (hidT h H).get? b = some o :=
  PySem.W.hideAll_get _ e fun hm => by
    have q : (H b).isSome = true := (List.mem_filter.mp hm).2
    rw [n] at q; simp at q
theorem of_hidT {h : Heap} {H : Hp} {b : Addr} {o : Obj} (e : (hidT h H).get? b = some o) : h.get? b = some o ∧ H b = none := by
  have e' : h.get? b = some o := PySem.W.of_hideAll (trk h H) e
  refine ⟨e', ?_⟩
  cases q : H b with
  | none => rfl
  | some x =>
    have hm : b ∈ trk h H := List.mem_filter.mpr ⟨List.mem_range.mpr (Heap.lt_size e'), by simp [q]⟩
    have z : (hidT h H).get? b = none := PySem.W.hideAll_none (trk h H) hm
    rw [z] at e; cases e

/-! ### OpenK's ledger, filled with every new object but one -/
def allNews (g h : Heap) (L : Addr) : List (Addr × Obj) := (List.range h.objs.size).filterMap fun a => if a = L ∨ (g.get? a).isSome = true then none else (h.get? a).map fun o => (a, o)
def rest (g h : Heap) (L d : Addr) : List (Addr × Obj) := (allNews g h L).filter fun p => decide (p.1 ≠ d)
end L2

namespace L2
open PySem PySem.Spec PyProof.Rows

/-- the module's facts, over the base: the heap at the law's entry without what is tracked there -/
structure Mod (K : PySem.W.Frag) (mg : Str → Option Value) (base : Heap) : Prop where
  kin : K.In base
  glob : base.Ns mainGlobals mg
  blt : ∃ mb, base.Ns builtinsNs mb ∧ ∀ x : Str, x ≠ "__name__" → mb x = bootBuiltins x
  nolimit : base.NoLimit

/-- the context: a def's body (or a comprehension's block) running. base: fixed through the whole law; s₀, H₀: the entry; outer: the frames whose slots others may change (a def's callers); stack: all frames that run;
   ex: iterators that were made ahead of the entry and are walked here (a comprehension's); fn: the names whose cells were made at the entry (a def: all; a comprehension's block: its own); calm: not within an except suite; pn: pins that every state bears; xe: what is wanted of an exception that leaves the code -/
structure Cx where
  prog : Program
  w : World
  K : PySem.W.Frag
  mg : Str → Option Value
  base : Heap
  A : Around
  N : List Str
  s₀ : Shared
  H₀ : Hp
  env : Env
  outer : List Env
  stack : List Env
  ex : List Addr
  fn : Str → Bool
  calm : Bool
  pn : List (Addr × Obj)
  xe : Value → Shared → Prop
/-- the callers' frames -/
def frs (l : List Env) : List Addr := l.filterMap (·.frame)
abbrev Cx.fs (X : Cx) : List Addr := frs X.outer

def Vis (sc : Scope) (x : Str) : Prop := sc.names.lookup x = some .local ∨ sc.names.lookup x = some .cell ∨ sc.names.lookup x = some .free
def Loc (sc : Scope) (x : Str) : Prop := sc.names.lookup x = some .local ∨ sc.names.lookup x = some .cell
def Look (env : Env) (h : Heap) (m : Str → Option Value) (x : Str) (u : Value) : Prop :=
  (env.kindOf x = some .local ∧ m x = some u) ∨ ((env.kindOf x = some .cell ∨ env.kindOf x = some .free) ∧ ∃ c, env.cells.lookup x = some c ∧ h.IsCell c (some u))

structure Cx.Ok (X : Cx) : Prop where
  mod : Mod X.K X.mg X.base
  kind : X.env.scope.kind = .function
  glob : X.env.globals = mainGlobals
  blt : X.env.builtins = builtinsNs
  above : X.s₀.heap.objs.size ≤ X.env.locals
  inj : ∀ x y c, X.env.cells.lookup x = some c → X.env.cells.lookup y = some c → x = y
  has : ∀ x, (X.env.kindOf x = some .cell ∨ X.env.kindOf x = some .free) → ∃ c, X.env.cells.lookup x = some c
  cab : ∀ x c, X.fn x = true → X.env.cells.lookup x = some c → X.s₀.heap.objs.size ≤ c
  hd : X.calm = true → X.A.handled = none
  frames : X.A.frames = some X.stack
  stk : X.stack = X.outer ∨ (X.stack = X.env :: X.outer ∧ X.env.frame = some X.env.locals)
  exf : ∀ b ∈ X.ex, b ≠ X.env.locals ∧ ∀ x c, X.env.cells.lookup x = some c → c ≠ b
  bs : ∀ b o, X.base.get? b = some o → X.s₀.heap.get? b = some o ∧ X.H₀ b = none
  bsz : X.base.objs.size ≤ X.s₀.heap.objs.size
  noex : ∀ b o, X.base.get? b = some o → b ∉ X.ex
  exfs : ∀ b ∈ X.ex, b ∉ X.fs
  funs : X.s₀.heap.FunFrames X.base X.outer
  frf : ∀ b ∈ X.fs, X.H₀ b = none

structure Inv (X : Cx) (pins : List (Addr × Obj)) (σ : List (Option V)) (H : Hp) (s : Shared) : Prop where
  ok : X.Ok
  os : s.os = X.s₀.os
  bare : AllBare s.gens
  base : Un X.fs X.ex X.H₀ H X.s₀.heap s.heap
  loc : ∃ m, s.heap.Ns X.env.locals m ∧ ∀ (i : Nat) (x : Str) (v : V), X.N[i]? = some x → σ[i]? = some (some v) → Vis X.env.scope x → ∃ u, RelV v u ∧ Look X.env s.heap m x u
  cell : ∀ x c, X.env.cells.lookup x = some c → ∃ v, s.heap.IsCell c v
  free : H X.env.locals = none
  freeC : ∀ x c, X.env.cells.lookup x = some c → H c = none
  pin : ∀ p ∈ X.pn ++ pins, s.heap.get? p.1 = some p.2 ∧ H p.1 = none ∧ p.1 ≠ X.env.locals ∧ p.1 ∉ X.fs ∧ ∀ v, p.2.data ≠ .cell v
  hok : HOk X.prog X.w H s.heap
  len : σ.length = X.N.length

section
variable {X : Cx} {pins : List (Addr × Obj)} {σ : List (Option V)} {H H' : Hp} {s : Shared} {h' : Heap}

theorem Cx.Ok.nofr (ok : X.Ok) {b : Addr} {o : Obj} (e : X.base.get? b = some o) : b ∉ X.fs := fun hb => by
  have := (ok.funs.mem hb).1
  rw [e] at this; cases this
theorem Inv.bs (I : Inv X pins σ H s) : ∀ b o, X.base.get? b = some o → s.heap.get? b = some o ∧ H b = none := fun b o e =>
  ⟨I.base.keep b o (I.ok.bs b o e).1 (I.ok.bs b o e).2 (I.ok.nofr e) (I.ok.noex b o e), I.base.free b o (I.ok.bs b o e).1 (I.ok.bs b o e).2 (I.ok.noex b o e)⟩
theorem Inv.bk (I : Inv X pins σ H s) : ∀ b o, X.base.get? b = some o → s.heap.get? b = some o := fun b o e => (I.bs b o e).1
theorem Inv.mod (I : Inv X pins σ H s) : Mod X.K X.mg X.base := I.ok.mod
theorem Inv.kIn (I : Inv X pins σ H s) : X.K.In s.heap := I.ok.mod.kin.keeps I.bk
theorem Inv.lt (I : Inv X pins σ H s) : X.env.locals < s.heap.objs.size := let ⟨_, hn, _⟩ := I.loc; hn.lt
theorem Inv.sz (I : Inv X pins σ H s) : X.s₀.heap.objs.size ≤ s.heap.objs.size := Nat.le_trans I.ok.above (Nat.le_of_lt I.lt)
theorem Inv.nofs (I : Inv X pins σ H s) {a : Addr} (h : s.heap.objs.size ≤ a) : a ∉ X.fs := fun hb => by
  obtain ⟨_, o, ho, _⟩ := I.ok.funs.mem hb
  exact absurd (Nat.lt_of_lt_of_le (Heap.lt_size ho) (Nat.le_trans I.sz h)) (Nat.lt_irrefl _)
theorem Inv.cne (I : Inv X pins σ H s) : ∀ x c, X.env.cells.lookup x = some c → c ≠ X.env.locals := fun x c e z => by
  obtain ⟨v, o, ho, hd⟩ := I.cell x c e
  obtain ⟨m, ⟨o', es, ep, ho', hd', _⟩, _⟩ := I.loc
  rw [z, ho'] at ho; cases ho; rw [hd'] at hd; cases hd
theorem Inv.funs (I : Inv X pins σ H s) : s.heap.FunFrames X.base X.outer := by
  have all : ∀ (l : List Env), (∀ b ∈ frs l, b ∈ X.fs) → X.s₀.heap.FunFrames X.base l → s.heap.FunFrames X.base l := by
    intro l
    induction l with
    | nil => intro _ _; trivial
    | cons env r ih =>
      intro hs hl
      obtain ⟨hk, ⟨L, o, hf, hn, ho, hd⟩, hr⟩ := hl
      have hL : L ∈ X.fs := hs L (by unfold frs; rw [List.filterMap_cons, hf]; exact List.mem_cons_self)
      obtain ⟨sl, e⟩ := I.base.slot L o ho (I.ok.frf L hL) hL fun z => I.ok.exfs L z hL
      exact ⟨hk, ⟨L, _, hf, hn, e, hd⟩, ih (fun b hb => hs b (by unfold frs; rw [List.filterMap_cons, hf]; exact List.mem_cons_of_mem _ hb)) hr⟩
  exact all X.outer (fun _ hb => hb) I.ok.funs

/-- the frames that run, for a call -/
theorem Inv.stack (I : Inv X pins σ H s) : s.heap.FunFrames X.base X.stack := by
  rcases I.ok.stk with e | ⟨e, hf⟩
  · rw [e]; exact I.funs
  · rw [e]
    obtain ⟨m, hn, _⟩ := I.loc
    refine .cons (by rw [I.ok.kind]; decide) hf hn ?_ I.funs
    exact Heap.get?_none_of_le (Nat.le_trans I.ok.bsz I.ok.above)
theorem Inv.stkSub (I : Inv X pins σ H s) : ∀ b ∈ frs X.stack, b ∈ X.env.locals :: X.fs := fun b hb => by
  rcases I.ok.stk with e | ⟨e, hf⟩
  · rw [e] at hb; exact List.mem_cons_of_mem _ hb
  · rw [e] at hb
    unfold frs at hb
    rw [List.filterMap_cons, hf] at hb
    exact hb
theorem Inv.stkFree (I : Inv X pins σ H s) : ∀ b ∈ frs X.stack, H b = none := fun b hb => by
  rcases List.mem_cons.mp (I.stkSub b hb) with e | hb
  · rw [e]; exact I.free
  · obtain ⟨_, o, ho, _⟩ := I.ok.funs.mem hb
    exact I.base.free b o ho (I.ok.frf b hb) fun z => I.ok.exfs b z hb

/-- THE STEP: the untracked objects but the frame and the records at ch are kept (the callers' frames up to slots), the frame's map is kept, the new abstract heap is held -/
theorem Inv.step {g' : Array GenState} {t' : Nat} {d' : Drawn} {ch : List Addr} (I : Inv X pins σ H s)
    (hch : ∀ b ∈ ch, (b ∈ X.ex ∨ X.s₀.heap.objs.size ≤ b) ∧ b ≠ X.env.locals ∧ (∀ x c, X.env.cells.lookup x = some c → c ≠ b) ∧ ∀ p ∈ X.pn ++ pins, p.1 ≠ b)
    (keep : ∀ b o, b ≠ X.env.locals → b ∉ X.fs → b ∉ ch → s.heap.get? b = some o → H b = none → h'.get? b = some o)
    (slot : ∀ b o, b ≠ X.env.locals → b ∈ X.fs → b ∉ ch → s.heap.get? b = some o → H b = none → ∃ sl, h'.get? b = some { o with slots := sl }) (free : ∀ b o, b ∉ ch → s.heap.get? b = some o → H b = none → H' b = none)
    (there : ∀ b o, b ∉ ch → s.heap.get? b = some o → ∃ o', h'.get? b = some o')
    (tups : ∀ b xs, H b = some (.tup xs) → H' b = some (.tup xs)) (frzs : ∀ b o u, H b = some (.frz o u) → H' b = some (.frz o u)) (tbls : ∀ b ps, H b = some (.tbl ps) → H' b = some (.tbl ps))
    (ns : ∀ m, s.heap.Ns X.env.locals m → h'.Ns X.env.locals m) (hok : HOk X.prog X.w H' h') (hg : AllBare g') :
    Inv X pins σ H' { s with heap := h', gens := g', drawn := d', toks := t' } := by
  have neL : ∀ b o, X.s₀.heap.get? b = some o → b ≠ X.env.locals := fun b o e => Nat.ne_of_lt (Nat.lt_of_lt_of_le (Heap.lt_size e) I.ok.above)
  have neC : ∀ b o, X.s₀.heap.get? b = some o → b ∉ X.ex → b ∉ ch := fun b o e hx hb => by
    rcases (hch b hb).1 with z | z
    · exact hx z
    · exact absurd (Nat.lt_of_lt_of_le (Heap.lt_size e) z) (Nat.lt_irrefl _)
  have cellK : ∀ x c, X.env.cells.lookup x = some c → ∀ v, s.heap.IsCell c v → h'.IsCell c v := fun x c e v ⟨o, ho, hd⟩ => by
    have nch : c ∉ ch := fun z => (hch c z).2.2.1 x c e rfl
    by_cases hc : c ∈ X.fs
    · obtain ⟨sl, q⟩ := slot c o (I.cne x c e) hc nch ho (I.freeC x c e)
      exact ⟨_, q, hd⟩
    · exact ⟨o, keep c o (I.cne x c e) hc nch ho (I.freeC x c e), hd⟩
  refine ⟨I.ok, I.os, hg, ⟨fun b o e n hb hx => ?_, fun b o e n hb hx => ?_, fun b o e n hx => ?_, fun b o e hx => ?_, fun b xs e => tups b xs (I.base.tups b xs e), fun b o xs e => frzs b o xs (I.base.frzs b o xs e), fun b ps e => ?_⟩, ?_, fun x c e => ?_, ?_, fun x c e => ?_, fun p hp => ?_, hok, I.len⟩
  · exact keep b o (neL b o e) hb (neC b o e hx) (I.base.keep b o e n hb hx) (I.base.free b o e n hx)
  · obtain ⟨sl, e1⟩ := I.base.slot b o e n hb hx
    obtain ⟨sl', e2⟩ := slot b _ (neL b o e) hb (neC b o e hx) e1 (I.base.free b o e n hx)
    exact ⟨sl', e2⟩
  · obtain ⟨o', e1⟩ := I.base.there b o e hx
    exact free b o' (neC b o e hx) e1 (I.base.free b o e n hx)
  · obtain ⟨o', e1⟩ := I.base.there b o e hx
    exact there b o' (neC b o e hx) e1
  · exact tbls b ps (I.base.tbls b ps e)
  · obtain ⟨m, hn, hl⟩ := I.loc
    refine ⟨m, ns m hn, fun i x v e1 e2 e3 => ?_⟩
    obtain ⟨u, r, l⟩ := hl i x v e1 e2 e3
    refine ⟨u, r, ?_⟩
    rcases l with l | ⟨k, c, e, z⟩
    · exact .inl l
    · exact .inr ⟨k, c, e, cellK x c e _ z⟩
  · obtain ⟨v, z⟩ := I.cell x c e
    exact ⟨v, cellK x c e v z⟩
  · obtain ⟨m, ⟨o, _, _, ho, _⟩, _⟩ := I.loc
    exact free _ o (fun z => (hch _ z).2.1 rfl) ho I.free
  · obtain ⟨v, o, ho, hd⟩ := I.cell x c e
    exact free c o (fun z => (hch c z).2.2.1 x c e rfl) ho (I.freeC x c e)
  · obtain ⟨e, n, ne, nf, d⟩ := I.pin p hp
    have nch : p.1 ∉ ch := fun z => (hch p.1 z).2.2.2 p hp rfl
    exact ⟨keep p.1 p.2 ne nf nch e n, free p.1 p.2 nch e n, ne, nf, d⟩
/-- .. where the frame's own object is kept too -/
theorem Inv.un {t' : Nat} (I : Inv X pins σ H s) (u : Un X.fs [] H H' s.heap h') (hok : HOk X.prog X.w H' h') : Inv X pins σ H' { s with heap := h', toks := t' } := by
  obtain ⟨m, ⟨o, es, ep, ho, r⟩, _⟩ := id I.loc
  obtain ⟨sl, hL⟩ := u.any ho I.free (by simp)
  exact I.step (g' := s.gens) (d' := s.drawn) (ch := []) (fun _ z => nomatch z) (fun b o _ hb _ e n => u.keep b o e n hb (by simp)) (fun b o _ hb _ e n => u.slot b o e n hb (by simp)) (fun b o _ e n => u.free b o e n (by simp)) (fun b o _ e => u.there b o e (by simp)) u.tups u.frzs u.tbls (fun m' hm => by
    obtain ⟨o', es', ep', ho', r'⟩ := hm
    rw [ho] at ho'; cases ho'
    exact ⟨_, es', ep', hL, r'⟩) hok I.bare
/-- behind a call (or a comprehension's block): the slots of this frame may have changed too, the records at ch may have turned -/
theorem Inv.call {g' : Array GenState} {t' : Nat} {d' : Drawn} {ch : List Addr} (I : Inv X pins σ H s) (u : Un (frs X.stack) ch H H' s.heap h') (hok : HOk X.prog X.w H' h') (hg : AllBare g')
    (hch : ∀ b ∈ ch, (b ∈ X.ex ∨ X.s₀.heap.objs.size ≤ b) ∧ b ≠ X.env.locals ∧ (∀ x c, X.env.cells.lookup x = some c → c ≠ b) ∧ ∀ p ∈ X.pn ++ pins, p.1 ≠ b) :
    Inv X pins σ H' { s with heap := h', gens := g', drawn := d', toks := t' } := by
  obtain ⟨m, ⟨o, es, ep, ho, r⟩, _⟩ := id I.loc
  obtain ⟨sl, hL⟩ := u.any ho I.free fun z => (hch _ z).2.1 rfl
  exact I.step (ch := ch) hch (fun b o hL hb hc e n => u.keep b o e n (fun z => (List.mem_cons.mp (I.stkSub b z)).elim hL hb) hc) (fun b o _ _ hc e n => u.any e n hc) (fun b o hc e n => u.free b o e n hc) (fun b o hc e => u.there b o e hc) u.tups u.frzs u.tbls (fun m' hm => by
    obtain ⟨o', es', ep', ho', r'⟩ := hm
    rw [ho] at ho'; cases ho'
    exact ⟨_, es', ep', hL, r'⟩) hok hg
/-- an untracked record of ours (an iterator) has turned -/
theorem Inv.turned {t' : Nat} {it : Addr} (I : Inv X pins σ H s) (k : ∀ b o, b ≠ it → s.heap.get? b = some o → h'.get? b = some o) (hn : H it = none) (hL : it ≠ X.env.locals)
    (h1 : it ∈ X.ex ∨ X.s₀.heap.objs.size ≤ it) (h2 : ∀ x c, X.env.cells.lookup x = some c → c ≠ it) (h3 : ∀ p ∈ X.pn ++ pins, p.1 ≠ it) : Inv X pins σ H { s with heap := h', toks := t' } := by
  have nit : ∀ b u, H b = some u → b ≠ it := fun b u e z => by rw [z, hn] at e; cases e
  refine I.step (g' := s.gens) (d' := s.drawn) (ch := [it]) (fun b hb => ?_) (fun b o _ _ hc e _ => k b o (fun z => hc (by simp [z])) e) (fun b o _ _ hc e _ => ⟨o.slots, k b o (fun z => hc (by simp [z])) e⟩) (fun _ _ _ _ n => n)
    (fun b o hc e => ⟨o, k b o (fun z => hc (by simp [z])) e⟩) (fun _ _ e => e) (fun _ _ _ e => e) (fun _ _ e => e) (fun m hm => ?_) (fun b u e => ?_) I.bare
  · have e : b = it := by simpa using hb
    subst e
    exact ⟨h1, hL, h2, h3⟩
  · obtain ⟨o, es, ep, ho, r⟩ := hm
    exact ⟨o, es, ep, k _ o (Ne.symm hL) ho, r⟩
  · refine (I.hok b u e).stay (fun c v hc q => k c v ?_ q) (fun _ q => q) (fun _ _ q => q) fun _ _ q => q
    rcases hc with z | z
    · rw [z]; exact nit b u e
    · exact nit c _ z
theorem Inv.tok (I : Inv X pins σ H s) (t : Nat) : Inv X pins σ H { s with toks := t } := I.un (h' := s.heap) (t' := t) Un.refl I.hok
/-- all objects kept -/
theorem Inv.kept {t' : Nat} (I : Inv X pins σ H s) (k : ∀ b u, s.heap.get? b = some u → h'.get? b = some u) : Inv X pins σ H { s with heap := h', toks := t' } := I.un (Un.kept k) (I.hok.kept k)
/-- a new object laid and tracked -/
theorem Inv.laid {a : Addr} {o : HO} {t' : Nat} (I : Inv X pins σ H s) (k : ∀ b u, s.heap.get? b = some u → h'.get? b = some u) (hp : s.heap.objs.size ≤ a) (new : ObjOk X.prog X.w (upd H a o) h' a o) :
    Inv X pins σ (upd H a o) { s with heap := h', toks := t' } := I.un (Un.laid k hp (I.hok.fresh hp)) (I.hok.laid k hp new)
/-- an object written -/
theorem Inv.write {x e : Addr} {o : HO} {t' : Nat} (I : Inv X pins σ H s) (mu : Mut (H x)) (he : e = x ∨ H e = some (.own x)) (k : ∀ b u, b ≠ e → s.heap.get? b = some u → h'.get? b = some u) (heo : ∃ u, h'.get? e = some u)
    (new : ObjOk X.prog X.w (upd H x o) h' x o) : Inv X pins σ (upd H x o) { s with heap := h', toks := t' } := I.un (Un.write mu he k heo) (I.hok.write mu he k heo new)
theorem Inv.pins_of {pins' : List (Addr × Obj)} (I : Inv X pins σ H s) (h : ∀ p ∈ pins', s.heap.get? p.1 = some p.2 ∧ H p.1 = none ∧ p.1 ≠ X.env.locals ∧ p.1 ∉ X.fs ∧ ∀ v, p.2.data ≠ .cell v) : Inv X pins' σ H s :=
  ⟨I.ok, I.os, I.bare, I.base, I.loc, I.cell, I.free, I.freeC, fun p hp => (List.mem_append.mp hp).elim (fun z => I.pin p (List.mem_append_left _ z)) (h p), I.hok, I.len⟩

theorem nodup_ix {N : List Str} (hN : N.Nodup) {i j : Nat} {x : Str} (a : N[i]? = some x) (b : N[j]? = some x) : i = j := by
  obtain ⟨h1, e1⟩ := List.getElem?_eq_some_iff.mp a
  obtain ⟨h2, e2⟩ := List.getElem?_eq_some_iff.mp b
  exact (List.getElem_inj hN).mp (e1.trans e2.symm)

/-- a name is stored; what changed -/
theorem store_ok2 {M : Model} {A : Around} {E : Value → Shared → Prop} {i : Nat} {x : Str} {v : V} {u : Value} {Q : Unit → Shared → Prop} (I : Inv X pins σ H s) (hN : X.N.Nodup) (hi : X.N[i]? = some x) (hx : Loc X.env.scope x) (r : RelV v u)
    (h : ∀ s', Inv X pins (σ.set i (some v)) H s' → (∃ a, Heap.SameBut a s.heap s'.heap ∧ (a = X.env.locals ∨ X.env.cells.lookup x = some a)) → Q () s') (hf : X.fn x = true ∨ X.env.scope.names.lookup x = some .local := by first | exact .inl rfl | exact .inr rfl | assumption) : wpAny M A (storeName X.env x u) Q E s := by
  obtain ⟨m, hn, hl⟩ := id I.loc
  have hcls : (X.env.scope.kind == .class || (X.env.scope.kind == .module && X.env.locals != X.env.globals)) = false := by rw [I.ok.kind]; rfl
  have hiσ : i < σ.length := by rw [I.len]; exact (List.getElem?_eq_some_iff.mp hi).1
  have cne := I.cne
  have tracked : ∀ {a : Addr} {h' : Heap}, (∃ o, s.heap.get? a = some o ∧ H a = none) → Heap.SameBut a s.heap h' → HOk X.prog X.w H h' := fun {a h'} ha hs b ob e => by
    obtain ⟨_, _, hfree⟩ := ha
    refine (I.hok b ob e).stay (fun c w' hc q => (hs.2 c ?_).trans q) (fun _ q => q) (fun _ _ q => q) fun _ _ q => q
    rintro rfl
    rcases hc with rfl | hc
    · rw [hfree] at e; cases e
    · rw [hfree] at hc; cases hc
  rcases hx with hk | hk
  · refine wpAny_storeName_local hk hn (fun h' hn' hs => ?_) hcls
    obtain ⟨oL, _, _, hoL, _⟩ := id hn
    refine h _ ⟨I.ok, I.os, I.bare, ⟨fun b o e n hb hx => ?_, fun b o e n hb hx => ?_, I.base.free, fun b o e hx => ?_, I.base.tups, I.base.frzs, I.base.tbls⟩, ⟨_, hn', fun j y v' e1 e2 e3 => ?_⟩, fun y c e => ?_, I.free, I.freeC, fun p hp => ?_, tracked ⟨oL, hoL, I.free⟩ hs, by simpa using I.len⟩ ⟨_, hs, .inl rfl⟩
    · exact (hs.2 b (Nat.ne_of_lt (Nat.lt_of_lt_of_le (Heap.lt_size e) I.ok.above))).trans (I.base.keep b o e n hb hx)
    · obtain ⟨sl, e1⟩ := I.base.slot b o e n hb hx
      exact ⟨sl, (hs.2 b (Nat.ne_of_lt (Nat.lt_of_lt_of_le (Heap.lt_size e) I.ok.above))).trans e1⟩
    · obtain ⟨o', e1⟩ := I.base.there b o e hx
      exact ⟨o', (hs.2 b (Nat.ne_of_lt (Nat.lt_of_lt_of_le (Heap.lt_size e) I.ok.above))).trans e1⟩
    · by_cases hj : j = i
      · subst hj
        rw [hi] at e1; cases e1
        rw [List.getElem?_set_self hiσ] at e2
        cases e2
        exact ⟨u, r, .inl ⟨hk, by simp⟩⟩
      · rw [List.getElem?_set_ne (Ne.symm hj)] at e2
        obtain ⟨u', r', q⟩ := hl j y v' e1 e2 e3
        refine ⟨u', r', ?_⟩
        rcases q with ⟨k, e⟩ | ⟨k, c, e, z⟩
        · refine .inl ⟨k, ?_⟩
          have : y ≠ x := fun e => hj (nodup_ix hN e1 (e ▸ hi))
          simp [this, e]
        · exact .inr ⟨k, c, e, z.sameBut hs (cne y c e)⟩
    · obtain ⟨w', z⟩ := I.cell y c e
      exact ⟨w', z.sameBut hs (cne y c e)⟩
    · obtain ⟨e, n, ne, nf, d⟩ := I.pin p hp
      exact ⟨(hs.2 p.1 ne).trans e, n, ne, nf, d⟩
  · have hfn : X.fn x = true := by
      rcases hf with z | z
      · exact z
      · rw [z] at hk; cases hk
    obtain ⟨c, hc⟩ := I.ok.has x (.inl hk)
    obtain ⟨w', z⟩ := I.cell x c hc
    refine wpAny_storeName_cell I.ok.kind hk hc z (fun h' hc' hs => ?_)
    obtain ⟨oc, hoc, hocd⟩ := id z
    refine h { s with heap := h' } ⟨I.ok, I.os, I.bare, ⟨fun b o e n hb hx => ?_, fun b o e n hb hx => ?_, I.base.free, fun b o e hx => ?_, I.base.tups, I.base.frzs, I.base.tbls⟩, ⟨m, hn.sameBut hs (Ne.symm (cne x c hc)), fun j y v' e1 e2 e3 => ?_⟩, fun y c' e => ?_, I.free, I.freeC, fun p hp => ?_, tracked ⟨oc, hoc, I.freeC x c hc⟩ hs, by simpa using I.len⟩ ⟨c, hs, .inr hc⟩
    · exact (hs.2 b (Nat.ne_of_lt (Nat.lt_of_lt_of_le (Heap.lt_size e) (I.ok.cab x c hfn hc)))).trans (I.base.keep b o e n hb hx)
    · obtain ⟨sl, e1⟩ := I.base.slot b o e n hb hx
      exact ⟨sl, (hs.2 b (Nat.ne_of_lt (Nat.lt_of_lt_of_le (Heap.lt_size e) (I.ok.cab x c hfn hc)))).trans e1⟩
    · obtain ⟨o', e1⟩ := I.base.there b o e hx
      exact ⟨o', (hs.2 b (Nat.ne_of_lt (Nat.lt_of_lt_of_le (Heap.lt_size e) (I.ok.cab x c hfn hc)))).trans e1⟩
    · by_cases hj : j = i
      · subst hj
        rw [hi] at e1; cases e1
        rw [List.getElem?_set_self hiσ] at e2
        cases e2
        exact ⟨u, r, .inr ⟨.inl hk, c, hc, hc'⟩⟩
      · rw [List.getElem?_set_ne (Ne.symm hj)] at e2
        obtain ⟨u', r', q⟩ := hl j y v' e1 e2 e3
        refine ⟨u', r', ?_⟩
        rcases q with q | ⟨k, c', e, z'⟩
        · exact .inl q
        · refine .inr ⟨k, c', e, z'.sameBut hs ?_⟩
          rintro rfl
          exact hj (nodup_ix hN e1 (I.ok.inj _ _ _ e hc ▸ hi))
    · by_cases hcc : c' = c
      · subst hcc; exact ⟨_, hc'⟩
      · obtain ⟨w2, z2⟩ := I.cell y c' e
        exact ⟨w2, z2.sameBut hs hcc⟩
    · obtain ⟨e, n, ne, nf, d⟩ := I.pin p hp
      refine ⟨(hs.2 p.1 ?_).trans e, n, ne, nf, d⟩
      intro q
      rw [q, hoc] at e
      have q' : oc = p.2 := Option.some.inj e
      exact d w' (by rw [← q']; exact hocd)
theorem store_ok {M : Model} {A : Around} {E : Value → Shared → Prop} {i : Nat} {x : Str} {v : V} {u : Value} {Q : Unit → Shared → Prop} (I : Inv X pins σ H s) (hN : X.N.Nodup) (hi : X.N[i]? = some x) (hx : Loc X.env.scope x) (r : RelV v u)
    (h : ∀ s', Inv X pins (σ.set i (some v)) H s' → Q () s') (hf : X.fn x = true ∨ X.env.scope.names.lookup x = some .local := by first | exact .inl rfl | exact .inr rfl | assumption) : wpAny M A (storeName X.env x u) Q E s :=
  store_ok2 I hN hi hx r (fun s' I' _ => h s' I') hf
/-- behind a call or a block, the state as it is -/
theorem Inv.call' {s' : Shared} {ch : List Addr} (I : Inv X pins σ H s) (ho : s'.os = s.os) (u : Un (frs X.stack) ch H H' s.heap s'.heap) (hok : HOk X.prog X.w H' s'.heap) (hg : AllBare s'.gens)
    (hch : ∀ b ∈ ch, (b ∈ X.ex ∨ X.s₀.heap.objs.size ≤ b) ∧ b ≠ X.env.locals ∧ (∀ x c, X.env.cells.lookup x = some c → c ≠ b) ∧ ∀ p ∈ X.pn ++ pins, p.1 ≠ b) : Inv X pins σ H' s' := by
  obtain ⟨h', g', d', t', o'⟩ := s'
  have e : o' = s.os := ho
  subst e
  exact I.call (g' := g') (t' := t') (d' := d') u hok hg hch
end

/-- an exception: its class, its own dict's address (where it has one), the abstract heap behind it -/
abbrev XK := Value → Option Addr → Hp → Prop
abbrev St := List (Option V)
abbrev VK := V → Hp → Prop
/-- an expression's reading; a test's; an argument list's -/
abbrev TE := St → Hp → VK → Prop
abbrev TT := St → Hp → (Bool → Hp → Prop) → Prop
abbrev TA := St → Hp → (List V → Hp → Prop) → Prop
/-- what is wanted behind a statement -/
structure Ends where
  nx : St → Hp → Prop
  rt : VK
  bk : St → Hp → Prop := fun _ _ => False
  ct : St → Hp → Prop := fun _ _ => False
abbrev TS := Ends → St → Hp → Prop

def EP (X : Cx) (pins : List (Addr × Obj)) (σ : St) (Q : VK) (u : Value) (s' : Shared) : Prop := ∃ v H', Inv X pins σ H' s' ∧ RelV v u ∧ Q v H'
def TP (X : Cx) (pins : List (Addr × Obj)) (σ : St) (Q : Bool → Hp → Prop) (b : Bool) (s' : Shared) : Prop := ∃ H', Inv X pins σ H' s' ∧ Q b H'
def AP (X : Cx) (pins : List (Addr × Obj)) (σ : St) (Q : List V → Hp → Prop) (us : List Value) (s' : Shared) : Prop := ∃ vs H', Inv X pins σ H' s' ∧ Vals vs us ∧ Q vs H'
def SP (X : Cx) (pins : List (Addr × Obj)) (D : Ends) (f : Flow) (s' : Shared) : Prop :=
  match f with
  | .next => ∃ σ' H', Inv X pins σ' H' s' ∧ D.nx σ' H'
  | .brk => ∃ σ' H', Inv X pins σ' H' s' ∧ D.bk σ' H'
  | .cont => ∃ σ' H', Inv X pins σ' H' s' ∧ D.ct σ' H'
  | .ret u => ∃ v σ' H', Inv X pins σ' H' s' ∧ RelV v u ∧ D.rt v H'

def PE (X : Cx) (e : Expr) (t : TE) : Prop :=
  ∀ (pins : List (Addr × Obj)) (s : Shared) (σ : St) (H : Hp) (Q : VK), Inv X pins σ H s → t σ H Q → wpAny (model X.prog X.w) X.A (eval e X.env) (EP X pins σ Q) X.xe s
def PT (X : Cx) (e : Expr) (t : TT) : Prop :=
  ∀ (pins : List (Addr × Obj)) (s : Shared) (σ : St) (H : Hp) (Q : Bool → Hp → Prop), Inv X pins σ H s → t σ H Q → wpAny (model X.prog X.w) X.A (isTrue e X.env (eval e X.env)) (TP X pins σ Q) X.xe s
/-- a test whatever its 'whole' is (and, or) -/
def PW (X : Cx) (e : Expr) (t : TT) : Prop :=
  ∀ (whole : Sem Value) (pins : List (Addr × Obj)) (s : Shared) (σ : St) (H : Hp) (Q : Bool → Hp → Prop), Inv X pins σ H s → t σ H Q → wpAny (model X.prog X.w) X.A (isTrue e X.env whole) (TP X pins σ Q) X.xe s
theorem PW.pt {X : Cx} {e : Expr} {t : TT} (h : PW X e t) : PT X e t := h _
/-- an argument list (no star), from the left -/
def PA (X : Cx) (es : List Expr) (t : TA) : Prop :=
  ∀ (pos : Pos) (pins : List (Addr × Obj)) (s : Shared) (σ : St) (H : Hp) (Q : List V → Hp → Prop), Inv X pins σ H s → t σ H Q → wpAny (model X.prog X.w) X.A (spliced (backTo pos (starEach es X.env))) (AP X pins σ Q) X.xe s
def PS (X : Cx) (st : Stmt) (t : TS) : Prop :=
  ∀ (pins : List (Addr × Obj)) (s : Shared) (σ : St) (H : Hp) (D : Ends), Inv X pins σ H s → t D σ H → wpAny (model X.prog X.w) X.A (exec st X.env) (SP X pins D) X.xe s
def PSs (X : Cx) (st : List Stmt) (t : TS) : Prop :=
  ∀ (pins : List (Addr × Obj)) (s : Shared) (σ : St) (H : Hp) (D : Ends), Inv X pins σ H s → t D σ H → wpAny (model X.prog X.w) X.A (execs st X.env) (SP X pins D) X.xe s
/-- weaken the end -/
theorem thn {α : Type} {t : Sem α} {Q Q' : α → Shared → Prop} {M : Model} {A : Around} {E : Value → Shared → Prop} {s : Shared} (h : wpAny M A t Q E s) (hQ : ∀ a s, Q a s → Q' a s) : wpAny M A t Q' E s := wpAny_mono h hQ fun _ _ x => x
end L2

namespace L2
open PySem PySem.Spec PyProof.Rows
section
variable {X : Cx}

/-- two expressions in a row -/
theorem bin {a b : Expr} {ta tb : TE} (ha : PE X a ta) (hb : PE X b tb) {pins : List (Addr × Obj)} {s : Shared} {σ : St} {H : Hp} {R : V → V → Hp → Prop} (I : Inv X pins σ H s) (h : ta σ H fun x H1 => tb σ H1 fun y H2 => R x y H2)
    {α : Type} {Q : α → Shared → Prop} {f : Value → Value → Sem α}
    (hf : ∀ v u s2 x y H2, Inv X pins σ H2 s2 → RelV x v → RelV y u → R x y H2 → wpAny (model X.prog X.w) X.A (f v u) Q X.xe s2) :
    wpAny (model X.prog X.w) X.A (eval a X.env) (fun v s₁ => wpAny (model X.prog X.w) X.A (eval b X.env) (fun u s₂ => wpAny (model X.prog X.w) X.A (f v u) Q X.xe s₂) X.xe s₁) X.xe s := by
  refine thn (ha pins s σ H _ I h) fun v s1 ⟨x, H1, I1, r1, q1⟩ => ?_
  refine thn (hb pins s1 σ H1 _ I1 q1) fun u s2 ⟨y, H2, I2, r2, q2⟩ => ?_
  exact hf v u s2 x y H2 I2 r1 r2 q2

/-! ### names and constants -/
def tVar (i : Nat) : TE := fun σ H Q => ∃ v, σ[i]? = some (some v) ∧ Q v H
def tC (v : V) : TE := fun _ H Q => Q v H
theorem pe_var {i : Nat} {x : Str} {pos : Pos} (hN : X.N[i]? = some x) (hv : Vis X.env.scope x) (hd : (x == ("__debug__" : Str)) = false := by decide) (hcd : (x == ("__classdict__" : Str)) = false := by decide) : PE X (.Name x pos) (tVar i) := by
  intro pins s σ H Q I h
  obtain ⟨v, e, h⟩ := h
  obtain ⟨m, hn, hl⟩ := I.loc
  obtain ⟨u, r, l⟩ := hl i x v hN e hv
  have fin : EP X pins σ Q u s := ⟨v, H, I, r, h⟩
  rcases l with ⟨hk, hm⟩ | ⟨hk, c, hc, hcell⟩
  · exact wpAny_Name (wpAny_loadName_local I.ok.kind hk hn hm fin) hd
  · rcases hk with hk | hk
    · exact wpAny_Name (wpAny_loadName_cell I.ok.kind hk hc hcell fin) hd
    · exact wpAny_Name (wpAny_loadName_free I.ok.kind hk hc hcell fin hcd) hd
theorem pe_int {i j pos} : PE X (.Constant (.int i) j pos) (tC (.int i)) := fun _ _ _ H _ I h => wpAny_Constant_int ⟨.int i, H, I.tok _, ⟨_, rfl⟩, h⟩
theorem pe_bl {b j pos} : PE X (.Constant (.bool b) j pos) (tC (.bl b)) := fun _ _ _ H _ I h => Constant_bool ⟨.bl b, H, I, rfl, h⟩
theorem pe_non {j pos} : PE X (.Constant .none j pos) (tC .non) := fun _ _ _ H _ I h => Constant_none ⟨.non, H, I, rfl, h⟩
theorem pe_str {x j pos} : PE X (.Constant (.str x) j pos) (tC (.str x)) := fun _ _ _ H _ I h => Calls.Constant_str ⟨.str x, H, I.tok _, ⟨_, rfl⟩, h⟩

/-- a global name of the def -/
def Gl (X : Cx) (x : Str) : Prop := X.env.kindOf x = some .globalImplicit
theorem ld_glob {E : Value → Shared → Prop} {pins : List (Addr × Obj)} {s : Shared} {σ : St} {H : Hp} {x : Str} {u : Value} {pos : Pos} {Q : Value → Shared → Prop} (I : Inv X pins σ H s) (hg : Gl X x) (hm : X.mg x = some u) (h : Q u s)
    (hd : (x == ("__debug__" : Str)) = false := by decide) : wpAny (model X.prog X.w) X.A (eval (.Name x pos) X.env) Q E s :=
  Calls.Name_function_global I.ok.kind hg (Calls.loadGlobal_global (by rw [I.ok.glob]; exact I.mod.glob.keeps I.bk) hm h) hd
theorem ld_blt {E : Value → Shared → Prop} {pins : List (Addr × Obj)} {s : Shared} {σ : St} {H : Hp} {x : Str} {u : Value} {pos : Pos} {Q : Value → Shared → Prop} (I : Inv X pins σ H s) (hg : Gl X x) (hm : X.mg x = none) (hv : bootBuiltins x = some u) (h : Q u s)
    (hn : x ≠ "__name__" := by decide) (hd : (x == ("__debug__" : Str)) = false := by decide) : wpAny (model X.prog X.w) X.A (eval (.Name x pos) X.env) Q E s := by
  obtain ⟨mb, h1, h2⟩ := I.mod.blt
  exact Calls.Name_function_global I.ok.kind hg (Calls.loadGlobal_builtin (by rw [I.ok.glob]; exact I.mod.glob.keeps I.bk) hm (by rw [I.ok.blt]; exact h1.keeps I.bk) ((h2 x hn).trans hv) h) hd
/-- a module's constant, a class, a function, as a value -/
theorem pe_glob {x : Str} {v : V} {u : Value} {pos : Pos} (hg : Gl X x) (hm : X.mg x = some u) (r : RelV v u) (hd : (x == ("__debug__" : Str)) = false := by decide) : PE X (.Name x pos) (tC v) :=
  fun _ _ _ H _ I h => ld_glob I hg hm ⟨v, H, I, r, h⟩ hd
theorem pe_bltn {x : Str} {v : V} {u : Value} {pos : Pos} (hg : Gl X x) (hm : X.mg x = none) (hv : bootBuiltins x = some u) (r : RelV v u) (hn : x ≠ "__name__" := by decide) (hd : (x == ("__debug__" : Str)) = false := by decide) : PE X (.Name x pos) (tC v) :=
  fun _ _ _ H _ I h => ld_blt I hg hm hv ⟨v, H, I, r, h⟩ hn hd

/-! ### arithmetic -/
variable {a b : Expr} {ta tb : TE} {pos : Pos}
/-! ### comparisons -/
def PC (X : Cx) (op : CmpOp) (a b : Expr) (t : TE) : Prop :=
  ∀ (pins : List (Addr × Obj)) (s : Shared) (σ : St) (H : Hp) (Q : VK), Inv X pins σ H s → t σ H Q →
    wpAny (model X.prog X.w) X.A (eval a X.env) (fun v s₁ => wpAny (model X.prog X.w) X.A (eval b X.env) (fun u s₂ => wpAny (model X.prog X.w) X.A (compareOp op v u) (EP X pins σ Q) X.xe s₂) X.xe s₁) X.xe s
theorem nobehind (b : Expr) {op : CmpOp} (h : op ≠ .In) (h2 : op ≠ .NotIn) : behindInMarks op b = false := by
  have e1 : (op == CmpOp.In) = false := by cases op <;> first | rfl | exact absurd rfl h
  have e2 : (op == CmpOp.NotIn) = false := by cases op <;> first | rfl | exact absurd rfl h2
  cases b <;> simp [behindInMarks, e1, e2]
/-- a comparison as a value, as a test -/
def tB (t : TE) : TT := fun σ H Q => t σ H fun x H1 => ∃ c, x = .bl c ∧ Q c H1
theorem pt_cmp {op : CmpOp} {t : TE} (h : PC X op a b t) (h1 : behindInMarks op b = false := by first | exact nobehind _ (by decide) (by decide) | rfl) : PT X (.Compare a [op] [b] pos) (tB t) := by
  intro pins s σ H Q I hw
  refine wpAny_isTrue_Compare1 (thn (h pins s σ H _ I hw) fun v s1 h1 => thn h1 fun u s2 h2 => thn h2 fun c s3 ⟨x, H1, I1, r1, q1⟩ => ?_) h1
  obtain ⟨d, rfl, q⟩ := q1
  cases r1
  exact wpAny_truthy_bool ⟨H1, I1, q⟩
/-- an expression whose value is a bool, as a test -/
theorem pt_val {e : Expr} {t : TE} (h : PE X e t) (he : ∀ whole, isTrue e X.env whole = (do let v ← whole; standAt e.pos; holding [v] (truthy v)) := by intro _; rfl) : PT X e (tB t) := by
  intro pins s σ H Q I hw
  refine isTrue_plain (thn (h pins s σ H _ I hw) fun v s1 ⟨x, H1, I1, r1, q1⟩ => ?_) (he _)
  obtain ⟨d, rfl, q⟩ := q1
  cases r1
  exact wpAny_truthy_bool ⟨H1, I1, q⟩

/-! ### and, or, not -/
variable {tA tB' : TT} {rest : List Expr}
def tAnd (t u : TT) : TT := fun σ H Q => t σ H fun c H1 => if c = true then u σ H1 Q else Q false H1
theorem pw_and1 (ha : PT X a tA) : PW X (.BoolOp .And [a] pos) tA := by
  intro wh pins s σ H Q I h
  refine isTrue_and (thn (ha pins s σ H Q I h) fun c s1 e => ?_)
  cases c with
  | true => exact isTrue_and_nil e
  | false => exact e
theorem pw_and (ha : PT X a tA) (hb : PW X (.BoolOp .And (b :: rest) pos) tB') : PW X (.BoolOp .And (a :: b :: rest) pos) (tAnd tA tB') := by
  intro wh pins s σ H Q I h
  refine isTrue_and (thn (ha pins s σ H _ I h) fun c s1 ⟨H1, I1, q1⟩ => ?_)
  cases c with
  | true => exact hb wh pins s1 σ H1 Q I1 q1
  | false => exact ⟨H1, I1, q1⟩
/-- a if t else b -/
def tIf (t : TT) (ta tb : TE) : TE := fun σ H Q => t σ H fun c H1 => if c = true then ta σ H1 Q else tb σ H1 Q
theorem pe_ifExp {c : Expr} (hc : PT X c tA) (ha : PE X a ta) (hb : PE X b tb) : PE X (.IfExp c a b pos) (tIf tA ta tb) := by
  intro pins s σ H Q I h
  refine wpAny_IfExp (thn (hc pins s σ H _ I h) fun d s1 ⟨H1, I1, q1⟩ => ?_)
  cases d with
  | true => exact ha pins s1 σ H1 Q I1 q1
  | false => exact hb pins s1 σ H1 Q I1 q1
end
end L2

namespace L2
open PySem PySem.Spec PyProof.Rows

/-! ### a list, a tuple that is read: tracked, frozen, or an object of the module -/
def SqL (K : PySem.W.Frag) (H : Hp) (a : Addr) (xs : List V) : Prop :=
  Rd H a (.lst xs) ∨
    ∃ (o : Obj) (its : Array Value) (n : Nat), K.lookup a = some o ∧ o.cls = .type "list" ∧ o.dict = none ∧ o.data = .seq its n ∧ its.size ≤ sizeLine ∧ Vals xs its.toList
def SqT (K : PySem.W.Frag) (H : Hp) (a : Addr) (xs : List V) : Prop :=
  Rd H a (.tup xs) ∨
    ∃ (o : Obj) (its : Array Value) (n : Nat), K.lookup a = some o ∧ o.cls = .type "tuple" ∧ o.data = .seq its n ∧ its.size ≤ sizeLine ∧ Vals xs its.toList
def absV : Value → Option V
  | .none => some .non
  | .bool b => some (.bl b)
  | .int i _ => some (.int i)
  | .str x _ => some (.str x)
  | .bytes b _ => some (.byt b)
  | .float b _ => some (.flt b)
  | .ref a => some (.ref a)
  | .type n => some (.ty n)
  | _ => none
theorem RelV.abs {x : V} {u : Value} (r : RelV x u) : absV u = some x := by
  cases x with
  | non => cases r; rfl
  | bl _ => cases r; rfl
  | int _ => obtain ⟨t, rfl⟩ := r; rfl
  | str _ => obtain ⟨t, rfl⟩ := r; rfl
  | byt _ => obtain ⟨t, rfl⟩ := r; rfl
  | flt _ => obtain ⟨t, rfl⟩ := r; rfl
  | ref _ => cases r; rfl
  | ty _ => cases r; rfl
theorem RelV.inj {x y : V} {u : Value} (r : RelV x u) (q : RelV y u) : x = y := Option.some.inj (r.abs.symm.trans q.abs)
theorem Vals.inj : ∀ {xs ys : List V} {us : List Value}, Vals xs us → Vals ys us → xs = ys
  | _, _, _, .nil, .nil => rfl
  | _, _, _, .cons r t, .cons r' t' => by rw [r.inj r', Vals.inj t t']
section
variable {X : Cx} {pins : List (Addr × Obj)} {σ : St} {H : Hp} {s : Shared} {a : Addr} {xs ys : List V}
theorem SqL.of {K : PySem.W.Frag} (h : H a = some (.lst xs)) : SqL K H a xs := .inl (.inl h)
theorem SqT.of {K : PySem.W.Frag} (h : H a = some (.tup xs)) : SqT K H a xs := .inl (.inl h)
theorem Inv.list (I : Inv X pins σ H s) (h : SqL X.K H a xs) : ∃ its : List Value, Vals xs its ∧ PlainL s.heap a its.toArray ∧ xs.length ≤ sizeLine := by
  rcases h with h | ⟨o, its, n, hk, hc, hd, hs, hz, r⟩
  · obtain ⟨z, its, n, r, e⟩ := h.ok I.hok
    exact ⟨its, r, ⟨_, n, e, rfl, rfl, rfl⟩, z⟩
  · refine ⟨its.toList, r, ⟨o, n, I.kIn a o hk, hc, hd, by simpa using hs⟩, ?_⟩
    have e := r.length
    simp only [Array.length_toList] at e
    omega
theorem Inv.tuple (I : Inv X pins σ H s) (h : SqT X.K H a xs) : ∃ its : List Value, Vals xs its ∧ IsTup s.heap a its.toArray ∧ xs.length ≤ sizeLine := by
  rcases h with h | ⟨o, its, n, hk, hc, hs, hz, r⟩
  · obtain ⟨z, its, r, p⟩ := h.ok I.hok
    exact ⟨its, r, p, z⟩
  · refine ⟨its.toList, r, ⟨o, I.kIn a o hk, hc, n, by simpa using hs⟩, ?_⟩
    have e := r.length
    simp only [Array.length_toList] at e
    omega
theorem Inv.list_inj (I : Inv X pins σ H s) (h : SqL X.K H a xs) (h' : SqL X.K H a ys) : xs = ys := by
  obtain ⟨its, r, ⟨o, n, e, _, _, d⟩, _⟩ := I.list h
  obtain ⟨its', r', ⟨o', n', e', _, _, d'⟩, _⟩ := I.list h'
  rw [e] at e'; cases e'
  rw [d] at d'
  injection d' with d1 _
  have : its = its' := by simpa using congrArg Array.toList d1
  subst this
  exact r.inj r'
theorem Inv.tuple_inj (I : Inv X pins σ H s) (h : SqT X.K H a xs) (h' : SqT X.K H a ys) : xs = ys := by
  obtain ⟨its, r, ⟨o, e, _, n, d⟩, _⟩ := I.tuple h
  obtain ⟨its', r', ⟨o', e', _, n', d'⟩, _⟩ := I.tuple h'
  rw [e] at e'; cases e'
  rw [d] at d'
  injection d' with d1 _
  have : its = its' := by simpa using congrArg Array.toList d1
  subst this
  exact r.inj r'
end

/-! ### another wish about exceptions -/
abbrev Cx.wish (X : Cx) (E : Value → Shared → Prop) : Cx := { X with xe := E }
/-- no exception leaves -/
abbrev Cx.nox (X : Cx) : Cx := X.wish fun _ _ => False
theorem Cx.Ok.wish {X : Cx} (ok : X.Ok) (E : Value → Shared → Prop) : (X.wish E).Ok :=
  ⟨ok.mod, ok.kind, ok.glob, ok.blt, ok.above, ok.inj, ok.has, ok.cab, ok.hd, ok.frames, ok.stk, ok.exf, ok.bs, ok.bsz, ok.noex, ok.exfs, ok.funs, ok.frf⟩
theorem Cx.Ok.unwish {X : Cx} {E : Value → Shared → Prop} (ok : (X.wish E).Ok) : X.Ok :=
  ⟨ok.mod, ok.kind, ok.glob, ok.blt, ok.above, ok.inj, ok.has, ok.cab, ok.hd, ok.frames, ok.stk, ok.exf, ok.bs, ok.bsz, ok.noex, ok.exfs, ok.funs, ok.frf⟩
section
variable {X : Cx} {pins : List (Addr × Obj)} {σ : St} {H : Hp} {s : Shared} {E : Value → Shared → Prop}
theorem Inv.wish (I : Inv X pins σ H s) (E : Value → Shared → Prop) : Inv (X.wish E) pins σ H s := ⟨I.ok.wish E, I.os, I.bare, I.base, I.loc, I.cell, I.free, I.freeC, I.pin, I.hok, I.len⟩
theorem Inv.unwish (I : Inv (X.wish E) pins σ H s) : Inv X pins σ H s := ⟨I.ok.unwish, I.os, I.bare, I.base, I.loc, I.cell, I.free, I.freeC, I.pin, I.hok, I.len⟩
theorem SP.unwish {D : Ends} {f : Flow} {s' : Shared} (h : SP (X.wish E) pins D f s') : SP X pins D f s' := by
  cases f with
  | next => obtain ⟨σ', H', I, q⟩ := h; exact ⟨σ', H', I.unwish, q⟩
  | brk => obtain ⟨σ', H', I, q⟩ := h; exact ⟨σ', H', I.unwish, q⟩
  | cont => obtain ⟨σ', H', I, q⟩ := h; exact ⟨σ', H', I.unwish, q⟩
  | ret u => obtain ⟨v, σ', H', I, r, q⟩ := h; exact ⟨v, σ', H', I.unwish, r, q⟩
theorem PSs.nox {st : List Stmt} {t : TS} (h : PSs X.nox st t) : PSs X st t := fun pins s σ H D I hw =>
  wpAny_mono (h pins s σ H D (I.wish _) hw) (fun _ _ q => q.unwish) fun _ _ z => False.elim z
end

/-! ### blocks and small statements -/
section
variable {X : Cx} {st : Stmt} {rest : List Stmt} {t u : TS} {e : Expr} {te : TE} {pos : Pos}
def tNext : TS := fun D σ H => D.nx σ H
def tSeq (t u : TS) : TS := fun D σ H => t { D with nx := u D } σ H
theorem pss_nil : PSs X [] tNext := fun _ _ σ H _ I h => wpAny_execs_nil ⟨σ, H, I, h⟩
theorem pss_cons (h1 : PS X st t) (h2 : PSs X rest u) : PSs X (st :: rest) (tSeq t u) := by
  intro pins s σ H D I h
  refine wpAny_execs_cons (thn (h1 pins s σ H { D with nx := u D } I h) fun f s1 q => ?_)
  cases f with
  | next =>
    obtain ⟨σ', H', I', q⟩ := q
    exact h2 pins s1 σ' H' D I' q
  | ret v => exact q
  | brk => exact q
  | cont => exact q
theorem pss_one (h1 : PS X st t) : PSs X [st] t := by
  intro pins s σ H D I h
  refine wpAny_execs_cons (thn (h1 pins s σ H D I h) fun f s1 q => ?_)
  cases f with
  | next => exact wpAny_execs_nil q
  | ret v => exact q
  | brk => exact q
  | cont => exact q
/-- in a def's body nothing is shown -/
theorem Inv.quiet {pins : List (Addr × Obj)} {σ : St} {H : Hp} {s : Shared} (I : Inv X pins σ H s) : interactive X.env = false := by simp [interactive, I.ok.kind]
/-- an expression whose value is dropped -/
def tDrop (te : TE) : TS := fun D σ H => te σ H fun _ H1 => D.nx σ H1
theorem ps_expr (he : PE X e te) (hs : swapsWith e none pos.line X.env = pure false := by rfl) : PS X (.Expr e pos) (tDrop te) := by
  intro pins s σ H D I h
  exact wpAny_Expr_any (thn (he pins s σ H _ I h) fun v s1 ⟨x, H1, I1, r1, q1⟩ => ⟨σ, H1, I1, q1⟩) I.quiet hs
def tRet (te : TE) : TS := fun D σ H => te σ H D.rt
theorem ps_ret (he : PE X e te) : PS X (.Return (some e) pos) (tRet te) := by
  intro pins s σ H D I h
  exact wpAny_Return_some (thn (he pins s σ H _ I h) fun v s1 ⟨x, H1, I1, r1, q1⟩ => ⟨x, σ, H1, I1, r1, q1⟩)
def tIfS (c : TT) (t u : TS) : TS := fun D σ H => c σ H fun b H1 => if b = true then t D σ H1 else u D σ H1
theorem ps_if {c : Expr} {a b : List Stmt} {tc : TT} (hc : PT X c tc) (ha : PSs X a t) (hb : PSs X b u) : PS X (.If c a b pos) (tIfS tc t u) := by
  intro pins s σ H D I h
  refine wpAny_If (thn (hc pins s σ H _ I h) fun d s1 ⟨H1, I1, q1⟩ => ?_)
  cases d with
  | true => exact ha pins s1 σ H1 D I1 q1
  | false => exact hb pins s1 σ H1 D I1 q1
end

/-! ### targets -/
abbrev TG := V → St → Hp → (St → Hp → Prop) → Prop
abbrev TGs := List V → St → Hp → (St → Hp → Prop) → Prop
def PG (X : Cx) (target : Expr) (t : TG) : Prop :=
  ∀ (pins : List (Addr × Obj)) (s : Shared) (σ : St) (H : Hp) (v : V) (u : Value) (Q : St → Hp → Prop), Inv X pins σ H s → RelV v u → t v σ H Q →
    wpAny (model X.prog X.w) X.A (assign target X.env u) (fun _ s' => ∃ σ' H', Inv X pins σ' H' s' ∧ Q σ' H') X.xe s
/-- several targets, one after another -/
def PGs (X : Cx) (ts : List Expr) (t : TGs) : Prop :=
  ∀ (pins : List (Addr × Obj)) (s : Shared) (σ : St) (H : Hp) (vs : List V) (us : List Value) (Q : St → Hp → Prop), Inv X pins σ H s → Vals vs us → t vs σ H Q →
    wpAny (model X.prog X.w) X.A (assignInOrder ((assignEach ts X.env).map (·.2)) us) (fun _ s' => ∃ σ' H', Inv X pins σ' H' s' ∧ Q σ' H') X.xe s
/-- o[i] = v, by values -/
abbrev TSet := V → V → V → Hp → (Hp → Prop) → Prop
def PSet (X : Cx) (t : TSet) : Prop :=
  ∀ (pins : List (Addr × Obj)) (s : Shared) (σ : St) (H : Hp) (o i v : V) (ov iv u : Value) (Q : Hp → Prop), Inv X pins σ H s → RelV o ov → RelV i iv → RelV v u → t o i v H Q →
    wpAny (model X.prog X.w) X.A (setItem ov iv u) (fun _ s' => ∃ H', Inv X pins σ H' s' ∧ Q H') X.xe s
/-- a op= b, by values -/
abbrev TIp := V → V → Hp → VK → Prop
def PIp (X : Cx) (op : Operator) (t : TIp) : Prop :=
  ∀ (pins : List (Addr × Obj)) (s : Shared) (σ : St) (H : Hp) (x y : V) (v u : Value) (Q : VK), Inv X pins σ H s → RelV x v → RelV y u → t x y H Q →
    wpAny (model X.prog X.w) X.A (inplaceOp op v u) (EP X pins σ Q) X.xe s
section
variable {X : Cx} {pos : Pos}
def gName (i : Nat) : TG := fun v σ H Q => Q (σ.set i (some v)) H
theorem pg_name {i : Nat} {x : Str} (hN : X.N.Nodup) (hi : X.N[i]? = some x) (hx : Loc X.env.scope x) (hf : X.fn x = true ∨ X.env.scope.names.lookup x = some .local := by first | exact .inl rfl | exact .inr rfl | assumption) : PG X (.Name x pos) (gName i) := by
  intro pins s σ H v u Q I r h
  exact wpAny_assign_Name (store_ok I hN hi hx r (fun s' I' => ⟨_, H, I', h⟩) hf)
def gNil : TGs := fun vs σ H Q => vs = [] ∧ Q σ H
def gCons (t : TG) (u : TGs) : TGs := fun vs σ H Q => ∃ v r, vs = v :: r ∧ t v σ H fun σ' H' => u r σ' H' Q
theorem pgs_nil : PGs X [] gNil := by
  intro pins s σ H vs us Q I r h
  obtain ⟨e, h⟩ := h
  subst e
  cases r
  exact assignInOrder_nil ⟨σ, H, I, h⟩
theorem pgs_cons {e : Expr} {es : List Expr} {t : TG} {u : TGs} (h1 : PG X e t) (h2 : PGs X es u)
    (hs : (assignEach (e :: es) X.env).map (·.2) = assign e X.env :: (assignEach es X.env).map (·.2) := by rfl) : PGs X (e :: es) (gCons t u) := by
  intro pins s σ H vs us Q I r h
  obtain ⟨v, vr, e1, h⟩ := h
  subst e1
  cases r with
  | cons r rr =>
    rw [hs]
    refine assignInOrder_cons (thn (h1 pins s σ H _ _ _ I r h) fun _ s1 ⟨σ1, H1, I1, q1⟩ => ?_)
    exact h2 pins s1 σ1 H1 _ _ Q I1 rr q1
/-- (a, b, ..) = a tuple of that length -/
def gTup (K : PySem.W.Frag) (n : Nat) (t : TGs) : TG := fun v σ H Q => ∃ a xs, v = .ref a ∧ SqT K H a xs ∧ xs.length = n ∧ t xs σ H Q
theorem pg_tup {es : List Expr} {k : Nat} {t : TGs} {n : Nat} (hc : X.calm = true) (h : PGs X es t)
    (hn : (assignEach es X.env).length = n := by rfl) (hst : (assignEach es X.env).findIdx? (·.1) = none := by rfl) : PG X (.Tuple es k pos) (gTup X.K n t) := by
  intro pins s σ H v u Q I r hw
  obtain ⟨a, xs, e1, hq, hl, hw⟩ := hw
  subst e1
  cases r
  obtain ⟨its, rv, ht, hz⟩ := I.tuple hq
  refine assign_Tuple_tuple (I.ok.hd hc) ht (by simp [hn, ← hl, rv.length]) hst fun h' hx => ?_
  have I1 : Inv X pins σ H { s with heap := h' } := I.kept (t' := s.toks) fun b o e => hx b o (Nat.ne_of_lt (Heap.lt_size e)) e
  exact h pins _ σ H xs _ Q I1 (by simpa using rv) hw
/-- o[i] = .. -/
def gSub (to ti : TE) (t : TSet) : TG := fun v σ H Q => to σ H fun o H1 => ti σ H1 fun i H2 => t o i v H2 fun H3 => Q σ H3
theorem pg_sub {o i : Expr} {to ti : TE} {t : TSet} (ho : PE X o to) (hi : PE X i ti) (hs : PSet X t)
    (ha : ∀ v, assign (.Subscript o i pos) X.env v = (do
      let ov ← holding [v] (eval o X.env)
      let iv ← holding [v, ov] (eval i X.env)
      standAt pos
      holding [v, ov, iv] (setItem ov iv v)
      release [v, ov, iv] []) := by intro _; rfl) : PG X (.Subscript o i pos) (gSub to ti t) := by
  intro pins s σ H v u Q I r h
  rw [ha]
  refine wpAny_bind (wpAny_holding (thn (ho pins s σ H _ I h) fun ov s1 ⟨x, H1, I1, r1, q1⟩ => ?_))
  refine wpAny_bind (wpAny_holding (thn (hi pins s1 σ H1 _ I1 q1) fun iv s2 ⟨y, H2, I2, r2, q2⟩ => ?_))
  refine wpAny_bind (wpAny_standAt (wpAny_bind (wpAny_holding (thn (hs pins s2 σ H2 x y v ov iv u _ I2 r1 r2 r q2) fun _ s3 ⟨H3, I3, q3⟩ => ?_))))
  exact wpAny_release ⟨σ, H3, I3, q3⟩
/-- target = value -/
def tAsg (te : TE) (g : TG) : TS := fun D σ H => te σ H fun x H1 => g x σ H1 D.nx
theorem ps_asg {tg e : Expr} {te : TE} {g : TG} (he : PE X e te) (hg : PG X tg g) (hs : swapsWithSole [tg] e pos.line X.env = pure false := by rfl) (hw : swappedStores [tg] e X.env = pure none := by rfl)
    (h1 : (assignEach [tg] X.env).map (·.2) = [assign tg X.env] := by rfl) : PS X (.Assign [tg] e pos) (tAsg te g) := by
  intro pins s σ H D I h
  refine wpAny_Assign_stores (thn (he pins s σ H _ I h) fun v s1 ⟨x, H1, I1, r1, q1⟩ => ?_) hs hw
  rw [h1]
  exact thn (hg pins s1 σ H1 x v _ I1 r1 q1) fun _ s2 q => q
/-- name = value -/
theorem ps_set {i : Nat} {x : Str} {e : Expr} {te : TE} {pos' : Pos} (hN : X.N.Nodup) (hi : X.N[i]? = some x) (hx : Loc X.env.scope x) (he : PE X e te) (hs : swapsWith e (some (.Name x pos')) pos.line X.env = pure false := by rfl) (hf : X.fn x = true ∨ X.env.scope.names.lookup x = some .local := by first | exact .inl rfl | exact .inr rfl | assumption) :
    PS X (.Assign [.Name x pos'] e pos) (tAsg te (gName i)) := by
  intro pins s σ H D I h
  refine wpAny_Assign_Name (thn (he pins s σ H _ I h) fun v s1 ⟨y, H1, I1, r1, q1⟩ => ?_) hs
  exact store_ok I1 hN hi hx r1 (fun s2 I2 => ⟨_, H1, I2, q1⟩) hf
/-- name op= e -/
def tAug (i : Nat) (te : TE) (ti : TIp) : TS := fun D σ H => ∃ x, σ[i]? = some (some x) ∧ te σ H fun y H1 => ti x y H1 fun z H2 => D.nx (σ.set i (some z)) H2
theorem ps_aug {i : Nat} {x : Str} {e : Expr} {te : TE} {op : Operator} {ti : TIp} {pos' : Pos} (hN : X.N.Nodup) (hi : X.N[i]? = some x) (hx : Loc X.env.scope x) (he : PE X e te) (ho : PIp X op ti) (hf : X.fn x = true ∨ X.env.scope.names.lookup x = some .local := by first | exact .inl rfl | exact .inr rfl | assumption) :
    PS X (.AugAssign (.Name x pos') op e pos) (tAug i te ti) := by
  intro pins s σ H D I h
  obtain ⟨v, e1, h⟩ := h
  obtain ⟨m, hn, hl⟩ := I.loc
  have vis : Vis X.env.scope x := by rcases hx with k | k; exact .inl k; exact .inr (.inl k)
  obtain ⟨u, r, l⟩ := hl i x v hi e1 vis
  refine wpAny_AugAssign_Name ?_
  have go : wpAny (model X.prog X.w) X.A (eval e X.env) (fun w s₂ => wpAny (model X.prog X.w) X.A (inplaceOp op u w) (fun r s₃ => wpAny (model X.prog X.w) X.A (storeName X.env x r) (fun _ => SP X pins D .next) X.xe s₃) X.xe s₂) X.xe s := by
    refine thn (he pins s σ H _ I h) fun w s1 ⟨y, H1, I1, r1, q1⟩ => ?_
    refine thn (ho pins s1 σ H1 v y u w _ I1 r r1 q1) fun z s2 ⟨zv, H2, I2, r2, q2⟩ => ?_
    exact store_ok I2 hN hi hx r2 (fun s3 I3 => ⟨_, H2, I3, q2⟩) hf
  rcases l with ⟨hk, hm⟩ | ⟨hk, c, hc, hcell⟩
  · exact wpAny_loadName_local I.ok.kind hk hn hm go
  · rcases hk with hk | hk
    · exact wpAny_loadName_cell I.ok.kind hk hc hcell go
    · rcases hx with k | k
      · have : X.env.scope.names.lookup x = some .free := hk
        rw [k] at this; cases this
      · have : X.env.scope.names.lookup x = some .free := hk
        rw [k] at this; cases this
/-- ints -/
def ipI (f : Int → Int → Int) : TIp := fun x y H Q => ∃ i j, x = .int i ∧ y = .int j ∧ Q (.int (f i j)) H
theorem ip_add : PIp X .Add (ipI fun i j => i + j) := by
  intro pins s σ H x y v u Q I r1 r2 h
  obtain ⟨i, j, e1, e2, q⟩ := h
  subst e1; subst e2
  obtain ⟨t, rfl⟩ := r1
  obtain ⟨t', rfl⟩ := r2
  exact iadd_int ⟨.int _, H, I.tok _, ⟨_, rfl⟩, q⟩
end

/-! ### while -/
section
variable {X : Cx} {pos : Pos}
/-- the invariant W with its measure -/
def tWhile (c : TT) (tb : TS) : TS := fun D σ H => ∃ W : Nat → St → Hp → Prop, (∃ m, W m σ H) ∧ ∀ m σ H, W m σ H →
  c σ H fun b H1 => if b = true then ∃ N : St → Hp → Prop, (∀ σ' H', N σ' H' → ∃ m', m' < m ∧ W m' σ' H') ∧ tb { D with nx := N, ct := N, bk := D.nx } σ H1 else D.nx σ H1
theorem ps_while {c : Expr} {body : List Stmt} {tc : TT} {tb : TS} (hp : PassesOwn (model X.prog X.w) X.A X.env X.xe) (hc : PT X c tc) (hb : PSs X body tb) : PS X (.While c body [] pos) (tWhile tc tb) := by
  intro pins s σ H D I h
  obtain ⟨W, ⟨m0, w0⟩, turn⟩ := h
  refine wpAny_While (codeAny_whileLoop (fun n s' => ∃ σ' H', Inv X pins σ' H' s' ∧ W n σ' H') ?_ m0 ⟨σ, H, I, w0⟩)
  rintro n s1 ⟨σ1, H1, I1, w1⟩
  refine wpAny_passesOwn hp (thn (hc pins s1 σ1 H1 _ I1 (turn n σ1 H1 w1)) fun b s2 ⟨H2, I2, q2⟩ => ?_)
  cases b with
  | true =>
    obtain ⟨N, hN, q2⟩ := q2
    rw [if_pos rfl]
    refine wpAny_passesOwn hp (thn (hb pins s2 σ1 H2 _ I2 q2) fun f s3 q3 => ?_)
    cases f with
    | next =>
      obtain ⟨σ3, H3, I3, n3⟩ := q3
      obtain ⟨m', hm, w3⟩ := hN σ3 H3 n3
      exact ⟨m', hm, σ3, H3, I3, w3⟩
    | cont =>
      obtain ⟨σ3, H3, I3, n3⟩ := q3
      obtain ⟨m', hm, w3⟩ := hN σ3 H3 n3
      exact ⟨m', hm, σ3, H3, I3, w3⟩
    | brk => exact q3
    | ret v => exact q3
  | false =>
    rw [if_neg Bool.false_ne_true]
    exact wpAny_execs_nil ⟨σ1, H2, I2, q2⟩
end

/-- at turn i: it yields x (the heap may grow), or it stops -/
structure It where
  go : Nat → Hp → Prop
  yld : Nat → Hp → V → Hp → Prop
  stop : Nat → Hp → Prop
/-- the iterator's own objects may turn: they are not the frame's, not pinned, younger than the entry (or a comprehension's own) -/
def FpOk (X : Cx) (pins : List (Addr × Obj)) (H : Hp) (b : Addr) : Prop :=
  H b = none ∧ b ≠ X.env.locals ∧ b ∉ X.fs ∧ (b ∈ X.ex ∨ X.s₀.heap.objs.size ≤ b) ∧ (∀ x c, X.env.cells.lookup x = some c → c ≠ b) ∧ ∀ p ∈ X.pn ++ pins, p.1 ≠ b
theorem Inv.fpOk {X : Cx} {pins : List (Addr × Obj)} {σ : St} {H H' : Hp} {s : Shared} {b : Addr} (I : Inv X pins σ H s) (hb : s.heap.objs.size ≤ b) (hn : H' b = none) : FpOk X pins H' b := by
  refine ⟨hn, Nat.ne_of_gt (Nat.lt_of_lt_of_le I.lt hb), I.nofs hb, .inr (Nat.le_trans I.sz hb), fun x c e z => ?_, fun p hp z => ?_⟩
  · obtain ⟨v, q⟩ := I.cell x c e
    exact absurd (Nat.lt_of_lt_of_le q.lt (by rw [z]; exact hb)) (Nat.lt_irrefl _)
  · exact absurd (Nat.lt_of_lt_of_le (Heap.lt_size (I.pin p hp).1) (by rw [z]; exact hb)) (Nat.lt_irrefl _)
structure Turn (P : Program) (w : World) (K : PySem.W.Frag) (tg : Expr) (J : It) (fp : List Addr) (it : Addr) (tn : Nat → Heap → Prop) : Prop where
  mem : it ∈ fp
  obj : ∀ i h, tn i h → ∀ b ∈ fp, ∃ o, h.get? b = some o ∧ ∀ v, o.data ≠ .cell v
  keep : ∀ i h h', tn i h → (∀ b ∈ fp, ∀ o, h.get? b = some o → h'.get? b = some o) → tn i h'
  item : ∀ (X : Cx), X.prog = P → X.w = w → X.K = K → X.calm = true → ∀ (i : Nat) (pins : List (Addr × Obj)) (s : Shared) (σ : St) (H : Hp) (E : Value → Shared → Prop), Inv X pins σ H s → (∀ b ∈ fp, FpOk X pins H b) → tn i s.heap → J.go i H →
    wpAny (model P w) X.A (pyNext (.ref it)) (fun r s1 => ∃ u, r = some u ∧
      wpAny (model P w) X.A (letOwnedTupleGo tg (.ref it) u) (fun _ s2 => ∃ x H', Inv X pins σ H' s2 ∧ RelV x u ∧ J.yld i H x H' ∧ tn (i + 1) s2.heap ∧ ∀ b ∈ fp, H' b = none) E s1) E s
  done : ∀ (X : Cx), X.prog = P → X.w = w → X.K = K → X.calm = true → ∀ (i : Nat) (pins : List (Addr × Obj)) (s : Shared) (σ : St) (H : Hp) (E : Value → Shared → Prop), Inv X pins σ H s → (∀ b ∈ fp, FpOk X pins H b) → tn i s.heap → J.stop i H →
    wpAny (model P w) X.A (pyNext (.ref it)) (fun r s1 => r = none ∧ Inv X pins σ H s1) E s
  self : ∀ (A : Around) (i : Nat) (s : Shared) (Q : Value → Shared → Prop) (E : Value → Shared → Prop), tn i s.heap → Q (.ref it) s → wpAny (model P w) A (pyIter (.ref it)) Q E s
abbrev TI := St → Hp → (It → Hp → Prop) → Prop
/-- an iterator has come -/
def PIE (X : Cx) (pins : List (Addr × Obj)) (σ : St) (tg : Expr) (R : It → Hp → Prop) (itv : Value) (s2 : Shared) : Prop :=
  ∃ (it : Addr) (fp : List Addr) (tn : Nat → Heap → Prop) (J : It) (H' : Hp), itv = .ref it ∧ Inv X pins σ H' s2 ∧ Turn X.prog X.w X.K tg J fp it tn ∧ tn 0 s2.heap ∧ (∀ b ∈ fp, FpOk X pins H' b) ∧ R J H'
def PI (X : Cx) (tg iter : Expr) (wi : TI) : Prop :=
  ∀ (pins : List (Addr × Obj)) (s : Shared) (σ : St) (H : Hp) (R : It → Hp → Prop), Inv X pins σ H s → wi σ H R →
    wpAny (model X.prog X.w) X.A (eval iter X.env) (fun v s1 => wpAny (model X.prog X.w) X.A (pyIter v) (PIE X pins σ tg R) X.xe s1) X.xe s

/-- the step ahead of the store is nothing for an iterator that keeps no tuple -/
theorem go_of {M : Model} {A : Around} {E : Value → Shared → Prop} {s : Shared} {tg : Expr} {it : Addr} {u : Value} {o : Obj} {n : String} {vs : Array Value} {Q : Unit → Shared → Prop} (ho : s.heap.get? it = some o) (hc : o.cls = .type n) (hd : o.data = .fields vs)
    (hn : ["enumerate", "zip", "dict_itemiterator", "dict_reverseitemiterator", "odict_iterator", "itertools.zip_longest", "itertools.pairwise"].contains n = false) (hQ : Q () s) : wpAny M A (letOwnedTupleGo tg (.ref it) u) Q E s := by
  unfold letOwnedTupleGo
  cases tg <;> first
    | exact wpAny_pure hQ
    | (cases u <;> first
        | exact wpAny_pure hQ
        | (refine wpAny_bind (wpAny_load ho ?_)
           rw [hc, hd]
           show wpAny M A (if (["enumerate", "zip", "dict_itemiterator", "dict_reverseitemiterator", "odict_iterator", "itertools.zip_longest", "itertools.pairwise"].contains n && vs[0]? == some (rawInt _)) = true then _ else _) Q E s
           rw [if_neg (by intro h; rw [hn, Bool.false_and] at h; cases h)]
           exact wpAny_pure hQ))

/-- the list at a, as it stands at each turn (a loop may append to it) -/
def Itl (K : PySem.W.Frag) (a : Addr) : It :=
  ⟨fun i H => ∃ xs x, SqL K H a xs ∧ xs[i]? = some x, fun i H x H' => H' = H ∧ ∀ xs, SqL K H a xs → xs[i]? = some x, fun i H => ∃ xs, SqL K H a xs ∧ xs.length ≤ i⟩
def Itt (K : PySem.W.Frag) (a : Addr) : It :=
  ⟨fun i H => ∃ xs x, SqT K H a xs ∧ xs[i]? = some x, fun i H x H' => H' = H ∧ ∀ xs, SqT K H a xs → xs[i]? = some x, fun i H => ∃ xs, SqT K H a xs ∧ xs.length ≤ i⟩
/-- lo, lo + 1, .. (n of them) -/
def Itr (lo : Int) (n : Nat) : It := ⟨fun i _ => i < n, fun i H x H' => H' = H ∧ x = .int (lo + i), fun i _ => n ≤ i⟩
theorem turn_list {P : Program} {w : World} {K : PySem.W.Frag} {tg : Expr} (a it : Addr) : Turn P w K tg (Itl K a) [it] it (fun i h => h.IsListIter it a i) where
  mem := by simp
  obj := fun i h st b hb => by
    have e : b = it := by simpa using hb
    subst e
    obtain ⟨o, e, c, d⟩ := st
    exact ⟨o, e, fun v z => by rw [d] at z; cases z⟩
  keep := fun i h h' st k => st.at fun o e => k it (by simp) o e
  item := by
    intro X hP hw hK hc i pins s σ H E I hf st hg
    subst hP hw hK
    obtain ⟨xs, x, hq, hx⟩ := hg
    obtain ⟨its, rv, p, hz⟩ := I.list hq
    obtain ⟨u, hu, ru⟩ := rv.get hx
    obtain ⟨f0, f1, f2, f3, f4, f5⟩ := hf it (by simp)
    refine wpAny_pyNext_list_item st p.isList (x := u) (by simpa using hu) fun h' st' sb => ?_
    have I1 : Inv X pins σ H { s with heap := h' } := I.turned (t' := s.toks) (fun b o hb e => (sb.2 b hb).trans e) f0 f1 f3 f4 f5
    obtain ⟨o, e, c, d⟩ := id st'
    exact ⟨u, rfl, go_of (s := { s with heap := h' }) e c d (by decide) ⟨x, H, I1, ru, ⟨rfl, fun ys hy => by rw [I.list_inj hy hq]; exact hx⟩, st', fun b hb => (hf b hb).1⟩⟩
  done := by
    intro X hP hw hK hc i pins s σ H E I hf st hg
    subst hP hw hK
    obtain ⟨xs, hq, hx⟩ := hg
    obtain ⟨its, rv, p, hz⟩ := I.list hq
    obtain ⟨f0, f1, f2, f3, f4, f5⟩ := hf it (by simp)
    have hl := rv.length
    exact wpAny_pyNext_list_end (I.ok.hd hc) st p.isList (by simp; omega) fun h' eb => ⟨rfl, I.turned (t' := s.toks) (fun b o hb e => eb b o hb e) f0 f1 f3 f4 f5⟩
  self := fun _ _ _ _ _ st h => wpAny_pyIter_listiter st h
theorem turn_tuple {P : Program} {w : World} {K : PySem.W.Frag} {tg : Expr} (a it : Addr) : Turn P w K tg (Itt K a) [it] it (fun i h => h.IsTupleIter it a i) where
  mem := by simp
  obj := fun i h st b hb => by
    have e : b = it := by simpa using hb
    subst e
    obtain ⟨o, e, c, d⟩ := st
    exact ⟨o, e, fun v z => by rw [d] at z; cases z⟩
  keep := fun i h h' st k => st.at fun o e => k it (by simp) o e
  item := by
    intro X hP hw hK hc i pins s σ H E I hf st hg
    subst hP hw hK
    obtain ⟨xs, x, hq, hx⟩ := hg
    obtain ⟨its, rv, p, hz⟩ := I.tuple hq
    obtain ⟨u, hu, ru⟩ := rv.get hx
    obtain ⟨f0, f1, f2, f3, f4, f5⟩ := hf it (by simp)
    refine wpAny_pyNext_tuple_item st (show s.heap.IsTuple a its.toArray from p) (x := u) (by simpa using hu) fun h' st' sb => ?_
    have I1 : Inv X pins σ H { s with heap := h' } := I.turned (t' := s.toks) (fun b o hb e => (sb.2 b hb).trans e) f0 f1 f3 f4 f5
    obtain ⟨o, e, c, d⟩ := id st'
    exact ⟨u, rfl, go_of (s := { s with heap := h' }) e c d (by decide) ⟨x, H, I1, ru, ⟨rfl, fun ys hy => by rw [I.tuple_inj hy hq]; exact hx⟩, st', fun b hb => (hf b hb).1⟩⟩
  done := by
    intro X hP hw hK hc i pins s σ H E I hf st hg
    subst hP hw hK
    obtain ⟨xs, hq, hx⟩ := hg
    obtain ⟨its, rv, p, hz⟩ := I.tuple hq
    obtain ⟨f0, f1, f2, f3, f4, f5⟩ := hf it (by simp)
    have hl := rv.length
    exact wpAny_pyNext_tuple_end (I.ok.hd hc) st (show s.heap.IsTuple a its.toArray from p) (by simp; omega) fun h' eb => ⟨rfl, I.turned (t' := s.toks) (fun b o hb e => eb b o hb e) f0 f1 f3 f4 f5⟩
  self := fun _ _ _ _ _ st h => wpAny_pyIter_tupleiter st h
theorem turn_range {P : Program} {w : World} {K : PySem.W.Frag} {tg : Expr} (it : Addr) (lo : Int) (n : Nat) : Turn P w K tg (Itr lo n) [it] it (fun i h => IsRangeIter h it (lo + (i : Nat) * 1) ((n : Int) - (i : Nat)) 1) where
  mem := by simp
  obj := fun i h st b hb => by
    have e : b = it := by simpa using hb
    subst e
    exact ⟨_, st, fun v z => by
      have z' : Data.fields _ = Data.cell v := z
      cases z'⟩
  keep := fun i h h' st k => k it (by simp) _ st
  item := by
    intro X hP hw hK hc i pins s σ H E I hf st hg
    subst hP hw hK
    obtain ⟨f0, f1, f2, f3, f4, f5⟩ := hf it (by simp)
    have W := Walks.range (prog := X.prog) (w := X.w) (I.ok.hd hc) it lo 1 n
    refine W.item i s _ _ hg st fun v h' tk hv st' kk => ?_
    obtain ⟨t, rfl⟩ := hv
    have I1 : Inv X pins σ H { s with heap := h', toks := tk } := I.turned (fun b o hb e => kk b o (by simpa using hb) e) f0 f1 f3 f4 f5
    refine ⟨_, rfl, go_of (s := { s with heap := h', toks := tk }) (n := "range_iterator") st' rfl rfl (by decide) ⟨.int (lo + i), H, I1, ⟨t, ?_⟩, ⟨rfl, rfl⟩, st', fun b hb => (hf b hb).1⟩⟩
    rw [Int.mul_one]
  done := by
    intro X hP hw hK hc i pins s σ H E I hf st hg
    subst hP hw hK
    obtain ⟨f0, f1, f2, f3, f4, f5⟩ := hf it (by simp)
    exact wpAny_pyNext_range_end (I.ok.hd hc) st (by have : n ≤ i := hg; omega) fun h' eb => ⟨rfl, I.turned (t' := s.toks) (fun b o hb e => eb b o hb e) f0 f1 f3 f4 f5⟩
  self := fun _ _ _ _ _ st h => wpAny_pyIter_rangeiter st h
end L2

namespace L2
open PySem PySem.Spec PyProof.Rows
section
variable {X : Cx} {tg : Expr}
/-- a range object just made, walked -/
theorem range_it {pins : List (Addr × Obj)} {σ : St} {H : Hp} {s : Shared} {R : It → Hp → Prop} {E : Value → Shared → Prop} {lo hi : Int} {t u v : Tok} {tk : Nat} (I : Inv X pins σ H s) (h1 : -(2 ^ 62) ≤ lo) (h2 : lo < 2 ^ 62) (h3 : -(2 ^ 62) ≤ hi) (h4 : hi < 2 ^ 62)
    (q : R (Itr lo (hi - lo).toNat) H) : wpAny (model X.prog X.w) X.A (pyIter (.ref s.heap.objs.size)) (PIE X pins σ tg R) E { s with heap := s.heap.push { cls := .type "range", data := .fields #[.int lo t, .int hi u, .int 1 v] }, toks := tk } := by
  refine wpAny_pyIter_range (IsRange.new ..) (small_one h1 h2 h3 h4) ?_
  have I1 : Inv X pins σ H { s with heap := s.heap.push { cls := .type "range", data := .fields #[.int lo t, .int hi u, .int 1 v] }, toks := tk } := I.kept fun b o e => Heap.get?_push_of_some _ e
  refine ⟨(s.heap.push { cls := .type "range", data := .fields #[.int lo t, .int hi u, .int 1 v] }).objs.size, [(s.heap.push { cls := .type "range", data := .fields #[.int lo t, .int hi u, .int 1 v] }).objs.size], _, _, H, rfl,
    I1.kept (t' := tk) fun b o e => Heap.get?_push_of_some _ e, turn_range _ lo (hi - lo).toNat, ?_, fun b hb => ?_, q⟩
  · have e1 : lo + ((0 : Nat) : Int) * 1 = lo := by simp
    have e2 : (((hi - lo).toNat : Nat) : Int) - ((0 : Nat) : Int) = Builtin.Range.rangeSize lo hi 1 := by rw [rangeSize_one]; split <;> omega
    show IsRangeIter _ _ (lo + ((0 : Nat) : Int) * 1) ((((hi - lo).toNat : Nat) : Int) - ((0 : Nat) : Int)) 1
    rw [e1, e2]
    exact Heap.get?_push_size _ rfl
  · have e : b = (s.heap.push { cls := .type "range", data := .fields #[.int lo t, .int hi u, .int 1 v] }).objs.size := by simpa using hb
    subst e
    exact I1.fpOk (Nat.le_refl _) (I1.hok.fresh (Nat.le_refl _))
def iRng1 (ta : TA) : TI := fun σ H R => ta σ H fun vs H1 => ∃ j : Int, vs = [.int j] ∧ -(2 ^ 62) ≤ j ∧ j < 2 ^ 62 ∧ R (Itr 0 j.toNat) H1
theorem pi_range1 {a : Expr} {ta : TA} {p pos : Pos} (hg : Gl X "range") (hm : X.mg "range" = none) (ha : PA X [a] ta) (hs : starEach [a] X.env = [(false, eval a X.env)] := by rfl) : PI X tg (.Call (.Name "range" p) [a] [] pos) (iRng1 ta) := by
  intro pins s σ H R I h
  refine Call_ (ld_blt I hg hm boot_range (PyProof.Rows.callWith_type1 (thn (ha pos pins s σ H _ I h) fun us s1 ⟨vs, H1, I1, r1, q1⟩ => ?_) hs rfl))
  obtain ⟨j, e, q1, q2, q⟩ := q1
  subst e
  cases r1 with
  | cons r rr =>
    cases rr
    obtain ⟨t, rfl⟩ := r
    exact call_range_1 (range_it I1 (by omega) (by omega) q1 q2 (by simpa using q))
/-- W: the invariant by the turn and a measure; N: what the body is to reach -/
def tFor (wi : TI) (g : TG) (tb : TS) : TS := fun D σ H => wi σ H fun J H1 => ∃ W : Nat → Nat → St → Hp → Prop, (∃ m, W 0 m σ H1) ∧ ∀ i m σ H, W i m σ H →
  (J.stop i H ∧ D.nx σ H) ∨ (J.go i H ∧ ∃ N : St → Hp → Prop, (∀ σ' H', N σ' H' → ∃ m', m' < m ∧ W (i + 1) m' σ' H') ∧ ∀ x H', J.yld i H x H' → g x σ H' fun σ2 H2 => tb { D with nx := N, ct := N, bk := D.nx } σ2 H2)
/-- the records at fp as they stand -/
def pinsAt (fp : List Addr) (h : Heap) : List (Addr × Obj) := fp.filterMap fun b => (h.get? b).map fun o => (b, o)
theorem mem_pinsAt {fp : List Addr} {h : Heap} {b : Addr} {o : Obj} (hb : b ∈ fp) (e : h.get? b = some o) : (b, o) ∈ pinsAt fp h := List.mem_filterMap.mpr ⟨b, hb, by rw [e]; rfl⟩
theorem of_pinsAt {fp : List Addr} {h : Heap} {p : Addr × Obj} (hp : p ∈ pinsAt fp h) : p.1 ∈ fp ∧ h.get? p.1 = some p.2 := by
  obtain ⟨b, hb, e⟩ := List.mem_filterMap.mp hp
  cases q : h.get? b with
  | none => rw [q] at e; cases e
  | some o =>
    rw [q] at e
    have e' : (b, o) = p := Option.some.inj e
    subst e'
    exact ⟨hb, q⟩
theorem Inv.pinned {pins : List (Addr × Obj)} {σ : St} {H : Hp} {s : Shared} {fp : List Addr} (I : Inv X pins σ H s) (hf : ∀ b ∈ fp, FpOk X pins H b) (ho : ∀ b ∈ fp, ∃ o, s.heap.get? b = some o ∧ ∀ v, o.data ≠ .cell v) : Inv X (pins ++ pinsAt fp s.heap) σ H s :=
  I.pins_of fun p hp => (List.mem_append.mp hp).elim (fun z => I.pin p (List.mem_append_right _ z)) fun z => by
    obtain ⟨hb, e⟩ := of_pinsAt z
    obtain ⟨f0, f1, f2, _⟩ := hf p.1 hb
    obtain ⟨o, e', d⟩ := ho p.1 hb
    rw [e] at e'; cases e'
    exact ⟨e, f0, f1, f2, d⟩
theorem Inv.unpinned {pins pl : List (Addr × Obj)} {σ : St} {H : Hp} {s : Shared} (I : Inv X (pins ++ pl) σ H s) : Inv X pins σ H s := I.pins_of fun p hp => I.pin p (List.mem_append_right _ (List.mem_append_left _ hp))
theorem ps_for {iter : Expr} {body : List Stmt} {wi : TI} {g : TG} {tb : TS} {pos : Pos} (hp : PassesOwn (model X.prog X.w) X.A X.env X.xe) (hc : X.calm = true) (hi : PI X tg iter wi) (hg : PG X tg g) (hb : PSs X body tb)
    (hs : ∀ x, foldedSetIterable iter X.env x = pure x := by intro _; rfl) : PS X (.For tg iter body [] pos) (tFor wi g tb) := by
  intro pins s σ H D I h
  refine wpAny_For (thn (hi pins s σ H _ I h) fun v s1 h1 => thn h1 fun itv s2 h2 => ?_) hs
  obtain ⟨it, fp, tn, J, H2, e, I2, T, st2, f2, W, ⟨m0, w0⟩, turn⟩ := h2
  subst e
  -- what stays true of the iterator's objects through the loop
  have stat : ∀ {H' : Hp}, (∀ b ∈ fp, H' b = none) → ∀ b ∈ fp, FpOk X pins H' b := fun hn b hb => ⟨hn b hb, (f2 b hb).2⟩
  refine codeAny_forLoop_any (fun n s' => ∃ i σ' H', Inv X pins σ' H' s' ∧ tn i s'.heap ∧ (∀ b ∈ fp, H' b = none) ∧ W i n σ' H') ?_ m0 ⟨0, σ, H2, I2, st2, fun b hb => (f2 b hb).1, w0⟩
  rintro n s3 ⟨i, σ3, H3, I3, st3, fr3, w3⟩
  rcases turn i n σ3 H3 w3 with ⟨stop, qn⟩ | ⟨go, N, hN, step⟩
  · refine wpAny_passesOwn hp (thn (T.done X rfl rfl rfl hc i pins s3 σ3 H3 X.xe I3 (stat fr3) st3 stop) fun r s4 ⟨hr, I4⟩ => ?_)
    subst hr
    exact wpAny_execs_nil ⟨σ3, H3, I4, qn⟩
  · refine wpAny_passesOwn hp (thn (T.item X rfl rfl rfl hc i pins s3 σ3 H3 X.xe I3 (stat fr3) st3 go) fun r s4 ⟨u, hr, h4⟩ => ?_)
    subst hr
    refine wpAny_passesOwn hp (thn h4 fun _ s5 ⟨x, H5, I5, r5, y5, st5, fr5⟩ => ?_)
    have I5' := I5.pinned (stat fr5) (T.obj _ _ st5)
    refine wpAny_passesOwn hp (thn (hg _ s5 σ3 H5 x u _ I5' r5 (step x H5 y5)) fun _ s6 ⟨σ6, H6, I6, q6⟩ => ?_)
    refine wpAny_passesOwn hp (thn (hb _ s6 σ6 H6 _ I6 q6) fun f s7 q7 => ?_)
    have again : ∀ {σ7 : St} {H7 : Hp}, Inv X (pins ++ pinsAt fp s5.heap) σ7 H7 s7 → N σ7 H7 → ∃ m, m < n ∧ ∃ i σ' H', Inv X pins σ' H' s7 ∧ tn i s7.heap ∧ (∀ b ∈ fp, H' b = none) ∧ W i m σ' H' := fun {σ7 H7} I7 n7 => by
      obtain ⟨m', hm, w7⟩ := hN σ7 H7 n7
      refine ⟨m', hm, i + 1, σ7, H7, I7.unpinned, T.keep _ _ _ st5 fun b hb o e => (I7.pin (b, o) (List.mem_append_right _ (List.mem_append_right _ (mem_pinsAt hb e)))).1, fun b hb => ?_, w7⟩
      obtain ⟨o, e, d⟩ := T.obj _ _ st5 b hb
      exact (I7.pin (b, o) (List.mem_append_right _ (List.mem_append_right _ (mem_pinsAt hb e)))).2.1
    cases f with
    | next => obtain ⟨σ7, H7, I7, n7⟩ := q7; exact again I7 n7
    | cont => obtain ⟨σ7, H7, I7, n7⟩ := q7; exact again I7 n7
    | brk => obtain ⟨σ7, H7, I7, q7⟩ := q7; exact ⟨σ7, H7, I7.unpinned, q7⟩
    | ret v => obtain ⟨x7, σ7, H7, I7, r7, q7⟩ := q7; exact ⟨x7, σ7, H7, I7.unpinned, r7, q7⟩
end

end L2

namespace L2
open PySem PySem.Spec PyProof.Rows

abbrev R2 := V → V → Hp → VK → Prop
/-- a two-place operation on values: f is binaryOp op, inplaceOp op or compareOp op -/
def OpR (X : Cx) (f : Value → Value → Sem Value) (r : R2) : Prop :=
  ∀ (pins : List (Addr × Obj)) (s : Shared) (σ : St) (H : Hp) (x y : V) (v u : Value) (Q : VK), Inv X pins σ H s → RelV x v → RelV y u → r x y H Q →
    wpAny (model X.prog X.w) X.A (f v u) (EP X pins σ Q) X.xe s
/-- a one-place operation -/
def UnR (X : Cx) (f : Value → Sem Value) (r : V → Hp → VK → Prop) : Prop :=
  ∀ (pins : List (Addr × Obj)) (s : Shared) (σ : St) (H : Hp) (x : V) (v : Value) (Q : VK), Inv X pins σ H s → RelV x v → r x H Q →
    wpAny (model X.prog X.w) X.A (f v) (EP X pins σ Q) X.xe s
/-- a call of a value that is known (a builtin, a type) with values -/
def CallR (X : Cx) (f : Value) (r : List V → Hp → VK → Prop) : Prop :=
  ∀ (pins : List (Addr × Obj)) (s : Shared) (σ : St) (H : Hp) (xs : List V) (us : List Value) (Q : VK), Inv X pins σ H s → Vals xs us → r xs H Q →
    wpAny (model X.prog X.w) X.A (call f us) (EP X pins σ Q) X.xe s
/-- a value's truth -/
def TruR (X : Cx) (r : V → Hp → (Bool → Hp → Prop) → Prop) : Prop :=
  ∀ (pins : List (Addr × Obj)) (s : Shared) (σ : St) (H : Hp) (x : V) (v : Value) (Q : Bool → Hp → Prop), Inv X pins σ H s → RelV x v → r x H Q →
    wpAny (model X.prog X.w) X.A (truthy v) (TP X pins σ Q) X.xe s

def tOp (r : R2) (ta tb : TE) : TE := fun σ H Q => ta σ H fun x H1 => tb σ H1 fun y H2 => r x y H2 Q
def tUn (r : V → Hp → VK → Prop) (ta : TE) : TE := fun σ H Q => ta σ H fun x H1 => r x H1 Q
/-- ints in, under C, and a value out -/
def rI (C : Int → Int → Prop) (g : Int → Int → V) : R2 := fun x y H Q => ∃ i j, x = .int i ∧ y = .int j ∧ C i j ∧ Q (g i j) H
def rI0 (g : Int → Int → V) : R2 := fun x y H Q => ∃ i j, x = .int i ∧ y = .int j ∧ Q (g i j) H
def rU (g : Int → V) : V → Hp → VK → Prop := fun x H Q => ∃ i, x = .int i ∧ Q (g i) H

section
variable {X : Cx} {a b c : Expr} {ta tb tc : TE} {pos : Pos}

theorem binT (ha : PE X a ta) (hb : PE X b tb) {pins : List (Addr × Obj)} {s : Shared} {σ : St} {H : Hp} {R : V → V → Hp → Prop} (I : Inv X pins σ H s)
    (h : ta σ H fun x H1 => tb σ H1 fun y H2 => R x y H2) {Q : Value → Shared → Prop} {f : Value → Value → Sem Value}
    (hf : ∀ v u s2 x y H2, Inv X pins σ H2 s2 → RelV x v → RelV y u → R x y H2 → wpAny (model X.prog X.w) X.A (f v u) Q X.xe s2) :
    wpAny (model X.prog X.w) X.A (eval a X.env) (fun v s₁ => wpAny (model X.prog X.w) X.A (eval b X.env) (fun u s₂ => wpAny (model X.prog X.w) X.A (f v u) Q X.xe s₂) X.xe s₁) X.xe s := by
  refine thn (ha pins s σ H _ I h) fun v s1 ⟨x, H1, I1, r1, q1⟩ => ?_
  refine thn (hb pins s1 σ H1 _ I1 q1) fun u s2 ⟨y, H2, I2, r2, q2⟩ => ?_
  exact hf v u s2 x y H2 I2 r1 r2 q2

theorem pe_op {op : Operator} {r : R2} (ho : OpR X (binaryOp op) r) (ha : PE X a ta) (hb : PE X b tb) : PE X (.BinOp a op b pos) (tOp r ta tb) := by
  intro pins s σ H Q I h
  exact wpAny_BinOp (binT ha hb I h fun v u s2 x y H2 I2 rx ry q => ho pins s2 σ H2 x y v u Q I2 rx ry q)
theorem pe_un {op : UnaryOp} {r : V → Hp → VK → Prop} (ho : UnR X (unaryOp op) r) (ha : PE X a ta) : PE X (.UnaryOp op a pos) (tUn r ta) := by
  intro pins s σ H Q I h
  exact UnaryOp_ (thn (ha pins s σ H _ I h) fun v s1 ⟨x, H1, I1, r1, q1⟩ => ho pins s1 σ H1 x v Q I1 r1 q1)
/-! ### ints -/
theorem opI {f : Value → Value → Sem Value} {C : Int → Int → Prop} {g : Int → Int → Int}
    (rule : ∀ (i j : Int) (t u : Tok) (s : Shared) (Q : Value → Shared → Prop) (E : Value → Shared → Prop), C i j → Q (.int (g i j) s.toks) { s with toks := s.toks + 1 } → wpAny (model X.prog X.w) X.A (f (.int i t) (.int j u)) Q E s) :
    OpR X f (rI C fun i j => .int (g i j)) := by
  intro pins s σ H x y v u Q I rx ry h
  obtain ⟨i, j, rfl, rfl, hc, q⟩ := h
  obtain ⟨t, rfl⟩ := rx
  obtain ⟨t', rfl⟩ := ry
  exact rule i j t t' s _ _ hc ⟨.int (g i j), H, I.tok _, ⟨_, rfl⟩, q⟩
theorem opI0 {f : Value → Value → Sem Value} {g : Int → Int → Int}
    (rule : ∀ (i j : Int) (t u : Tok) (s : Shared) (Q : Value → Shared → Prop) (E : Value → Shared → Prop), Q (.int (g i j) s.toks) { s with toks := s.toks + 1 } → wpAny (model X.prog X.w) X.A (f (.int i t) (.int j u)) Q E s) :
    OpR X f (rI0 fun i j => .int (g i j)) := by
  intro pins s σ H x y v u Q I rx ry h
  obtain ⟨i, j, rfl, rfl, q⟩ := h
  obtain ⟨t, rfl⟩ := rx
  obtain ⟨t', rfl⟩ := ry
  exact rule i j t t' s _ _ ⟨.int (g i j), H, I.tok _, ⟨_, rfl⟩, q⟩
theorem opB0 {f : Value → Value → Sem Value} {g : Int → Int → Bool}
    (rule : ∀ (i j : Int) (t u : Tok) (s : Shared) (Q : Value → Shared → Prop) (E : Value → Shared → Prop), Q (.bool (g i j)) s → wpAny (model X.prog X.w) X.A (f (.int i t) (.int j u)) Q E s) :
    OpR X f (rI0 fun i j => .bl (g i j)) := by
  intro pins s σ H x y v u Q I rx ry h
  obtain ⟨i, j, rfl, rfl, q⟩ := h
  obtain ⟨t, rfl⟩ := rx
  obtain ⟨t', rfl⟩ := ry
  exact rule i j t t' s _ _ ⟨.bl (g i j), H, I, rfl, q⟩

def CMul (i j : Int) : Prop := (-(2 ^ 64) < i ∧ i < 2 ^ 64) ∨ (-(2 ^ 64) < j ∧ j < 2 ^ 64)
theorem CMul.ok {i j : Int} (h : CMul i j) : IntMulOk i j := by
  rcases h with ⟨h1, h2⟩ | ⟨h1, h2⟩
  · exact .of_left (intBits_le_64 h1 h2)
  · exact .of_right (intBits_le_64 h1 h2)
theorem op_add : OpR X (binaryOp .Add) (rI0 fun i j => .int (i + j)) := opI0 fun _ _ _ _ _ _ _ q => add_int q
theorem op_sub : OpR X (binaryOp .Sub) (rI0 fun i j => .int (i - j)) := opI0 fun _ _ _ _ _ _ _ q => sub_int q
theorem op_mul : OpR X (binaryOp .Mult) (rI CMul fun i j => .int (i * j)) := opI fun _ _ _ _ _ _ _ hc q => mul_int q hc.ok
/-- % by a positive divisor of any size -/
theorem op_mod : OpR X (binaryOp .Mod) (rI (fun _ j => 0 < j) fun i j => .int (i % j)) := opI fun i j _ _ _ _ _ hc q => by
  have h1 : (0 : Int) < j := hc
  exact mod_int' (by omega) (by rw [Int.fmod_eq_emod_of_nonneg i (by omega)]; exact q)
theorem unI {f : Value → Sem Value} {g : Int → Int}
    (rule : ∀ (i : Int) (t : Tok) (s : Shared) (Q : Value → Shared → Prop) (E : Value → Shared → Prop), Q (.int (g i) s.toks) { s with toks := s.toks + 1 } → wpAny (model X.prog X.w) X.A (f (.int i t)) Q E s) :
    UnR X f (rU fun i => .int (g i)) := by
  intro pins s σ H x v Q I rx h
  obtain ⟨i, rfl, q⟩ := h
  obtain ⟨t, rfl⟩ := rx
  exact rule i t s _ _ ⟨.int (g i), H, I.tok _, ⟨_, rfl⟩, q⟩
theorem un_neg : UnR X (unaryOp .USub) (rU fun i => .int (-i)) := unI fun _ _ _ _ _ q => neg_int q
end

/-! ### comparisons -/
section
variable {X : Cx} {a b c : Expr} {ta tb tc : TE} {pos : Pos}
theorem fin_bl {pins : List (Addr × Obj)} {σ : St} {H : Hp} {s : Shared} {Q : VK} {k k' : Bool} (I : Inv X pins σ H s) (q : Q (.bl k) H) (e : k = k') : EP X pins σ Q (.bool k') s := by
  subst e
  exact ⟨.bl k, H, I, rfl, q⟩
theorem op_lt : OpR X (compareOp .Lt) (rI0 fun i j => .bl (decide (i < j))) := opB0 fun _ _ _ _ _ _ _ q => lt_int q
theorem op_le : OpR X (compareOp .LtE) (rI0 fun i j => .bl (decide (i ≤ j))) := opB0 fun _ _ _ _ _ _ _ q => le_int q
theorem op_gt : OpR X (compareOp .Gt) (rI0 fun i j => .bl (decide (j < i))) := opB0 fun _ _ _ _ _ _ _ q => gt_int q
theorem op_ge : OpR X (compareOp .GtE) (rI0 fun i j => .bl (decide (j ≤ i))) := opB0 fun _ _ _ _ _ _ _ q => ge_int q
/-- the one string within the other -/
theorem op_in_str : OpR X (compareOp .In) (fun x y H Q => ∃ i j, x = .str i ∧ y = .str j ∧ Q (.bl (!(Builtin.Str.occurrences j i 0 j.length 1).isEmpty)) H) := by
  intro pins s σ H x y v u Q I rx ry h
  obtain ⟨i, j, rfl, rfl, q⟩ := h
  obtain ⟨t, rfl⟩ := rx
  obtain ⟨t', rfl⟩ := ry
  exact in_str (fin_bl I q rfl)

/-- is None, is not None: the right side a value none -/
theorem op_isN : OpR X (compareOp .Is) (fun x y H Q => y = .non ∧ Q (.bl (decide (x = .non))) H) := by
  intro pins s σ H x y v u Q I rx ry h
  obtain ⟨rfl, q⟩ := h
  cases ry
  refine is_none_gen (fin_bl I q ?_)
  cases x <;> first
    | (cases rx; rfl)
    | (obtain ⟨t, rfl⟩ := rx; rfl)
theorem op_notN : OpR X (compareOp .IsNot) (fun x y H Q => y = .non ∧ Q (.bl (!decide (x = .non))) H) := by
  intro pins s σ H x y v u Q I rx ry h
  obtain ⟨rfl, q⟩ := h
  cases ry
  refine isnot_none_gen (fin_bl I q ?_)
  cases x <;> first
    | (cases rx; rfl)
    | (obtain ⟨t, rfl⟩ := rx; rfl)

theorem op_notin_str : OpR X (compareOp .NotIn) (fun x y H Q => ∃ i j, x = .str i ∧ y = .str j ∧ Q (.bl (!(!(Builtin.Str.occurrences j i 0 j.length 1).isEmpty))) H) := by
  intro pins s σ H x y v u Q I rx ry h
  obtain ⟨i, j, rfl, rfl, q⟩ := h
  obtain ⟨t, rfl⟩ := rx
  obtain ⟨t', rfl⟩ := ry
  exact notIn_str (fin_bl I q rfl)
theorem nomark (b : Expr) {op : CmpOp} (h : op ≠ .In := by decide) (h2 : op ≠ .NotIn := by decide) : behindInMarks op b = false := by
  have e1 : (op == CmpOp.In) = false := by cases op <;> first | rfl | exact absurd rfl h
  have e2 : (op == CmpOp.NotIn) = false := by cases op <;> first | rfl | exact absurd rfl h2
  cases b <;> simp [behindInMarks, e1, e2]
/-- a comparison as a value; hm: nomark b, or (for in, not in) by with_unfolding_all rfl -/
theorem pe_cmpR {op : CmpOp} {r : R2} (ho : OpR X (compareOp op) r) (ha : PE X a ta) (hb : PE X b tb) (hm : behindInMarks op b = false) : PE X (.Compare a [op] [b] pos) (tOp r ta tb) := by
  intro pins s σ H Q I h
  exact wpAny_Compare1 (binT ha hb I h fun v u s2 x y H2 I2 rx ry q => ho pins s2 σ H2 x y v u Q I2 rx ry q) hm
/-- a reading of a value as a test -/
def tTest (t : TE) : TT := fun σ H Q => t σ H fun x H' => ∃ k, x = .bl k ∧ Q k H'
theorem pt_cmpR {op : CmpOp} {r : R2} (ho : OpR X (compareOp op) r) (ha : PE X a ta) (hb : PE X b tb) (hm : behindInMarks op b = false) : PT X (.Compare a [op] [b] pos) (tTest (tOp r ta tb)) := by
  intro pins s σ H Q I h
  refine wpAny_isTrue_Compare1 (thn (ha pins s σ H _ I h) fun v s1 ⟨x, H1, I1, r1, q1⟩ => thn (hb pins s1 σ H1 _ I1 q1) fun u s2 ⟨y, H2, I2, r2, q2⟩ =>
    thn (ho pins s2 σ H2 x y v u _ I2 r1 r2 q2) fun c s3 ⟨z, H3, I3, r3, k, e, q3⟩ => ?_) hm
  subst e
  cases r3
  exact wpAny_truthy_bool ⟨H3, I3, q3⟩
/-- a op1 b op2 c -/
def tChain (r r' : R2) (ta tb tc : TE) : TE := fun σ H Q => ta σ H fun x H1 => tb σ H1 fun y H2 => r x y H2 fun z H3 => ∃ k, z = .bl k ∧
  (if k = true then tc σ H3 fun w' H4 => r' y w' H4 Q else Q (.bl false) H3)
theorem pt_chain {op op' : CmpOp} {r r' : R2} (ho : OpR X (compareOp op) r) (ho' : OpR X (compareOp op') r') (ha : PE X a ta) (hb : PE X b tb) (hc : PE X c tc)
    (hm : lastMarks [op, op'] [b, c] = false := by with_unfolding_all rfl) : PT X (.Compare a [op, op'] [b, c] pos) (tTest (tChain r r' ta tb tc)) := by
  intro pins s σ H Q I h
  refine isTrue_chain (thn (ha pins s σ H _ I h) fun v s1 ⟨x, H1, I1, r1, q1⟩ => test_link (thn (hb pins s1 σ H1 _ I1 q1) fun u s2 ⟨y, H2, I2, r2, q2⟩ =>
    thn (ho pins s2 σ H2 x y v u _ I2 r1 r2 q2) fun d s3 ⟨z, H3, I3, r3, k, e, q3⟩ => ?_)) hm
  subst e
  cases r3
  refine wpAny_truthy_bool ?_
  cases k with
  | false =>
    obtain ⟨k', e', q'⟩ := q3
    cases e'
    exact ite_ff ⟨H3, I3, q'⟩
  | true =>
    refine ite_tt (test_last (thn (hc pins s3 σ H3 _ I3 q3) fun w' s4 ⟨z', H4, I4, r4, q4⟩ => thn (ho' pins s4 σ H4 y z' u w' _ I4 r2 r4 q4) fun d' s5 ⟨z2, H5, I5, r5, k2, e2, q5⟩ => ?_))
    subst e2
    cases r5
    exact wpAny_truthy_bool ⟨H5, I5, q5⟩

/-- a value's truth by the abstract heap -/
def TruV (K : PySem.W.Frag) (x : V) (H : Hp) (k : Bool) : Prop :=
  match x with
  | .non => k = false
  | .bl b => k = b
  | .int i => k = (i != 0)
  | .str y => y.length ≤ sizeLine ∧ k = ((y.length : Int) != 0)
  | .byt y => y.size ≤ sizeLine ∧ k = ((y.size : Int) != 0)
  | .ref p => (∃ xs, SqL K H p xs ∧ k = !xs.isEmpty) ∨ (∃ xs, SqT K H p xs ∧ k = !xs.isEmpty) ∨ ∃ kvs, H p = some (.dK kvs) ∧ k = !kvs.isEmpty
  | _ => False
theorem isEmpty_kv {κ : Type} {kvs : List (κ × V)} {vs : List (κ × Value)} (r : KV kvs vs) : (!vs.isEmpty) = !kvs.isEmpty := by
  cases r <;> rfl
theorem isEmpty_of {xs : List V} {its : List Value} (r : Vals xs its) : (!its.toArray.isEmpty) = !xs.isEmpty := by
  cases r <;> simp
theorem line63 : (sizeLine : Nat) < 2 ^ 63 := by rw [sizeLine_eq]; decide
theorem tru_ok : TruR X (fun x H Q => ∃ k, TruV X.K x H k ∧ Q k H) := by
  intro pins s σ H x v Q I rx h
  obtain ⟨k, e, q⟩ := h
  have hl := line63
  have hs : sizeLine = 16777216 := sizeLine_eq
  cases x with
  | non =>
    cases rx
    have e' : k = false := e
    subst e'
    exact truthy_none ⟨H, I, q⟩
  | bl b =>
    cases rx
    have e' : k = b := e
    subst e'
    exact wpAny_truthy_bool ⟨H, I, q⟩
  | int i =>
    obtain ⟨t, rfl⟩ := rx
    have e' : k = (i != 0) := e
    subst e'
    exact PySem.P.truthy_int ⟨H, I, q⟩
  | str y =>
    obtain ⟨t, rfl⟩ := rx
    obtain ⟨hy, e'⟩ : y.length ≤ sizeLine ∧ k = ((y.length : Int) != 0) := e
    subst e'
    exact PySem.P.truthy_str (by omega) ⟨H, I.tok _, q⟩
  | byt y =>
    obtain ⟨t, rfl⟩ := rx
    obtain ⟨hy, e'⟩ : y.size ≤ sizeLine ∧ k = ((y.size : Int) != 0) := e
    subst e'
    exact PySem.W.truthy_bytes (by omega) ⟨H, I.tok _, q⟩
  | ref p =>
    cases rx
    have e' : (∃ xs, SqL X.K H p xs ∧ k = !xs.isEmpty) ∨ (∃ xs, SqT X.K H p xs ∧ k = !xs.isEmpty) ∨ ∃ kvs, H p = some (.dK kvs) ∧ k = !kvs.isEmpty := e
    rcases e' with ⟨xs, hx, e'⟩ | ⟨xs, hx, e'⟩ | ⟨kvs, hx, e'⟩
    · subst e'
      obtain ⟨its, r, pl, hz⟩ := I.list hx
      have hlen := r.length
      exact wpAny_truthy_list pl.isList (by simp only [List.size_toArray]; omega) ⟨H, I.tok _, by rw [isEmpty_of r]; exact q⟩
    · subst e'
      obtain ⟨its, r, pl, hz⟩ := I.tuple hx
      have hlen := r.length
      exact truthy_tuple pl (by simp only [List.size_toArray]; omega) ⟨H, I.tok _, by rw [isEmpty_of r]; exact q⟩
    · subst e'
      obtain ⟨hz, hS, vs, r, m⟩ : kvs.length ≤ sizeLine ∧ (p == sysModules) = false ∧ ∃ vs, KV kvs vs ∧ s.heap.DictOf (mixKind X.prog X.w) p vs := I.hok p _ hx
      have hlen : kvs.length = vs.length := Paired.length r
      exact wpAny_truthy_dict hS m (by omega) ⟨H, I.tok _, by rw [isEmpty_kv r]; exact q⟩
  | _ => exact (show False from e).elim
/-! ### strs and bytes -/
theorem op_add_str : OpR X (binaryOp .Add) (fun x y H Q => ∃ i j, x = .str i ∧ y = .str j ∧ i.length + j.length ≤ sizeLine ∧ Q (.str (i ++ j)) H) := by
  intro pins s σ H x y v u Q I rx ry h
  obtain ⟨i, j, rfl, rfl, hz, q⟩ := h
  obtain ⟨t, rfl⟩ := rx
  obtain ⟨t', rfl⟩ := ry
  exact add_str (fun t' tk => ⟨.str (i ++ j), H, I.tok _, ⟨_, rfl⟩, q⟩) hz
/-! ### scalar builtins, by CallR -/
theorem vals1 {x : V} {us : List Value} (r : Vals [x] us) : ∃ u, us = [u] ∧ RelV x u := by
  cases r with
  | cons r1 r2 => cases r2; exact ⟨_, rfl, r1⟩
theorem vals2 {x y : V} {us : List Value} (r : Vals [x, y] us) : ∃ u w', us = [u, w'] ∧ RelV x u ∧ RelV y w' := by
  cases r with
  | cons r1 r2 =>
    cases r2 with
    | cons r3 r4 => cases r4; exact ⟨_, _, rfl, r1, r3⟩
theorem call_max2 (hc : X.calm = true) : CallR X (.builtin "max") (fun xs H Q => ∃ i j, xs = [.int i, .int j] ∧ Q (.int (if j > i then j else i)) H) := by
  intro pins s σ H xs us Q I r h
  obtain ⟨i, j, rfl, q⟩ := h
  obtain ⟨u, w', rfl, ⟨t, rfl⟩, ⟨t', rfl⟩⟩ := vals2 r
  refine max_two_ints (I.ok.hd hc) fun h' tk k => ⟨_, H, I.kept k, ?_, q⟩
  by_cases hj : j > i
  · rw [if_pos hj, if_pos hj]; exact ⟨_, rfl⟩
  · rw [if_neg hj, if_neg hj]; exact ⟨_, rfl⟩
theorem call_min2 (hc : X.calm = true) : CallR X (.builtin "min") (fun xs H Q => ∃ i j, xs = [.int i, .int j] ∧ Q (.int (if j < i then j else i)) H) := by
  intro pins s σ H xs us Q I r h
  obtain ⟨i, j, rfl, q⟩ := h
  obtain ⟨u, w', rfl, ⟨t, rfl⟩, ⟨t', rfl⟩⟩ := vals2 r
  refine min_two_ints (I.ok.hd hc) fun h' tk k => ⟨_, H, I.kept k, ?_, q⟩
  by_cases hj : j < i
  · rw [if_pos hj, if_pos hj]; exact ⟨_, rfl⟩
  · rw [if_neg hj, if_neg hj]; exact ⟨_, rfl⟩
theorem call_int1 : CallR X (.type "int") (fun xs H Q => (∃ i, xs = [.int i] ∧ Q (.int i) H) ∨ ∃ k, xs = [.bl k] ∧ Q (.int (if k then 1 else 0)) H) := by
  intro pins s σ H xs us Q I r h
  rcases h with ⟨i, rfl, q⟩ | ⟨k, rfl, q⟩
  · obtain ⟨u, rfl, t, rfl⟩ := vals1 r
    exact call_int_int ⟨.int i, H, I, ⟨_, rfl⟩, q⟩
  · obtain ⟨u, rfl, r1⟩ := vals1 r
    cases r1
    exact call_int_bool ⟨.int (if k then 1 else 0), H, I.tok _, ⟨_, rfl⟩, q⟩
/-- len of a str, a bytes, a list, a tuple -/
def LenV (K : PySem.W.Frag) (x : V) (H : Hp) (n : Nat) : Prop :=
  match x with
  | .str y => y.length ≤ sizeLine ∧ n = y.length
  | .byt y => y.size ≤ sizeLine ∧ n = y.size
  | .ref p => (∃ xs, SqL K H p xs ∧ n = xs.length) ∨ ∃ xs, SqT K H p xs ∧ n = xs.length
  | _ => False
theorem call_len : CallR X (.builtin "len") (fun xs H Q => ∃ x n, xs = [x] ∧ LenV X.K x H n ∧ Q (.int n) H) := by
  intro pins s σ H xs us Q I r h
  obtain ⟨x, n, rfl, e, q⟩ := h
  obtain ⟨u, rfl, rx⟩ := vals1 r
  have hl := line63
  have hs : sizeLine = 16777216 := sizeLine_eq
  cases x with
  | str y =>
    obtain ⟨t, rfl⟩ := rx
    obtain ⟨hy, e'⟩ : y.length ≤ sizeLine ∧ n = y.length := e
    subst e'
    exact len_str (by omega) ⟨.int _, H, I.tok _, ⟨_, rfl⟩, q⟩
  | byt y =>
    obtain ⟨t, rfl⟩ := rx
    obtain ⟨hy, e'⟩ : y.size ≤ sizeLine ∧ n = y.size := e
    subst e'
    exact PySem.W.len_bytes (by omega) ⟨.int _, H, I.tok _, ⟨_, rfl⟩, q⟩
  | ref p =>
    cases rx
    have e' : (∃ xs, SqL X.K H p xs ∧ n = xs.length) ∨ ∃ xs, SqT X.K H p xs ∧ n = xs.length := e
    rcases e' with ⟨xs, hx, e'⟩ | ⟨xs, hx, e'⟩
    · subst e'
      obtain ⟨its, r', pl, hz⟩ := I.list hx
      have hlen := r'.length
      exact Calls.call_len_list pl.isList (by simp only [List.size_toArray]; omega) ⟨.int xs.length, H, I.tok _, ⟨_, by simp only [List.size_toArray]; rw [hlen]⟩, q⟩
    · subst e'
      obtain ⟨its, r', pl, hz⟩ := I.tuple hx
      have hlen := r'.length
      exact len_tuple pl (by simp only [List.size_toArray]; omega) ⟨.int xs.length, H, I.tok _, ⟨_, by simp only [List.size_toArray]; rw [hlen]⟩, q⟩
  | _ => exact (show False from e).elim
end
end L2

namespace L2
open PySem PySem.Spec PyProof.Rows

/-! ### an instance, its attributes a map -/
structure ObjM (h : Heap) (x dx C : Addr) (mA : Str → Option Value) : Prop where
  obj : h.get? x = some (PySem.W.instObj C dx)
  ns : h.Ns1 dx mA
  ne : dx ≠ x

theorem lookIn_ns {h : Heap} {dx : Addr} {mA : Str → Option Value} (n : h.Ns1 dx mA) : ∃ od, h.get? dx = some od ∧ ∀ name, PySem.W.lookIn name od = some (mA name) := by
  obtain ⟨o, es, ep, ho, hd, hk, _, hm⟩ := n
  refine ⟨o, ho, fun name => ?_⟩
  have e := hm name
  unfold nsFind findBy at e
  rw [← Array.find?_toList] at e
  unfold PySem.W.lookIn
  rw [hd]
  dsimp only
  split
  · rename_i y q
    rw [q] at e
    exact congrArg some e
  · rename_i q
    rw [q] at e
    have a : es.toList.any (·.refKey) = false := by
      rw [List.any_eq_false]
      intro y hy
      obtain ⟨z, t, hkey⟩ := hk y (Array.mem_toList_iff.mp hy)
      simp [DictEntry.refKey, hkey]
    have a' : ¬ es.toList.any (·.refKey) = true := by rw [a]; exact Bool.false_ne_true
    rw [if_neg a']
    exact congrArg some e

theorem ObjM.look {h : Heap} {x dx C : Addr} {mA : Str → Option Value} (I : ObjM h x dx C mA) : ∃ od, PySem.W.InstAt h x (PySem.W.instObj C dx) C (some od) ∧ ∀ name, PySem.W.lookIn name od = some (mA name) :=
  let ⟨od, ho, hl⟩ := lookIn_ns I.ns
  ⟨od, ⟨I.obj, rfl, rfl, ho⟩, hl⟩

section
variable {prog : Program} {w : World} {A : Around} {E : Value → Shared → Prop} {s : Shared} {K : PySem.W.Frag} {x dx C f : Addr} {mA : Str → Option Value} {name : Str} {v : Value}

end

/-! ### the attributes as a list of pairs -/
def putF (f : Str) (v : V) : List (Str × V) → List (Str × V)
  | [] => [(f, v)]
  | (g, x) :: r => if g = f then (g, v) :: r else (g, x) :: putF f v r
theorem lookup_putF (f g : Str) (v : V) : ∀ fs : List (Str × V), (putF f v fs).lookup g = if g = f then some v else fs.lookup g
  | [] => by
    show List.lookup g [(f, v)] = _
    by_cases h : g = f
    · have hb : (g == f) = true := beq_iff_eq.mpr h
      simp only [List.lookup, hb, if_pos h]
    · have hb : (g == f) = false := beq_eq_false_iff_ne.mpr h
      simp only [List.lookup, hb, if_neg h]
  | (k, x) :: r => by
    have ih := lookup_putF f g v r
    rw [show putF f v ((k, x) :: r) = (if k = f then (k, v) :: r else (k, x) :: putF f v r) from rfl]
    by_cases hk : k = f
    · rw [if_pos hk]
      by_cases h : g = k
      · have hb : (g == k) = true := beq_iff_eq.mpr h
        simp only [List.lookup, hb, if_pos (h.trans hk)]
      · have hb : (g == k) = false := beq_eq_false_iff_ne.mpr h
        simp only [List.lookup, hb, if_neg (fun e : g = f => h (e.trans hk.symm))]
    · rw [if_neg hk]
      by_cases h : g = k
      · have hb : (g == k) = true := beq_iff_eq.mpr h
        simp only [List.lookup, hb, if_neg (fun e : g = f => hk (h.symm.trans e))]
      · have hb : (g == k) = false := beq_eq_false_iff_ne.mpr h
        simp only [List.lookup, hb]
        exact ih
theorem RelO.some_of {v : V} {o : Option Value} (r : RelO (some v) o) : ∃ u, o = some u ∧ RelV v u := by
  cases o with
  | none => exact (show False from r).elim
  | some u => exact ⟨u, rfl, r⟩
theorem RelO.none_of {o : Option Value} (r : RelO none o) : o = none := by
  cases o with
  | none => rfl
  | some u => exact (show False from r).elim
section
variable {P : Program} {w : World} {H H' : Hp} {h h' : Heap} {a C dx : Addr} {fs fs' : List (Str × V)}
theorem ins_get (hok : HOk P w H h) (e : H a = some (.ins C dx fs)) : ∃ mA, ObjM h a dx C mA ∧ (∀ f, RelO (fs.lookup f) (mA f)) ∧ PySem.Within mA (fs.map (·.1)) ∧ fs.length ≤ 1000 ∧ H dx = some (.own a) := by
  obtain ⟨d, z, ne, ob, mA, n, r, q⟩ := (show ObjOk P w H h a (.ins C dx fs) from hok a _ e)
  exact ⟨mA, ⟨ob, n, ne⟩, r, q, z, d⟩
end

/-! ### what of the text a class must have -/
structure Cls (K : PySem.W.Frag) (C : Addr) : Prop where
  pg : PySem.W.plainGet K C Str.empty = true
  hd : PySem.W.hasDictIn K C = true
  po : PySem.W.plainOver K C = true
  sa : PySem.W.findIn K (.ref C) "__setattr__" = some (some (.builtin "object.__setattr__"))
theorem Cls.get {K : PySem.W.Frag} {C : Addr} (c : Cls K C) (f : Str) : PySem.W.plainGet K C f = true := c.pg
/-- a constant of the class -/
structure Con (K : PySem.W.Frag) (C : Addr) (f : Str) (v : V) (u : Value) : Prop where
  at_ : PySem.W.findIn K (.ref C) f = some (some u)
  rel : RelV v u
  get : PySem.W.specialIn K u "__get__" = some none
  cp : PySem.W.copiedNames.contains f = false
/-- a method: a plain def of the class or of one above it -/
structure Meth (K : PySem.W.Frag) (C : Addr) (m : Str) (f : Addr) : Prop where
  at_ : PySem.W.findIn K (.ref C) m = some (some (.ref f))
  fn : PySem.W.isFn K (.ref f) = true
  kp : PySem.W.keepIn K (.ref f) = true

section
variable {X : Cx} {pins : List (Addr × Obj)} {σ : St} {H : Hp} {s : Shared} {a C dx : Addr} {fs : List (Str × V)} {f : Str} {v : V} {A : Around} {E : Value → Shared → Prop}

end

/-! ### readings and rules -/

/-! ### isinstance -/
section
variable {X : Cx} {pins : List (Addr × Obj)} {σ : St} {H : Hp} {s : Shared} {A : Around} {E : Value → Shared → Prop} {Q : Value → Shared → Prop} {c : Value} {b : Bool}
/-- the type of a value, as the fragment's deciders take it; for an instance its class -/
inductive TyOf (K : PySem.W.Frag) (H : Hp) : V → Value → Prop where
  | non : TyOf K H .non (.type "NoneType")
  | bl (x : Bool) : TyOf K H (.bl x) (.type "bool")
  | int (i : Int) : TyOf K H (.int i) (.type "int")
  | str (x : Str) : TyOf K H (.str x) (.type "str")
  | flt (x : UInt64) : TyOf K H (.flt x) (.type "float")
  | lst {a : Addr} {xs : List V} (e : H a = some (.lst xs)) : TyOf K H (.ref a) (.type "list")
  | frz {a : Addr} {o : Obj} {xs : List V} (e : H a = some (.frz o (.lst xs))) : TyOf K H (.ref a) (.type "list")
  | tup {a : Addr} {xs : List V} (e : H a = some (.tup xs)) : TyOf K H (.ref a) (.type "tuple")
  | dK {a : Addr} {kvs : List (Key × V)} (e : H a = some (.dK kvs)) : TyOf K H (.ref a) (.type "dict")
  | dT {a : Addr} {kvs : List (List Key × V)} (e : H a = some (.dT kvs)) : TyOf K H (.ref a) (.type "dict")
  | ins {a C dx : Addr} {fs : List (Str × V)} (e : H a = some (.ins C dx fs)) (cl : Cls K C) (ha : PySem.W.findIn K (.ref C) "__class__" = some (some (.builtin "object.__class__")))
      (hn : PySem.W.specialIn K (.builtin "object.__class__") "__get__" = some (some (.builtin "getset_descriptor.__get__"))) (htk : PySem.W.takesIn K (.builtin "object.__class__") = some true)
      (hm : PySem.W.mroIn K C (.type "object") = some true) : TyOf K H (.ref a) (.ref C)
/-- isinstance(x, c) for one class c, a built-in or an own one: kitOne's answer -/
theorem isinst_ok {x : V} {u t : Value} (I : Inv X pins σ H s) (rx : RelV x u) (ty : TyOf X.K H x t) (e : PySem.W.kitOne X.K t c = some b) (h : ∀ tk, Q (.bool b) { s with toks := tk }) :
    wpAny (model X.prog X.w) A (call (.builtin "isinstance") [u, c]) Q E s := by
  cases ty with
  | non => cases (show u = Value.none from rx); exact PySem.W.kia_one PySem.W.kitx_none I.kIn True.intro e (fun z => nomatch z) h
  | bl y => cases (show u = Value.bool y from rx); exact PySem.W.kia_one PySem.W.kitx_bool I.kIn True.intro e (fun z => nomatch z) h
  | int i => obtain ⟨t, q⟩ := (show ∃ t, u = Value.int i t from rx); cases q; exact PySem.W.kia_one PySem.W.kitx_int I.kIn True.intro e (fun z => nomatch z) h
  | str y => obtain ⟨t, q⟩ := (show ∃ t, u = Value.str y t from rx); cases q; exact PySem.W.kia_one PySem.W.kitx_str I.kIn True.intro e (fun z => nomatch z) h
  | flt y => obtain ⟨t, q⟩ := (show ∃ t, u = Value.float y t from rx); cases q; exact PySem.W.kia_one PySem.W.kitx_float I.kIn True.intro e (fun z => nomatch z) h
  | @lst a xs ea =>
    cases (show u = Value.ref a from rx)
    obtain ⟨_, _, n, _, h1⟩ := (show ObjOk X.prog X.w H s.heap a (.lst xs) from I.hok a _ ea)
    exact PySem.W.kia_one PySem.W.kitx_list I.kIn ⟨_, h1, rfl⟩ e (fun z => nomatch z) h
  | @frz a ob xs ea =>
    cases (show u = Value.ref a from rx)
    obtain ⟨_, _, _, n, _, h1⟩ := (show ObjOk X.prog X.w H s.heap a (.frz ob (.lst xs)) from I.hok a _ ea)
    exact PySem.W.kia_one PySem.W.kitx_list I.kIn ⟨_, h1, rfl⟩ e (fun z => nomatch z) h
  | @tup a xs ea =>
    cases (show u = Value.ref a from rx)
    obtain ⟨_, _, _, p⟩ := (show ObjOk X.prog X.w H s.heap a (.tup xs) from I.hok a _ ea)
    obtain ⟨o, h1, h2, _⟩ := p
    exact PySem.W.kia_one PySem.W.kitx_tuple I.kIn ⟨o, h1, h2⟩ e (fun z => nomatch z) h
  | @dK a kvs ea =>
    cases (show u = Value.ref a from rx)
    obtain ⟨_, _, vs, _, p⟩ := (show ObjOk X.prog X.w H s.heap a (.dK kvs) from I.hok a _ ea)
    obtain ⟨o, es, ep, h1, h2, _⟩ := p
    exact PySem.W.kia_one PySem.W.kitx_dict I.kIn ⟨o, h1, h2.1⟩ e (fun z => nomatch z) h
  | @dT a kvs ea =>
    cases (show u = Value.ref a from rx)
    obtain ⟨_, _, xs, _, o, es, ep, h1, h2, _⟩ := (show ObjOk X.prog X.w H s.heap a (.dT kvs) from I.hok a _ ea)
    exact PySem.W.kia_one PySem.W.kitx_dict I.kIn ⟨o, h1, h2.1⟩ e (fun z => nomatch z) h
  | @ins a C dx fs ea cl ha hn htk hm =>
    cases (show u = Value.ref a from rx)
    obtain ⟨mA, O, _⟩ := ins_get I.hok ea
    obtain ⟨od, J, _⟩ := O.look
    exact PySem.W.kia_one (PySem.W.kitx_own (cl.get _) cl.hd ha hn htk hm) I.kIn J e (fun z => nomatch z) h
end
end L2

namespace L2
open PySem PySem.Spec PyProof.Rows

/-! ### room -/
structure Room (k : Nat) (A : Around) : Prop where
  hd : A.handled = none
  dp : A.depth + 3 * k + 5 < recursionLimit
  un : A.units + 16 * k + 200 < cLine
theorem Room.mono {j k : Nat} {A : Around} (r : Room k A) (h : j ≤ k) : Room j A := ⟨r.hd, by have := r.dp; omega, by have := r.un; omega⟩
theorem Room.deeper {k : Nat} {A : Around} (r : Room (k + 1) A) (env : Env) : Room k (A.deeper env) :=
  ⟨r.hd, by have := r.dp; show A.depth + 1 + 3 * k + 5 < _; omega, by have := r.un; show A.units + 3 + 16 * k + 200 < _; omega⟩
theorem make_depth {A : Around} {C : Addr} {us : List Value} {kw : List (Str × Value)} : (A.under (.builtin "type.__call__" ⟨.ref C :: us, kw⟩)).depth = A.depth + 1 := by
  first | rfl | simp [Around.under, Code.weight, Code.isCreation, Code.isGuard, Code.isCaller, Code.frames, Code.isFrame, guardIds]
theorem make_units {A : Around} {C : Addr} {us : List Value} {kw : List (Str × Value)} : (A.under (.builtin "type.__call__" ⟨.ref C :: us, kw⟩)).units = A.units + 1 := by
  first | rfl | simp [Around.under, Code.cUnits, Code.frames, Code.isFrame]
theorem Room.make {k : Nat} {A : Around} (r : Room (k + 1) A) (C : Addr) (us : List Value) (kw : List (Str × Value)) : Room k (A.under (.builtin "type.__call__" ⟨.ref C :: us, kw⟩)) :=
  ⟨r.hd, by have := r.dp; rw [make_depth]; omega, by have := r.un; rw [make_units]; omega⟩
theorem Room.depth {k : Nat} {A : Around} (r : Room k A) : A.depth < recursionLimit := by have := r.dp; omega
theorem Room.units {k : Nat} {A : Around} (r : Room k A) : A.units + 64 < cLine := by have := r.un; omega
/-! ### argument lists and displays -/
def tNil : TA := fun _ H Q => Q [] H
def tCons (ta : TE) (tr : TA) : TA := fun σ H Q => ta σ H fun x H1 => tr σ H1 fun xs H2 => Q (x :: xs) H2
section
variable {X : Cx} {e : Expr} {es : List Expr} {te : TE} {t : TA} {pos : Pos}
theorem pa_nil : PA X [] tNil := fun _ _ _ _ H Q I h => Calls.spliced_nil ⟨[], H, I, .nil, h⟩
theorem pa_cons (ha : PE X e te) (hr : PA X es t) (hs : starEach (e :: es) X.env = (false, eval e X.env) :: starEach es X.env := by rfl) : PA X (e :: es) (tCons te t) := by
  intro pos pins s σ H Q I h
  rw [hs]
  show wpAny _ _ (spliced ((false, eval e X.env) :: backTo pos (starEach es X.env))) _ _ s
  refine Calls.spliced_cons (thn (ha pins s σ H _ I h) fun u s1 ⟨x, H1, I1, r1, q1⟩ => ?_)
  exact thn (hr pos pins s1 σ H1 _ I1 q1) fun us s2 ⟨xs, H2, I2, r2, q2⟩ => ⟨x :: xs, H2, I2, .cons r1 r2, q2⟩

/-- a tuple, a list of written items -/
def tTup (t : TA) : TE := fun σ H Q => t σ H fun xs H1 => xs.length ≤ sizeLine ∧ ∀ p, H1 p = none → Q (.ref p) (upd H1 p (.tup xs))
def tLst (t : TA) : TE := fun σ H Q => t σ H fun xs H1 => xs.length ≤ sizeLine ∧ ∀ p, H1 p = none → Q (.ref p) (upd H1 p (.lst xs))
theorem pe_tup {x1} (h : PA X es t) : PE X (.Tuple es x1 pos) (tTup t) := by
  intro pins s σ H Q I hq
  refine wpAny_Tuple_spliced (thn (h pos pins s σ H _ I hq) fun us s1 ⟨xs, H1, I1, r, z, q⟩ => ⟨by rw [← r.length]; exact z, ?_⟩)
  have hf : H1 s1.heap.objs.size = none := I1.hok.fresh (Nat.le_refl _)
  refine ⟨.ref s1.heap.objs.size, upd H1 s1.heap.objs.size (.tup xs), I1.laid (t' := s1.toks) (fun b u e => Heap.get?_push_of_some _ e) (Nat.le_refl _) ?_, rfl, q _ hf⟩
  exact ⟨z, us, r, ⟨_, Heap.get?_push_size _ rfl, rfl, _, rfl⟩⟩
theorem pe_lst (h : PA X es t) : PE X (.List es pos) (tLst t) := by
  intro pins s σ H Q I hq
  refine wpAny_List_spliced (thn (h pos pins s σ H _ I hq) fun us s1 ⟨xs, H1, I1, r, z, q⟩ => ⟨by rw [← r.length]; exact z, ?_⟩)
  have hf : H1 s1.heap.objs.size = none := I1.hok.fresh (Nat.le_refl _)
  refine ⟨.ref s1.heap.objs.size, upd H1 s1.heap.objs.size (.lst xs), I1.laid (t' := s1.toks) (fun b u e => Heap.get?_push_of_some _ e) (Nat.le_refl _) ?_, rfl, q _ hf⟩
  exact ⟨z, us, 0, r, Heap.get?_push_size _ rfl⟩
end

/-- a def's promise: the bound arguments in the parameters' order, the heap, the wanted end, the wanted exception -/
abbrev Sp := List V → Hp → VK → XK → Prop
/-- how an exception lies behind a call (file 08 gives it): the callers' frames, abstract heap and state ahead of the call, the wish, the exception, the state -/
abbrev CXT := List Env → Hp → Shared → XK → Value → Shared → Prop

/-- the state at a call -/
structure Env0 (P : Program) (w : World) (K : PySem.W.Frag) (mg : Str → Option Value) (base : Heap) (A : Around) (outer : List Env) (s : Shared) (H : Hp) : Prop where
  frames : A.frames = some outer
  mod : Mod K mg base
  bs : ∀ b o, base.get? b = some o → s.heap.get? b = some o ∧ H b = none
  bsz : base.objs.size ≤ s.heap.objs.size
  funs : s.heap.FunFrames base outer
  frf : ∀ b ∈ frs outer, H b = none
  hok : HOk P w H s.heap
  bare : AllBare s.gens
/-- a call's end -/
def CE (outer : List Env) (P : Program) (w : World) (H : Hp) (s : Shared) (Q : VK) (u : Value) (s' : Shared) : Prop :=
  ∃ v H', s'.os = s.os ∧ AllBare s'.gens ∧ Un (frs outer) [] H H' s.heap s'.heap ∧ HOk P w H' s'.heap ∧ RelV v u ∧ Q v H'
def CR (CX : CXT) (outer : List Env) (P : Program) (w : World) (H : Hp) (s : Shared) (Q : VK) (E : XK) (r : Result) (s' : Shared) : Prop :=
  match r with
  | .ok (.ret u) => CE outer P w H s Q u s'
  | .ok _ => False
  | .error e => CX outer H s E e s'
structure FnOk (P : Program) (w : World) (K : PySem.W.Frag) (mg : Str → Option Value) (base : Heap) (CX : CXT) (k : Nat) (f : Addr) (fd : FuncData) (ps : List Str) (sp : Sp) : Prop where
  len : ∀ vs H Q E, sp vs H Q E → vs.length = ps.length
  run : ∀ (A : Around) (outer : List Env) (s : Shared) (H : Hp) (args : Args) (us : List Value) (vs : List V) (Q : VK) (E : XK), Room k A → Env0 P w K mg base A outer s H → BindsTo s fd args (ps.zip us) → Vals vs us → sp vs H Q E →
    codeAny (model P w) A (.call (.ref f) args) (CR CX outer P w H s Q E) s
/-- a weaker promise -/
theorem FnOk.imp {P : Program} {w : World} {K : PySem.W.Frag} {mg : Str → Option Value} {base : Heap} {CX : CXT} {k : Nat} {f : Addr} {fd : FuncData} {ps : List Str} {sp sp' : Sp} (F : FnOk P w K mg base CX k f fd ps sp)
    (h : ∀ vs H Q E, sp' vs H Q E → sp vs H Q E) : FnOk P w K mg base CX k f fd ps sp' :=
  ⟨fun vs H Q E q => F.len vs H Q E (h _ _ _ _ q), fun A outer s H args us vs Q E hr he hb hv hs => F.run A outer s H args us vs Q E hr he hb hv (h _ _ _ _ hs)⟩

theorem Env0.make {P : Program} {w : World} {K : PySem.W.Frag} {mg : Str → Option Value} {base : Heap} {A : Around} {outer : List Env} {s : Shared} {H : Hp} (e : Env0 P w K mg base A outer s H) (C : Addr) (us : List Value) (kw : List (Str × Value)) :
    Env0 P w K mg base (A.under (.builtin "type.__call__" ⟨.ref C :: us, kw⟩)) outer s H := ⟨by first | exact e.frames | (simpa [Around.under, Code.envs, Code.isFrame, pushEnvs] using e.frames), e.mod, e.bs, e.bsz, e.funs, e.frf, e.hok, e.bare⟩
section
variable {X : Cx} {pins : List (Addr × Obj)} {σ : St} {H : Hp} {s s' : Shared}
/-- from a body: what a callee wants -/
theorem Inv.env0 (I : Inv X pins σ H s) : Env0 X.prog X.w X.K X.mg X.base X.A X.stack s H :=
  ⟨I.ok.frames, I.ok.mod, I.bs, Nat.le_trans I.ok.bsz I.sz, I.stack, I.stkFree, I.hok, I.bare⟩
/-- behind a call -/
theorem Inv.after {Q : VK} {u : Value} (I : Inv X pins σ H s) (h : CE X.stack X.prog X.w H s Q u s') : EP X pins σ Q u s' := by
  obtain ⟨v, H', os, bare, un, hok, r, q⟩ := h
  obtain ⟨hh, g, d, t, os'⟩ := s'
  obtain rfl : os' = s.os := os
  exact ⟨v, H', I.call (h' := hh) (g' := g) (d' := d) (t' := t) (ch := []) un hok bare (fun b z => absurd z (by simp)), r, q⟩
end

/-- f(..): the written arguments, then the defaults dvs; E: what is wanted of an exception -/
def tCall (sp : Sp) (dvs : List V) (E : XK) (t : TA) : TE := fun σ H Q => t σ H fun vs H1 => sp (vs ++ dvs) H1 Q E
/-- how the parameters are bound: us the positional arguments, kw the keywords' values by name, ds the defaults that fill up -/
def Binds (K : PySem.W.Frag) (fd : FuncData) (ps : List Str) (ds : List Value) : Prop :=
  ∀ (s : Shared) (us : List Value), K.In s.heap → (us ++ ds).length = ps.length → BindsTo s fd ⟨us, []⟩ (ps.zip (us ++ ds))
/-- every parameter is given -/
theorem Binds.all {K : PySem.W.Frag} {fd : FuncData} {ps : List Str} (h : ∀ us : List Value, us.length = ps.length → bindArgs fd ⟨us, []⟩ = pure (ps.zip us)) : Binds K fd ps [] := fun s us _ hl => by
  rw [List.append_nil] at hl ⊢
  exact .of_eq (h us hl)

/-- an exception of a callee reaches what this body wants of exceptions -/
def Passes (CX : CXT) (X : Cx) (E : XK) : Prop := ∀ (pins : List (Addr × Obj)) (σ : St) (H : Hp) (s : Shared) (e : Value) (s' : Shared), Inv X pins σ H s → CX X.stack H s E e s' → X.xe e s'

section
variable {X : Cx} {CX : CXT} {k : Nat} {f C : Addr} {fd : FuncData} {ps : List Str} {sp : Sp} {dvs : List V} {ds : List Value} {E : XK} {x m : Str} {p pos apos : Pos} {e o : Expr} {es : List Expr} {ta : TE} {t : TA}

/-- the callee runs -/
theorem run_fn {pins : List (Addr × Obj)} {σ : St} {H : Hp} {s : Shared} {Q : VK} {us : List Value} {vs : List V} (F : FnOk X.prog X.w X.K X.mg X.base CX k f fd ps sp) (hr : Room k X.A) (hb : Binds X.K fd ps ds) (hd : Vals dvs ds) (hx : Passes CX X E)
    (I : Inv X pins σ H s) (r : Vals vs us) (h : sp (vs ++ dvs) H Q E) : wpAny (model X.prog X.w) X.A (call (.ref f) us) (EP X pins σ Q) X.xe s := by
  have r2 : Vals (vs ++ dvs) (us ++ ds) := r.append hd
  have hl : (us ++ ds).length = ps.length := by rw [← r2.length]; exact F.len _ _ _ _ h
  refine wpAny_call (codeAny_mono (F.run X.A X.stack s H ⟨us, []⟩ (us ++ ds) (vs ++ dvs) Q E hr I.env0 (hb s us I.kIn hl) r2 h) fun r s' hq => ?_)
  cases r with
  | error e => exact hx pins σ H s e s' I hq
  | ok fl =>
    cases fl with
    | ret u => exact I.after hq
    | next => exact False.elim hq
    | brk => exact False.elim hq
    | cont => exact False.elim hq

theorem pe_call (F : FnOk X.prog X.w X.K X.mg X.base CX k f fd ps sp) (hr : Room k X.A) (hg : Gl X x) (hm : X.mg x = some (.ref f)) (hk : PySem.W.keepIn X.K (.ref f) = true) (hb : Binds X.K fd ps ds) (hd : Vals dvs ds) (hx : Passes CX X E)
    (ha : PA X (e :: es) t) (hdb : (x == ("__debug__" : Str)) = false := by decide) (he : starEach (e :: es) X.env = (false, eval e X.env) :: starEach es X.env := by rfl) (hpl : (backTo pos (starEach es X.env)).any (·.1) = false := by rfl) :
    PE X (.Call (.Name x p) (e :: es) [] pos) (tCall sp dvs E t) := by
  intro pins s σ H Q I h
  refine wpAny_Call_Name_kw (ld_glob I hg hm ?_ hdb)
  refine PySem.W.callWith_K (h₀ := X.base) I.ok.mod.kin hk (thn (ha pos pins s σ H _ I h) fun us s1 ⟨vs, H1, I1, r, q⟩ => ⟨I1.kIn, ?_⟩) he hpl
  exact run_fn F hr hb hd hx I1 r q
/-- what a class must have to be made -/
structure Mk (K : PySem.W.Frag) (C f : Addr) : Prop where
  makes : PySem.W.makesIn K C = true
  init : PySem.W.findIn K (.ref C) "__init__" = some (some (.ref f))
  fn : PySem.W.isFn K (.ref f) = true
  kp : PySem.W.keepIn K (.ref C) = true

end

/-! ### keywords -/
section
variable {X : Cx} {CX : CXT} {k : Nat} {f C : Addr} {fd : FuncData} {ps ks : List Str} {sp : Sp} {E : XK} {x m : Str} {p pos apos kpos : Pos} {e o : Expr} {es : List Expr} {kws : List Keyword} {te ta : TE} {t tk : TA} {nm : Option Str}
/-- how a call with keywords binds: g puts the positional values us and the keywords' values ws (names ks) in the parameters' order, defaults among them -/
structure KBinds (K : PySem.W.Frag) (fd : FuncData) (ps ks : List Str) (g : List Value → List Value → List Value) (gV : List V → List V → List V) : Prop where
  to : ∀ (s : Shared) (us ws : List Value), K.In s.heap → (g us ws).length = ps.length → BindsTo s fd ⟨us, ks.zip ws⟩ (ps.zip (g us ws))
  rel : ∀ {vs : List V} {us : List Value} {zs : List V} {ws : List Value}, Vals vs us → Vals zs ws → Vals (gV vs zs) (g us ws)
variable {g : List Value → List Value → List Value} {gV : List V → List V → List V}
end

/-- names: the parameters first -/
structure FnScope (N P : List Str) (sc : Scope) : Prop where
  kind : sc.kind = .function
  co : sc.isCoroutine = false
  gen : sc.isGenerator = false
  nd : N.Nodup
  pre : N.take P.length = P
  par : ∀ x ∈ P, sc.names.lookup x = some .local ∨ sc.names.lookup x = some .cell
  nofree : ∀ y ∈ sc.names, y.2 ≠ .free

theorem bindL_out {kindOf : Str → Option NameKind} {x : Str} : ∀ {binds : List (Str × Value)} {m : Str → Option Value}, (∀ v, (x, v) ∉ binds) → bindL kindOf binds m x = m x
  | [], _, _ => rfl
  | (n, v) :: r, m, h => by
    unfold bindL
    rw [bindL_out fun w hw => h w (List.mem_cons_of_mem _ hw)]
    split
    · have : x ≠ n := by rintro rfl; exact h v List.mem_cons_self
      simp [this]
    · rfl
theorem bindC_out {kindOf : Str → Option NameKind} {x : Str} : ∀ {binds : List (Str × Value)} {m : Str → Option Value}, (∀ v, (x, v) ∉ binds) → bindC kindOf binds m x = m x
  | [], _, _ => rfl
  | (n, v) :: r, m, h => by
    unfold bindC
    rw [bindC_out fun w hw => h w (List.mem_cons_of_mem _ hw)]
    split
    · rfl
    · have : x ≠ n := by rintro rfl; exact h v List.mem_cons_self
      simp [this]
theorem bindL_get {kindOf : Str → Option NameKind} {x : Str} {v : Value} : ∀ {P : List Str} {vs : List Value} {i : Nat} {m : Str → Option Value}, P.Nodup → P[i]? = some x → vs[i]? = some v → kindOf x = some .local →
    bindL kindOf (P.zip vs) m x = some v
  | [], _, _, _, _, h, _, _ => by simp at h
  | _ :: _, [], _, _, _, _, h, _ => by simp at h
  | p :: P, w :: vs, 0, m, nd, h1, h2, hk => by
    simp at h1 h2; subst h1; subst h2
    show bindL kindOf ((p, w) :: P.zip vs) m p = _
    unfold bindL
    rw [bindL_out fun v hv => (List.nodup_cons.mp nd).1 (List.of_mem_zip hv).1, if_pos hk]
    simp
  | p :: P, w :: vs, i + 1, m, nd, h1, h2, hk => by
    show bindL kindOf ((p, w) :: P.zip vs) m x = _
    unfold bindL
    exact bindL_get (i := i) (List.nodup_cons.mp nd).2 (by simpa using h1) (by simpa using h2) hk
theorem bindC_get {kindOf : Str → Option NameKind} {x : Str} {v : Value} : ∀ {P : List Str} {vs : List Value} {i : Nat} {m : Str → Option Value}, P.Nodup → P[i]? = some x → vs[i]? = some v → kindOf x ≠ some .local →
    bindC kindOf (P.zip vs) m x = some v
  | [], _, _, _, _, h, _, _ => by simp at h
  | _ :: _, [], _, _, _, _, h, _ => by simp at h
  | p :: P, w :: vs, 0, m, nd, h1, h2, hk => by
    simp at h1 h2; subst h1; subst h2
    show bindC kindOf ((p, w) :: P.zip vs) m p = _
    unfold bindC
    rw [bindC_out fun v hv => (List.nodup_cons.mp nd).1 (List.of_mem_zip hv).1, if_neg hk]
    simp
  | p :: P, w :: vs, i + 1, m, nd, h1, h2, hk => by
    show bindC kindOf ((p, w) :: P.zip vs) m x = _
    unfold bindC
    exact bindC_get (i := i) (List.nodup_cons.mp nd).2 (by simpa using h1) (by simpa using h2) hk

/-- the names' values at the entry -/
def start (N : List Str) (vs : List V) : St := vs.map some ++ List.replicate (N.length - vs.length) none

/-- the context of a def's body, at its entry; an exception leaves the frame, then lies as CX says -/
def cxOf (CX : CXT) (P : Program) (w : World) (K : PySem.W.Frag) (mg : Str → Option Value) (base : Heap) (N : List Str) (qual : Str) (scope : Scope) (f : Addr) (cd : Value) (A : Around) (outer : List Env) (s : Shared) (H : Hp) (E : XK) : Cx where
  prog := P
  w := w
  K := K
  mg := mg
  base := base
  A := A.deeper (envOfC qual scope s.heap.objs.size f cd)
  N := N
  s₀ := s
  H₀ := H
  env := envOfC qual scope s.heap.objs.size f cd
  outer := outer
  stack := envOfC qual scope s.heap.objs.size f cd :: outer
  ex := []
  calm := true
  fn := fun _ => true
  pn := []
  xe := fun e s' => wpAny (model P w) (A.deeper (envOfC qual scope s.heap.objs.size f cd)) (leaving (envOfC qual scope s.heap.objs.size f cd) e) (fun _ s'' => CX outer H s E e s'') (fun e' s'' => CX outer H s E e' s'') s'

theorem cell_has {sc : Scope} {n : Nat} {x : Str} (h : sc.names.lookup x = some .cell) : ∃ c, (cellsFrom n sc.names []).lookup x = some c := by
  have q := PySem.W.cellsFrom_some sc.names n [] (.inl h)
  exact Option.isSome_iff_exists.mp q

theorem inv_start {CX : CXT} {P : Program} {w : World} {K : PySem.W.Frag} {mg : Str → Option Value} {base : Heap} {N ps : List Str} {qual : Str} {scope : Scope} {f : Addr} {cd : Value} {A : Around} {outer : List Env} {s s1 : Shared} {H : Hp} {E : XK} {us : List Value} {vs : List V}
    (S : FnScope N ps scope) (hd : A.handled = none) (e0 : Env0 P w K mg base A outer s H) (hl : vs.length = ps.length) (r : Vals vs us)
    (x : InCallC s s.heap.objs.size (bindL (envOfC qual scope s.heap.objs.size f cd).kindOf (ps.zip us) fun _ => none) (cellsFrom (s.heap.objs.size + 1) scope.names []) (bindC (envOfC qual scope s.heap.objs.size f cd).kindOf (ps.zip us) fun _ => none) s1) :
    Inv (cxOf CX P w K mg base N qual scope f cd A outer s H E) [] (start N vs) H s1 := by
  have hpl : ps.length ≤ N.length := by have := congrArg List.length S.pre; rw [List.length_take] at this; omega
  obtain ⟨h1, tk, rfl, hk⟩ := x.done
  have noA : ∀ b : Addr, b ∉ (cxOf CX P w K mg base N qual scope f cd A outer s H E).ex := fun b z => absurd (show b ∈ ([] : List Addr) from z) (by simp)
  refine ⟨⟨e0.mod, S.kind, rfl, rfl, Nat.le_refl _, fun y z c h1 h2 => ?_, fun y hy => ?_, fun y c _ h => ?_, fun _ => hd, Around.frames_deeper e0.frames, .inr ⟨rfl, rfl⟩, fun b z => absurd z (noA b), e0.bs, e0.bsz, fun b _ _ => noA b, fun b z => absurd z (noA b), e0.funs, e0.frf⟩,
    rfl, e0.bare, Un.kept hk, ⟨_, x.toInCall.ns, fun i y v h1 h2 h3 => ?_⟩, fun y c h => ⟨_, x.cell y c h⟩, e0.hok.fresh (Nat.le_refl _), fun y c h => ?_, fun p hp => absurd (show p ∈ ([] : List (Addr × Obj)) from hp) (by simp), e0.hok.kept hk, ?_⟩
  · exact name_of_addr x.apart (PySem.mem_of_lookup h1) (PySem.mem_of_lookup h2)
  · have hy : scope.names.lookup y = some .cell ∨ scope.names.lookup y = some .free := hy
    rcases hy with hy | hy
    · exact cell_has hy
    · exact absurd rfl (S.nofree _ (PySem.mem_of_lookup hy))
  · exact Nat.le_of_lt (x.above y c (PySem.mem_of_lookup h))
  · have hi : i < vs.length := by
      unfold start at h2
      by_cases hi : i < vs.length
      · exact hi
      · rw [List.getElem?_append_right (by simpa using hi)] at h2
        rw [List.getElem?_replicate] at h2
        split at h2 <;> cases h2
    have ha : vs[i]? = some v := by
      unfold start at h2
      rw [List.getElem?_append_left (by simpa using hi), List.getElem?_map] at h2
      cases e : vs[i]? with
      | none => rw [e] at h2; cases h2
      | some a => rw [e] at h2; cases h2; rfl
    obtain ⟨u, hu, rv⟩ := r.get ha
    have hp : ps[i]? = some y := by
      rw [← S.pre, List.getElem?_take_of_lt (by omega)]; exact h1
    have ndP : ps.Nodup := by rw [← S.pre]; exact S.nd.sublist (List.take_sublist _ _)
    refine ⟨u, rv, ?_⟩
    rcases S.par y (List.mem_of_getElem? hp) with k | k
    · exact .inl ⟨k, bindL_get ndP hp hu k⟩
    · obtain ⟨c, e⟩ := cell_has (n := s.heap.objs.size + 1) k
      refine .inr ⟨.inl k, c, e, ?_⟩
      have q := x.cell y c e
      rw [bindC_get ndP hp hu (by show scope.names.lookup y ≠ _; rw [k]; decide)] at q
      exact q
  · exact e0.hok.fresh (Nat.le_of_lt (x.above y c (PySem.mem_of_lookup h)))
  · unfold start
    show _ = N.length
    rw [List.length_append, List.length_map, List.length_replicate]
    omega

/-- THE RULE: a def (or a method) of the text, by its body. The body's reading t is chosen for each entry; it is run at the parameters' values -/
theorem fn_of {CX : CXT} {P : Program} {w : World} {K : PySem.W.Frag} {mg : Str → Option Value} {base : Heap} {k : Nat} {f : Addr} {name qual : Str} {params : Arguments} {body : List Stmt} {scope : Scope} {dV kV doc pm cdv ct oc : Value} {an od : Option Addr}
    {osl : Array (Option Value)} {N ps : List Str} {sp : Sp} (lk : K.lookup f = some ⟨oc, od, .func (PySem.W.fnOf name qual params body scope dV kV doc pm an cdv ct), osl⟩) (hcd : PySem.W.codeIn K cdv qual = true) (S : FnScope N ps scope)
    (len : ∀ vs H Q E, sp vs H Q E → vs.length = ps.length)
    (hbody : ∀ (A : Around) (outer : List Env) (s : Shared) (H : Hp) (vs : List V) (Q : VK) (E : XK), Room k (A.deeper (envOfC qual scope s.heap.objs.size f cdv)) → sp vs H Q E →
      ∃ t, PSs (cxOf CX P w K mg base N qual scope f cdv A outer s H E) body t ∧ t { nx := fun _ H' => Q .non H', rt := Q } (start N vs) H) :
    FnOk P w K mg base CX (k + 1) f (PySem.W.fnOf name qual params body scope dV kV doc pm an cdv ct) ps sp := by
  refine ⟨len, fun A outer s H args us vs Q E hr e0 hb r hsp => ?_⟩
  have hl := len _ _ _ _ hsp
  have KX : K.In s.heap := e0.mod.kin.keeps fun b o e => (e0.bs b o e).1
  have lim : s.heap.NoLimit := e0.mod.nolimit.keeps fun b o e => (e0.bs b o e).1
  have hkind : ∀ y ∈ ps.zip us, scope.names.lookup y.1 = some .local ∨ (scope.names.lookup y.1 = some .cell ∧ ((cellsFrom (s.heap.objs.size + 1) scope.names []).lookup y.1).isSome = true) := fun ⟨n, v⟩ hy => by
    rcases S.par n (List.of_mem_zip hy).1 with q | q
    · exact .inl q
    · exact .inr ⟨q, PySem.W.cellsFrom_some _ _ _ (.inl q)⟩
  refine codeAny_call_function hr.depth (KX _ _ lk) rfl S.co S.gen rfl (PySem.W.codeRec_of KX hcd) (hb _ _ _ _ ?_)
  refine wpAny_newFunctionEnv_cells S.kind hkind fun env he s1 x => ?_
  subst he
  refine ⟨lim.keeps x.toInCall.keep, codeAny_func ?_⟩
  obtain ⟨t, ht, hq⟩ := hbody A outer s H vs Q E (hr.deeper _) hsp
  have I : Inv (cxOf CX P w K mg base N qual scope f cdv A outer s H E) [] (start N vs) H s1 := inv_start S hr.hd e0 hl r x
  refine wpAny_mono (ht [] s1 (start N vs) H _ I hq) (fun fl s' hs => ?_) fun e s' hs => hs
  have fin : ∀ {σ' : St} {H' : Hp} {v : V} {u : Value}, Inv (cxOf CX P w K mg base N qual scope f cdv A outer s H E) [] σ' H' s' → RelV v u → Q v H' → CE outer P w H s Q u s' :=
    fun {σ' H' v u} J rv q => ⟨v, H', J.os, J.bare, J.base, J.hok, rv, q⟩
  cases fl with
  | ret u =>
    obtain ⟨v, σ', H', J, rv, q⟩ := hs
    exact fin J rv q
  | next =>
    obtain ⟨σ', H', J, q⟩ := hs
    exact fin (v := V.non) (u := Value.none) J rfl q
  | brk =>
    obtain ⟨_, _, _, q⟩ := hs
    exact False.elim q
  | cont =>
    obtain ⟨_, _, _, q⟩ := hs
    exact False.elim q
end L2

namespace L2
open PySem PySem.Spec PyProof.Rows
section
variable {X : Cx} {x : Str} {p pos : Pos} {e : Expr} {es : List Expr} {t : TA} {id T : String} {r : List V → Hp → VK → Prop}

def tCB (r : List V → Hp → VK → Prop) (t : TA) : TE := fun σ H Q => t σ H fun vs H1 => r vs H1 Q
/-- f(e, ..), f a built-in function -/
theorem pe_callB (hc : CallR X (.builtin id) r) (hg : Gl X x) (hm : X.mg x = none) (hv : bootBuiltins x = some (.builtin id)) (ha : PA X (e :: es) t) (hn : x ≠ "__name__" := by decide) (hdb : (x == ("__debug__" : Str)) = false := by decide)
    (he : starEach (e :: es) X.env = (false, eval e X.env) :: starEach es X.env := by rfl) (hpl : (backTo pos (starEach es X.env)).any (·.1) = false := by rfl) : PE X (.Call (.Name x p) (e :: es) [] pos) (tCB r t) := by
  intro pins s σ H Q I h
  refine wpAny_Call_Name_kw (ld_blt I hg hm hv ?_ hn hdb)
  exact PyProof.Rows.callWith_builtin1 (thn (ha pos pins s σ H _ I h) fun us s1 ⟨vs, H1, I1, r1, q1⟩ => hc pins s1 σ H1 vs us Q I1 r1 q1) he hpl
/-- T(e, ..), T a built-in type -/
theorem pe_callTy (hc : CallR X (.type T) r) (hg : Gl X x) (hm : X.mg x = none) (hv : bootBuiltins x = some (.type T)) (ha : PA X (e :: es) t) (hn : x ≠ "__name__" := by decide) (hdb : (x == ("__debug__" : Str)) = false := by decide)
    (he : starEach (e :: es) X.env = (false, eval e X.env) :: starEach es X.env := by rfl) (hpl : (backTo pos (starEach es X.env)).any (·.1) = false := by rfl) : PE X (.Call (.Name x p) (e :: es) [] pos) (tCB r t) := by
  intro pins s σ H Q I h
  refine wpAny_Call_Name_kw (ld_blt I hg hm hv ?_ hn hdb)
  exact PyProof.Rows.callWith_type1 (thn (ha pos pins s σ H _ I h) fun us s1 ⟨vs, H1, I1, r1, q1⟩ => hc pins s1 σ H1 vs us Q I1 r1 q1) he hpl
end
end L2

namespace HT
open PySem PyProof.Rows

theorem eqAt_int (A : Around) (s : Shared) (a : Int) (t : Tok) (c : Int) (u : Tok) : ∃ e, SeqAt.EqAt A s (.int a t) (.int c u) e ∧ (e = true ↔ a = c) :=
  ⟨(a == c), SeqAt.EqAt.int_int a t c u, by simp⟩
section
open PySem.SeqAt
open PySem.AutoSeq1 (wpAny_loadPart')
open PySem.MeetsSeq PySem.MeetsSeq2 PySem.MeetsSeq3

end

section
variable {prog : Program} {w : World} {A : Around} {E : Value → Shared → Prop} {s : Shared}

/-- t + u, t not empty -/
theorem cat_tup {t b : Addr} {vs ws : List Value} {Q : Value → Shared → Prop} (ht : IsTup s.heap t vs.toArray) (hb : IsTup s.heap b ws.toArray) (hv : vs ≠ [])
    (h1 : ws = [] → Q (.ref t) s) (h2 : ws ≠ [] → Q (.ref s.heap.objs.size) { s with heap := s.heap.push { cls := .type "tuple", data := .seq (vs ++ ws).toArray } })
    (hsz : vs.length + ws.length ≤ sizeLine) : wpAny (model prog w) A (binaryOp .Add (.ref t) (.ref b)) Q E s := by
  obtain ⟨⟨cls, dd, data, sl⟩, ho, hc, n, hd⟩ := id ht
  obtain ⟨⟨cls2, dd2, data2, sl2⟩, ho2, hc2, n2, hd2⟩ := id hb
  simp only at hc hd hc2 hd2
  subst hc hd hc2 hd2
  have e : vs.toArray ++ ws.toArray = (vs ++ ws).toArray := by simp
  by_cases hw : ws = []
  · exact concat_meets ⟨_, ho, rfl⟩ ⟨_, ho2, rfl⟩ noFill_tuple_add seq_tuple_add PySem.F.slot_tuple_add PySem.F.entry_tuple_add (PySem.F.args_tuple_add_2 _ _)
      (tuple_addW1 t b vs.toArray ws.toArray n n2 dd dd2 sl sl2 (by simpa using hv) (by simp [hw])) ⟨ho, ho2, h1 hw⟩
  · refine concat_meets ⟨_, ho, rfl⟩ ⟨_, ho2, rfl⟩ noFill_tuple_add seq_tuple_add PySem.F.slot_tuple_add PySem.F.entry_tuple_add (PySem.F.args_tuple_add_2 _ _)
      (tuple_addW2 t b vs.toArray ws.toArray n n2 dd dd2 sl sl2 (by simpa using hv) (by simpa using hw) (by rw [List.size_toArray, List.size_toArray]; exact hsz)) ⟨ho, ho2, ?_⟩
    rw [e]
    exact h2 hw

/-- a slice's bound as a place among n (d where it is left out) -/
def sIx (n d : Nat) : Option Int → Nat
  | none => d
  | some v => if v < 0 then (v + (n : Int)).toNat else min v.toNat n
theorem sIx_le (n d : Nat) (hd : d ≤ n) (o : Option Int) : sIx n d o ≤ n := by
  cases o with
  | none => exact hd
  | some v =>
    show (if v < 0 then (v + (n : Int)).toNat else min v.toNat n) ≤ n
    by_cases hv : v < 0
    · rw [if_pos hv]; omega
    · rw [if_neg hv]; exact Nat.min_le_right _ _
theorem clip_eq (v : Int) (n d : Nat) : (if v < 0 then max (v + (n : Int)) 0 else min v (n : Int)) = ((sIx n d (some v) : Nat) : Int) := by
  show (if v < 0 then max (v + (n : Int)) 0 else min v (n : Int)) = (((if v < 0 then (v + (n : Int)).toNat else min v.toNat n) : Nat) : Int)
  by_cases hv : v < 0
  · simp only [if_pos hv]; omega
  · simp only [if_neg hv]; omega
theorem adjust_gen (lo hi : Option Int) (n : Nat) : Builtin.Slice.sliceAdjust lo hi 1 (n : Int) = (((sIx n 0 lo : Nat) : Int), ((sIx n n hi : Nat) : Int)) := by
  have h1 : ¬ ((1 : Int) < 0) := by omega
  unfold Builtin.Slice.sliceAdjust
  simp only [h1, if_false]
  refine Prod.ext ?_ ?_
  · cases lo with
    | none => rfl
    | some v => exact clip_eq v n 0
  · cases hi with
    | none => rfl
    | some v => exact clip_eq v n n
theorem places_gen (i j : Nat) : Builtin.Slice.slicePlaces (i : Int) (j : Int) 1 = j - i := by
  unfold Builtin.Slice.slicePlaces
  have h1 : (1 : Int) > 0 := by omega
  simp only [h1, if_true, Int.ediv_one]
  split <;> omega
theorem slicePart_ {v : Value} {o : Option Int} {Q : Option Int → Shared → Prop} (p : IsPart v o) (h : Q o s) : wpAny (model prog w) A (Builtin.Slice.slicePartIndex v) Q E s := by
  cases p with
  | none => exact slicePart_none h
  | int i t => exact slicePart_int h
theorem sliceApplied_gen {sl : Addr} {vl vu : Value} {lo hi : Option Int} {n : Nat} {Q : Int × Int × Nat → Shared → Prop} (hs : s.heap.IsSliceOf sl vl vu .none) (pl : IsPart vl lo) (pu : IsPart vu hi)
    (h : Q (((sIx n 0 lo : Nat) : Int), 1, sIx n n hi - sIx n 0 lo) s) : wpAny (model prog w) A (Builtin.Slice.sliceApplied (.ref sl) (pure (n : Int))) Q E s := by
  obtain ⟨os, hos, hcs, hds⟩ := id hs
  unfold Builtin.Slice.sliceApplied Builtin.Slice.sliceFields
  refine wpAny_bind (wpAny_bind (wpAny_field hos hds (x := vl) rfl (wpAny_bind (wpAny_field hos hds (x := vu) rfl (wpAny_bind (wpAny_field hos hds (x := .none) rfl (wpAny_pure ?_)))))))
  refine wpAny_bind (slicePart_none ?_)
  show wpAny _ _ (if ((1 : Int) == 0) = true then _ else _) _ _ s
  rw [if_neg (by decide)]
  refine wpAny_bind (slicePart_ pl (wpAny_bind (slicePart_ pu (wpAny_bind (wpAny_pure ?_)))))
  show wpAny _ _ (match Builtin.Slice.sliceAdjust lo hi 1 (n : Int) with | (lo, hi) => pure (lo, (1 : Int), Builtin.Slice.slicePlaces lo hi 1)) _ _ s
  rw [adjust_gen lo hi n]
  show wpAny _ _ (pure (((sIx n 0 lo : Nat) : Int), (1 : Int), Builtin.Slice.slicePlaces ((sIx n 0 lo : Nat) : Int) ((sIx n n hi : Nat) : Int) 1)) _ _ s
  rw [places_gen]
  exact wpAny_pure h
theorem pick_gen (xs : Array Value) (i k : Nat) : ((List.range k).filterMap fun (m : Nat) => xs[((i : Int) + (m : Int) * 1).toNat]?).toArray = ((xs.toList.drop i).take k).toArray := by
  have e : (fun (m : Nat) => xs[((i : Int) + (m : Int) * 1).toNat]?) = fun m => xs[i + m]? := by
    funext m
    have : ((i : Int) + (m : Int) * 1).toNat = i + m := by omega
    rw [this]
  rw [e]
  have := pick_run xs i k
  rw [List.filterMap_map] at this
  have e2 : ((fun x => xs[x]?) ∘ fun x => i + x) = fun m => xs[i + m]? := rfl
  rw [e2] at this
  rw [this]

theorem getItem_tuple_cut {t sl : Addr} {items : Array Value} {vl vu : Value} {lo hi : Option Int} {Q : Value → Shared → Prop} (ht : IsTup s.heap t items) (hs : s.heap.IsSliceOf sl vl vu .none) (pl : IsPart vl lo) (pu : IsPart vu hi)
    (hw : ¬ (sIx items.size 0 lo = 0 ∧ sIx items.size items.size hi = items.size))
    (h : Q (.ref s.heap.objs.size) { s with heap := s.heap.push { cls := .type "tuple", data := .seq ((items.toList.drop (sIx items.size 0 lo)).take (sIx items.size items.size hi - sIx items.size 0 lo)).toArray } })
    (hsz : items.size ≤ sizeLine) : wpAny (model prog w) A (getItem (.ref t) (.ref sl)) Q E s := by
  have htake : sizeOk (.seq ((items.toList.drop (sIx items.size 0 lo)).take (sIx items.size items.size hi - sIx items.size 0 lo)).toArray) := by
    show ((items.toList.drop (sIx items.size 0 lo)).take (sIx items.size items.size hi - sIx items.size 0 lo)).toArray.size ≤ sizeLine
    rw [List.size_toArray, List.length_take, List.length_drop, Array.length_toList]
    omega
  have hj : sIx items.size items.size hi ≤ items.size := sIx_le _ _ (Nat.le_refl _) hi
  obtain ⟨os, hos, hcs, hds⟩ := id hs
  have hTs : s.TypeIs (.ref sl) "slice" := ⟨os, hos, hcs⟩
  unfold getItem
  try with_reducible refine wpAny_holding ?_
  first | refine wpAny_bind (wpAny_pure ?_) | skip
  refine wpAny_bind (wpAny_sequenceKey ht.typeIs (by decide) ?_)
  refine wpAny_bind (wpAny_callSpecial?_slot (name := Str.ofString "__getitem__") ht.typeIs PyProof.Rows.slot_tuple_getitem
    (wpAny_call_entry PyProof.Rows.slot_tuple_getitem ht.typeIs entry_tuple_getitem ?_ (args_tuple_getitem _ _)))
  show wpAny _ _ (Builtin.Tuple.tupleItemsOf (.ref t) >>= _) _ _ s
  refine wpAny_bind (tupleItemsOf_ ht ?_)
  refine wpAny_bind (wpAny_typeOf hTs ?_)
  rw [if_pos (by decide)]
  refine wpAny_bind (sliceApplied_gen hs pl pu ?_)
  have hno : ¬ ((((sIx items.size 0 lo : Nat) : Int) == 0 && (1 : Int) == 1 && (sIx items.size items.size hi - sIx items.size 0 lo) == items.size) = true) := by
    intro q
    rw [Bool.and_eq_true, Bool.and_eq_true] at q
    have q1 : ((sIx items.size 0 lo : Nat) : Int) = 0 := eq_of_beq q.1.1
    have q2 : sIx items.size items.size hi - sIx items.size 0 lo = items.size := eq_of_beq q.2
    exact hw ⟨by omega, by omega⟩
  show wpAny _ _ (if (((sIx items.size 0 lo : Nat) : Int) == 0 && (1 : Int) == 1 && (sIx items.size items.size hi - sIx items.size 0 lo) == items.size) = true then _ else _) _ _ s
  rw [if_neg hno, pick_gen]
  first
    | exact wpAny_bind (m := Builtin.Tuple.tupleExact _) (wpAny_newObj_type (wpAny_pure ⟨_, rfl, wpAny_pure h⟩) htake)
    | exact wpAny_bind (m := Builtin.Tuple.tupleExact _) (wpAny_newObj_type (wpAny_bind (wpAny_pure (wpAny_pure ⟨_, rfl, wpAny_pure h⟩))) htake)
    | exact wpAny_bind (wpAny_bind (m := Builtin.Tuple.tupleExact _) (wpAny_newObj_type (wpAny_pure (wpAny_pure ⟨_, rfl, wpAny_pure h⟩)) htake))
    | exact wpAny_bind (wpAny_bind (m := Builtin.Tuple.tupleExact _) (wpAny_newObj_type (wpAny_pure ⟨_, rfl, wpAny_pure h⟩) htake))
end
end HT

namespace L2
open PySem PySem.Spec PyProof.Rows

/-! ### the parts of a slice -/
abbrev TO := St → Hp → (Option Int → Hp → Prop) → Prop
/-- a slice's part (left out, or an int) -/
def PO (X : Cx) (e : Option Expr) (t : TO) : Prop :=
  ∀ (pins : List (Addr × Obj)) (s : Shared) (σ : St) (H : Hp) (Q : Option Int → Hp → Prop), Inv X pins σ H s → t σ H Q →
    wpAny (model X.prog X.w) X.A (evalPart e X.env) (fun u s' => ∃ o H', Inv X pins σ H' s' ∧ IsPart u o ∧ Q o H') X.xe s
def tNoPart : TO := fun _ H Q => Q none H
def tPart (t : TE) : TO := fun σ H Q => t σ H fun x H1 => ∃ i, x = .int i ∧ Q (some i) H1

section
variable {X : Cx} {e : Expr} {te : TE} {lo hi : Option Expr} {tl th : TO} {pos p2 : Pos}

theorem po_none : PO X none tNoPart := by
  intro pins s σ H Q I h
  rw [evalPart_none]
  exact wpAny_pure ⟨none, H, I, .none, h⟩
theorem po_some (h : PE X e te) : PO X (some e) (tPart te) := by
  intro pins s σ H Q I hw
  rw [evalPart_some]
  refine thn (h pins s σ H _ I hw) fun u s1 ⟨x, H1, I1, r1, q1⟩ => ?_
  obtain ⟨i, rfl, q⟩ := q1
  obtain ⟨t, rfl⟩ := r1
  exact ⟨some i, H1, I1, .int i t, q⟩

/-- what a slice of a value is, by values: the slice object stands at sl -/
def SlR (X : Cx) (r : V → Option Int → Option Int → Hp → VK → Prop) : Prop :=
  ∀ (pins : List (Addr × Obj)) (s : Shared) (σ : St) (H : Hp) (x : V) (v vl vu : Value) (lo hi : Option Int) (sl : Addr) (Q : VK), Inv X pins σ H s → RelV x v → s.heap.IsSliceOf sl vl vu .none → IsPart vl lo → IsPart vu hi → r x lo hi H Q →
    ∃ T id, typeLookup (.type T) "__getitem__" = pure (some (.builtin id)) ∧ s.TypeIs v T ∧ wpAny (model X.prog X.w) X.A (getItem v (.ref sl)) (EP X pins σ Q) X.xe s
def tSl (r : V → Option Int → Option Int → Hp → VK → Prop) (te : TE) (tl th : TO) : TE := fun σ H Q => te σ H fun x H1 => tl σ H1 fun l H2 => th σ H2 fun u H3 => r x l u H3 Q
/-- a[lo:hi], any a -/
theorem pe_slice {r : V → Option Int → Option Int → Hp → VK → Prop} (hr : SlR X r) (he : PE X e te) (hl : PO X lo tl) (hu : PO X hi th) : PE X (.Subscript e (.Slice lo hi none p2) pos) (tSl r te tl th) := by
  intro pins s σ H Q I h
  refine Subscript_ (thn (he pins s σ H _ I h) fun v s1 ⟨x, H1, I1, r1, q1⟩ => ?_)
  refine wpAny_Slice (thn (hl pins s1 σ H1 _ I1 q1) fun vl s2 ⟨l, H2, I2, pl, q2⟩ => thn (hu pins s2 σ H2 _ I2 q2) fun vu s3 ⟨u, H3, I3, pu, q3⟩ => ?_)
  rw [evalPart_none]
  refine wpAny_pure ?_
  have I4 : Inv X pins σ H3 { s3 with heap := s3.heap.push { cls := .type "slice", data := .fields #[vl, vu, .none] } } := I3.kept (t' := s3.toks) fun b ob q => Heap.get?_push_of_some _ q
  obtain ⟨T, id, hT, ht, hg⟩ := hr pins { s3 with heap := s3.heap.push { cls := .type "slice", data := .fields #[vl, vu, .none] } } σ H3 x v vl vu l u s3.heap.objs.size Q I4 r1 (Heap.IsSliceOf.new ..) pl pu q3
  show wpAny (model X.prog X.w) X.A (subscriptTail e (.Slice lo hi none p2) v (.ref s3.heap.objs.size)) (EP X pins σ Q) X.xe { s3 with heap := s3.heap.push { cls := .type "slice", data := .fields #[vl, vu, .none] } }
  exact tail_any (ops := [.ref s3.heap.objs.size, v]) ht hT hg (by with_unfolding_all rfl)

/-- the items of xs[lo:hi] -/
def cutV (xs : List V) (lo hi : Option Int) : List V := (xs.drop (HT.sIx xs.length 0 lo)).take (HT.sIx xs.length xs.length hi - HT.sIx xs.length 0 lo)
theorem cutV_length (xs : List V) (lo hi : Option Int) : (cutV xs lo hi).length ≤ xs.length := by
  unfold cutV
  rw [List.length_take, List.length_drop]
  omega
/-- t[lo:hi], not the whole of it (the whole would be t itself) -/
def rSlT (K : PySem.W.Frag) : V → Option Int → Option Int → Hp → VK → Prop := fun x lo hi H Q => ∃ a xs, x = .ref a ∧ SqT K H a xs ∧
  ¬ (HT.sIx xs.length 0 lo = 0 ∧ HT.sIx xs.length xs.length hi = xs.length) ∧ ∀ p, H p = none → Q (.ref p) (upd H p (.tup (cutV xs lo hi)))
theorem sl_tup : SlR X (rSlT X.K) := by
  intro pins s σ H x v vl vu lo hi sl Q I rx hs pl pu h
  obtain ⟨a, xs, rfl, hx, hw, q⟩ := h
  cases rx
  obtain ⟨its, r, ht, hz⟩ := I.tuple hx
  have hlen : its.toArray.size = xs.length := by rw [List.size_toArray]; exact r.length.symm
  refine ⟨"tuple", _, PyProof.Rows.slot_tuple_getitem.lookup, ht.typeIs, ?_⟩
  refine HT.getItem_tuple_cut ht hs pl pu (by rw [hlen]; exact hw) ?_ (by rw [hlen]; exact hz)
  rw [hlen]
  refine ⟨.ref s.heap.objs.size, _, I.laid (t' := s.toks) (o := .tup (cutV xs lo hi)) (fun b ob q => Heap.get?_push_of_some _ q) (Nat.le_refl _) ?_, rfl, q _ (I.hok.fresh (Nat.le_refl _))⟩
  exact ⟨Nat.le_trans (cutV_length xs lo hi) hz, _, (r.drop (HT.sIx xs.length 0 lo)).take (HT.sIx xs.length xs.length hi - HT.sIx xs.length 0 lo), IsTup.new _ _⟩

/-- t + u, t not empty: u empty gives t itself -/
def rCatT (K : PySem.W.Frag) : R2 := fun x y H Q => ∃ a b xs ys, x = .ref a ∧ y = .ref b ∧ SqT K H a xs ∧ SqT K H b ys ∧ xs ≠ [] ∧ xs.length + ys.length ≤ sizeLine ∧
  (ys = [] → Q (.ref a) H) ∧ (ys ≠ [] → ∀ p, H p = none → Q (.ref p) (upd H p (.tup (xs ++ ys))))
theorem Vals.nil_iff {xs : List V} {us : List Value} (r : Vals xs us) : us = [] ↔ xs = [] := by
  cases r with
  | nil => simp
  | cons _ _ => simp
theorem op_catT : OpR X (binaryOp .Add) (rCatT X.K) := by
  intro pins s σ H x y v u Q I rx ry h
  obtain ⟨a, b, xs, ys, rfl, rfl, ha, hb, hx, hz, q1, q2⟩ := h
  cases rx
  cases ry
  obtain ⟨its, r1, p1, _⟩ := I.tuple ha
  obtain ⟨its2, r2, p2, _⟩ := I.tuple hb
  refine HT.cat_tup p1 p2 (fun z => hx (r1.nil_iff.mp z)) (fun z => ⟨.ref a, H, I, rfl, q1 (r2.nil_iff.mp z)⟩) (fun z => ?_) (by rw [← r1.length, ← r2.length]; exact hz)
  refine ⟨.ref s.heap.objs.size, _, I.laid (t' := s.toks) (o := .tup (xs ++ ys)) (fun b ob q => Heap.get?_push_of_some _ q) (Nat.le_refl _) ?_, rfl, q2 (fun w => z (r2.nil_iff.mpr w)) _ (I.hok.fresh (Nat.le_refl _))⟩
  exact ⟨by rw [List.length_append]; exact hz, _, r1.append r2, IsTup.new _ _⟩
end
end L2

namespace L2
open PySem PySem.Spec PyProof.Rows

/-- the place that an index of any sign means -/
def ixN (n : Nat) (i : Int) : Option Nat := if 0 ≤ i then (if i < n then some i.toNat else none) else if -(n : Int) ≤ i then some (i + n).toNat else none
def atI {α : Type} (xs : List α) (i : Int) : Option α := (ixN xs.length i).bind fun j => xs[j]?
theorem ixN_seq {n : Nat} {i : Int} {j : Nat} (h : ixN n i = some j) : seqIndex? i n = some j ∧ j < n ∧ -(n : Int) ≤ i ∧ i < n := by
  unfold ixN at h
  by_cases h0 : 0 ≤ i
  · rw [if_pos h0] at h
    by_cases h1 : i < n
    · rw [if_pos h1] at h
      have e : i.toNat = j := Option.some.inj h
      exact ⟨by rw [seqIndex_of h0 h1, e], by omega, by omega, h1⟩
    · rw [if_neg h1] at h; cases h
  · rw [if_neg h0] at h
    by_cases h1 : -(n : Int) ≤ i
    · rw [if_pos h1] at h
      have e : (i + n).toNat = j := Option.some.inj h
      exact ⟨by rw [seqIndex_neg (by omega) h1, e], by omega, h1, by omega⟩
    · rw [if_neg h1] at h; cases h
theorem atI_get {α : Type} {xs : List α} {i : Int} {v : α} (h : atI xs i = some v) : ∃ j, seqIndex? i xs.length = some j ∧ xs[j]? = some v ∧ j < xs.length ∧ -(xs.length : Int) ≤ i ∧ i < xs.length := by
  unfold atI at h
  cases e : ixN xs.length i with
  | none => rw [e] at h; cases h
  | some j =>
    rw [e] at h
    obtain ⟨h1, h2, h3, h4⟩ := ixN_seq e
    exact ⟨j, h1, h, h2, h3, h4⟩
theorem atI_nat {α : Type} {xs : List α} {j : Nat} {v : α} (h : xs[j]? = some v) : atI xs (j : Int) = some v := by
  have hj : j < xs.length := (List.getElem?_eq_some_iff.mp h).1
  have e : ixN xs.length (j : Int) = some j := by
    unfold ixN
    rw [if_pos (by omega), if_pos (by omega)]; simp
  unfold atI; rw [e]; exact h
/-- what stands as an index of a plain subscript -/
def PlainIx (b : Expr) : Prop := ∀ o i, subscripted b false o i = operate [o, i] (getItem o i)
/-- a subscript by values -/
def IxR (X : Cx) (r : R2) : Prop :=
  ∀ (value slice : Expr) (pins : List (Addr × Obj)) (s : Shared) (σ : St) (H : Hp) (x y : V) (v u : Value) (Q : VK), Inv X pins σ H s → RelV x v → RelV y u → r x y H Q →
    subscripted slice false v u = operate [v, u] (getItem v u) → wpAny (model X.prog X.w) X.A (subscriptTail value slice v u) (EP X pins σ Q) X.xe s
/-- a call of a builtin's method by values: the receiver, the arguments -/
def MtR (X : Cx) (id : String) (r : V → List V → Hp → VK → Prop) : Prop :=
  ∀ (pins : List (Addr × Obj)) (s : Shared) (σ : St) (H : Hp) (x : V) (xs : List V) (v : Value) (us : List Value) (Q : VK), Inv X pins σ H s → RelV x v → Vals xs us → r x xs H Q →
    wpAny (model X.prog X.w) X.A (call (.builtin id) (v :: us)) (EP X pins σ Q) X.xe s
section
variable {X : Cx} {a b : Expr} {ta tb : TE} {pos : Pos}
/-- a[b] -/
theorem pe_ix {r : R2} (hr : IxR X r) (ha : PE X a ta) (hb : PE X b tb) (hs : PlainIx b) : PE X (.Subscript a b pos) (tOp r ta tb) := by
  intro pins s σ H Q I h
  exact Subscript_ (binT ha hb I h fun v u s2 x y H2 I2 rx ry q => hr a b pins s2 σ H2 x y v u Q I2 rx ry q (hs _ _))

def rIxL (K : PySem.W.Frag) : R2 := fun x y H Q => ∃ p xs i v, x = .ref p ∧ y = .int i ∧ SqL K H p xs ∧ atI xs i = some v ∧ Q v H
def rIxT (K : PySem.W.Frag) : R2 := fun x y H Q => ∃ p xs i v, x = .ref p ∧ y = .int i ∧ SqT K H p xs ∧ atI xs i = some v ∧ Q v H
def rIxS : R2 := fun x y H Q => ∃ z i c, x = .str z ∧ y = .int i ∧ z.length ≤ sizeLine ∧ atI z.cps.toList i = some c ∧ Q (.str ⟨#[c]⟩) H
theorem ix_list : IxR X (rIxL X.K) := by
  intro value slice pins s σ H x y v u Q I rx ry h hs
  obtain ⟨p, xs, i, z, rfl, rfl, hq, he, q⟩ := h
  cases rx
  obtain ⟨t, rfl⟩ := ry
  obtain ⟨its, r, pl, hz⟩ := I.list hq
  obtain ⟨j, h1, h2, h3, h4, h5⟩ := atI_get he
  obtain ⟨w, ew, rw'⟩ := r.get h2
  have hl := r.length
  have hn := line63
  have fin : EP X pins σ Q w s := ⟨z, H, I, rw', q⟩
  by_cases h0 : 0 ≤ i
  · have hj : i.toNat = j := by
      rw [seqIndex_of h0 h5] at h1
      exact Option.some.inj h1
    exact item_listR pl.isList h0 (by omega) (by rw [hj]; simpa using ew) fin hs
  · have hj : (i + (its.toArray.size : Int)).toNat = j := by
      rw [seqIndex_neg (by omega) h4] at h1
      rw [List.size_toArray, ← hl]
      exact Option.some.inj h1
    exact subscriptTail_builtinR (x := w) pl.isList.typeIs slot_list_getitem.lookup
      (wpAny_getItem_list_neg (Q := fun r s' => r = w ∧ EP X pins σ Q r s') pl.isList (by omega) (by rw [List.size_toArray] <;> omega) (by omega) (by rw [hj]; simpa using ew) ⟨rfl, fin⟩) hs
theorem ix_tup : IxR X (rIxT X.K) := by
  intro value slice pins s σ H x y v u Q I rx ry h hs
  obtain ⟨p, xs, i, z, rfl, rfl, hq, he, q⟩ := h
  cases rx
  obtain ⟨t, rfl⟩ := ry
  obtain ⟨its, r, pl, hz⟩ := I.tuple hq
  obtain ⟨j, h1, h2, h3, h4, h5⟩ := atI_get he
  obtain ⟨w, ew, rw'⟩ := r.get h2
  have hl := r.length
  have hn := line63
  have fin : EP X pins σ Q w s := ⟨z, H, I, rw', q⟩
  exact subscriptTail_builtinR (x := w) pl.typeIs slot_tuple_getitem.lookup
    (getItem_tuple (j := j) (Q := fun r s' => r = w ∧ EP X pins σ Q r s') pl (by omega) (by omega) (by rw [List.size_toArray, ← hl]; exact h1) (by simpa using ew) ⟨rfl, fin⟩) hs
theorem ix_str : IxR X rIxS := by
  intro value slice pins s σ H x y v u Q I rx ry h hs
  obtain ⟨z, i, c, rfl, rfl, hz, he, q⟩ := h
  obtain ⟨t, rfl⟩ := rx
  obtain ⟨t', rfl⟩ := ry
  obtain ⟨j, h1, h2, h3, h4, h5⟩ := atI_get he
  have hl : z.cps.toList.length = z.length := by simp [Str.length]
  rw [hl] at h1 h4 h5
  have hn := line63
  exact tail_any (typeIs_str s z t) slot_str_getitem.lookup (getItem_str (c := c) (by
    have e1 : decide (i < -(2 ^ 63 : Int)) = false := decide_eq_false (by omega)
    have e2 : decide (i ≥ 2 ^ 63) = false := decide_eq_false (by omega)
    rw [e1, e2, Bool.or_false]) (by rw [h1]; simpa using h2) ⟨.str ⟨#[c]⟩, H, I.tok _, ⟨_, rfl⟩, q⟩) hs
/-! ### slices -/
theorem slice_bounds (lo hi : Option Int) (n : Nat) : (sliceBounds lo hi none n).1 = ((HT.sIx n 0 lo : Nat) : Int) ∧ (sliceBounds lo hi none n).2.1 = ((HT.sIx n n hi : Nat) : Int) ∧ (sliceBounds lo hi none n).2.2 = 1 := by
  refine ⟨?_, ?_, rfl⟩
  · cases lo with
    | none => simp [sliceBounds, HT.sIx]
    | some i =>
      simp only [sliceBounds, HT.sIx, Option.getD_none, show (1 : Int) > 0 by decide, if_true]
      by_cases h : i < 0
      · simp only [h, if_true] <;> omega
      · simp only [h, if_false] <;> omega
  · cases hi with
    | none => simp [sliceBounds, HT.sIx]
    | some i =>
      simp only [sliceBounds, HT.sIx, Option.getD_none, show (1 : Int) > 0 by decide, if_true]
      by_cases h : i < 0
      · simp only [h, if_true] <;> omega
      · simp only [h, if_false] <;> omega
theorem slicePick_cut (its : List Value) (lo hi : Option Int) : slicePick its.toArray lo hi none = ((its.drop (HT.sIx its.length 0 lo)).take (HT.sIx its.length its.length hi - HT.sIx its.length 0 lo)).toArray := by
  obtain ⟨h1, h2, h3⟩ := slice_bounds lo hi its.toArray.size
  unfold slicePick
  rw [h1, h2, h3]
  simp only [sliceRange_one, pick_run, List.size_toArray] <;> rfl
/-- xs[lo:hi] of a list: a new list -/
def rSlL (K : PySem.W.Frag) : V → Option Int → Option Int → Hp → VK → Prop := fun x lo hi H Q => ∃ a xs, x = .ref a ∧ SqL K H a xs ∧ ∀ p, H p = none → Q (.ref p) (upd H p (.lst (cutV xs lo hi)))
theorem sl_list : SlR X (rSlL X.K) := by
  intro pins s σ H x v vl vu lo hi sl Q I rx hs pl pu h
  obtain ⟨a, xs, rfl, hx, q⟩ := h
  cases rx
  obtain ⟨its, r, ht, hz⟩ := I.list hx
  have hlen := r.length
  refine ⟨"list", _, slot_list_getitem.lookup, ht.isList.typeIs, ?_⟩
  refine wpAny_getItem_list_slice ht.isList hs pl pu .none (by simp) ?_ (by rw [List.size_toArray] <;> omega)
  rw [slicePick_cut, ← hlen]
  refine ⟨.ref s.heap.objs.size, _, I.laid (t' := s.toks) (o := .lst (cutV xs lo hi)) (fun b ob q => Heap.get?_push_of_some _ q) (Nat.le_refl _) ?_, rfl, q _ (I.hok.fresh (Nat.le_refl _))⟩
  exact ⟨Nat.le_trans (cutV_length xs lo hi) hz, _, 0, (r.drop (HT.sIx xs.length 0 lo)).take (HT.sIx xs.length xs.length hi - HT.sIx xs.length 0 lo), Heap.get?_push_size _ rfl⟩

/-! ### len, list(x), tuple(x) of any list or tuple that is read -/
theorem call_tuple_of : CallR X (.type "tuple") (fun xs H Q => ∃ p ys, xs = [.ref p] ∧ ((SqL X.K H p ys ∧ ∀ l, H l = none → Q (.ref l) (upd H l (.tup ys))) ∨ (SqT X.K H p ys ∧ Q (.ref p) H))) := by
  intro pins s σ H xs us Q I r h
  obtain ⟨p, ys, rfl, h⟩ := h
  obtain ⟨u, rfl, rx⟩ := vals1 r
  cases rx
  rcases h with ⟨hq, q⟩ | ⟨hq, q⟩
  · obtain ⟨its, r', pl, hz⟩ := I.list hq
    have hlen := r'.length
    refine call_tuple_list pl.isList (fun h' kp => ?_) (by simp only [List.size_toArray] <;> omega)
    have I1 : Inv X pins σ H { s with heap := h' } := I.kept (t' := s.toks) kp
    have I2 : Inv X pins σ (upd H h'.objs.size (.tup ys)) { s with heap := h'.push { cls := .type "tuple", data := .seq its.toArray } } :=
      I1.laid (t' := s.toks) (fun b o e => Heap.get?_push_of_some _ e) (Nat.le_refl _) (show ObjOk X.prog X.w _ _ _ (.tup ys) from ⟨hz, its, r', IsTup.new _ _⟩)
    exact ⟨.ref h'.objs.size, _, I2, rfl, q _ (I1.hok.fresh (Nat.le_refl _))⟩
  · obtain ⟨its, r', pl, hz⟩ := I.tuple hq
    exact call_tuple_same pl ⟨.ref p, H, I, rfl, q⟩

/-- the value is of that builtin type -/
def tyV (K : PySem.W.Frag) (T : String) (x : V) (H : Hp) : Prop := match x with
  | .str _ => T = "str"
  | .int _ => T = "int"
  | .ref p => (T = "list" ∧ ∃ xs, SqL K H p xs) ∨ (T = "tuple" ∧ ∃ o, K.lookup p = some o ∧ o.cls = .type "tuple" ∧ o.dict = none) ∨
      (T = "dict" ∧ ((∃ kvs, H p = some (.dK kvs)) ∨ ∃ kvs, H p = some (.dT kvs))) ∨ (T = "set" ∧ ∃ S n, H p = some (.set S n))
  | _ => False
theorem tyV_is {pins : List (Addr × Obj)} {σ : St} {H : Hp} {s : Shared} {T : String} {x : V} {v : Value} (I : Inv X pins σ H s) (r : RelV x v) (ty : tyV X.K T x H) :
    s.TypeIs v T ∧ ∀ a, v = .ref a → ∃ ob, s.heap.get? a = some ob ∧ ob.dict = none := by
  cases x with
  | str z =>
    obtain ⟨t, rfl⟩ := r
    cases (show T = "str" from ty)
    exact ⟨typeIs_str s z t, fun _ e => nomatch e⟩
  | int i =>
    obtain ⟨t, rfl⟩ := r
    cases (show T = "int" from ty)
    exact ⟨typeIs_int s i t, fun _ e => nomatch e⟩
  | ref p =>
    cases r
    rcases ty with ⟨rfl, xs, hq⟩ | ⟨rfl, o, hk, hc, hd⟩ | ⟨rfl, hk⟩ | ⟨rfl, S, n, hk⟩
    · obtain ⟨its, _, pl, _⟩ := I.list hq
      refine ⟨pl.isList.typeIs, fun a e => ?_⟩
      cases e
      obtain ⟨o, n, e, c, hd, _⟩ := pl
      exact ⟨o, e, hd⟩
    · refine ⟨⟨o, I.kIn p o hk, hc⟩, fun a e => ?_⟩
      cases e
      exact ⟨o, I.kIn _ o hk, hd⟩
    · have z : ∃ o, s.heap.get? p = some o ∧ o.ExactDict := by
        rcases hk with ⟨kvs, hk⟩ | ⟨kvs, hk⟩
        · obtain ⟨_, _, _, _, o, _, _, e, ex, _⟩ := I.hok p _ hk
          exact ⟨o, e, ex⟩
        · obtain ⟨_, _, _, _, o, _, _, e, ex, _⟩ := I.hok p _ hk
          exact ⟨o, e, ex⟩
      obtain ⟨o, e, ex⟩ := z
      refine ⟨⟨o, e, ex.1⟩, fun a e2 => ?_⟩
      cases e2
      exact ⟨o, e, ex.2.1⟩
    · obtain ⟨o, _, _, _, e, ex, _⟩ := I.hok p _ hk
      refine ⟨⟨o, e, ex.1⟩, fun a e2 => ?_⟩
      cases e2
      exact ⟨o, e, ex.2.1⟩
  | _ => exact False.elim ty
def tBM (K : PySem.W.Frag) (T : String) (r : V → List V → Hp → VK → Prop) (to : TE) (t : TA) : TE := fun σ H Q => to σ H fun x H1 => tyV K T x H1 ∧ t σ H1 fun xs H2 => r x xs H2 Q
variable {o e : Expr} {es : List Expr} {to : TE} {t : TA} {name : Str} {apos cpos : Pos} {T id : String} {r : V → List V → Hp → VK → Prop}
theorem pe_bm (pa : PlainAttrs T) (slot : Slot T name id) (hty : typeOf (.builtin id) = pure (.type "method_descriptor")) (hm : MtR X id r) (ho : PE X o to) (ha : PA X (e :: es) t)
    (hbase : attributeBase o name X.env (eval o X.env) = eval o X.env := by rfl)
    (hfew : ((backTo cpos (starEach (e :: es) X.env)).all (fun x => !x.1) && (backToKw cpos (keywordEach [] X.env)).all (fun x => x.1.isSome)
      && decide ((e :: es).length + ([] : List Keyword).length + (if ([] : List Keyword).isEmpty then 0 else 1) < 30)) = true := by rfl)
    (hline : (apos.endLine == cpos.line) = true := by rfl) (hs : starEach (e :: es) X.env = (false, eval e X.env) :: starEach es X.env := by rfl) (hplain : (backTo cpos (starEach es X.env)).any (·.1) = false := by rfl) :
    PE X (.Call (.Attribute o name apos) (e :: es) [] cpos) (tBM X.K T r to t) := by
  intro pins s σ H Q I h
  refine wpAny_Call_method_late hbase hfew hline rfl (thn (ho pins s σ H _ I h) fun v s1 ⟨x, H1, I1, r1, ty, q1⟩ => ?_)
  obtain ⟨h1, h2⟩ := tyV_is I1 r1 ty
  refine ⟨T, id, pa, slot, hty, h1, h2, ?_⟩
  have hA := ha cpos pins s1 σ H1 _ I1 q1
  rw [hs] at hA ⊢
  refine Calls.callWith_builtin (by show (false || (backTo cpos (starEach es X.env)).any (·.1)) = false; rw [hplain] <;> rfl) (Calls.evalArgs_plain ?_)
  exact thn hA fun us s2 ⟨vs, H2, I2, r2, q2⟩ => hm pins s2 σ H2 x vs v us Q I2 r1 r2 q2
/- xs.append(e), list.index on a module's tuple .. are MtR facts of 06m -/
end
end L2

namespace L2
open PySem PySem.Spec PyProof.Rows

def MtM (X : Cx) (id : String) (r : V → List V → Hp → VK → Prop) : Prop :=
  ∀ (pins : List (Addr × Obj)) (s : Shared) (σ : St) (H : Hp) (x : V) (xs : List V) (v : Value) (us : List Value) (Q : VK), Inv X pins σ H s → RelV x v → Vals xs us → r x xs H Q →
    wpAny (model X.prog X.w) X.A (call (.builtin id) (v :: us)) (EP X pins σ Q) X.xe s

/-! ### lists of values -/
theorem Vals.one : ∀ {x : V} {us : List Value}, Vals [x] us → ∃ u, us = [u] ∧ RelV x u
  | _, _, .cons r .nil => ⟨_, rfl, r⟩
section
variable {X : Cx} {pins : List (Addr × Obj)} {σ : St} {H : Hp} {s : Shared} {l b : Addr} {xs ys zs : List V}

/-! ### the two steps: a tracked list is rewritten, a new list is laid -/
theorem Inv.lset {its its' : List Value} {n : Nat} {f : Array Value → Array Value} {t' : Nat} (I : Inv X pins σ H s) (hH : H l = some (.lst xs))
    (e : s.heap.get? l = some { cls := .type "list", data := .seq its.toArray n }) (hf : f its.toArray = its'.toArray) (hv : Vals ys its') (hz : ys.length ≤ sizeLine) :
    Inv X pins σ (upd H l (.lst ys)) { s with heap := s.heap.update l (Obj.mapSeq f), toks := t' } := by
  have q := PySem.IsL.update e f
  rw [hf] at q
  refine I.write (x := l) (e := l) (by rw [hH]; exact trivial) (.inl rfl) (fun b' u hb hu => (Heap.get?_update_other s.heap (Obj.mapSeq f) (Ne.symm hb)).trans hu) ⟨_, q⟩ ?_
  exact ⟨hz, its', _, hv, q⟩
theorem Inv.lstM (I : Inv X pins σ H s) (hH : H l = some (.lst xs)) : xs.length ≤ sizeLine ∧ ∃ (its : List Value) (n : Nat), Vals xs its ∧ xs.length = its.length ∧ s.heap.get? l = some { cls := .type "list", data := .seq its.toArray n } := by
  obtain ⟨z, its, n, r, e⟩ := I.hok l _ hH
  exact ⟨z, its, n, r, r.length, e⟩

theorem notLongL {n : Nat} (h : n ≤ sizeLine) : Builtin.List.listTooLong n = false := by
  unfold Builtin.List.listTooLong
  exact decide_eq_false (by omega)
end

section
variable {X : Cx}

/-! ### methods -/
def rAppend : V → List V → Hp → VK → Prop := fun x vs H Q => ∃ l xs y, x = .ref l ∧ vs = [y] ∧ H l = some (.lst xs) ∧ xs.length < sizeLine ∧ Q .non (upd H l (.lst (xs ++ [y])))
theorem mt_append : MtM X "list.append" rAppend := by
  intro pins s σ H x vs v us Q I rx rv h
  obtain ⟨l, xs, y, rfl, rfl, hH, hz, q⟩ := h
  cases rx
  obtain ⟨u, rfl, ru⟩ := rv.one
  obtain ⟨z, its, n, r, hl, e⟩ := I.lstM hH
  refine call_meets F.slot_list_append ⟨_, e, rfl⟩ F.entry_list_append (F.args_list_append_2 _ _) (PySem.list_append l its.toArray n u (by rw [List.size_toArray]; omega)) ⟨e, ?_⟩
  refine ⟨.non, _, I.lset (its' := its ++ [u]) hH e (by simp) (r.append (.cons ru .nil)) ?_, rfl, q⟩
  rw [List.length_append, List.length_singleton]
  omega

def rExtend : V → List V → Hp → VK → Prop := fun x vs H Q => ∃ l b xs zs, x = .ref l ∧ vs = [.ref b] ∧ H l = some (.lst xs) ∧ H b = some (.lst zs) ∧ xs.length + zs.length ≤ sizeLine ∧ Q .non (upd H l (.lst (xs ++ zs)))
theorem mt_extend : MtM X "list.extend" rExtend := by
  intro pins s σ H x vs v us Q I rx rv h
  obtain ⟨l, b, xs, zs, rfl, rfl, hH, hB, hz, q⟩ := h
  cases rx
  obtain ⟨u, rfl, ru⟩ := rv.one
  cases ru
  obtain ⟨z, its, n, r, hl, e⟩ := I.lstM hH
  obtain ⟨z2, its2, n2, r2, hl2, e2⟩ := I.lstM hB
  have hsz : its.toArray.size + its2.toArray.size ≤ sizeLine := by rw [List.size_toArray, List.size_toArray]; omega
  have hlong : ¬ (!its.toArray.isEmpty && Builtin.List.listTooLong (its.toArray.size + its2.toArray.size)) = true := by
    rw [notLongL hsz, Bool.and_false]
    exact Bool.false_ne_true
  refine call_meets F.slot_list_extend ⟨_, e, rfl⟩ F.entry_list_extend (F.args_list_extend_2 _ _)
    (AutoSeq1.list_extend_list_list_0 l its.toArray n b its2.toArray n2 hlong (by rw [List.size_toArray]; omega) (by omega)) ⟨e, e2, ?_⟩
  refine ⟨.non, _, I.lset (its' := its ++ its2) hH e (by simp) (r.append r2) ?_, rfl, q⟩
  rw [List.length_append]
  omega

end

/-! ### xs[a:b] = ys -/

end L2

namespace Att
open PySem PySem.W PySem.Calls PyProof.Rows

/-! ### the script -/
theorem ints_of_wellAll {P : Params} {h : Heap} : ∀ (ns : List Int) (vs : List Value), WellAll P h vs (ns.map WData.int) → IntsAre vs ns := by
  intro ns
  induction ns with
  | nil =>
    intro vs w
    rw [List.map_nil] at w
    cases w
    exact .nil
  | cons n ns ih =>
    intro vs w
    rw [List.map_cons] at w
    cases w with
    | cons a b =>
      cases a
      exact .cons _ _ (ih _ b)

theorem script_of {l : OpenLaw} {n : Nat} (hn : l.most = some n) {P : Params} {h : Heap} {args : List WData} {vals : List Value}
    (hpre : l.row.toRowW.claim.pre args = true) (hwl : WellAll P h vals args) :
    ∃ a vs ns, vals = [Value.ref a] ∧ args = [WData.list (ns.map WData.int)] ∧ h.get? a = some { cls := .type "list", data := .seq vs.toArray } ∧ IntsAre vs ns ∧ ns.length ≤ n := by
  have hsh : WShape.hasAll [] args [.list .int] = true := (pre_splitW hpre).1
  have hc : l.pre.holds [] { args := args } = true := (pre_splitW hpre).2
  obtain ⟨d, r, rfl, h1, h2⟩ := hasAllW_cons hsh
  obtain rfl := hasAllW_nil h2
  obtain ⟨xs, rfl, h3⟩ := hasW_list h1
  obtain ⟨ns, rfl⟩ := items_int h3
  have hlen : ns.length ≤ n := by
    unfold OpenLaw.pre at hc
    have h4 : (WTm.not (.lt (.lit (.int (n : Int))) (.len (.arg 0)))).holds [] { args := [.list (ns.map .int)] } = true := by
      have h4 := (holds_andW hc).1
      rw [hn] at h4
      exact h4
    have h5 := condW_of h4 (w_not (w_lt w_lit (w_len_list (w_arg rfl))))
    rw [List.length_map] at h5
    refine Nat.le_of_not_lt fun q => ?_
    have q' : (n : Int) < ((ns.length : Nat) : Int) := by omega
    first
      | (rw [decide_eq_true q'] at h5; exact absurd h5 (by decide))
      | (simp at h5; omega)
  cases hwl with
  | cons w1 w2 =>
    cases w2
    cases w1 with
    | list ho hall => exact ⟨_, _, ns, rfl, rfl, ho, ints_of_wellAll ns _ hall, hlen⟩

theorem post_true (l : OpenLaw) (args : List WData) : l.row.toRowW.claim.post args (.bool true) args = true :=
  postW_of (r := l.row.toRowW) (X := (true == true))
    (show WShape.has [] (.bool true) .bool = true by first | rfl | decide | simp [WShape.has, WShape.arms, WShape.armsAll])
    (show (WTm.eq .res (.lit (.bool true))).value [] { args := args, res := some (.bool true), after := args } = some (.bool (true == true)) from w_eq_bool (w_res rfl) w_lit) rfl

/-- the same from a codeAny of the CALL (for a layer whose function contracts speak of calls) -/
theorem attach_call {l : OpenLaw} {n : Nat} {q : Program} {loose : List Str} {XP : (Str → Option Value) → Heap → Prop} {YP : World → Heap → Prop} {d : DefRec}
    (hn : l.most = some n) (hdf : d.params.defaults = [])
    (call : ∀ (w : World) (s₀ s₁ : Shared) (mg mb : Str → Option Value) (fa : Addr) (o : Obj) (pm cd doc : Value) (a : Addr) (vs : List Value) (ns : List Int),
      Ground q loose [] XP w s₀ mg mb s₁.heap → YP w s₁.heap →
      s₁.heap.get? fa = some o → o.data = .func (docDef d.name d.params d.body d.scope pm cd doc) → s₁.heap.CodeRec cd d.name → mg d.name = some (.ref fa) →
      s₁.heap.get? a = some { cls := .type "list", data := .seq vs.toArray } → IntsAre vs ns → ns.length ≤ n → s₁.gens = #[] →
      codeAny (model l.prog w) callerA (.call (.ref fa) ⟨[.ref a], []⟩) (fun r s' => r = .ok (.ret (.bool true)) ∧ OldK s₁.heap s'.heap ∧ s'.os = s₁.os ∧ AllBare s'.gens) s₁) :
    WalkO q loose XP YP l.row.toRowW d [] (fun f vs => PySem.call f vs) := by
  intro w s₀ s₁ mg mb G Y fa o pm cd doc dV kV ho hd hcd hD hmg hg args vals as hpre hlay hrd hwl hlo
  obtain rfl : dV = .none := Dflts.none hD hdf
  obtain rfl : kV = .none := Dflts.noKw hD
  obtain ⟨a, vs, ns, rfl, rfl, hobj, hints, hlen⟩ := script_of hn hpre hwl
  refine enter_call (codeAny_mono (call w s₀ s₁ mg mb fa o pm cd doc a vs ns G Y ho (fd_plain hd) hcd hmg hobj hints hlen hg) fun r s' hq => ?_)
  obtain ⟨rfl, h2, h3, h4⟩ := hq
  exact ⟨.inl ⟨.bool true, .bool true, [], rfl, fun _ => rfl, .bool true, post_true l _, fun _ => ⟨List.Pairwise.nil, fun _ hm => (nomatch hm)⟩⟩, h2, h3, h4⟩

/-! ### rules over ANY heap (no ledger) from facts about the written part K: the library's own take a ledger (News) for what they write -/
section
variable {prog : Program} {w : World} {A : Around} {E : Value → Shared → Prop} {s : Shared} {K : Frag}

/-! the whole heap as the ledger: makes every rule that writes through a ledger a rule over any heap -/
def ledger (h : Heap) (L d : Addr) : List (Addr × Obj) := (List.range h.objs.size).filterMap fun a => if a = L ∨ a = d then none else (h.get? a).map fun o => (a, o)
end
end Att

namespace L2
open PySem PySem.Spec PyProof.Rows

theorem vals_ints : ∀ {vs : List Value} {ns : List Int}, IntsAre vs ns → Vals (ns.map V.int) vs
  | _, _, .nil => .nil
  | _, _, .cons n t h => .cons ⟨t, rfl⟩ (vals_ints h)

/-- nothing is tracked but the script, known to the object (or it is an object of the module) -/
def Only (H : Hp) : Prop := ∀ b, H b = none ∨ ∃ o xs, H b = some (.frz o (.lst xs))

/-- THE HEAD: the law's promise, at the heap behind the top. F, the promise of the law's def, may use that base is part of the heap (so K.In base, base.Ns mainGlobals mg stand in Mod) -/
theorem law_call {P : Program} {w : World} {K : PySem.W.Frag} {mg mb : Str → Option Value} {CX : CXT} {k : Nat} {fa a : Addr} {fd : FuncData} {x : Str} {sp : Sp} {s₁ : Shared} {vs : List Value} {ns : List Int}
    (KX : K.In s₁.heap) (hns : s₁.heap.Ns mainGlobals mg) (hb : s₁.heap.Ns builtinsNs mb) (hbb : ∀ x : Str, x ≠ "__name__" → mb x = bootBuiltins x) (hlim : s₁.heap.NoLimit) (hg : s₁.gens = #[])
    (ha : s₁.heap.get? a = some { cls := .type "list", data := .seq vs.toArray }) (hi : IntsAre vs ns) (hl : ns.length ≤ sizeLine) (hr : Room k callerA)
    (F : ∀ base : Heap, K.In base → base.Ns mainGlobals mg → FnOk P w K mg base CX k fa fd [x] sp) (hbind : ∀ (s : Shared) (u : Value), BindsTo s fd ⟨[u], []⟩ [(x, u)])
    (hsp : ∀ H : Hp, Only H → SqL K H a (ns.map V.int) → sp [.ref a] H (fun v _ => v = .bl true) fun _ _ _ => False)
    (hCX : ∀ H e s', CX [] H s₁ (fun _ _ _ => False) e s' → False) :
    codeAny (model P w) callerA (.call (.ref fa) ⟨[.ref a], []⟩) (fun r s' => r = .ok (.ret (.bool true)) ∧ OldK s₁.heap s'.heap ∧ s'.os = s₁.os ∧ AllBare s'.gens) s₁ := by
  have rv := vals_ints hi
  have lenV := hi.length
  -- from an abstract heap in which nothing but the script may be tracked
  have core : ∀ H : Hp, Only H → SqL K H a (ns.map V.int) → HOk P w H s₁.heap → (∀ b, H b ≠ none → b = a) → (H a ≠ none → K.lookup a = none) →
      codeAny (model P w) callerA (.call (.ref fa) ⟨[.ref a], []⟩) (fun r s' => r = .ok (.ret (.bool true)) ∧ OldK s₁.heap s'.heap ∧ s'.os = s₁.os ∧ AllBare s'.gens) s₁ := by
    intro H hO hS hok hA hK
    have base_of : ∀ {b : Addr} {o : Obj}, s₁.heap.get? b = some o → H b = none → (hidT s₁.heap H).get? b = some o := fun e n => hidT_get e n
    have noA : ∀ {b : Addr} {o : Obj} {es : Array DictEntry} {ep : Nat}, s₁.heap.get? b = some o → o.data = .dict es ep → H b = none := fun {b o es ep} e d => by
      cases q : H b with
      | none => rfl
      | some u =>
        have e' : b = a := hA b (by rw [q]; simp)
        subst e'
        rw [ha] at e; cases e
        have d' : Data.seq vs.toArray _ = Data.dict es ep := d
        cases d'
    have nsK : ∀ {b : Addr} {m : Str → Option Value}, s₁.heap.Ns b m → (hidT s₁.heap H).Ns b m := fun {b m} ⟨o, es, ep, e, d, r⟩ => ⟨o, es, ep, base_of e (noA e d), d, r⟩
    have hKb : K.In (hidT s₁.heap H) := fun b o e => base_of (KX b o e) (by
      cases q : H b with
      | none => rfl
      | some u =>
        have e' : b = a := hA b (by rw [q]; simp)
        subst e'
        rw [hK (by rw [q]; simp)] at e; cases e)
    have hM : Mod K mg (hidT s₁.heap H) := ⟨hKb, nsK hns, ⟨mb, nsK hb, hbb⟩, let ⟨mc, h1, h2⟩ := hlim; ⟨mc, nsK h1, h2⟩⟩
    have e0 : Env0 P w K mg (hidT s₁.heap H) callerA [] s₁ H := ⟨rfl, hM, fun b o e => of_hidT e, Nat.le_of_eq (hidT_size _ _), trivial, fun b hb => absurd (show b ∈ ([] : List Addr) from hb) (by simp), hok, .of_eq hg⟩
    refine codeAny_mono ((F _ hKb (nsK hns)).run callerA [] s₁ H ⟨[.ref a], []⟩ [.ref a] [.ref a] _ _ hr e0 (hbind s₁ (.ref a)) (.cons rfl .nil) (hsp H hO hS)) fun r s' h => ?_
    cases r with
    | error e => exact (hCX H e s' h).elim
    | ok fl =>
      cases fl with
      | next => exact False.elim h
      | brk => exact False.elim h
      | cont => exact False.elim h
      | ret u =>
        obtain ⟨v, H', os, bare, un, hok', r', q⟩ := h
        have q' : v = .bl true := q
        subst q'
        obtain rfl : u = Value.bool true := r'
        refine ⟨rfl, OldK.of_keep fun b o e => ?_, os, bare⟩
        cases q : H b with
        | none => exact un.keep b o e q (by intro z; exact absurd (show b ∈ ([] : List Addr) from z) (by simp)) (by simp)
        | some u =>
          rcases hO b with z | ⟨ob, xs, z⟩
          · rw [q] at z; cases z
          · have z2 := un.frzs b ob _ z
            obtain ⟨e1, _⟩ := hok b _ z
            obtain ⟨e2, _⟩ := hok' b _ z2
            rw [e] at e1; cases e1
            exact e2
  cases hk : K.lookup a with
  | some o =>
    -- the script is one of the module's own objects
    have e := KX a o hk
    rw [ha] at e
    cases e
    refine core (fun _ => none) (fun _ => .inl rfl) (.inr ⟨_, vs.toArray, _, hk, rfl, rfl, rfl, by rw [List.size_toArray, lenV]; exact hl, by simpa using rv⟩) (fun b u z => by have z' : (none : Option HO) = some u := z; cases z') (fun b z => absurd rfl z) fun z => absurd rfl z
  | none =>
    refine core (fun b => if b = a then some (.frz { cls := .type "list", data := .seq vs.toArray } (.lst (ns.map V.int))) else none) (fun b => ?_) (.inl (.inr ⟨{ cls := .type "list", data := .seq vs.toArray }, if_pos rfl⟩)) (fun b u z => ?_) (fun b z => ?_) fun _ => hk
    · by_cases hb : b = a
      · exact .inr ⟨_, _, if_pos hb⟩
      · exact .inl (if_neg hb)
    · by_cases hb : b = a
      · have z' := (if_pos hb).symm.trans z
        cases z'
        subst hb
        exact ⟨ha, by rw [List.length_map]; exact hl, vs, _, rv, ha⟩
      · have z' := (if_neg hb).symm.trans z
        cases z'
    · by_cases hb : b = a
      · exact hb
      · exact absurd (if_neg hb) z
end L2

namespace L2
open PySem PySem.Spec PyProof.Rows

abbrev KOf {K : PySem.W.Frag} {h : Heap} (_ : K.In h) : PySem.W.Frag := K

/-- the goal that k_head leaves (case hc), from the law's promise. F gives the function object fd (K's own) once, then the promise over every base -/
theorem walk_of {l : PySem.W.OpenLaw} {n k : Nat} {q : Program} {loose : List Str} {XP : (Str → Option Value) → Heap → Prop} {YP : World → Heap → Prop} {d : DefRec} {K : Params → PySem.W.Frag} {CX : World → CXT} {sp : World → Sp} {x : Str}
    (hn : l.most = some n) (hn2 : n ≤ sizeLine) (hdf : d.params.defaults = []) (hr : Room k callerA)
    (hY : ∀ (w : World) (h : Heap), YP w h → (K w.params).In h)
    (F : ∀ (w : World) (mg : Str → Option Value) (fa : Addr) (h : Heap), (K w.params).In h → h.Ns mainGlobals mg → mg d.name = some (.ref fa) →
      ∃ fd : FuncData, (∀ (s : Shared) (u : Value), BindsTo s fd ⟨[u], []⟩ [(x, u)]) ∧
        ∀ base : Heap, (K w.params).In base → base.Ns mainGlobals mg → FnOk l.prog w (K w.params) mg base (CX w) k fa fd [x] (sp w))
    (hsp : ∀ (w : World) (H : Hp) (a : Addr) (ns : List Int), ns.length ≤ n → Only H → SqL (K w.params) H a (ns.map V.int) → sp w [.ref a] H (fun v _ => v = .bl true) fun _ _ _ => False)
    (hCX : ∀ (w : World) (H : Hp) (s : Shared) (e : Value) (s' : Shared), CX w [] H s (fun _ _ _ => False) e s' → False) :
    PySem.W.WalkO q loose XP YP l.row.toRowW d [] (fun f vs => PySem.call f vs) := by
  refine Att.attach_call hn hdf fun w s₀ s₁ mg mb fa o pm cd doc a vs ns G Y ho hd hcd hmg hobj hints hlen hg => ?_
  have KX := hY w _ Y
  obtain ⟨fd, hb, hF⟩ := F w mg fa _ KX G.T.g hmg
  exact law_call KX G.T.g G.T.b G.T.builtins G.T.nolimit hg hobj hints (Nat.le_trans hlen hn2) hr hF hb (fun H hO hS => hsp w H a ns hlen hO hS) fun H e s' => hCX w H s₁ e s'
end L2

/- THE LAST THEOREM (shape; LID, My.* are yours):
   My.Adr: a structure of the addresses that your layer names (classes, functions); My.Txt K t: a structure (Prop) of the equations over K;
   My.txt_mk : {K} {implicit addresses ..} (e1 : nsIn K mainGlobals "law" = some (some (.ref f))) (e2 : K.lookup f = some ⟨oc, od, .func (fnOf "law" "law" params body scope dV kV doc pm an cdv ct), sl⟩) (e3 : codeIn K cdv "law" = true) .. : ∃ t, My.Txt K t

(the tactic k_is has no namespace: write k_is) -/

/-! SHORT WORDS over the layer: a def of the text, its body, what a loop and a test want. -/
namespace L2
open PySem PySem.Spec PyProof.Rows

/-- the j-th statement of a class's body -/
def inClass (s : Stmt) (j : Nat) : Stmt := match s with
  | .ClassDef _ _ _ body _ _ _ _ _ _ _ => body.getD j (.Pass ⟨0, 0, 0, 0⟩)
  | _ => .Pass ⟨0, 0, 0, 0⟩
def defArgs (s : Stmt) : Arguments := match s with
  | .FunctionDef _ a _ _ _ _ _ _ _ _ => a
  | _ => { posonlyargs := [], args := [], vararg := none, kwonlyargs := [], kw_defaults := [], kwarg := none, defaults := [] }
def defBody (s : Stmt) : List Stmt := match s with
  | .FunctionDef _ _ b _ _ _ _ _ _ _ => b
  | _ => []
def defScope (s : Stmt) : Scope := match s with
  | .FunctionDef _ _ _ _ _ _ sc _ _ _ => sc
  | _ => { kind := .function, names := [], isGenerator := false, isCoroutine := false }

/-! ### no exception leaves a def -/
abbrev CX0 : CXT := fun _ _ _ _ _ _ => False
abbrev E0 : XK := fun _ _ _ => False
/-! ### a def (or method) of the text as it stands behind the top -/
structure Fun (K : PySem.W.Frag) (x qual : Str) (st : Stmt) (f : Addr) (fd : FuncData) : Prop where
  ex : ∃ (oc : Value) (od : Option Addr) (kV doc pm : Value) (an : Option Addr) (cdv ct : Value) (osl : Array (Option Value)),
    fd = PySem.W.fnOf x qual (defArgs st) (defBody st) (defScope st) .none kV doc pm an cdv ct ∧ K.lookup f = some ⟨oc, od, .func fd, osl⟩ ∧ PySem.W.codeIn K cdv qual = true
  kp : PySem.W.keepIn K (.ref f) = true
section
variable {P : Program} {w : World} {K : PySem.W.Frag} {mg : Str → Option Value} {base : Heap}
/-- THE RULE for a def: its body as a term of rules, and the reading of that term -/
theorem Fun.ok {x qual : Str} {st : Stmt} {f : Addr} {fd : FuncData} {N ps : List Str} {k : Nat} {sp : Sp} (F : Fun K x qual st f fd) (S : FnScope N ps (defScope st)) (len : ∀ vs H Q E, sp vs H Q E → vs.length = ps.length)
    (hbody : ∀ (cdv : Value) (A : Around) (outer : List Env) (s : Shared) (H : Hp) (vs : List V) (Q : VK) (E : XK), Room k (A.deeper (envOfC qual (defScope st) s.heap.objs.size f cdv)) → sp vs H Q E →
      ∃ t, PSs (cxOf CX0 P w K mg base N qual (defScope st) f cdv A outer s H E).nox (defBody st) t ∧ t { nx := fun _ H' => Q .non H', rt := Q } (start N vs) H) : FnOk P w K mg base CX0 (k + 1) f fd ps sp := by
  obtain ⟨oc, od, kV, doc, pm, an, cdv, ct, osl, rfl, lk, hcd⟩ := F.ex
  refine fn_of lk hcd S len fun A outer s H vs Q E hr hsp => ?_
  obtain ⟨t, h, q⟩ := hbody cdv A outer s H vs Q E hr hsp
  exact ⟨t, h.nox, q⟩
/-- how its arguments bind (no defaults): h is «fun _ _ _ _ _ _ us hl => match us, hl with | [_, _], _ => rfl», one _ a parameter -/
theorem Fun.binds {x qual : Str} {st : Stmt} {f : Addr} {fd : FuncData} {ps : List Str} (F : Fun K x qual st f fd)
    (h : ∀ (kV doc pm : Value) (an : Option Addr) (cdv ct : Value) (us : List Value), us.length = ps.length → bindArgs (PySem.W.fnOf x qual (defArgs st) (defBody st) (defScope st) .none kV doc pm an cdv ct) ⟨us, []⟩ = pure (ps.zip us)) : Binds K fd ps [] := by
  obtain ⟨oc, od, kV, doc, pm, an, cdv, ct, osl, rfl, lk, hcd⟩ := F.ex
  exact .all (h kV doc pm an cdv ct)
theorem fun_mk {x qual : Str} {st : Stmt} {f : Addr} {oc : Value} {od an : Option Addr} {osl : Array (Option Value)} {kV doc pm cdv ct : Value} (l : K.lookup f = some ⟨oc, od, .func (PySem.W.fnOf x qual (defArgs st) (defBody st) (defScope st) .none kV doc pm an cdv ct), osl⟩)
    (c : PySem.W.codeIn K cdv qual = true) (k : PySem.W.keepIn K (.ref f) = true) : Fun K x qual st f (PySem.W.fnOf x qual (defArgs st) (defBody st) (defScope st) .none kV doc pm an cdv ct) := ⟨⟨oc, od, kV, doc, pm, an, cdv, ct, osl, rfl, l, c⟩, k⟩
end
/-! ### expressions in short: the name that stands in the i-th slot -/
section
variable {X : Cx}
theorem pv (i : Nat) {x : Str} {pos : Pos} (hN : X.N[i]? = some x := by rfl) (hv : Vis X.env.scope x := by first | exact Or.inl rfl | exact Or.inr (Or.inl rfl) | exact Or.inr (Or.inr rfl)) (hd : (x == ("__debug__" : Str)) = false := by decide)
    (hcd : (x == ("__classdict__" : Str)) = false := by decide) : PE X (.Name x pos) (tVar i) := pe_var hN hv hd hcd
end

/-! ### tests -/
theorem iteF {A B : Prop} (h : B) : if false = true then A else B := by
  rw [if_neg Bool.false_ne_true]
  exact h
theorem iteT {A B : Prop} (h : A) : if true = true then A else B := by
  rw [if_pos rfl]
  exact h
/-- all that was tracked is as it was -/
def Same (H H' : Hp) : Prop := ∀ b o, H b = some o → H' b = some o
theorem Same.seq {K : PySem.W.Frag} {H H' : Hp} {a : Addr} {xs : List V} (e : Same H H') (h : SqL K H a xs) : SqL K H' a xs := by
  rcases h with (h | ⟨o, h⟩) | h
  · exact .inl (.inl (e _ _ h))
  · exact .inl (.inr ⟨o, e _ _ h⟩)
  · exact .inr h

end L2
namespace L2
open PySem PySem.Spec PyProof.Rows

/-! ### closures -/
theorem forIn_clos {env : Env} : ∀ (names : List (Str × NameKind)) (acc : List (Str × Addr)), (∀ x ∈ names, x.2 = .free → ∃ c, env.cells.lookup x.1 = some c) →
    (∀ x c, acc.lookup x = some c → env.cells.lookup x = some c) →
    ∃ cl, (forIn names acc fun x r => (if (x.2 == NameKind.free) = true then (do let a ← cellOf env x.1; pure (ForInStep.yield ((x.1, a) :: r))) else pure (ForInStep.yield r)) : Sem (List (Str × Addr))) = pure cl ∧
      (∀ x c, cl.lookup x = some c → env.cells.lookup x = some c) ∧ (∀ x ∈ names, x.2 = .free → ∃ c, cl.lookup x.1 = some c) ∧ ∀ x c, acc.lookup x = some c → ∃ c', cl.lookup x = some c' := by
  intro names
  induction names with
  | nil => intro acc _ h; exact ⟨acc, rfl, h, fun x hx => absurd hx (by simp), fun x c e => ⟨c, e⟩⟩
  | cons x r ih =>
    intro acc hf h
    obtain ⟨n, k⟩ := x
    by_cases hk : k = .free
    · subst hk
      obtain ⟨c, hc⟩ := hf (n, .free) List.mem_cons_self rfl
      have hc : env.cells.lookup n = some c := hc
      obtain ⟨cl, e1, e2, e3, e4⟩ := ih ((n, c) :: acc) (fun y hy => hf y (List.mem_cons_of_mem _ hy)) (fun y d e => by
        rw [List.lookup_cons] at e
        cases q : y == n with
        | true => rw [q] at e; cases e; have := eq_of_beq q; subst this; exact hc
        | false => rw [q] at e; exact h y d e)
      refine ⟨cl, ?_, e2, fun y hy hyf => ?_, fun y d e => ?_⟩
      · rw [List.forIn_cons]
        simp only [beq_self_eq_true, if_true]
        unfold cellOf
        simp only [hc, pure_bind]
        exact e1
      · rcases List.mem_cons.mp hy with z | z
        · subst z
          exact e4 n c (by rw [List.lookup_cons]; simp)
        · exact e3 y z hyf
      · by_cases q : y = n
        · subst q; exact e4 y c (by rw [List.lookup_cons]; simp)
        · exact e4 y d (by rw [List.lookup_cons, beq_false_of_ne q]; exact e)
    · obtain ⟨cl, e1, e2, e3, e4⟩ := ih acc (fun y hy => hf y (List.mem_cons_of_mem _ hy)) h
      refine ⟨cl, ?_, e2, fun y hy hyf => ?_, e4⟩
      · rw [List.forIn_cons]
        have : (k == NameKind.free) = false := by simpa using hk
        simp only [this, Bool.false_eq_true, if_false, pure_bind]
        exact e1
      · rcases List.mem_cons.mp hy with z | z
        · subst z; exact absurd hyf hk
        · exact e3 y z hyf
theorem closure_of {env : Env} {scope : Scope} (hf : ∀ x ∈ scope.names, x.2 = .free → ∃ c, env.cells.lookup x.1 = some c) :
    ∃ cl, closureFor scope env = pure cl ∧ (∀ x c, cl.lookup x = some c → env.cells.lookup x = some c) ∧ ∀ x ∈ scope.names, x.2 = .free → ∃ c, cl.lookup x.1 = some c := by
  obtain ⟨cl, e1, e2, e3, _⟩ := forIn_clos scope.names [] hf (fun x c e => by simp at e)
  refine ⟨cl, ?_, e2, e3⟩
  unfold closureFor
  first
    | exact e1
    | (rw [← e1]; rfl)
    | (simp only [bind_pure]; exact e1)

theorem lookup_relabel {env : Env} : ∀ {names : List (Str × NameKind)} {x : Str} {k : NameKind},
    (names.map fun (n, k) => if (k == NameKind.free && env.scope.kind == .function && env.kindOf n == some .cell) then (n, NameKind.cell) else (n, k)).lookup x = some k →
    k = .cell ∨ k = .free → (∀ y ∈ names, y.2 ≠ .cell) → (x, NameKind.free) ∈ names
  | [], _, _, h, _, _ => by simp at h
  | (n, k0) :: r, x, k, h, hk, hc => by
    have ih := @lookup_relabel env r x k
    rw [List.map_cons] at h
    dsimp only at h
    by_cases hx : x = n
    · subst hx
      by_cases hcond : (k0 == NameKind.free && env.scope.kind == .function && env.kindOf x == some .cell) = true
      · have : k0 = .free := by
          simp only [Bool.and_eq_true] at hcond
          exact eq_of_beq hcond.1.1
        subst this
        exact List.mem_cons_self
      · rw [if_neg hcond, List.lookup_cons] at h
        simp only [beq_self_eq_true] at h
        cases h
        rcases hk with rfl | rfl
        · exact absurd rfl (hc _ List.mem_cons_self)
        · exact List.mem_cons_self
    · have hb : (x == n) = false := beq_false_of_ne hx
      refine List.mem_cons_of_mem _ (ih ?_ hk fun y hy => hc y (List.mem_cons_of_mem _ hy))
      split at h
      · rw [List.lookup_cons, hb] at h; exact h
      · rw [List.lookup_cons, hb] at h; exact h

/-- the context of a comprehension's block -/
def cxComp (X : Cx) (N : List Str) (scope : Scope) (cl : List (Str × Addr)) (C : Addr) (s : Shared) (H : Hp) (fp : List Addr) : Cx where
  prog := X.prog
  w := X.w
  K := X.K
  mg := X.mg
  base := X.base
  A := X.A
  N := N
  s₀ := s
  H₀ := H
  env := compEnvC scope cl C X.env
  outer := X.stack
  stack := X.stack
  ex := fp
  calm := X.calm
  fn := fun _ => false
  pn := []
  xe := fun _ _ => False

/-- the block's names: its own ones (none), those of the frame around it (the slot there) -/
inductive Caps (X : Cx) (scope : Scope) : List Str → List (Option Nat) → Prop
  | nil : Caps X scope [] []
  | own {x : Str} {N : List Str} {js : List (Option Nat)} (t : Caps X scope N js) : Caps X scope (x :: N) (none :: js)
  | cap {x : Str} {j : Nat} {N : List Str} {js : List (Option Nat)} (h1 : X.N[j]? = some x) (h2 : X.env.kindOf x = some .cell ∨ X.env.kindOf x = some .free)
      (h3 : (relabel scope X.env).names.lookup x = some .cell ∨ (relabel scope X.env).names.lookup x = some .free) (t : Caps X scope N js) : Caps X scope (x :: N) (some j :: js)
theorem Caps.len {X : Cx} {scope : Scope} {N : List Str} {js : List (Option Nat)} (c : Caps X scope N js) : js.length = N.length := by
  induction c with
  | nil => rfl
  | own _ ih => simp [ih]
  | cap _ _ _ _ ih => simp [ih]
theorem Caps.get {X : Cx} {scope : Scope} {N : List Str} {js : List (Option Nat)} (c : Caps X scope N js) : ∀ {i j : Nat} {x : Str}, js[i]? = some (some j) → N[i]? = some x →
    X.N[j]? = some x ∧ (X.env.kindOf x = some .cell ∨ X.env.kindOf x = some .free) ∧ ((relabel scope X.env).names.lookup x = some .cell ∨ (relabel scope X.env).names.lookup x = some .free) := by
  induction c with
  | nil => intro i j x h; simp at h
  | own _ ih =>
    intro i j x h1 h2
    cases i with
    | zero => simp at h1
    | succ i => exact ih (by simpa using h1) (by simpa using h2)
  | cap a b d _ ih =>
    intro i j x h1 h2
    cases i with
    | zero =>
      simp at h1 h2
      subst h1 h2
      exact ⟨a, b, d⟩
    | succ i => exact ih (by simpa using h1) (by simpa using h2)

/-- the block's names at its entry -/
def capV (js : List (Option Nat)) (σ : St) : St := js.map fun o => o.bind fun j => (σ[j]?).join
/-- the captured names stay -/
def KeepsV (σ σ' : St) : Prop := σ'.length = σ.length ∧ ∀ (i : Nat) v, σ[i]? = some (some v) → σ'[i]? = some (some v)
theorem KeepsV.refl (σ : St) : KeepsV σ σ := ⟨rfl, fun _ _ h => h⟩
section
variable {X : Cx}
/-- the tests of a clause -/
def PIf (X : Cx) (ifs : List Expr) (t : TT) : Prop :=
  ∀ (pins : List (Addr × Obj)) (s : Shared) (σ : St) (H : Hp) (Q : Bool → Hp → Prop), Inv X pins σ H s → t σ H Q →
    wpAny (model X.prog X.w) X.A (forIn ifs true fun c r => if r = true then do let ok ← isTrue c X.env (eval c X.env); pure (ForInStep.yield ok) else pure (ForInStep.yield r)) (TP X pins σ Q) X.xe s
def tYes : TT := fun _ H Q => Q true H
theorem pif_nil : PIf X [] tYes := by
  intro pins s σ H Q I h
  show wpAny _ _ (pure true) _ _ s
  exact wpAny_pure ⟨H, I, h⟩
theorem pif_one {c : Expr} {t : TT} (h : PT X c t) : PIf X [c] t := by
  intro pins s σ H Q I hq
  rw [List.forIn_cons]
  simp only [if_true]
  refine wpAny_bind (wpAny_bind (thn (h pins s σ H Q I hq) fun b s1 q => wpAny_pure ?_))
  show wpAny _ _ (pure b) _ _ s1
  exact wpAny_pure q
end

/-- the block's judgement for one item: any way it is entered -/
def BlockOk (X : Cx) (N : List Str) (scope : Scope) (js : List (Option Nat)) (tg elt : Expr) (ifs : List Expr) (σ : St) (x : V) (H : Hp) (R : Option V → Hp → Prop) : Prop :=
  ∀ (cl : List (Str × Addr)) (C : Addr) (s : Shared) (H0 : Hp) (fp : List Addr), ∃ (g : TG) (tt : TT) (te : TE), PG (cxComp X N scope cl C s H0 fp) tg g ∧ PIf (cxComp X N scope cl C s H0 fp) ifs tt ∧ PE (cxComp X N scope cl C s H0 fp) elt te ∧
    ∀ σ0, KeepsV (capV js σ) σ0 → g x σ0 H fun σ2 H2 => KeepsV (capV js σ) σ2 ∧ tt σ2 H2 fun b H3 => if b = true then te σ2 H3 fun y H4 => R (some y) H4 else R none H3

/-- [elt for tg in iter if ..]: W by the turn and the list so far; at most n turns -/
def compK (X : Cx) (N : List Str) (scope : Scope) (js : List (Option Nat)) (tg elt : Expr) (ifs : List Expr) (σ : St) (Q : VK) (J : It) (H1 : Hp) : Prop := ∃ (n : Nat) (W : Nat → List V → Hp → Prop), n ≤ sizeLine ∧ W 0 [] H1 ∧
  ∀ i ys H, W i ys H → ys.length ≤ i ∧ ((J.stop i H ∧ ∀ p, H p = none → Q (.ref p) (upd H p (.lst ys))) ∨ (J.go i H ∧ i < n ∧ ∃ R : Option V → Hp → Prop, (∀ y H2, R (some y) H2 → W (i + 1) (ys ++ [y]) H2) ∧ (∀ H2, R none H2 → W (i + 1) ys H2) ∧
    ∀ x H', J.yld i H x H' → BlockOk X N scope js tg elt ifs σ x H' R))
def tComp (X : Cx) (N : List Str) (scope : Scope) (js : List (Option Nat)) (tg elt : Expr) (ifs : List Expr) (wi : TI) : TE := fun σ H Q => wi σ H (compK X N scope js tg elt ifs σ Q)
end L2
namespace L2
open PySem PySem.Spec PyProof.Rows
section
variable {prog : Program} {w : World} {A : Around} {R : Result → Shared → Prop} {s : Shared}
theorem compLoop_any {elt target iter : Expr} {ifs : List Expr} {scope : Scope} {pos : Pos} {it acc : Value} {env : Env} (I : Nat → Shared → Prop)
    (turn : ∀ n s, I n s → wpAny (model prog w) A (pyNext it) (fun r s1 => match r with
      | none => R (.ok .next) s1
      | some v => wpAny (model prog w) A (letOwnedTupleGo target it v) (fun _ s1' => wpAny (model prog w) A (assign target env v) (fun _ s2 =>
          wpAny (model prog w) A (forIn ifs true fun c r => if r = true then do let ok ← isTrue c env (eval c env); pure (ForInStep.yield ok) else pure (ForInStep.yield r)) (fun ok s3 =>
            if ok = true then wpAny (model prog w) A (eval elt env) (fun x s4 =>
              wpAny (model prog w) A (call (.builtin "list.append") [acc, x]) (fun _ s5 => ∃ m, m < n ∧ I m s5) (fun _ _ => False) s4) (fun _ _ => False) s3
            else ∃ m, m < n ∧ I m s3) (fun _ _ => False) s2) (fun _ _ => False) s1') (fun _ _ => False) s1) (fun _ _ => False) s)
    (n : Nat) (h : I n s) :
    codeAny (model prog w) A (.compLoop (.ListComp elt [⟨target, iter, ifs, 0⟩] scope pos) 0 it acc env) R s := by
  refine codeAny_loop rfl I (fun n s hI => ?_) n h
  show wpAny _ A ((compTurn (.ListComp elt [⟨target, iter, ifs, 0⟩] scope pos) 0 it acc env).onRaise (fun x => do noteFrame x env; theTreesLotGoes x)) _ _ s
  refine wpAny_noted ?_
  rw [compTurn_list]
  have nr : ∀ {α : Type} {t : Sem α} {Q : α → Shared → Prop} {E' : Value → Shared → Prop} {s : Shared}, wpAny (model prog w) A t Q (fun _ _ => False) s → wpAny (model prog w) A t Q E' s := fun h => wpAny_mono h (fun _ _ q => q) fun _ _ f => f.elim
  refine wpAny_bind (wpAny_standAt (wpAny_bind (wpAny_mono (turn n s hI) (fun r s₁ h₁ => ?_) fun _ _ h' => h'.elim)))
  cases r with
  | none => exact wpAny_pure h₁
  | some v =>
    refine wpAny_bind (wpAny_mono h₁ (fun _ s1' h1' => ?_) fun _ _ f => f.elim)
    refine wpAny_bind (wpAny_mono h1' (fun _ s₂ h₂ => wpAny_bind (wpAny_mono h₂ (fun ok s₃ h₃ => ?_) fun _ _ h' => h'.elim)) fun _ _ h' => h'.elim)
    cases ok with
    | false => exact wpAny_pure ⟨rfl, h₃⟩
    | true =>
      exact wpAny_bind (wpAny_bind (wpAny_mono h₃ (fun x s₄ h₄ => wpAny_bind (wpAny_mono h₄ (fun _ s₅ h₅ => wpAny_pure (wpAny_pure ⟨rfl, h₅⟩)) fun _ _ h' => h'.elim)) fun _ _ h' => h'.elim))
end

/-- an object that stands untracked is tracked -/
theorem HOk.track {P : Program} {w : World} {H : Hp} {h : Heap} {a : Addr} {o : HO} (x : HOk P w H h) (hn : H a = none) (new : ObjOk P w (upd H a o) h a o) : HOk P w (upd H a o) h := fun b u e => by
  by_cases hb : b = a
  · subst hb; rw [upd_same] at e; cases e; exact new
  · rw [upd_ne hb] at e
    exact (x b u e).stay (fun c v _ q => q) (fun c q => by rw [upd_ne (ne_of_none q hn)]; exact q) (fun c xs q => by rw [upd_ne (ne_of_none q hn)]; exact q) fun c xs q => by rw [upd_ne (ne_of_none q hn)]; exact q

section
variable {X : Cx} {pins : List (Addr × Obj)} {σ : St}
/-- behind a block: the new list tracked, the block's own dict at C left over -/
structure CompEnd (X : Cx) (pins : List (Addr × Obj)) (σ : St) (D C : Addr) (ys : List V) (H' : Hp) (s' : Shared) : Prop where
  inv : Inv X pins σ (upd H' D (.lst ys)) s'
  ns : ∃ m, s'.heap.Ns C m
  fp : FpOk X pins (upd H' D (.lst ys)) C
  nD : H' D = none
theorem CompEnd.gone {D C : Addr} {ys : List V} {H H' : Hp} {s' : Shared} {h'' : Heap} {σ' : St} (I : Inv X pins σ' H s') (fp : FpOk X pins H C) (hs : Heap.SameBut C s'.heap h'') : Inv X pins σ' H { s' with heap := h'' } :=
  I.turned (it := C) (t' := s'.toks) (fun b o hb e => (hs.2 b hb).trans e) fp.1 fp.2.1 fp.2.2.2.1 fp.2.2.2.2.1 fp.2.2.2.2.2

theorem append_plain {prog : Program} {w : World} {A : Around} {E : Value → Shared → Prop} {s : Shared} {l : Addr} {items : Array Value} {nn : Nat} {x : Value} {Q : Value → Shared → Prop} (e : s.heap.get? l = some { cls := .type "list", dict := none, data := .seq items nn }) (hz : items.size ≤ sizeLine)
    (hQ : ∀ nn' h', h'.get? l = some { cls := .type "list", dict := none, data := .seq (items.push x) nn' } → Heap.SameBut l s.heap h' → Q .none { s with heap := h' }) :
    wpAny (model prog w) A (call (.builtin "list.append") [.ref l, x]) Q E s := by
  refine call_meets F.slot_list_append ⟨_, e, rfl⟩ F.entry_list_append (F.args_list_append_2 _ _) (PySem.list_append l items nn x (by omega)) ⟨e, ?_⟩
  exact hQ _ _ (Heap.get?_update_self _ e rfl) (Heap.SameBut.update ..)
theorem comp_block {N : List Str} {js : List (Option Nat)} {scope : Scope} {tg elt iter : Expr} {ifs : List Expr} {cl : List (Str × Addr)} {pos : Pos} {it : Addr} {fp : List Addr} {tn : Nat → Heap → Prop} {J : It} {s2 : Shared} {H2 : Hp} {E : Value → Shared → Prop}
    {RR : Value → Addr → Result → Shared → Prop} {Q : VK} (hc : X.calm = true) (caps : Caps X scope N js) (hkind : scope.kind = .function) (hcell : ∀ y ∈ scope.names, y.2 ≠ .cell)
    (hcl1 : ∀ x c, cl.lookup x = some c → X.env.cells.lookup x = some c) (hcl2 : ∀ x ∈ scope.names, x.2 = .free → ∃ c, cl.lookup x.1 = some c)
    (I : Inv X pins σ H2 s2) (T : Turn X.prog X.w X.K tg J fp it tn) (st2 : tn 0 s2.heap) (f2 : ∀ b ∈ fp, FpOk X pins H2 b) (n : Nat) (W : Nat → List V → Hp → Prop) (hn : n ≤ sizeLine) (w0 : W 0 [] H2)
    (turn : ∀ i ys H, W i ys H → ys.length ≤ i ∧ ((J.stop i H ∧ ∀ p, H p = none → Q (.ref p) (upd H p (.lst ys))) ∨ (J.go i H ∧ i < n ∧ ∃ R : Option V → Hp → Prop, (∀ y H2, R (some y) H2 → W (i + 1) (ys ++ [y]) H2) ∧ (∀ H2, R none H2 → W (i + 1) ys H2) ∧
      ∀ x H', J.yld i H x H' → BlockOk X N scope js tg elt ifs σ x H' R)))
    (hRR : ∀ D C ys H' s', CompEnd X pins σ D C ys H' s' → Q (.ref D) (upd H' D (.lst ys)) → RR (.ref D) C (.ok .next) s') :
    wpAny (model X.prog X.w) X.A (newList []) (fun acc s3 => wpAny (model X.prog X.w) X.A (newFunctionEnv scope X.env.globals cl [] X.env.qual none .none (some X.env)) (fun cenv s4 =>
      codeAny (model X.prog X.w) X.A (.compStart (.ListComp elt [⟨tg, iter, ifs, 0⟩] scope pos) 0 (.ref it) acc { cenv with scope := relabel scope X.env }) (RR acc cenv.locals) s4) E s3) E s2 := by
  refine wpAny_newObj_type (wpAny_newFunctionEnv hcell (by intro y hy; simp at hy) (fun h₁ hns₁ hsb₁ => ?_) hkind)
  dsimp only at hns₁ hsb₁ ⊢
  generalize hHh : s2.heap.push { cls := .type "list", dict := none, data := .seq ([] : List Value).toArray } = Hh at hns₁ hsb₁ ⊢
  have hC : Hh.objs.size = s2.heap.objs.size + 1 := by rw [← hHh, Heap.size_push]
  have hDC : s2.heap.objs.size ≠ Hh.objs.size := by rw [hC]; exact Nat.ne_of_lt (Nat.lt_succ_self _)
  have hCle : s2.heap.objs.size ≤ Hh.objs.size := by rw [hC]; exact Nat.le_succ _
  have old : ∀ b o, s2.heap.get? b = some o → h₁.get? b = some o := fun b o e => hsb₁.extBut b o (by rw [hC]; exact Nat.ne_of_lt (Nat.lt_succ_of_lt (Heap.lt_size e))) (Heap.get?_push_of_some _ (hHh ▸ Heap.get?_push_of_some _ e))
  have haccO : h₁.get? s2.heap.objs.size = some { cls := .type "list", dict := none, data := .seq ([] : List Value).toArray } := hsb₁.extBut _ _ hDC (Heap.get?_push_of_some _ (hHh ▸ Heap.get?_push_size _ rfl))
  have st1 : tn 0 h₁ := T.keep _ _ _ st2 fun b hb o e => old b o e
  have fplt : ∀ b ∈ fp, b < s2.heap.objs.size := fun b hb => by
    obtain ⟨o, e, _⟩ := T.obj _ _ st2 b hb
    exact Heap.lt_size e
  have fsIn : ∀ b ∈ frs X.stack, b < s2.heap.objs.size := fun b hb => by
    rcases List.mem_cons.mp (I.stkSub b hb) with z | z
    · rw [z]; exact I.lt
    · refine Nat.lt_of_not_le fun hle => I.nofs hle z
  have fpC : ∀ b ∈ fp, b ≠ Hh.objs.size := fun b hb z => Nat.lt_irrefl _ (Nat.lt_of_lt_of_le (fplt b hb) (z ▸ hCle))
  generalize hD : s2.heap.objs.size = D at *
  generalize hCc : Hh.objs.size = C at *
  let X' := cxComp X N scope cl C s2 H2 fp
  have ok' : X'.Ok := by
    refine ⟨I.ok.mod, hkind, I.ok.glob, I.ok.blt, by show s2.heap.objs.size ≤ C; rw [hD]; exact hCle, fun x y c e1 e2 => I.ok.inj x y c (hcl1 x c e1) (hcl1 y c e2), fun x hx => ?_, fun x c z => absurd (show false = true from z) Bool.false_ne_true, I.ok.hd, I.ok.frames, .inl rfl, fun b hb => ?_,
      I.bs, Nat.le_trans I.ok.bsz I.sz, fun b o e hb => ?_, fun b hb z => ?_, I.stack, I.stkFree⟩
    · have hm : (x, NameKind.free) ∈ scope.names := by
        rcases hx with z | z
        · exact lookup_relabel (env := X.env) z (.inl rfl) hcell
        · exact lookup_relabel (env := X.env) z (.inr rfl) hcell
      exact hcl2 _ hm rfl
    · exact ⟨fpC b hb, fun x c e => (f2 b hb).2.2.2.2.1 x c (hcl1 x c e)⟩
    · rcases (f2 b hb).2.2.2.1 with z | z
      · exact I.ok.noex b o e z
      · exact absurd (Heap.lt_size (I.ok.bs b o e).1) (Nat.not_lt.mpr z)
    · rcases List.mem_cons.mp (I.stkSub b z) with q | q
      · exact (f2 b hb).2.1 q
      · exact (f2 b hb).2.2.1 q
  have hσl : (capV js σ).length = N.length := by unfold capV; rw [List.length_map, caps.len]
  have freeC : H2 C = none := I.hok.fresh (by rw [hD]; exact hCle)
  have freeD : H2 D = none := I.hok.fresh (by rw [hD]; exact Nat.le_refl _)
  have DnotFs : D ∉ frs X.stack := fun z => Nat.lt_irrefl _ (fsIn D z)
  have DnotFp : D ∉ fp := fun z => Nat.lt_irrefl _ (fplt D z)
  -- the start
  have I0 : ∀ tk, Inv X' [] (capV js σ) H2 { s2 with heap := h₁, toks := tk } := fun tk => by
    refine ⟨ok', rfl, I.bare, Un.kept old, ⟨_, hns₁, fun i x v e1 e2 e3 => ?_⟩, fun x c e => ?_, freeC, fun x c e => I.freeC x c (hcl1 x c e), fun p hp => absurd hp (by show ¬ p ∈ ([] ++ [] : List (Addr × Obj)); simp), I.hok.kept old, hσl⟩
    · unfold capV at e2
      rw [List.getElem?_map] at e2
      cases q : js[i]? with
      | none => rw [q] at e2; cases e2
      | some o =>
        rw [q] at e2
        cases o with
        | none => cases e2
        | some j =>
          have e2' : (σ[j]?).join = some v := Option.some.inj e2
          obtain ⟨c1, c2, c3⟩ := caps.get q e1
          have e4 : σ[j]? = some (some v) := by
            cases z : σ[j]? with
            | none => rw [z] at e2'; cases e2'
            | some u => rw [z] at e2'; have : u = some v := e2'; rw [this]
          obtain ⟨m, hm, hl⟩ := I.loc
          have vis : Vis X.env.scope x := by
            rcases c2 with z | z
            · exact .inr (.inl z)
            · exact .inr (.inr z)
          obtain ⟨u, r, l⟩ := hl j x v c1 e4 vis
          refine ⟨u, r, .inr ⟨c3, ?_⟩⟩
          have lc : ∃ c, X.env.cells.lookup x = some c ∧ s2.heap.IsCell c (some u) := by
            rcases l with ⟨k, _⟩ | ⟨_, z⟩
            · rcases c2 with z | z <;> (rw [k] at z; cases z)
            · exact z
          obtain ⟨c, e5, o, ho, hd⟩ := lc
          have hm2 : (x, NameKind.free) ∈ scope.names := by
            rcases c3 with z | z
            · exact lookup_relabel (env := X.env) z (.inl rfl) hcell
            · exact lookup_relabel (env := X.env) z (.inr rfl) hcell
          obtain ⟨c', e6⟩ := hcl2 _ hm2 rfl
          have e7 := hcl1 _ _ e6
          rw [e5] at e7; cases e7
          exact ⟨c, e6, o, old c o ho, hd⟩
    · obtain ⟨v, o, ho, hd⟩ := I.cell x c (hcl1 x c e)
      exact ⟨v, o, old c o ho, hd⟩
  have fpok : ∀ {H' : Hp} {pl : List (Addr × Obj)}, (∀ b ∈ fp, H' b = none) → (∀ b ∈ fp, ∀ p ∈ pl, p.1 ≠ b) → ∀ b ∈ fp, FpOk X' pl H' b := fun {H' pl} hn hpl b hb => by
    refine ⟨hn b hb, fpC b hb, ok'.exfs b hb, .inl hb, fun x c e => (f2 b hb).2.2.2.2.1 x c (hcl1 x c e), fun p hp => hpl b hb p ?_⟩
    have hp' : p ∈ [] ++ pl := hp
    simpa using hp'
  -- the loop's state: turn i, the list ys at D
  let LI : Nat → Shared → Prop := fun k s' => ∃ i ys its nn σ' H', k = n + 1 - i ∧ i ≤ n ∧ W i ys H' ∧ tn i s'.heap ∧ (∀ b ∈ fp, H' b = none) ∧ Vals ys its ∧ KeepsV (capV js σ) σ' ∧
    Inv X' [(D, { cls := .type "list", dict := none, data := .seq its.toArray nn })] σ' H' s'
  have loop : ∀ tk, codeAny (model X.prog X.w) X.A (.compLoop (.ListComp elt [⟨tg, iter, ifs, 0⟩] scope pos) 0 (.ref it) (.ref D) (compEnvC scope cl C X.env)) (RR (.ref D) C) { s2 with heap := h₁, toks := tk } := by
    intro tk
    refine compLoop_any LI ?_ (n + 1) ⟨0, [], [], 0, capV js σ, H2, rfl, Nat.zero_le _, w0, st1, fun b hb => (f2 b hb).1, .nil, KeepsV.refl _, ?_⟩
    · rintro k s3 ⟨i, ys, its, nn, σ3, H3, rfl, hin, w3, st3, fr3, r3, ks, I3⟩
      obtain ⟨hyl, tr⟩ := turn i ys H3 w3
      have fpk := fpok (pl := [(D, { cls := .type "list", dict := none, data := .seq its.toArray nn })]) fr3 (fun b hb p hp z => by
        rw [List.mem_singleton.mp hp] at z
        exact DnotFp ((show D = b from z) ▸ hb))
      rcases tr with ⟨stop, q⟩ | ⟨go, hlt, RW, hR1, hR2, step⟩
      · refine thn (T.done X' rfl rfl rfl hc i _ s3 σ3 H3 _ I3 fpk st3 stop) fun r s4 ⟨hr, I4⟩ => ?_
        subst hr
        show RR (.ref D) C (.ok .next) s4
        obtain ⟨pe, pn, p1, p2, p3⟩ := I4.pin (D, { cls := .type "list", dict := none, data := .seq its.toArray nn }) (by show _ ∈ [] ++ _; simp)
        refine hRR D C ys H3 s4 ?_ (q D pn)
        have hok4 : HOk X.prog X.w (upd H3 D (.lst ys)) s4.heap := HOk.track I4.hok pn ⟨Nat.le_trans hyl (Nat.le_trans hin hn), its, nn, r3, pe⟩
        have ltD : ∀ b u, H2 b = some u → b ≠ D := fun b u e z => by rw [z, freeD] at e; cases e
        have un4 : Un (frs X.stack) fp H2 (upd H3 D (.lst ys)) s2.heap s4.heap := by
          have ub := I4.base
          refine ⟨ub.keep, ub.slot, fun b o e nn' hx => ?_, ub.there, fun b xs e => ?_, fun b o u e => ?_, fun b ps e => ?_⟩
          · rw [upd_ne (fun z => by have := Heap.lt_size e; rw [hD, z] at this; exact Nat.lt_irrefl _ this)]
            exact ub.free b o e nn' hx
          · rw [upd_ne (ltD b _ e)]; exact ub.tups b xs e
          · rw [upd_ne (ltD b _ e)]; exact ub.frzs b o u e
          · rw [upd_ne (ltD b _ e)]; exact ub.tbls b ps e
        refine ⟨I.call' I4.os un4 hok4 I4.bare fun b hb => ⟨(f2 b hb).2.2.2.1, (f2 b hb).2.1, (f2 b hb).2.2.2.2.1, (f2 b hb).2.2.2.2.2⟩, ?_, ?_, pn⟩
        · obtain ⟨m, hm, _⟩ := I4.loc
          exact ⟨m, hm⟩
        · refine I.fpOk (by rw [hD]; exact hCle) ?_
          rw [upd_ne (Ne.symm hDC)]
          exact I4.free
      · refine thn (T.item X' rfl rfl rfl hc i _ s3 σ3 H3 _ I3 fpk st3 go) fun r s4 ⟨u, hr, h4⟩ => ?_
        subst hr
        show wpAny _ _ (letOwnedTupleGo tg (.ref it) u) _ _ s4
        refine thn h4 fun _ s5 ⟨x, H5, I5, r5, y5, st5, fr5⟩ => ?_
        obtain ⟨g, tt, te, hg, ht, he, hq⟩ := step x H5 y5 cl C s2 H2 fp
        have fpk5 := fpok (pl := [(D, { cls := .type "list", dict := none, data := .seq its.toArray nn })]) fr5 (fun b hb p hp z => by
          rw [List.mem_singleton.mp hp] at z
          exact DnotFp ((show D = b from z) ▸ hb))
        have I5' := I5.pinned fpk5 (T.obj _ _ st5)
        refine thn (hg _ s5 σ3 H5 x u _ I5' r5 (hq σ3 ks)) fun _ s6 ⟨σ6, H6, I6, ks6, q6⟩ => ?_
        refine thn (ht _ s6 σ6 H6 _ I6 q6) fun b s7 ⟨H7, I7, q7⟩ => ?_
        have stK : ∀ {s' : Shared} {H' : Hp} {σ' : St}, Inv X' ([(D, { cls := .type "list", dict := none, data := .seq its.toArray nn })] ++ pinsAt fp s5.heap) σ' H' s' → tn (i + 1) s'.heap ∧ (∀ b ∈ fp, H' b = none) := fun {s' H' σ'} I' => by
          refine ⟨T.keep _ _ _ st5 fun b hb o e => (I'.pin (b, o) (List.mem_append_right _ (List.mem_append_right _ (mem_pinsAt hb e)))).1, fun b hb => ?_⟩
          obtain ⟨o, e, d⟩ := T.obj _ _ st5 b hb
          exact (I'.pin (b, o) (List.mem_append_right _ (List.mem_append_right _ (mem_pinsAt hb e)))).2.1
        cases b with
        | false =>
          rw [if_neg Bool.false_ne_true] at q7 ⊢
          obtain ⟨a1, a2⟩ := stK I7
          exact ⟨n + 1 - (i + 1), by omega, i + 1, ys, its, nn, σ6, H7, rfl, hlt, hR2 _ q7, a1, a2, r3, ks6, I7.unpinned⟩
        | true =>
          rw [if_pos rfl] at q7 ⊢
          refine thn (he _ s7 σ6 H7 _ I7 q7) fun yv s8 ⟨y, H8, I8, r8, q8⟩ => ?_
          obtain ⟨a1, a2⟩ := stK I8
          have I8u := I8.unpinned
          obtain ⟨pe, pn, p1, p2, p3⟩ := I8u.pin (D, { cls := .type "list", dict := none, data := .seq its.toArray nn }) (by show _ ∈ [] ++ _; simp)
          have hl8 : s8.heap.IsList D its.toArray := PySem.IsL.isList pe
          have isz : its.length ≤ sizeLine := by rw [← r3.length]; exact Nat.le_trans hyl (Nat.le_trans hin hn)
          refine append_plain pe (by simpa using isz) fun nn' h9 e9 hs9 => ?_
          have I9 : Inv X' [] σ6 H8 { s8 with heap := h9, toks := s8.toks } := by
            refine Inv.turned (pins := []) (it := D) (t' := s8.toks) (I8u.pins_of (pins' := []) fun p hp => absurd hp (by simp)) (fun b o hb e => (hs9.2 b hb).trans e) pn hDC (.inr (by show s2.heap.objs.size ≤ D; rw [hD]; exact Nat.le_refl _)) (fun x c e z => ?_) fun p hp => absurd hp (by show ¬ p ∈ ([] ++ [] : List (Addr × Obj)); simp)
            obtain ⟨v, o, ho, hd⟩ := I.cell x c (hcl1 x c e)
            have := Heap.lt_size ho
            rw [hD, z] at this
            exact Nat.lt_irrefl _ this
          refine ⟨n + 1 - (i + 1), by omega, i + 1, ys ++ [y], its ++ [yv], nn', σ6, H8, rfl, hlt, hR1 _ _ q8, ?_, a2, Vals.append r3 (.cons r8 .nil), ks6, ?_⟩
          · exact T.keep _ _ _ a1 fun b hb o e => (hs9.2 b (fun z => DnotFp (z ▸ hb))).trans e
          · refine I9.pins_of fun p hp => ?_
            obtain rfl := List.mem_singleton.mp hp
            exact ⟨by simpa using e9, pn, p1, p2, by simp⟩
    · refine (I0 tk).pins_of fun p hp => ?_
      obtain rfl := List.mem_singleton.mp hp
      exact ⟨haccO, freeD, hDC, DnotFs, by simp⟩
  exact codeAny_compStart_list (loop _) (T.self X.A 0 _ _ _ st1 (loop _))

/-- the look at a comprehension's names -/
def compOk (names : List (Str × NameKind)) (outer : Str → Option NameKind) : Bool :=
  names.all (fun y => y.2 != .cell) && names.all (fun y => y.2 != .local || names.lookup y.1 == some .local) && names.all (fun y => y.2 != .free || outer y.1 == some .cell || outer y.1 == some .free)
theorem compOk.cell {names : List (Str × NameKind)} {outer : Str → Option NameKind} (h : compOk names outer = true) : ∀ y ∈ names, y.2 ≠ .cell := fun y hy => by
  unfold compOk at h
  simp only [Bool.and_eq_true, List.all_eq_true] at h
  simpa using h.1.1 y hy
theorem compOk.names {names : List (Str × NameKind)} {outer : Str → Option NameKind} (h : compOk names outer = true) : ∀ y ∈ names, y.2 = .local → names.lookup y.1 = some .local := fun y hy e => by
  unfold compOk at h
  simp only [Bool.and_eq_true, List.all_eq_true] at h
  have := h.1.2 y hy
  rw [e] at this
  simpa using this
theorem compOk.free {names : List (Str × NameKind)} {outer : Str → Option NameKind} (h : compOk names outer = true) : ∀ y ∈ names, y.2 = .free → outer y.1 = some .cell ∨ outer y.1 = some .free := fun y hy e => by
  unfold compOk at h
  simp only [Bool.and_eq_true, List.all_eq_true] at h
  have := h.2 y hy
  rw [e] at this
  simpa using this
/-- [elt for tg in iter if ..] -/
theorem pe_comp {N : List Str} {js : List (Option Nat)} {scope : Scope} {tg elt iter : Expr} {ifs : List Expr} {pos : Pos} {wi : TI} (hc : X.calm = true) (caps : Caps X scope N js) (hok : compOk scope.names X.env.kindOf = true)
    (hi : PI X tg iter wi) (hkind : scope.kind = .function := by rfl) (hs : ∀ x, foldedSetIterable iter X.env x = pure x := by intro _; rfl) :
    PE X (.ListComp elt [⟨tg, iter, ifs, 0⟩] scope pos) (tComp X N scope js tg elt ifs wi) := by
  intro pins s σ H Q I h
  obtain ⟨cl, e1, e2, e3⟩ := closure_of (env := X.env) (scope := scope) fun x hx hf => I.ok.has _ (compOk.free hok x hx hf)
  rw [eval_ListComp]
  refine wpAny_comprehension_free (use := none) rfl hs e1 hkind (compOk.names hok) (thn (hi pins s σ H _ I h) fun v s1 h1 => thn h1 fun itv s2 h2 => ?_)
  obtain ⟨it, fp, tn, J, H2, rfl, I2, T, st2, f2, n, W, hn, w0, turn⟩ := h2
  refine comp_block (RR := fun acc C => compPost (model X.prog X.w) X.A X.xe none (EP X pins σ Q) acc C) (Q := Q) hc caps hkind (compOk.cell hok) e2 e3 I2 T st2 f2 n W hn w0 turn ?_
  intro D C ys H' s' ce q
  obtain ⟨m, hm⟩ := ce.ns
  exact ⟨m, hm, fun h' hs' => ⟨.ref D, _, CompEnd.gone (D := D) (ys := ys) (H' := H') ce.inv ce.fp hs', rfl, q⟩⟩

/-- name = [elt for tg in iter if ..], where the stores are exchanged -/
theorem ps_setComp {i : Nat} {x : Str} {N : List Str} {js : List (Option Nat)} {scope : Scope} {tg elt iter : Expr} {ifs : List Expr} {pos pos' spos : Pos} {wi : TI} (hN : X.N.Nodup) (hi' : X.N[i]? = some x) (hx : Loc X.env.scope x)
    (hsw : swapsWith (.ListComp elt [⟨tg, iter, ifs, 0⟩] scope pos) (some (.Name x pos')) spos.line X.env = pure true) (hc : X.calm = true) (caps : Caps X scope N js) (hok : compOk scope.names X.env.kindOf = true)
    (hi : PI X tg iter wi) (hkind : scope.kind = .function := by rfl) (hf : X.fn x = true ∨ X.env.scope.names.lookup x = some .local := by first | exact .inl rfl | exact .inr rfl | assumption) (hs : ∀ x, foldedSetIterable iter X.env x = pure x := by intro _; rfl) :
    PS X (.Assign [.Name x pos'] (.ListComp elt [⟨tg, iter, ifs, 0⟩] scope pos) spos) (tAsg (tComp X N scope js tg elt ifs wi) (gName i)) := by
  intro pins s σ H D I h
  obtain ⟨cl, e1, e2, e3⟩ := closure_of (env := X.env) (scope := scope) fun x hx hf => I.ok.has _ (compOk.free hok x hx hf)
  rw [exec_Assign_Name_used _ _ _ _ hsw]
  refine wpAny_bind (wpAny_standAt (wpAny_bind ?_))
  show wpAny _ X.A (do let _ ← comprehension (.ListComp elt [⟨tg, iter, ifs, 0⟩] scope pos) scope X.env _ (newList []) false (eval iter X.env) (some (assign (.Name x pos') X.env))) _ _ s
  refine wpAny_bind (wpAny_mono (wpAny_comprehension_free (use := some (assign (.Name x pos') X.env)) (Q := fun _ s' => SP X pins D .next s') rfl hs e1 hkind (compOk.names hok)
    (thn (hi pins s σ H _ I h) fun v s1 h1 => thn h1 fun itv s2 h2 => ?_)) (fun _ s' hq => wpAny_pure (wpAny_pure hq)) fun _ _ e => e)
  obtain ⟨it, fp, tn, J, H2, rfl, I2, T, st2, f2, n, W, hn, w0, turn⟩ := h2
  refine comp_block (RR := fun acc C => compPost (model X.prog X.w) X.A X.xe (some (assign (.Name x pos') X.env)) (fun _ s' => SP X pins D .next s') acc C) (Q := fun v H' => D.nx (σ.set i (some v)) H') hc caps hkind (compOk.cell hok) e2 e3 I2 T st2 f2 n W hn w0 turn ?_
  intro L C ys H' s' ce q
  show wpAny _ X.A (assign (.Name x pos') X.env (.ref L)) _ _ s'
  refine wpAny_assign_Name (store_ok2 (v := .ref L) ce.inv hN hi' hx rfl (fun s'' I'' sb => ?_) hf)
  obtain ⟨a, hsa, ha⟩ := sb
  have hCa : C ≠ a := by
    rcases ha with z | z
    · rw [z]; exact ce.fp.2.1
    · exact fun z' => ce.fp.2.2.2.2.1 x a z z'.symm
  obtain ⟨m, hm⟩ := ce.ns
  exact ⟨m, hm.sameBut hsa hCa, fun h' hs' => ⟨_, _, CompEnd.gone (D := L) (ys := ys) (H' := H') I'' ce.fp hs', q⟩⟩
end

/-- the way on behind an item -/
def compR (W : Nat → List V → Hp → Prop) (i : Nat) (ys : List V) : Option V → Hp → Prop
  | some y, H => W (i + 1) (ys ++ [y]) H
  | none, H => W (i + 1) ys H
theorem comp_of {X : Cx} {J : It} {N : List Str} {scope : Scope} {js : List (Option Nat)} {tg elt : Expr} {ifs : List Expr} {σ : St} {Q : VK} {n : Nat} {H1 : Hp} (W : Nat → List V → Hp → Prop) (hz : n ≤ sizeLine) (w0 : W 0 [] H1)
    (hl : ∀ i ys H, i ≤ n → W i ys H → ys.length ≤ i) (hgo : ∀ i ys H, i < n → W i ys H → J.go i H) (hst : ∀ ys H, W n ys H → J.stop n H)
    (step : ∀ i x ys H H', i < n → W i ys H → J.yld i H x H' → BlockOk X N scope js tg elt ifs σ x H' (compR W i ys))
    (done : ∀ ys H, W n ys H → ∀ p, H p = none → Q (.ref p) (upd H p (.lst ys))) :
    compK X N scope js tg elt ifs σ Q J H1 := by
  refine ⟨n, fun i ys H => i ≤ n ∧ W i ys H, hz, ⟨Nat.zero_le _, w0⟩, ?_⟩
  rintro i ys H ⟨hi, w⟩
  refine ⟨hl i ys H hi w, ?_⟩
  by_cases hlt : i < n
  · exact .inr ⟨hgo i ys H hlt w, hlt, compR W i ys, fun y H2 q => ⟨hlt, q⟩, fun H2 q => ⟨hlt, q⟩, fun x H' y => step i x ys H H' hlt w y⟩
  · have e : i = n := by omega
    subst e
    exact .inl ⟨hst ys H w, done ys H w⟩
end L2
namespace L2
open PySem PySem.Spec PyProof.Rows

/-! ### data in the abstract heap -/
mutual
inductive DatV (K : PySem.W.Frag) (H : Hp) : V → PyData → Prop
  | non : DatV K H .non .none
  | bl (b : Bool) : DatV K H (.bl b) (.bool b)
  | int (i : Int) : DatV K H (.int i) (.int i)
  | str (x : Str) : DatV K H (.str x) (.str x)
  | lst {a : Addr} {xs : List V} {ds : List PyData} : SqL K H a xs → DatVs K H xs ds → DatV K H (.ref a) (.list ds)
  | tup {a : Addr} {xs : List V} {ds : List PyData} : SqT K H a xs → DatVs K H xs ds → DatV K H (.ref a) (.tuple ds)
inductive DatVs (K : PySem.W.Frag) (H : Hp) : List V → List PyData → Prop
  | nil : DatVs K H [] []
  | cons {x : V} {d : PyData} {xs : List V} {ds : List PyData} : DatV K H x d → DatVs K H xs ds → DatVs K H (x :: xs) (d :: ds)
end
section
variable {X : Cx} {pins : List (Addr × Obj)} {σ : St} {H : Hp} {s : Shared}
mutual
theorem DatV.reads (I : Inv X pins σ H s) : ∀ {x : V} {d : PyData} {u : Value}, DatV X.K H x d → RelV x u → ∃ as, Reads s.heap u d as
  | _, _, _, .non, r => by cases r; exact ⟨_, .none⟩
  | _, _, _, .bl b, r => by cases r; exact ⟨_, .bool b⟩
  | _, _, _, .int i, r => by obtain ⟨t, rfl⟩ := r; exact ⟨_, .int i t⟩
  | _, _, _, .str x, r => by obtain ⟨t, rfl⟩ := r; exact ⟨_, .str x t⟩
  | _, _, _, .lst h ds, r => by
    cases r
    obtain ⟨its, rv, ⟨o, e, c, n, d⟩, hz⟩ : ∃ its : List Value, Vals _ its ∧ s.heap.IsList _ its.toArray ∧ _ := by
      obtain ⟨its, rv, p, hz⟩ := I.list h
      exact ⟨its, rv, p.isList, hz⟩
    obtain ⟨as, q⟩ := DatVs.reads I ds rv
    exact ⟨_, .list e c d (by simpa using q)⟩
  | _, _, _, .tup h ds, r => by
    cases r
    obtain ⟨its, rv, p, hz⟩ := I.tuple h
    obtain ⟨o, e, c, n, d⟩ := p
    obtain ⟨as, q⟩ := DatVs.reads I ds rv
    exact ⟨_, .tuple e c d (by simpa using q)⟩
theorem DatVs.reads (I : Inv X pins σ H s) : ∀ {xs : List V} {ds : List PyData} {us : List Value}, DatVs X.K H xs ds → Vals xs us → ∃ as, ReadsAll s.heap us ds as
  | _, _, _, .nil, r => by cases r; exact ⟨_, .nil⟩
  | _, _, _, .cons h t, r => by
    cases r with
    | cons r1 r2 =>
      obtain ⟨as, q⟩ := DatV.reads I h r1
      obtain ⟨bs, q2⟩ := DatVs.reads I t r2
      exact ⟨_, .cons q q2⟩
end
/-- == , != of data -/
theorem op_eqD (hu : X.A.units + 64 < cLine) : OpR X (compareOp .Eq) (fun x y H Q => ∃ d e, DatV X.K H x d ∧ DatV X.K H y e ∧ SeqAt.shaped d = true ∧ SeqAt.shaped e = true ∧ Q (.bl (PyData.eqv d e)) H) := by
  intro pins s σ H x y u v Q I rx ry h
  obtain ⟨d, e, hx, hy, sd, se, q⟩ := h
  obtain ⟨as, r1⟩ := hx.reads I rx
  obtain ⟨bs, r2⟩ := hy.reads I ry
  exact eq_dataH r1 r2 sd se hu ⟨.bl _, H, I, rfl, q⟩
theorem op_neD (hu : X.A.units + 64 < cLine) : OpR X (compareOp .NotEq) (fun x y H Q => ∃ d e, DatV X.K H x d ∧ DatV X.K H y e ∧ SeqAt.shaped d = true ∧ SeqAt.shaped e = true ∧ Q (.bl (!PyData.eqv d e)) H) := by
  intro pins s σ H x y u v Q I rx ry h
  obtain ⟨d, e, hx, hy, sd, se, q⟩ := h
  obtain ⟨as, r1⟩ := hx.reads I rx
  obtain ⟨bs, r2⟩ := hy.reads I ry
  exact ne_dataH r1 r2 sd se hu ⟨.bl _, H, I, rfl, q⟩
end
/-- data stays when more is tracked -/
theorem SqL.same {K : PySem.W.Frag} {H H' : Hp} {a : Addr} {xs : List V} (e : Same H H') (h : SqL K H a xs) : SqL K H' a xs := Same.seq e h
theorem SqT.same {K : PySem.W.Frag} {H H' : Hp} {a : Addr} {xs : List V} (e : Same H H') (h : SqT K H a xs) : SqT K H' a xs := by
  rcases h with (h | ⟨o, h⟩) | h
  · exact .inl (.inl (e _ _ h))
  · exact .inl (.inr ⟨o, e _ _ h⟩)
  · exact .inr h
mutual
theorem DatV.same {K : PySem.W.Frag} {H H' : Hp} (e : Same H H') : ∀ {x : V} {d : PyData}, DatV K H x d → DatV K H' x d
  | _, _, .non => .non
  | _, _, .bl b => .bl b
  | _, _, .int i => .int i
  | _, _, .str x => .str x
  | _, _, .lst h ds => .lst (h.same e) (DatVs.same e ds)
  | _, _, .tup h ds => .tup (h.same e) (DatVs.same e ds)
theorem DatVs.same {K : PySem.W.Frag} {H H' : Hp} (e : Same H H') : ∀ {xs : List V} {ds : List PyData}, DatVs K H xs ds → DatVs K H' xs ds
  | _, _, .nil => .nil
  | _, _, .cons h t => .cons (DatV.same e h) (DatVs.same e t)
end
theorem Same.upd {H : Hp} {a : Addr} {o : HO} (h : H a = none) : Same H (upd H a o) := fun b u e => by rw [upd_ne (ne_of_none e h)]; exact e
theorem DatVs.length {K : PySem.W.Frag} {H : Hp} : ∀ {xs : List V} {ds : List PyData}, DatVs K H xs ds → xs.length = ds.length
  | _, _, .nil => rfl
  | _, _, .cons _ t => by simp [DatVs.length t]
theorem DatVs.append {K : PySem.W.Frag} {H : Hp} : ∀ {xs ys : List V} {ds es : List PyData}, DatVs K H xs ds → DatVs K H ys es → DatVs K H (xs ++ ys) (ds ++ es)
  | _, _, _, _, .nil, h => h
  | _, _, _, _, .cons a t, h => .cons a (DatVs.append t h)
theorem DatVs.get {K : PySem.W.Frag} {H : Hp} : ∀ {xs : List V} {ds : List PyData} {i : Nat} {x : V}, DatVs K H xs ds → xs[i]? = some x → ∃ d, ds[i]? = some d ∧ DatV K H x d
  | _, _, _, _, .nil, e => by simp at e
  | _, _, 0, _, .cons a t, e => by simp at e; subst e; exact ⟨_, by simp, a⟩
  | _, _, i + 1, x, .cons a t, e => by
    obtain ⟨d, h1, h2⟩ := DatVs.get (i := i) (x := x) t (by simpa using e)
    exact ⟨d, by simpa using h1, h2⟩
theorem DatVs.get' {K : PySem.W.Frag} {H : Hp} : ∀ {xs : List V} {ds : List PyData} {i : Nat} {d : PyData}, DatVs K H xs ds → ds[i]? = some d → ∃ x, xs[i]? = some x ∧ DatV K H x d
  | _, _, _, _, .nil, e => by simp at e
  | _, _, 0, _, .cons a t, e => by simp at e; subst e; exact ⟨_, by simp, a⟩
  | _, _, i + 1, x, .cons a t, e => by
    obtain ⟨d, h1, h2⟩ := DatVs.get' (i := i) (d := x) t (by simpa using e)
    exact ⟨d, by simpa using h1, h2⟩
theorem DatVs.drop {K : PySem.W.Frag} {H : Hp} : ∀ {xs : List V} {ds : List PyData} (n : Nat), DatVs K H xs ds → DatVs K H (xs.drop n) (ds.drop n)
  | _, _, 0, h => h
  | _, _, _ + 1, .nil => .nil
  | _, _, n + 1, .cons _ t => DatVs.drop n t
theorem DatVs.take {K : PySem.W.Frag} {H : Hp} : ∀ {xs : List V} {ds : List PyData} (n : Nat), DatVs K H xs ds → DatVs K H (xs.take n) (ds.take n)
  | _, _, 0, _ => .nil
  | _, _, _ + 1, .nil => .nil
  | _, _, n + 1, .cons a t => .cons a (DatVs.take n t)

/-! ### enumerate over a list -/
def Ite (K : PySem.W.Frag) (a : Addr) : It :=
  ⟨fun i H => ∃ xs x, SqL K H a xs ∧ xs[i]? = some x, fun i H x H' => ∃ p v, H p = none ∧ x = .ref p ∧ H' = upd H p (.tup [.int i, v]) ∧ ∀ xs, SqL K H a xs → xs[i]? = some v, fun i H => ∃ xs, SqL K H a xs ∧ xs.length ≤ i⟩
theorem turn_enum {P : Program} {w : World} {K : PySem.W.Frag} {es : List Expr} {k1} {tpos : Pos} (a e it : Addr) (hei : e ≠ it) : Turn P w K (.Tuple es k1 tpos) (Ite K a) [e, it] e (fun i h => (∃ old, IsEnum h e it i old) ∧ h.IsListIter it a i) where
  mem := by simp
  obj := fun i h st b hb => by
    obtain ⟨⟨old, s1⟩, o, e2, c, d⟩ := st
    rcases List.mem_cons.mp hb with z | z
    · subst z
      exact ⟨_, s1, fun v z => by
        have z' : Data.fields _ = Data.cell v := z
        cases z'⟩
    · obtain rfl : b = it := by simpa using z
      exact ⟨o, e2, fun v z => by rw [d] at z; cases z⟩
  keep := fun i h h' st k => by
    obtain ⟨⟨old, s1⟩, s2⟩ := st
    exact ⟨⟨old, k e (by simp) _ s1⟩, s2.at fun o q => k it (by simp) o q⟩
  item := by
    intro X hP hw hK hc i pins s σ H E I hf st hg
    subst hP hw hK
    obtain ⟨⟨old, s1⟩, s2⟩ := st
    obtain ⟨xs, x, hq, hx⟩ := hg
    obtain ⟨its, rv, p, hz⟩ := I.list hq
    obtain ⟨u, hu, ru⟩ := rv.get hx
    obtain ⟨f0, f1, f2, f3, f4, f5⟩ := hf e (by simp)
    obtain ⟨g0, g1, g2, g3, g4, g5⟩ := hf it (by simp)
    refine wpAny_pyNext_enum_item s1 s2 p.isList (x := u) (by simpa using hu) hei fun h' so si st hz' kp => ?_
    refine ⟨_, rfl, wpAny_letOwnedTupleGo_enum so fun h2 se sb => ?_⟩
    have ne1 : s.heap.objs.size ≠ e := Nat.ne_of_gt (Heap.lt_size s1)
    have hT2 : h2.get? s.heap.objs.size = some { cls := .type "tuple", data := .seq #[.int i s.toks, u] } := (sb.2 _ ne1).trans st
    have fT : H s.heap.objs.size = none := I.hok.fresh (Nat.le_refl _)
    -- the two records turn, then the tuple is tracked
    have kp2 : ∀ b o, b ≠ e → b ≠ it → s.heap.get? b = some o → h2.get? b = some o := fun b o h1 h2' q => (sb.2 b h1).trans (kp b o h1 h2' q)
    have hok2 : HOk X.prog X.w H h2 := fun b uu q => by
      refine (I.hok b uu q).stay (fun c v hc q' => kp2 c v ?_ ?_ q') (fun _ q => q) (fun _ _ q => q) fun _ _ q => q
      · rcases hc with z | z
        · rw [z]; exact fun zz => by rw [zz, f0] at q; cases q
        · exact fun zz => by rw [zz, f0] at z; cases z
      · rcases hc with z | z
        · rw [z]; exact fun zz => by rw [zz, g0] at q; cases q
        · exact fun zz => by rw [zz, g0] at z; cases z
    have hokT : HOk X.prog X.w (upd H s.heap.objs.size (.tup [.int i, x])) h2 := HOk.track hok2 fT ⟨by show 2 ≤ sizeLine; decide, [.int i s.toks, u], .cons ⟨_, rfl⟩ (.cons ru .nil), ⟨_, hT2, rfl, _, rfl⟩⟩
    have ltT : ∀ b uu, H b = some uu → b ≠ s.heap.objs.size := fun b uu q => ne_of_none q fT
    have I2 : Inv X pins σ (upd H s.heap.objs.size (.tup [.int i, x])) { s with heap := h2, gens := s.gens, drawn := s.drawn, toks := s.toks + 1 } := by
      refine I.step (ch := [e, it]) (fun b hb => ?_) (fun b o _ _ hc q _ => kp2 b o (fun z => hc (by simp [z])) (fun z => hc (by simp [z])) q) (fun b o _ _ hc q _ => ⟨o.slots, kp2 b o (fun z => hc (by simp [z])) (fun z => hc (by simp [z])) q⟩)
        (fun b o _ q n => by rw [upd_ne (Nat.ne_of_lt (Heap.lt_size q))]; exact n) (fun b o hc q => ⟨o, kp2 b o (fun z => hc (by simp [z])) (fun z => hc (by simp [z])) q⟩) (fun b ys q => by rw [upd_ne (ltT b _ q)]; exact q) (fun b o uu q => by rw [upd_ne (ltT b _ q)]; exact q)
        (fun b ps q => by rw [upd_ne (ltT b _ q)]; exact q) (fun m hm => ?_) hokT I.bare
      · rcases List.mem_cons.mp hb with z | z
        · subst z; exact ⟨f3, f1, f4, f5⟩
        · obtain rfl : b = it := by simpa using z
          exact ⟨g3, g1, g4, g5⟩
      · obtain ⟨o, es', ep, ho, r⟩ := hm
        exact ⟨o, es', ep, kp2 _ o (Ne.symm f1) (Ne.symm g1) ho, r⟩
    refine ⟨.ref s.heap.objs.size, _, I2, rfl, ⟨_, x, fT, rfl, rfl, fun ys hy => by rw [I.list_inj hy hq]; exact hx⟩, ⟨⟨u, by simpa using se⟩, si.at fun o q => (sb.2 it hei.symm).trans q⟩, fun b hb => ?_⟩
    rcases List.mem_cons.mp hb with z | z
    · subst z; rw [upd_ne (Ne.symm ne1)]; exact f0
    · obtain rfl : b = it := by simpa using z
      obtain ⟨o, q, _⟩ := s2
      rw [upd_ne (Nat.ne_of_lt (Heap.lt_size q))]; exact g0
  done := by
    intro X hP hw hK hc i pins s σ H E I hf st hg
    subst hP hw hK
    obtain ⟨⟨old, s1⟩, s2⟩ := st
    obtain ⟨xs, hq, hx⟩ := hg
    obtain ⟨its, rv, p, hz⟩ := I.list hq
    obtain ⟨g0, g1, g2, g3, g4, g5⟩ := hf it (by simp)
    have hl := rv.length
    exact wpAny_pyNext_enum_end (I.ok.hd hc) s1 s2 p.isList (by simp; omega) fun h' eb => ⟨rfl, I.turned (t' := s.toks) (fun b o hb q => eb b o hb q) g0 g1 g3 g4 g5⟩
  self := fun _ _ _ _ _ st h => wpAny_pyIter_enum st.1.choose_spec h
def iEnum (K : PySem.W.Frag) (ta : TA) : TI := fun σ H R => ta σ H fun vs H1 => ∃ a, vs = [.ref a] ∧ (∃ xs, SqL K H1 a xs) ∧ R (Ite K a) H1
theorem pi_enum {X : Cx} {es : List Expr} {k1} {tpos : Pos} {a : Expr} {ta : TA} {p pos : Pos} (hg : Gl X "enumerate") (hm : X.mg "enumerate" = none) (ha : PA X [a] ta) (hs : starEach [a] X.env = [(false, eval a X.env)] := by rfl) :
    PI X (.Tuple es k1 tpos) (.Call (.Name "enumerate" p) [a] [] pos) (iEnum X.K ta) := by
  intro pins s σ H R I h
  refine Call_ (ld_blt I hg hm PyProof.Rows.boot_enumerate (PyProof.Rows.callWith_type1 (thn (ha pos pins s σ H _ I h) fun us s1 ⟨vs, H1, I1, r1, q1⟩ => ?_) hs rfl))
  obtain ⟨j, e, ⟨xs, hq⟩, q⟩ := q1
  subst e
  obtain ⟨u, rfl, ru⟩ := vals1 r1
  cases ru
  obtain ⟨its, rv, pl, hz⟩ := I1.list hq
  refine call_enumerate_list pl.isList fun h' se si hz' kp => ?_
  have I2 : Inv X pins σ H1 { s1 with heap := h' } := I1.kept (t' := s1.toks) kp
  refine wpAny_pyIter_enum se ?_
  refine ⟨s1.heap.objs.size + 1, [s1.heap.objs.size + 1, s1.heap.objs.size], _, _, H1, rfl, I2, turn_enum j _ _ (Nat.ne_of_gt (Nat.lt_succ_self _)), ⟨⟨_, se⟩, si⟩, fun b hb => ?_, q⟩
  rcases List.mem_cons.mp hb with z | z
  · subst z
    exact I1.fpOk (Nat.le_succ _) (I1.hok.fresh (Nat.le_succ _))
  · obtain rfl : b = s1.heap.objs.size := by simpa using z
    exact I1.fpOk (Nat.le_refl _) (I1.hok.fresh (Nat.le_refl _))
end L2
namespace SX
open PySem PySem.W
section
variable {prog : Program} {w : World} {A : Around} {E : Value → Shared → Prop} {h : Heap} {g : Array GenState} {d : Drawn} {t : Nat} {os : OsState} {K : Frag}
variable {nm q : Str} {C N : Addr} {bs bm bmB : List Value} {hdct : Bool} {sn : List Str} {sub : List Value} {ab : Bool} {col : Option Bool} {dd : Option Addr} {k0 k1 k2 k3 k5 : Option Value} {B newId initId : String}

/-- what the list of an exception's classes must have -/
structure BmOk (B : String) (bm : List Value) : Prop where
  hasB : bm.contains (.type B) = true
  hasBase : bm.contains (.type "BaseException") = true
  noAttr : bm.contains (.type "AttributeError") = false
  noName : bm.contains (.type "NameError") = false
theorem check_newX (F : ExcBaseFacts B newId initId bmB) (T : BmOk B bm) {M : Model} {rest : List Value} {Q : Unit → Shared → Prop} (hC : h.get? C = some (excClassObj nm q C N bs bm hdct sn sub ab col dd k0 k1 k2 k3 k5 newId))
    (hq : Q () ⟨h, g, d, t, os⟩) : wpAny M A (checkBuiltinCall newId ⟨.ref C :: rest, []⟩) Q E ⟨h, g, d, t, os⟩ := by
  have hcont : (Value.ref C :: bm).contains (.type B) = true := by rw [List.contains_cons, T.hasB, Bool.or_true]
  have hstar := F.noStar
  simp only [checkBuiltinCall, F.newKind, F.newSplit, F.newRow]
  repeat (first | refine wpAny_loadPart_at hC ?_ | (refine wpAny_isSubtype_exc hC ?_; rw [hcont]) | refine wpAny_staticBase_exc hC ?_ | refine wpAny_madeBy_exc hC ?_ | simp only [bne_self_eq_false, Bool.false_eq_true, if_false] | wp_step)
  exact hq
theorem exc_newX (F : ExcBaseFacts B newId initId bmB) (T : BmOk B bm) {R : Result → Shared → Prop} {rest : List Value} (hC : h.get? C = some (excClassObj nm q C N bs bm hdct sn sub ab col dd k0 k1 k2 k3 k5 newId))
    (hq : R (.ok (.ret (.ref (h.objs.size + 1)))) ⟨(h.push { cls := .type "tuple", data := .seq rest.toArray }).push
      { cls := .ref C, data := .fields #[.ref h.objs.size, .none, .none, .none, .bool false, .none] }, g, d, t, os⟩) (hrest : rest.length ≤ sizeLine) :
    codeAny (model prog w) A (.builtin newId ⟨.ref C :: rest, []⟩) R ⟨h, g, d, t, os⟩ := by
  have hends := F.ends
  have hcB : (Value.ref C :: bm).contains (.type B) = true := by rw [List.contains_cons, T.hasB, Bool.or_true]
  have hcA : (Value.ref C :: bm).contains (.type "AttributeError") = false := by rw [List.contains_cons, T.noAttr]; rfl
  have hcN : (Value.ref C :: bm).contains (.type "NameError") = false := by rw [List.contains_cons, T.noName]; rfl
  refine codeAny_builtinAt F.entry ?_
  unfold Builtin.«BaseException.__new__»
  refine wpAt_bind ?_
  show wpAt _ _ _ (stack >>= _) _ _ _
  refine wpAt_bind (wpAt_stack fun p below => wpAt_of_wpAny ?_)
  wp_walk
  refine wpAt_of_wpAny ?_
  rw [F.owner]
  repeat (first | with_reducible refine wpAny_madeHere_exc F.canon hC ?_ | with_reducible refine wpAny_loadPart_at hC ?_ | (with_reducible refine wpAny_isSubtype_exc hC ?_; first | rw [hcB] | rw [hcA] | rw [hcN]) | wp_step)
  show R _ _
  rw [Heap.size_push]
  exact hq
/-- C(..) of an exception class with an __init__ of its own -/
theorem exc_typeCall (F : ExcBaseFacts B newId initId bmB) (T : BmOk B bm) (X : K.In h) {rest : List Value} {fI : Addr} {Q : Fin → Shared → Prop}
    (hC : h.get? C = some (excClassObj nm q C N bs bm hdct sn sub ab col dd k0 k1 k2 k3 k5 newId)) (hi : findIn K (.ref C) "__init__" = some (some (.ref fI))) (hf : typeIn K (.ref fI) = some (.type "function"))
    (hq : ∀ h' e, Heap.MadeExcOf h h' e (.ref C) rest → h.objs.size ≤ e →
      wpAny (model prog w) A (call (.ref fI) (.ref e :: rest)) (fun r s' => r = .none ∧ Q (.done (.ret (.ref e))) s') E ⟨h', g, d, t, os⟩) (hrest : rest.length ≤ sizeLine) :
    wpAny (model prog w) A (Builtin.«type.__call__» ⟨.ref C :: rest, []⟩) Q E ⟨h, g, d, t, os⟩ := by
  repeat (first | with_reducible refine wpAny_loadPart_at hC ?_ | with_reducible refine wpAny_madeBy_exc hC ?_ | wp_step)
  refine codeAny_call_builtin_code (Code.quiet_builtin _ F.quiet) (check_newX F T hC ?_)
  refine exc_newX F T hC ?_ hrest
  show wpAny _ _ _ _ _ _
  have kp : ∀ b o, h.get? b = some o → ((h.push { cls := .type "tuple", data := .seq rest.toArray }).push { cls := .ref C, data := .fields #[.ref h.objs.size, .none, .none, .none, .bool false, .none] }).get? b = some o := fun b o e => Heap.get?_push_of_some _ (Heap.get?_push_of_some _ e)
  have hC₁ := kp _ _ hC
  have X₁ := X.keeps kp
  have hget : ((h.push { cls := .type "tuple", data := .seq rest.toArray }).push
      { cls := .ref C, data := .fields #[.ref h.objs.size, .none, .none, .none, .bool false, .none] }).get? (h.objs.size + 1) = some
      { cls := .ref C, data := .fields #[.ref h.objs.size, .none, .none, .none, .bool false, .none] } := by heap_get
  have hcC : (Value.ref C :: bm).contains (.ref C) = true := by simp
  unfold isInstance
  repeat (first | with_reducible refine wpAny_loadPart_at hget ?_ | (with_reducible refine wpAny_isSubtype_exc hC₁ ?_; rw [hcC]) | wp_step)
  show wpAny _ _ (typeLookup (.ref C) _) _ _ _
  refine (looks_findIn (M := model prog w) X₁ hi).at ?_
  refine wpAny_holding (wpAny_bind ?_)
  refine (bind_fn (M := model prog w) X₁ _ hf).at ?_
  refine wpAny_bind (wpAny_mono (hq _ (h.objs.size + 1) ⟨kp, Heap.get?_none_of_le (Nat.le_succ _), h.objs.size, hget, Heap.get?_none_of_le (Nat.le_refl _), ?_⟩ (Nat.le_succ _)) (fun r s' hr => ?_) fun _ _ x => x)
  · exact Heap.get?_push_of_some _ (Heap.get?_push_at rfl rfl)
  · obtain ⟨rfl, hQ⟩ := hr
    wp_walk
    exact hQ
theorem exc_call (F : ExcBaseFacts B newId initId bmB) (T : BmOk B bm) (X : K.In h) {rest : List Value} {fI : Addr} {Q : Value → Shared → Prop}
    (hC : h.get? C = some (excClassObj nm q C N bs bm hdct sn sub ab col dd k0 k1 k2 k3 k5 newId)) (hi : findIn K (.ref C) "__init__" = some (some (.ref fI))) (hf : typeIn K (.ref fI) = some (.type "function"))
    (hq : ∀ h' e, Heap.MadeExcOf h h' e (.ref C) rest → h.objs.size ≤ e →
      wpAny (model prog w) (A.under (.builtin "type.__call__" ⟨.ref C :: rest, []⟩)) (call (.ref fI) (.ref e :: rest)) (fun r s' => r = .none ∧ Q (.ref e) s') E ⟨h', g, d, t, os⟩) (hrest : rest.length ≤ sizeLine) :
    wpAny (model prog w) A (call (.ref C) rest) Q E ⟨h, g, d, t, os⟩ := by
  have f1 := tc_lookup
  have f2 := tc_bind (.ref C)
  have hT : (⟨h, g, d, t, os⟩ : Shared).TypeIs (.ref C) "type" := ⟨_, hC, rfl⟩
  refine wpAny_call (codeAny_of_tree ?_)
  show wpAny _ _ (callAny (.ref C) _) _ _ _
  repeat (any_goals (first | assumption | with_reducible refine wpAny_loadPart_at hC ?_ | wp_step))
  refine ⟨rfl, ?_⟩
  refine codeAny_call_builtin_at (Code.quiet_builtin _ (by decide +kernel)) entry_typeCall (wpAny_check_type_call_sub hC (exc_typeCall F T X hC hi hf (fun h' e hm hle => ?_) hrest))
  exact hq h' e hm hle
/-- raise of an instance that was made -/
theorem raise_made {M : Model} {env : Env} {s : Shared} {x : Sem Value} {Q : Flow → Shared → Prop} (T : BmOk B bm) (hh : A.handled = none)
    (hx : wpAny M A x (fun v s₁ => ∃ e od vs, v = .ref e ∧ s₁.heap.get? C = some (excClassObj nm q C N bs bm hdct sn sub ab col dd k0 k1 k2 k3 k5 newId) ∧
      s₁.heap.get? e = some { cls := .ref C, dict := od, data := .fields vs } ∧ vs[1]? = some .none ∧ E (.ref e) s₁) E s) :
    wpAny M A (raiseStmt env (some x) none) Q E s := by
  have hcB : (Value.ref C :: bm).contains (.type "BaseException") = true := by rw [List.contains_cons, T.hasBase, Bool.or_true]
  unfold raiseStmt
  refine wpAny_bind (wpAny_mono hx (fun v s₁ h₁ => ?_) fun _ _ x => x)
  obtain ⟨e, od, vs, rfl, hC, he, h1, hE⟩ := h₁
  obtain ⟨hp, g, d, tk, os⟩ := s₁
  repeat (first | with_reducible refine wpAny_loadPart_at he ?_ | with_reducible refine wpAny_loadPart_at hC ?_ | (with_reducible refine wpAny_isSubtype_exc hC ?_; rw [hcB]) | (with_reducible refine wpAny_field he rfl h1 ?_) | wp_step)
  exact wpAny_raiseNew_none hh hE
end
end SX
namespace SX
open PySem PySem.W PySem.Builtin PySem.Builtin.ObjectAttr

abbrev vmro : List Value := [.type "ValueError", .type "Exception", .type "BaseException", .type "object"]
/-- an error class of the text, straight under another (W) that stands under ValueError -/
structure ExcC (K : Frag) (W C : Addr) : Prop where
  lk : ∃ nm q N bs sn sub ab col dd k0 k1 k2 k3 k5, K.lookup C = some (excClassObj nm q C N bs (.ref W :: vmro) true sn sub ab col dd k0 k1 k2 k3 k5 "ValueError.__new__")
  sa : findIn K (.ref C) "__setattr__" = some (some (.builtin "object.__setattr__"))
  ga : findIn K (.ref C) "__getattribute__" = some (some (.builtin "BaseException.__getattribute__"))
  gh : findIn K (.ref C) "__getattr__" = some none
  cl : findIn K (.ref C) "__class__" = some (some (.builtin "object.__class__"))
  clg : specialIn K (.builtin "object.__class__") "__get__" = some (some (.builtin "getset_descriptor.__get__"))
  clt : takesIn K (.builtin "object.__class__") = some true
  kp : keepIn K (.ref C) = true
theorem bmOk (W : Addr) : BmOk "ValueError" (.ref W :: vmro) := ⟨by simp [vmro], by simp [vmro], by simp [vmro], by simp [vmro]⟩
theorem passes (self : Value) (C W : Addr) : refuseLoop self "__setattr__" (.ref C :: .ref W :: vmro) = pure () := by
  rw [refuseLoop_ref, refuseLoop_ref]
  exact PySem.F.store_ValueError.passes self
theorem ExcC.cls {K : Frag} {W C : Addr} (c : ExcC K W C) : ∃ cd : ClassData, clsIn K C = some cd ∧ cd.hasDict = true ∧ cd.mro = .ref C :: .ref W :: vmro := by
  obtain ⟨nm, q, N, bs, sn, sub, ab, col, dd, k0, k1, k2, k3, k5, e⟩ := c.lk
  exact ⟨_, by unfold clsIn; rw [e], rfl, rfl⟩
theorem ExcC.mro {K : Frag} {W C : Addr} (c : ExcC K W C) (b : Value) : mroIn K C b = some ((Value.ref C :: .ref W :: vmro).contains b) := by
  obtain ⟨cd, h1, _, h3⟩ := c.cls
  unfold mroIn
  rw [h1, Option.bind_some, h3]
  rfl

section
variable {prog : Program} {w : World} {A : Around} {E : Value → Shared → Prop} {s : Shared} {K : Frag} {W C x : Addr} {name : Str} {v : Value} {vs : Array Value}
/-- object.__setattr__ of an exception, up to its own dict -/
theorem osa_exc {od : Option Addr} {o : Option Obj} {tk : Tok} {R : Result → Shared → Prop} (X : K.In s.heap) (c : ExcC K W C) (na : findIn K (.ref C) name = some none) (I : InstAt s.heap x ⟨.ref C, od, .fields vs, #[]⟩ C o)
    (h : wpAny (model prog w) A.in1 (storeInOwnDict (.ref x) (.ref C) (.str name tk) name v false)
      (fun fin s' => match fin with | .done f => R (.ok f) s' | .again c' => c'.quiet = true ∧ codeAny (model prog w) A c' R s') (fun e s' => R (.error e) s') s) :
    codeAny (model prog w) A (.call (.builtin "object.__setattr__") ⟨[.ref x, .str name tk, v], []⟩) R s := by
  have SF := PySem.F.store_object
  obtain ⟨cd, hc, hdct, hmro⟩ := c.cls
  have sub : Looks (model prog w) s.heap (isInstance (.ref x) (.type "object")) true := I.type.andThen (looks_mroIn X (by rw [c.mro]; simp [vmro]))
  refine codeAny_call_builtin SF.slot.plain SF.entry (@check_slot (model prog w) _ _ s "object.__setattr__" "object" "__setattr__" (.ref x) [.str name tk, v] [] _ SF.kind SF.split sub (SF.args (.ref x) (.str name tk) v) ?_)
  have hm : Looks (model prog w) s.heap (mroOf (.ref C)) cd.mro := (looks_clsIn X hc).andThen .now
  rw [osa_eq, refuse_eq]
  refine wpAny_bind (wpAny_bind (I.type.here (wpAny_bind (hm.here ?_))))
  rw [hmro, passes]
  exact wpAny_pure (wpAny_bind (I.type.here (wpAny_bind ((looks_findIn X na).here (wpAny_bind (wpAny_pure h))))))
/-- the first attribute that is stored: its dict is made -/
theorem set_first {Q : Unit → Shared → Prop} (X : K.In s.heap) (c : ExcC K W C) (na : findIn K (.ref C) name = some none) (hx : s.heap.get? x = some ⟨.ref C, none, .fields vs, #[]⟩)
    (h : ∀ h' tk', h'.get? x = some ⟨.ref C, some s.heap.objs.size, .fields vs, #[]⟩ → h'.Ns1 s.heap.objs.size (fun y => if y = name then some v else none) → (∀ b o, b ≠ x → s.heap.get? b = some o → h'.get? b = some o) → Q () { s with heap := h', toks := tk' }) :
    wpAny (model prog w) A (setAttr (.ref x) name v) Q E s := by
  have I : InstAt s.heap x ⟨.ref C, none, .fields vs, #[]⟩ C none := ⟨hx, rfl, rfl, trivial⟩
  refine set_plain X I c.sa (osa_exc (s := { s with toks := s.toks + 1 }) X c na I ?_)
  obtain ⟨cd, hc, hdct, hmro⟩ := c.cls
  obtain ⟨hp, g, d, t, os⟩ := s
  have hx : hp.get? x = some ⟨.ref C, none, .fields vs, #[]⟩ := hx
  unfold storeInOwnDict
  refine wpAny_bind (wpAny_pure ?_)
  show wpAny _ _ (ownDictForStores (.ref x) >>= _) _ _ _
  refine wpAny_bind ?_
  show wpAny _ _ (instanceDict x true) _ _ _
  unfold instanceDict
  refine wpAny_bind (wpAny_loadPart hx (wpAny_bind ((looks_clsIn (M := model prog w) X hc).at ?_)))
  rw [hdct]
  have hx₁ : (hp.push { cls := .type "dict", data := .dict #[] }).get? x = some ⟨.ref C, none, .fields vs, #[]⟩ := Heap.get?_push_of_some _ hx
  have hxs : x ≠ hp.objs.size := Nat.ne_of_lt (Heap.lt_size hx)
  refine wpAny_bind (wpAny_alloc' ?_)
  refine wpAny_bind (wpAny_update' hx₁ ?_)
  refine wpAny_pure ?_
  have hgd : ((hp.push { cls := .type "dict", data := .dict #[] }).update x fun o => { cls := o.cls, dict := some hp.objs.size, data := o.data, slots := o.slots }).get? hp.objs.size
      = some { cls := .type "dict", data := .dict #[] } :=
    (Heap.get?_update_ne _ _ _ _ hxs.symm).trans (Heap.get?_push_at rfl rfl)
  have hnd : ((hp.push { cls := .type "dict", data := .dict #[] }).update x fun o => { cls := o.cls, dict := some hp.objs.size, data := o.data, slots := o.slots }).Ns hp.objs.size (fun _ => none) :=
    ⟨_, #[], _, hgd, rfl, fun e he => absurd he (by simp), fun _ => rfl⟩
  show wpAny _ _ (storeInDict hp.objs.size (.str name t) name v) _ _ _
  unfold storeInDict newKeyGuard
  refine wpAny_bind (wpAny_pure (wpAny_bind (wpAny_nsSet1 (Heap.Ns1.of_empty hnd) fun h' hn' hs => ?_)))
  obtain ⟨oD, esD, epD, hoD, hdD, hcD⟩ := hn'.count (Within.cons name v Within.nil)
  refine wpAny_bind (wpAny_lookBehind hoD (by rw [hdD]; exact pastItsLine_dict (Nat.le_trans hcD (by rw [List.length_cons, List.length_nil, sizeLine_eq]; omega))) ?_)
  refine wpAny_pure (h h' _ ?_ hn' fun b o hbx hb => ?_)
  · exact (hs.2 x hxs).trans (Heap.get?_update_self _ hx₁ rfl)
  · exact (hs.2 b (Nat.ne_of_lt (Heap.lt_size hb))).trans ((Heap.get?_update_ne _ _ _ _ hbx).trans (Heap.get?_push_of_some _ hb))
/-- another one -/
theorem set_next {Q : Unit → Shared → Prop} {dx : Addr} {mA : Str → Option Value} {ns : List Str} (X : K.In s.heap) (c : ExcC K W C) (na : findIn K (.ref C) name = some none) (hx : s.heap.get? x = some ⟨.ref C, some dx, .fields vs, #[]⟩)
    (hne : dx ≠ x) (hns : s.heap.Ns1 dx mA) (hw : Within mA ns) (hsz : ns.length ≤ sizeLine)
    (h : ∀ h' tk', h'.Ns1 dx (fun y => if y = name then some v else mA y) → Heap.SameBut dx s.heap h' → Q () { s with heap := h', toks := tk' }) :
    wpAny (model prog w) A (setAttr (.ref x) name v) Q E s := by
  obtain ⟨od, hod, _⟩ := L2.lookIn_ns hns
  have I : InstAt s.heap x ⟨.ref C, some dx, .fields vs, #[]⟩ C (some od) := ⟨hx, rfl, rfl, hod⟩
  refine set_plain X I c.sa (osa_exc (s := { s with toks := s.toks + 1 }) X c na I ?_)
  obtain ⟨cd, hc, hdct, hmro⟩ := c.cls
  obtain ⟨hp, g, d, t, os⟩ := s
  have hx : hp.get? x = some ⟨.ref C, some dx, .fields vs, #[]⟩ := hx
  unfold storeInOwnDict
  refine wpAny_bind (wpAny_pure ?_)
  show wpAny _ _ (ownDictForStores (.ref x) >>= _) _ _ _
  refine wpAny_bind ?_
  show wpAny _ _ (instanceDict x true) _ _ _
  unfold instanceDict
  refine wpAny_bind (wpAny_loadPart hx (wpAny_bind ((looks_clsIn (M := model prog w) X hc).at ?_)))
  rw [hdct]
  refine wpAny_pure ?_
  show wpAny _ _ (storeInDict dx (.str name t) name v) _ _ _
  unfold storeInDict newKeyGuard
  refine wpAny_bind (wpAny_pure (wpAny_bind (wpAny_nsSet1 hns fun h' hn' hs => ?_)))
  obtain ⟨oD, esD, epD, hoD, hdD, hcD⟩ := hn'.count (Within.cons name v hw)
  refine wpAny_bind (wpAny_lookBehind hoD (by rw [hdD]; exact pastItsLine_dict (Nat.le_trans hcD (by rw [List.length_cons]; omega))) ?_)
  exact wpAny_pure (h h' _ hn' hs)
/-- an attribute of an exception, from its own dict -/
theorem get_entry {od : Option Addr} {o : Option Obj} {tk : Tok} {r : Value} {Q : Fin → Shared → Prop} (X : K.In s.heap) (I : InstAt s.heap x ⟨.ref C, od, .fields vs, #[]⟩ C o) (hf : findObj K C o name = some (.value r)) (hq : Q (.done (.ret r)) s) :
    wpAny (model prog w) A (Builtin.«object.__getattribute__» ⟨[.ref x, .str name tk], []⟩) Q E s := by
  obtain ⟨hh', g, d, t, os⟩ := s
  have L0 := I.type (M := model prog w)
  have L1 := looks_find (M := model prog w) X I hf
  refine wpAny_bind (wpAny_pure (wpAny_bind (wpAny_pure ?_)))
  exact wpAny_bind (L0.at (wpAny_bind (L1.at (wpAny_pure hq))))
theorem get_by {od : Option Addr} {o : Option Obj} {tk : Tok} {r : Value} {fill expr : Bool} {Q : Value → Shared → Prop} (X : K.In s.heap) (c : ExcC K W C) (I : InstAt s.heap x ⟨.ref C, od, .fields vs, #[]⟩ C o) (hf : findObj K C o name = some (.value r)) (hh : handedIn r = true) (hq : Q r s) :
    wpAny (model prog w) A (getAttrBy (.ref x) (.str name tk) fill expr) Q E s := by
  obtain ⟨hp, g, d, t, os⟩ := s
  have L0 := I.type (M := model prog w)
  have L1 := looks_findIn (M := model prog w) X c.ga
  have L2 := looks_findIn (M := model prog w) X c.gh
  have sub : Looks (model prog w) hp (isInstance (.ref x) (.type "BaseException")) true := L0.andThen (looks_mroIn X (by rw [c.mro]; simp [vmro]))
  unfold getAttrBy
  refine wpAny_holding (wpAny_bind (L0.at (wpAny_bind (L1.at ?_))))
  show wpAny _ _ (getAttrByItsOwn _ _ _ _ _ _) _ _ _
  unfold getAttrByItsOwn
  refine wpAny_bind ?_
  show wpAny _ _ (typeLookup (.ref C) "__getattr__") _ _ _
  refine L2.at (wpAny_bind (wpAny_attempt (wpAny_holding ?_)))
  have hx0 : (expr && onTheHeap (Value.builtin "BaseException.__getattribute__")) = false := by cases expr <;> rfl
  unfold callGetattribute
  rw [hx0, if_neg Bool.false_ne_true]
  unfold boundAndCalled
  rw [PySem.F.excAttr_ValueError.ga.bind]
  refine wpAny_bind (wpAny_pure ?_)
  have hk : builtinKind "BaseException.__getattribute__" = some .slot := by decide +kernel
  have hsplit : splitId "BaseException.__getattribute__" = some ("BaseException", "__getattribute__") := by decide +kernel
  refine wpAny_call (codeAny_call_builtin PySem.F.excAttr_ValueError.ga.plain PySem.F.entry_bexc_ga (@check_slot (model prog w) _ _ _ "BaseException.__getattribute__" "BaseException" "__getattribute__" (.ref x) [.str name tk] [] _ hk hsplit sub (PySem.F.args_bexc_ga (.ref x) (.str name tk)) ?_))
  refine get_entry X I hf ?_
  show wpAny _ _ (handedOut r) _ _ _
  rw [handedOut_of hh]
  exact wpAny_pure hq
/-- .__class__, for isinstance -/
theorem class_exc {od : Option Addr} {o : Option Obj} {Q : Option Value → Shared → Prop} (X : K.In s.heap) (c : ExcC K W C) (I : InstAt s.heap x ⟨.ref C, od, .fields vs, #[]⟩ C o) (h : Q (some (.ref C)) { s with toks := s.toks + 1 }) :
    wpAny (model prog w) A (getAttr? (.ref x) "__class__") Q E s := by
  obtain ⟨hp, g, d, t, os⟩ := s
  obtain ⟨cd, hcd, hdct, hmro⟩ := c.cls
  have L0 := I.type (M := model prog w)
  have L1 := looks_findIn (M := model prog w) X c.ga
  have L2 := looks_findIn (M := model prog w) X c.gh
  have sub : Looks (model prog w) hp (isInstance (.ref x) (.type "BaseException")) true := L0.andThen (looks_mroIn X (by rw [c.mro]; simp [vmro]))
  have hf : findObj K C o "__class__" = some (.bind (.builtin "getset_descriptor.__get__") (.builtin "object.__class__")) := by
    unfold findObj
    rw [hcd, Option.bind_some, c.cl, Option.bind_some]
    simp only [c.clg, c.clt, Option.bind_some]
  have L3 := looks_find (M := model prog w) X I hf
  unfold getAttr?
  refine wpAny_bind (wpAny_mkText ?_)
  unfold getAttrBy?
  refine wpAny_bind (wpAny_attempt ?_)
  unfold getAttrBy
  refine wpAny_holding (wpAny_bind (L0.at (wpAny_bind (L1.at ?_))))
  show wpAny _ _ (getAttrByItsOwn _ _ _ _ _ _) _ _ _
  unfold getAttrByItsOwn
  refine wpAny_bind ?_
  show wpAny _ _ (typeLookup (.ref C) "__getattr__") _ _ _
  refine L2.at (wpAny_bind (wpAny_attempt (wpAny_holding ?_)))
  unfold callGetattribute
  rw [show (false && onTheHeap (Value.builtin "BaseException.__getattribute__")) = false from rfl, if_neg Bool.false_ne_true]
  unfold boundAndCalled
  rw [PySem.F.excAttr_ValueError.ga.bind]
  refine wpAny_bind (wpAny_pure ?_)
  have hk : builtinKind "BaseException.__getattribute__" = some .slot := by decide +kernel
  have hsplit : splitId "BaseException.__getattribute__" = some ("BaseException", "__getattribute__") := by decide +kernel
  refine wpAny_call (codeAny_call_builtin PySem.F.excAttr_ValueError.ga.plain PySem.F.entry_bexc_ga (@check_slot (model prog w) _ _ _ "BaseException.__getattribute__" "BaseException" "__getattribute__" (.ref x) [.str "__class__" t] [] _ hk hsplit sub (PySem.F.args_bexc_ga (.ref x) (.str "__class__" t)) ?_))
  refine wpAny_bind (wpAny_pure (wpAny_bind (wpAny_pure ?_)))
  refine wpAny_bind (L0.at (wpAny_bind (L3.at ?_)))
  show wpAny _ _ (holding [.builtin "object.__class__"] (call (.builtin "getset_descriptor.__get__") [.builtin "object.__class__", .ref x, .ref C]) >>= ret) _ _ _
  refine wpAny_bind (wpAny_holding (wpAny_call (class_get (s := ⟨hp, g, d, t + 1, os⟩) X I (by rw [c.mro]; simp [vmro]) ?_)))
  refine wpAny_pure ?_
  show wpAny _ _ (handedOut (.ref C)) _ _ _
  exact wpAny_pure (wpAny_pure h)
theorem kitx_exc {od : Option Addr} {o : Option Obj} (c : ExcC K W C) : KitX K (.ref x) (.ref C) (fun h => InstAt h x ⟨.ref C, od, .fields vs, #[]⟩ C o) where
  ty := fun _ _ _ I => I.type
  it := fun _ _ X _ => by
    obtain ⟨nm, q, N, bs, sn, sub, ab, col, dd, k0, k1, k2, k3, k5, e⟩ := c.lk
    intro A' Q' E' s' k q
    unfold isType loadHead
    exact wpAny_bind (wpAny_loadPart (k _ _ (X _ _ e)) (wpAny_pure q))
  ne := fun h tp dd its n sl X htp => by
    obtain ⟨nm, q, N, bs, sn, sub, ab, col, dd, k0, k1, k2, k3, k5, e⟩ := c.lk
    refine Bool.eq_false_iff.mpr fun q => ?_
    have e' : C = tp := Value.ref.inj (beq_iff_eq.mp q)
    subst e'
    have z := (X _ _ e).symm.trans htp
    have z' : Value.type "type" = Value.type "tuple" := congrArg Obj.cls (Option.some.inj z)
    exact absurd (Value.type.inj z') (by decide)
  ca := fun X I k => class_exc X c I k
/-- isinstance of an exception -/
theorem isinst_exc {od : Option Addr} {o : Option Obj} {cv : Value} {b : Bool} {Q : Value → Shared → Prop} (X : K.In s.heap) (c : ExcC K W C) (I : InstAt s.heap x ⟨.ref C, od, .fields vs, #[]⟩ C o) (e : kitOne K (.ref C) cv = some b) (h : ∀ tk, Q (.bool b) { s with toks := tk }) :
    wpAny (model prog w) A (call (.builtin "isinstance") [.ref x, cv]) Q E s := kia_one (kitx_exc c) X I e (fun z => nomatch z) h
end
end SX
namespace SX
open PySem PySem.W

/-- the traceback that an exception's object bears -/
def TbAt (h : Heap) (vs : Array Value) (e : Addr) (T : Option Addr) : Prop :=
  match T with
  | none => vs[1]? = some .none
  | some t => vs[1]? = some (.ref t) ∧ t ≠ e ∧ ∃ oT ts x, h.get? t = some oT ∧ oT.data = .fields ts ∧ ts[3]? = some x

section
variable {M : Model} {A : Around} {E : Value → Shared → Prop} {s : Shared}
/-- what noteFrame does: a new entry T' ahead of the one that was there -/
structure Noted (FL : List Addr) (e : Addr) (T : Option Addr) (C : Addr) (od : Option Addr) (h h' : Heap) (T' : Option Addr) : Prop where
  keep : ∀ b o, b ∉ FL → b ≠ e → (∀ t, T = some t → b ≠ t) → h.get? b = some o → h'.get? b = some o
  slot : ∀ b o, b ∈ FL → h.get? b = some o → ∃ sl, h'.get? b = some { o with slots := sl }
  exc : ∃ vs, h'.get? e = some ⟨.ref C, od, .fields vs, #[]⟩ ∧ TbAt h' vs e T'
  new : (∃ t, T' = some t ∧ h.objs.size ≤ t) ∨ (T' = T ∧ T ≠ none)
  there : ∀ t o, T = some t → h.get? t = some o → ∃ o', h'.get? t = some o'
theorem note_any {base : Heap} {env : Env} {outer : List Env} {L e C : Addr} {od : Option Addr} {vs : Array Value} {T : Option Addr} {Q : Unit → Shared → Prop}
    (hfr : A.frames = some (env :: outer)) (hl : s.heap.FunFrames base (env :: outer)) (hf : env.frame = some L) (he : s.heap.get? e = some ⟨.ref C, od, .fields vs, #[]⟩) (ht : TbAt s.heap vs e T)
    (h : ∀ h' T', T' ≠ none → Noted ((env :: outer).filterMap (·.frame)) e T C od s.heap h' T' → Q () { s with heap := h' }) :
    wpAny M A (noteFrame (.ref e) env) Q E s := by
  have frF : ∀ b ∈ (env :: outer).filterMap (·.frame), ∃ o, s.heap.get? b = some o ∧ ∀ vs, o.data ≠ .fields vs := fun b hb => (hl.mem hb).2
  have hene : e ∉ (env :: outer).filterMap (·.frame) := fun hm => by
    obtain ⟨o, ho, hnf⟩ := frF e hm
    rw [he] at ho; injection ho with ho; subst ho; exact hnf vs rfl
  have h1s : 1 < vs.size := by
    unfold TbAt at ht
    cases T with
    | none => exact (Array.getElem?_eq_some_iff.mp ht).1
    | some t => exact (Array.getElem?_eq_some_iff.mp ht.1).1
  -- the entry is made over a heap hp in which the old head may have been written
  have make : ∀ (hp : Heap) (head : Value) (hadNext : Bool), hp.FunFrames base (env :: outer) → hp.objs.size = s.heap.objs.size → hp.get? e = some ⟨.ref C, od, .fields vs, #[]⟩ →
      (∀ b o, (∀ t, T = some t → b ≠ t) → s.heap.get? b = some o → hp.get? b = some o) → (∀ t o, T = some t → s.heap.get? t = some o → ∃ o', hp.get? t = some o' ∧ t ∉ (env :: outer).filterMap (·.frame) ∧ t ≠ e) →
      wpAny M A (do let a ← frameOf env; let pl ← entryPlaceOf L hadNext; let b ← EntryCells.newEntry head a .none (rawInt L) .none pl; setField (.ref e) 1 b) Q E { s with heap := hp } := by
    intro hp head hadNext hlp hsz hep kp tp
    refine wpAny_bind (wpAny_frameOf_fun (s := { s with heap := hp }) hfr hlp hf fun h₁ hs₁ => ?_)
    refine wpAny_bind (wpAny_entryPlaceOf fun pl hpl => ?_)
    unfold EntryCells.newEntry newFields
    refine wpAny_bind (wpAny_newObj_type ?_ (hpl.sizeOk5 _ _ _ _ _))
    have he₁ : h₁.get? e = some ⟨.ref C, od, .fields vs, #[]⟩ := (hs₁.2.1 e hene).trans hep
    have he₂ := Heap.get?_push_of_some (h := h₁) { cls := .type "traceback", dict := none, data := .fields ([head, .ref L, .none, rawInt L, .none] ++ (if pl.isEmpty then List.replicate 6 Value.none else pl)).toArray } he₁
    refine wpAny_setField he₂ rfl h1s ?_
    have hTe : h₁.objs.size ≠ e := Nat.ne_of_gt (Heap.lt_size he₁)
    have he₃ := Heap.get?_update_self (Obj.mapFields (·.setIfInBounds 1 (Value.ref h₁.objs.size))) he₂ rfl
    have hT₃ := (Heap.get?_update_other (h₁.push { cls := .type "traceback", dict := none, data := .fields ([head, .ref L, .none, rawInt L, .none] ++ (if pl.isEmpty then List.replicate 6 Value.none else pl)).toArray })
      (Obj.mapFields (·.setIfInBounds 1 (Value.ref h₁.objs.size))) (Ne.symm hTe)).trans (Heap.get?_push_size h₁ rfl)
    have keep : ∀ b o, b ≠ e → h₁.get? b = some o →
        ((h₁.push { cls := .type "traceback", dict := none, data := .fields ([head, .ref L, .none, rawInt L, .none] ++ (if pl.isEmpty then List.replicate 6 Value.none else pl)).toArray }).update e (Obj.mapFields (·.setIfInBounds 1 (Value.ref h₁.objs.size)))).get? b = some o :=
      fun b o hbe hb => by
        rw [Heap.get?_update_other _ _ (Ne.symm hbe)]
        exact Heap.get?_push_of_some _ hb
    refine h _ (some h₁.objs.size) (by simp) ⟨fun b o hb hbe hbt q => ?_, fun b o hb q => ?_, ⟨vs.setIfInBounds 1 (.ref h₁.objs.size), ?_, ?_⟩, .inl ⟨_, rfl, by rw [hs₁.1, hsz]; exact Nat.le_refl _⟩, fun t o e1 e2 => ?_⟩
    · exact keep b o hbe ((hs₁.2.1 b hb).trans (kp b o hbt q))
    · have hbt : ∀ t, T = some t → b ≠ t := fun t e1 z => by
        obtain ⟨o', q', z2, _⟩ := tp t o e1 (z ▸ q)
        exact z2 (z ▸ hb)
      obtain ⟨sl, q'⟩ := hs₁.2.2 b o (kp b o hbt q)
      exact ⟨sl, keep b _ (fun z => hene (z ▸ hb)) q'⟩
    · exact he₃
    · refine ⟨by simp [h1s], hTe, _, _, rawInt L, hT₃, rfl, by first | (simp; done) | (rcases hpl with rfl | ⟨_, _, _, _, _, _, _, rfl⟩ <;> simp)⟩
    · obtain ⟨o', q', z2, z3⟩ := tp t o e1 e2
      exact ⟨o', keep t o' z3 ((hs₁.2.1 t z2).trans q')⟩
  unfold noteFrame
  simp only [hf]
  cases T with
  | none =>
    refine wpAny_bind (wpAny_field he rfl ht ?_)
    rw [if_neg (by decide)]
    exact make s.heap .none _ hl rfl he (fun b o _ q => q) (fun t o e1 => nomatch e1)
  | some t =>
    obtain ⟨ht1, hte, oT, ts, x, hT, hdT, h3⟩ := ht
    have tFL : t ∉ (env :: outer).filterMap (·.frame) := fun hm => by
      obtain ⟨o, ho, hnf⟩ := frF t hm
      rw [hT] at ho; injection ho with ho; subst ho; exact hnf ts hdT
    refine wpAny_bind (wpAny_field he rfl ht1 ?_)
    rw [if_pos (show (Value.ref t != Value.none) = true from by simp)]
    refine wpAny_bind (wpAny_field hT hdT h3 ?_)
    by_cases hx : (x == rawInt L) = true
    · rw [if_pos hx]
      refine wpAny_pure (h s.heap (some t) (by simp) ⟨fun b o _ _ _ q => q, fun b o _ q => ⟨o.slots, q⟩, ⟨vs, he, ht1, hte, oT, ts, x, hT, hdT, h3⟩, .inr ⟨rfl, by simp⟩, fun t' o e1 q => ⟨o, q⟩⟩)
    · rw [if_neg hx]
      refine wpAny_bind (wpAny_setField hT hdT (Array.getElem?_eq_some_iff.mp h3).1 ?_)
      have other : ∀ b, b ≠ t → (s.heap.update t (Obj.mapFields (·.setIfInBounds 3 Value.none))).get? b = s.heap.get? b := fun b hb => Heap.get?_update_other _ _ (Ne.symm hb)
      have hT' := Heap.get?_update_self (Obj.mapFields (·.setIfInBounds 3 Value.none)) hT (Obj.isFreed_of_fields (Obj.data_mapFields hdT _))
      refine make (s.heap.update t (Obj.mapFields (·.setIfInBounds 3 Value.none))) _ _ (hl.of_keeps fun b o hb hnf => ⟨o, (other b fun q => ?_).trans hb, rfl⟩) (Heap.SameBut.update ..).1 ((other e (Ne.symm hte)).trans he) (fun b o hb q => (other b (hb t rfl)).trans q) (fun t' o e1 q => ?_)
      · rw [q, hT] at hb; injection hb with hb; subst hb; exact hnf ts hdT
      · cases e1
        exact ⟨_, hT', tFL, hte⟩
/-- setFlight of an exception that bears a traceback -/
theorem flight_any {e C t : Addr} {od : Option Addr} {vs : Array Value} {fr : Option Addr} {Q : Unit → Shared → Prop} (he : s.heap.get? e = some ⟨.ref C, od, .fields vs, #[]⟩) (ht : TbAt s.heap vs e (some t))
    (h : ∀ h', Heap.SameBut t s.heap h' → TbAt h' vs e (some t) → Q () { s with heap := h' }) : wpAny M A (setFlight (.ref e) fr) Q E s := by
  obtain ⟨ht1, hte, oT, ts, x, hT, hdT, h3⟩ := ht
  unfold setFlight
  refine wpAny_bind (wpAny_field he rfl ht1 ?_)
  rw [if_pos (show (Value.ref t != Value.none) = true from by simp)]
  have hsz := (Array.getElem?_eq_some_iff.mp h3).1
  refine wpAny_setField hT hdT hsz (h _ (Heap.SameBut.update ..) ⟨ht1, hte, _, _, _, Heap.get?_update_self _ hT (Obj.isFreed_of_fields (Obj.data_mapFields hdT _)), Obj.data_mapFields hdT _, Array.getElem?_setIfInBounds_self_of_lt hsz⟩)
end
end SX
namespace L2
open PySem PySem.Spec PyProof.Rows

/-! ### an exception in the abstract heap: just made (ExN), or thrown (ExO) -/
def ExN (e C : Addr) (od : Option Addr) : HO := .ext fun h => ∃ vs, h.get? e = some ⟨.ref C, od, .fields vs, #[]⟩ ∧ vs[1]? = some .none
def ExO (e C : Addr) (od : Option Addr) : HO := .ext fun h => ∃ vs, h.get? e = some ⟨.ref C, od, .fields vs, #[]⟩
section
variable {P : Program} {w : World} {H : Hp} {h : Heap} {e C : Addr} {od : Option Addr}
theorem exN_ok {vs : Array Value} (a : h.get? e = some ⟨.ref C, od, .fields vs, #[]⟩) (b : vs[1]? = some .none) : ObjOk P w H h e (ExN e C od) :=
  ⟨⟨vs, a, b⟩, ⟨_, a⟩, fun h1 h2 ⟨vs, a, b⟩ k => ⟨vs, k _ a, b⟩⟩
theorem exO_ok {vs : Array Value} (a : h.get? e = some ⟨.ref C, od, .fields vs, #[]⟩) : ObjOk P w H h e (ExO e C od) :=
  ⟨⟨vs, a⟩, ⟨_, a⟩, fun h1 h2 ⟨vs, a⟩ k => ⟨vs, k _ a⟩⟩
theorem exN_at (ok : HOk P w H h) (q : H e = some (ExN e C od)) : ∃ vs, h.get? e = some ⟨.ref C, od, .fields vs, #[]⟩ ∧ vs[1]? = some .none := (ok e _ q).1
theorem exO_at (ok : HOk P w H h) (q : H e = some (ExO e C od)) : ∃ vs, h.get? e = some ⟨.ref C, od, .fields vs, #[]⟩ := (ok e _ q).1
end

/-- in flight: the exception is tracked, its traceback is young and not tracked -/
structure FlyAt (X : Cx) (H : Hp) (h : Heap) (e C : Addr) (od : Option Addr) (traced : Bool) : Prop where
  tr : H e = some (ExO e C od)
  tb : ∃ vs T, h.get? e = some ⟨.ref C, od, .fields vs, #[]⟩ ∧ SX.TbAt h vs e T ∧ (∀ t, T = some t → H t = none ∧ X.s₀.heap.objs.size ≤ t ∧ ∀ p ∈ X.pn, p.1 ≠ t) ∧ (traced = true → T ≠ none)
def Fly (X : Cx) (E : XK) (ev : Value) (s' : Shared) : Prop := ∃ e C od σ H', ev = .ref e ∧ Inv X [] σ H' s' ∧ FlyAt X H' s'.heap e C od false ∧ E (.ref C) (some e) H'
abbrev Cx.fly (X : Cx) (E : XK) : Cx := X.wish (Fly X E)
/-- a frame of its own -/
def OwnFr (X : Cx) : Prop := X.stack = X.env :: X.outer ∧ X.env.frame = some X.env.locals

section
variable {X : Cx} {σ : St} {H : Hp} {s : Shared} {e C : Addr} {od : Option Addr} {b : Bool}
theorem tb_apart (I : Inv X [] σ H s) {t : Addr} {oT : Obj} {ts : Array Value} (hT : s.heap.get? t = some oT) (hd : oT.data = .fields ts) : t ≠ X.env.locals ∧ (∀ x c, X.env.cells.lookup x = some c → c ≠ t) := by
  refine ⟨fun z => ?_, fun x c q z => ?_⟩
  · obtain ⟨m, ⟨o, es, ep, ho, hd', _⟩, _⟩ := I.loc
    rw [← z, hT] at ho; cases ho; rw [hd] at hd'; cases hd'
  · obtain ⟨v, o, ho, hd'⟩ := I.cell x c q
    rw [z, hT] at ho; cases ho; rw [hd] at hd'; cases hd'
theorem fly_note {Q : Unit → Shared → Prop} {E' : Value → Shared → Prop} (hO : OwnFr X) (I : Inv X [] σ H s) (f : FlyAt X H s.heap e C od b) (h : ∀ s', Inv X [] σ H s' → FlyAt X H s'.heap e C od true → Q () s') :
    wpAny (model X.prog X.w) X.A (noteFrame (.ref e) X.env) Q E' s := by
  obtain ⟨hst, hfm⟩ := hO
  obtain ⟨vs, T, he, ht, hT, _⟩ := f.tb
  have hfr : X.A.frames = some (X.env :: X.outer) := by rw [← hst]; exact I.ok.frames
  have hl : s.heap.FunFrames X.base (X.env :: X.outer) := by have := I.stack; rw [hst] at this; exact this
  have hFL : (X.env :: X.outer).filterMap (·.frame) = X.env.locals :: X.fs := by rw [List.filterMap_cons, hfm]; rfl
  refine SX.note_any (T := T) hfr hl hfm he ht fun h' T' hT' N => ?_
  rw [hFL] at N
  have trk : ∀ c u, H c = some u → c ∉ X.env.locals :: X.fs := fun c u q z => by
    have := I.stkFree c (by unfold frs; rw [hst, hFL]; exact z)
    rw [q] at this; cases this
  have nT : ∀ c u, H c = some u → ∀ t, T = some t → c ≠ t := fun c u q t e1 z => by
    have := (hT t e1).1
    rw [← z, q] at this; cases this
  have hok' : HOk X.prog X.w H h' := fun c u q => by
    by_cases hc : c = e
    · subst hc
      rw [f.tr] at q; cases q
      obtain ⟨vs', q', _⟩ := N.exc
      exact exO_ok q'
    · refine (I.hok c u q).stay (fun c' v hc' q' => N.keep c' v ?_ ?_ ?_ q') (fun _ q => q) (fun _ _ q => q) fun _ _ q => q
      · rcases hc' with z | z
        · rw [z]; exact trk c u q
        · exact trk c' _ z
      · rcases hc' with z | z
        · rw [z]; exact hc
        · intro zz; rw [zz, f.tr] at z; cases z
      · rcases hc' with z | z
        · rw [z]; exact nT c u q
        · exact nT c' _ z
  have I' : Inv X [] σ H { s with heap := h', gens := s.gens, drawn := s.drawn, toks := s.toks } := by
    refine I.step (ch := T.toList) (fun c hc => ?_) (fun c o h1 h2 h3 q n => ?_) (fun c o h1 h2 h3 q n => N.slot c o (List.mem_cons_of_mem _ h2) q) (fun _ _ _ _ n => n) (fun c o h3 q => ?_) (fun _ _ q => q) (fun _ _ _ q => q) (fun _ _ q => q) (fun m hm => ?_) hok' I.bare
    · have e1 : T = some c := by cases T <;> simp at hc; rw [hc]
      obtain ⟨t1, t2, t3⟩ := hT c e1
      rw [e1] at ht
      obtain ⟨_, _, oT, ts, x, hTo, hTd, _⟩ := ht
      obtain ⟨a1, a2⟩ := tb_apart I hTo hTd
      exact ⟨.inr t2, a1, a2, fun p hp => t3 p (by simpa using hp)⟩
    · refine N.keep c o ?_ ?_ ?_ q
      · intro z
        rcases List.mem_cons.mp z with z | z
        · exact h1 z
        · exact h2 z
      · intro z; rw [z, f.tr] at n; cases n
      · intro t e1 z; exact h3 (by rw [e1, z]; simp)
    · by_cases hc : c = e
      · subst hc
        obtain ⟨vs', q', _⟩ := N.exc
        exact ⟨_, q'⟩
      · by_cases hF : c ∈ X.env.locals :: X.fs
        · obtain ⟨sl, q'⟩ := N.slot c o hF q
          exact ⟨_, q'⟩
        · exact ⟨o, N.keep c o hF hc (fun t e1 z => h3 (by rw [e1, z]; simp)) q⟩
    · obtain ⟨o, es, ep, ho, r⟩ := hm
      obtain ⟨sl, q'⟩ := N.slot _ o List.mem_cons_self ho
      exact ⟨_, es, ep, q', r⟩
  refine h _ I' ⟨f.tr, ?_⟩
  obtain ⟨vs', q', t'⟩ := N.exc
  refine ⟨vs', T', q', t', fun t e1 => ?_, fun _ => hT'⟩
  rcases N.new with ⟨t2, e2, hle⟩ | ⟨e2, _⟩
  · rw [e1] at e2; cases e2
    refine ⟨I.hok.fresh hle, Nat.le_trans I.sz hle, fun p hp z => ?_⟩
    have := Heap.lt_size (I.pin p (List.mem_append_left _ hp)).1
    rw [z] at this
    exact absurd (Nat.lt_of_lt_of_le this hle) (Nat.lt_irrefl _)
  · exact hT t (e2 ▸ e1)
theorem fly_set {Q : Unit → Shared → Prop} {E' : Value → Shared → Prop} {fr : Option Addr} {A : Around} (I : Inv X [] σ H s) (f : FlyAt X H s.heap e C od true) (h : ∀ s', Inv X [] σ H s' → FlyAt X H s'.heap e C od true → Q () s') :
    wpAny (model X.prog X.w) A (setFlight (.ref e) fr) Q E' s := by
  obtain ⟨vs, T, he, ht, hT, hn⟩ := f.tb
  cases T with
  | none => exact absurd rfl (hn rfl)
  | some t =>
    obtain ⟨t1, t2, t3⟩ := hT t rfl
    refine SX.flight_any he ht fun h' sb ht' => ?_
    obtain ⟨_, hte, oT, ts, x, hTo, hTd, _⟩ := ht
    obtain ⟨a1, a2⟩ := tb_apart I hTo hTd
    have I' : Inv X [] σ H { s with heap := h' } := I.turned (t' := s.toks) (it := t) (fun b o hb q => (sb.2 b hb).trans q) t1 a1 (.inr t2) a2 fun p hp => t3 p (by simpa using hp)
    exact h _ I' ⟨f.tr, vs, some t, (sb.2 e (Ne.symm hte)).trans he, ht', fun t' e1 => by cases e1; exact ⟨t1, t2, t3⟩, fun _ => by simp⟩
/-- the first field is read and is no None -/
theorem fly_field {Q : Value → Shared → Prop} {E' : Value → Shared → Prop} {A : Around} (f : FlyAt X H s.heap e C od true) (h : ∀ t, Q (.ref t) s) : wpAny (model X.prog X.w) A (field (.ref e) 1) Q E' s := by
  obtain ⟨vs, T, he, ht, hT, hn⟩ := f.tb
  cases T with
  | none => exact absurd rfl (hn rfl)
  | some t => exact wpAny_field he rfl ht.1 (h t)
theorem own_fly {E : XK} (hO : OwnFr X) : PassesOwn (model X.prog X.w) X.A X.env (Fly X E) := by
  rintro ev s' ⟨e, C, od, σ, H, rfl, I, f, q⟩
  refine fly_note hO I f fun s2 I2 f2 => ?_
  unfold cameBackBy
  refine wpAny_bind (fly_field f2 fun t => ?_)
  rw [if_neg (by simp)]
  exact fly_set I2 f2 fun s3 I3 f3 => ⟨e, C, od, σ, H, rfl, I3, ⟨f3.tr, let ⟨vs, T, a, b, c, _⟩ := f3.tb; ⟨vs, T, a, b, c, fun z => nomatch z⟩⟩, q⟩
end

/-- an exception behind a call -/
def CXe (P : Program) (w : World) : CXT := fun outer H s E ev s' => ∃ e C od H', ev = .ref e ∧ s'.os = s.os ∧ AllBare s'.gens ∧ Un (frs outer) [] H H' s.heap s'.heap ∧ HOk P w H' s'.heap ∧ H' e = some (ExO e C od) ∧
  (∃ vs T, s'.heap.get? e = some ⟨.ref C, od, .fields vs, #[]⟩ ∧ SX.TbAt s'.heap vs e T ∧ ∀ t, T = some t → H' t = none ∧ s.heap.objs.size ≤ t) ∧ E (.ref C) (some e) H'
section
variable {X : Cx}
/-- it passes on to this body's own wish -/
theorem passX {E E' : XK} (hE : ∀ c e H, E c e H → E' c e H) : Passes (CXe X.prog X.w) (X.fly E') E := by
  rintro pins σ H s ev s' I ⟨e, C, od, H', rfl, os, bare, un, hok, he, ⟨vs, T, q1, q2, q3⟩, q⟩
  have I0 : Inv X pins σ H s := I.unwish
  have I1 : Inv X [] σ H s := I0.pins_of fun p hp => absurd hp (by simp)
  have I2 : Inv X [] σ H' s' := I1.call' os un hok bare (fun b hb => absurd hb (by simp))
  refine ⟨e, C, od, σ, H', rfl, I2, ⟨he, vs, T, q1, q2, fun t e1 => ?_, fun z => nomatch z⟩, hE _ _ _ q⟩
  obtain ⟨t1, t2⟩ := q3 t e1
  refine ⟨t1, Nat.le_trans I0.sz t2, fun p hp z => ?_⟩
  have := Heap.lt_size (I0.pin p (List.mem_append_left _ hp)).1
  rw [z] at this
  exact absurd (Nat.lt_of_lt_of_le this t2) (Nat.lt_irrefl _)
theorem PSs.unfly {E : XK} {st : List Stmt} {t : TS} (h : PSs (X.fly E) st t) (hx : ∀ e s', Fly X E e s' → X.xe e s') : PSs X st t := fun pins s σ H D I hw =>
  wpAny_mono (h pins s σ H D (I.wish _) hw) (fun f s' q => SP.unwish q) hx
end
/-- it leaves a def -/
theorem leave_fly {P : Program} {w : World} {K : PySem.W.Frag} {mg : Str → Option Value} {base : Heap} {N : List Str} {qual : Str} {scope : Scope} {f : Addr} {cd : Value} {A : Around} {outer : List Env} {s : Shared} {H : Hp} {E : XK} {ev : Value} {s' : Shared}
    (h : Fly (cxOf (CXe P w) P w K mg base N qual scope f cd A outer s H E) E ev s') : (cxOf (CXe P w) P w K mg base N qual scope f cd A outer s H E).xe ev s' := by
  obtain ⟨e, C, od, σ, H', rfl, I, fl, q⟩ := h
  show wpAny (model P w) _ (leaving _ (.ref e)) _ _ s'
  unfold leaving
  have hO : OwnFr (cxOf (CXe P w) P w K mg base N qual scope f cd A outer s H E) := ⟨rfl, rfl⟩
  refine wpAny_bind (fly_note hO I fl fun s2 I2 f2 => fly_set I2 f2 fun s3 I3 f3 => ?_)
  obtain ⟨vs, T, a, b, c, _⟩ := f3.tb
  exact ⟨e, C, od, H', rfl, I3.os, I3.bare, I3.base, I3.hok, f3.tr, ⟨vs, T, a, b, fun t e1 => ⟨(c t e1).1, (c t e1).2.1⟩⟩, q⟩
section
variable {P : Program} {w : World} {K : PySem.W.Frag} {mg : Str → Option Value} {base : Heap}
/-- THE RULE for a def out of which exceptions may come -/
theorem Fun.okX {x qual : Str} {st : Stmt} {f : Addr} {fd : FuncData} {N ps : List Str} {k : Nat} {sp : Sp} (F : Fun K x qual st f fd) (S : FnScope N ps (defScope st)) (len : ∀ vs H Q E, sp vs H Q E → vs.length = ps.length)
    (hbody : ∀ (cdv : Value) (A : Around) (outer : List Env) (s : Shared) (H : Hp) (vs : List V) (Q : VK) (E : XK), Room k (A.deeper (envOfC qual (defScope st) s.heap.objs.size f cdv)) → sp vs H Q E →
      ∃ t, PSs ((cxOf (CXe P w) P w K mg base N qual (defScope st) f cdv A outer s H E).fly E) (defBody st) t ∧ t { nx := fun _ H' => Q .non H', rt := Q } (start N vs) H) : FnOk P w K mg base (CXe P w) (k + 1) f fd ps sp := by
  obtain ⟨oc, od, kV, doc, pm, an, cdv, ct, osl, rfl, lk, hcd⟩ := F.ex
  refine fn_of lk hcd S len fun A outer s H vs Q E hr hsp => ?_
  obtain ⟨t, h, q⟩ := hbody cdv A outer s H vs Q E hr hsp
  exact ⟨t, h.unfly fun _ _ z => leave_fly z, q⟩
end
end L2
namespace L2
open PySem PySem.Spec PyProof.Rows

/-- the dict of an exception is changed -/
theorem Inv.xdw {X : Cx} {pins : List (Addr × Obj)} {σ : St} {H : Hp} {s : Shared} {h' : Heap} {d : Addr} {fs fs' : List (Str × V)} {t' : Nat} (I : Inv X pins σ H s) (hd : H d = some (.xd fs)) (sb : Heap.SameBut d s.heap h')
    (new : ObjOk X.prog X.w (upd H d (.xd fs')) h' d (.xd fs')) : Inv X pins σ (upd H d (.xd fs')) { s with heap := h', toks := t' } := by
  have nd : ∀ b (u : Obj), H b = none → b ≠ d := fun b u e z => by rw [z, hd] at e; cases e
  refine I.un ⟨fun b o q n _ _ => (sb.2 b (nd b o n)).trans q, fun b o q n hb => ?_, fun b o q n _ => by rw [upd_ne (nd b o n)]; exact n, fun b o q _ => ?_, fun b xs q => ?_, fun b o u q => ?_, fun b ps q => ?_⟩ fun b u q => ?_
  · exact fun _ => ⟨o.slots, (sb.2 b (nd b o n)).trans q⟩
  · by_cases z : b = d
    · obtain ⟨o', e⟩ := (show ∃ o', h'.get? d = some o' from let ⟨mA, ⟨o, _, _, e, _⟩, _⟩ := new; ⟨o, e⟩)
      exact ⟨o', z ▸ e⟩
    · exact ⟨o, (sb.2 b z).trans q⟩
  · rw [upd_ne (fun z => by rw [z, hd] at q; cases q)]; exact q
  · rw [upd_ne (fun z => by rw [z, hd] at q; cases q)]; exact q
  · rw [upd_ne (fun z => by rw [z, hd] at q; cases q)]; exact q
  · by_cases z : b = d
    · subst z; rw [upd_same] at q; cases q; exact new
    · rw [upd_ne z] at q
      refine (I.hok b u q).stay (fun c v hc r => (sb.2 c ?_).trans r) (fun c r => ?_) (fun c xs r => ?_) fun c xs r => ?_
      · rcases hc with z2 | z2
        · rw [z2]; exact z
        · intro z3; rw [z3, hd] at z2; cases z2
      · rw [upd_ne (fun z3 => by rw [z3, hd] at r; cases r)]; exact r
      · rw [upd_ne (fun z3 => by rw [z3, hd] at r; cases r)]; exact r
      · rw [upd_ne (fun z3 => by rw [z3, hd] at r; cases r)]; exact r

/-- self.f = value within an exception's __init__ -/
def sFldX (K : PySem.W.Frag) (ta tv : TE) (f : Str) : TS := fun D σ H => tv σ H fun y H1 => ta σ H1 fun x H2 => ∃ a W C, x = .ref a ∧ SX.ExcC K W C ∧ PySem.W.findIn K (.ref C) f = some none ∧
  ((H2 a = some (ExN a C none) ∧ ∀ d, H2 d = none → d ≠ a → D.nx σ (upd (upd H2 a (ExN a C (some d))) d (.xd [(f, y)]))) ∨
    (∃ d fs, H2 a = some (ExN a C (some d)) ∧ H2 d = some (.xd fs) ∧ fs.length < 1000 ∧ D.nx σ (upd H2 d (.xd (putF f y fs)))))
section
variable {X : Cx} {o e value : Expr} {f : Str} {pos pos' : Pos} {ta tv : TE}
theorem within_of {fs : List (Str × V)} {mA : Str → Option Value} (r : ∀ f, RelO (fs.lookup f) (mA f)) : PySem.Within mA (fs.map (·.1)) := fun y hy => by
  cases q : fs.lookup y with
  | none => exact absurd (RelO.none_of (by rw [← q]; exact r y)) hy
  | some v => exact List.mem_map.mpr ⟨(y, v), PySem.mem_of_lookup q, rfl⟩
theorem ps_fldX (ha : PE X o ta) (hv : PE X value tv) (hs : swapsWith value (some (.Attribute o f pos')) pos.line X.env = pure false) : PS X (.Assign [.Attribute o f pos'] value pos) (sFldX X.K ta tv f) := by
  intro pins s σ H D I h
  refine plainObj_wpAny_Assign_Attribute (thn (hv pins s σ H _ I h) fun u s1 ⟨y, H1, I1, ry, q⟩ => thn (ha pins s1 σ H1 _ I1 q) fun ov s2 ⟨x, H2, I2, rx, a, W, C, ex, c, n, q2⟩ => ?_) hs
  subst ex
  obtain rfl : ov = Value.ref a := rx
  rcases q2 with ⟨ea, q2⟩ | ⟨d, fs, ea, ed, hl, q2⟩
  · obtain ⟨vs, hx, h1⟩ := exN_at I2.hok ea
    refine SX.set_first I2.kIn c n hx fun h' tk' hx' hns kp => ?_
    have fd : H2 s2.heap.objs.size = none := I2.hok.fresh (Nat.le_refl _)
    have ne : s2.heap.objs.size ≠ a := Nat.ne_of_gt (Heap.lt_size hx)
    refine ⟨σ, _, ?_, q2 s2.heap.objs.size fd ne⟩
    have nea : ∀ b (u : Obj), H2 b = none → b ≠ a := fun b u z zz => by rw [zz, ea] at z; cases z
    have ned : ∀ b u, H2 b = some u → b ≠ s2.heap.objs.size := fun b u z => ne_of_none z fd
    have hokA : HOk X.prog X.w (upd (upd H2 a (ExN a C (some s2.heap.objs.size))) s2.heap.objs.size (.xd [(f, y)])) h' := fun b u z => by
      by_cases hb : b = s2.heap.objs.size
      · subst hb; rw [upd_same] at z; cases z
        refine ⟨_, hns, fun g => ?_⟩
        show RelO (List.lookup g [(f, y)]) (if g = f then some u else none)
        rw [List.lookup_cons]
        by_cases hg : g = f
        · subst hg; rw [if_pos rfl]; simp only [beq_self_eq_true]; exact ry
        · rw [if_neg hg, beq_false_of_ne hg]; exact True.intro
      · rw [upd_ne hb] at z
        by_cases hb2 : b = a
        · subst hb2; rw [upd_same] at z; cases z
          exact exN_ok hx' h1
        · rw [upd_ne hb2] at z
          refine (I2.hok b u z).stay (fun c' v hc r => kp c' v ?_ r) (fun c' r => ?_) (fun c' xs r => ?_) fun c' xs r => ?_
          · rcases hc with z2 | z2
            · rw [z2]; exact hb2
            · intro z3; rw [z3, ea] at z2; cases z2
          · rw [upd_ne (ned c' _ r), upd_ne (fun z3 => by rw [z3, ea] at r; cases r)]; exact r
          · rw [upd_ne (ned c' _ r), upd_ne (fun z3 => by rw [z3, ea] at r; cases r)]; exact r
          · rw [upd_ne (ned c' _ r), upd_ne (fun z3 => by rw [z3, ea] at r; cases r)]; exact r
    refine I2.un (t' := tk') ⟨fun b ob q n _ _ => kp b ob (nea b ob n) q, fun b ob q n _ _ => ⟨ob.slots, kp b ob (nea b ob n) q⟩, fun b ob q n _ => by rw [upd_ne (Nat.ne_of_lt (Heap.lt_size q)), upd_ne (nea b ob n)]; exact n, fun b ob q _ => ?_, fun b xs q => ?_, fun b ob u' q => ?_, fun b ps q => ?_⟩ hokA
    · by_cases z : b = a
      · subst z; exact ⟨_, hx'⟩
      · exact ⟨ob, kp b ob z q⟩
    · rw [upd_ne (ned b _ q), upd_ne (fun z3 => by rw [z3, ea] at q; cases q)]; exact q
    · rw [upd_ne (ned b _ q), upd_ne (fun z3 => by rw [z3, ea] at q; cases q)]; exact q
    · rw [upd_ne (ned b _ q), upd_ne (fun z3 => by rw [z3, ea] at q; cases q)]; exact q
  · obtain ⟨vs, hx, h1⟩ := exN_at I2.hok ea
    obtain ⟨mA, hns, r⟩ := (show ObjOk X.prog X.w H2 s2.heap d (.xd fs) from I2.hok d _ ed)
    have ne : d ≠ a := fun z => by rw [z, ea] at ed; cases ed
    refine SX.set_next (ns := fs.map (·.1)) I2.kIn c n hx ne hns (within_of r) (by rw [List.length_map, sizeLine_eq]; omega) fun h' tk' hns' sb => ?_
    refine ⟨σ, _, I2.xdw (t' := tk') ed sb ⟨_, hns', fun g => ?_⟩, q2⟩
    show RelO ((putF f y fs).lookup g) (if g = f then some u else mA g)
    rw [lookup_putF]
    by_cases q : g = f
    · rw [if_pos q, if_pos q]; exact ry
    · rw [if_neg q, if_neg q]; exact r g
end

/-- the type of a value, an exception's too -/
inductive TyX (K : PySem.W.Frag) (H : Hp) : V → Value → Prop where
  | pl {x : V} {t : Value} (h : TyOf K H x t) : TyX K H x t
  | exc {a W C : Addr} {d : Addr} {fs : List (Str × V)} (c : SX.ExcC K W C) (e : H a = some (ExO a C (some d))) (ed : H d = some (.xd fs)) : TyX K H (.ref a) (.ref C)
  | exc0 {a W C : Addr} (c : SX.ExcC K W C) (e : H a = some (ExO a C none)) : TyX K H (.ref a) (.ref C)
/-- the class that is asked for -/
def clsV : V → Option Value
  | .ty n => some (.type n)
  | .ref a => some (.ref a)
  | _ => none
theorem clsV_of {x : V} {u v : Value} (h : clsV x = some v) (r : RelV x u) : u = v := by
  cases x with
  | ty n => cases h; exact r
  | ref a => cases h; exact r
  | _ => cases h
theorem call_isinst {X : Cx} : CallR X (.builtin "isinstance") (fun xs H Q => ∃ x c t cv b, xs = [x, c] ∧ TyX X.K H x t ∧ clsV c = some cv ∧ PySem.W.kitOne X.K t cv = some b ∧ Q (.bl b) H) := by
  intro pins s σ H xs us Q I r h
  obtain ⟨x, c, t, cv, b, rfl, ty, hc, e, q⟩ := h
  obtain ⟨u, v, rfl, ru, rv⟩ := vals2 r
  obtain rfl := clsV_of hc rv
  cases ty with
  | pl ty => exact isinst_ok I ru ty e fun tk => ⟨.bl b, H, I.tok _, rfl, q⟩
  | @exc a W C d fs cc ea ed =>
    cases (show u = Value.ref a from ru)
    obtain ⟨vs, hx⟩ := exO_at I.hok ea
    obtain ⟨mA, hns, r⟩ := (show ObjOk X.prog X.w H s.heap d (.xd fs) from I.hok d _ ed)
    obtain ⟨od, hod, _⟩ := lookIn_ns hns
    exact SX.isinst_exc (o := some od) I.kIn cc ⟨hx, rfl, rfl, hod⟩ e fun tk => ⟨.bl b, H, I.tok _, rfl, q⟩
  | @exc0 a W C cc ea =>
    cases (show u = Value.ref a from ru)
    obtain ⟨vs, hx⟩ := exO_at I.hok ea
    exact SX.isinst_exc (o := none) I.kIn cc ⟨hx, rfl, rfl, True.intro⟩ e fun tk => ⟨.bl b, H, I.tok _, rfl, q⟩

/-! ### raise -/
def tRaise (C : Addr) (spI : Sp) (E : XK) (ta : TA) : TS := fun _ σ H => ta σ H fun vs H1 => vs.length ≤ 1000 ∧ ∀ e, H1 e = none →
  spI (.ref e :: vs) (upd H1 e (ExN e C none)) (fun v H2 => v = .non ∧ ∃ od, H2 e = some (ExN e C od) ∧ E (.ref C) (some e) (upd H2 e (ExO e C od))) E0
section
variable {X : Cx} {E : XK} {W C fI : Addr} {fdI : FuncData} {ps : List Str} {spI : Sp} {k : Nat} {x : Str} {np cpos pos : Pos} {e0 : Expr} {rest : List Expr} {ta : TA}
theorem ps_raise (hc : X.calm = true) (c : SX.ExcC X.K W C) (hg : Gl X x) (hm : X.mg x = some (.ref C)) (FI : FnOk X.prog X.w X.K X.mg X.base CX0 k fI fdI ps spI) (hi : PySem.W.findIn X.K (.ref C) "__init__" = some (some (.ref fI)))
    (hf : PySem.W.typeIn X.K (.ref fI) = some (.type "function")) (hb : Binds X.K fdI ps []) (hr : Room (k + 1) X.A) (ha : PA (X.fly E) (e0 :: rest) ta) (hdb : (x == ("__debug__" : Str)) = false := by decide)
    (he : starEach (e0 :: rest) X.env = (false, eval e0 X.env) :: starEach rest X.env := by rfl) (hpl : (backTo cpos (starEach rest X.env)).any (·.1) = false := by rfl) :
    PS (X.fly E) (.Raise (some (.Call (.Name x np) (e0 :: rest) [] cpos)) none pos) (tRaise C spI E ta) := by
  intro pins s σ H D I h
  obtain ⟨nm, q, N, bs, sn, sub, ab, col, dd, k0, k1, k2, k3, k5, lk⟩ := c.lk
  have core : wpAny (model X.prog X.w) X.A (eval (.Call (.Name x np) (e0 :: rest) [] cpos) X.env) (fun v s1 => ∃ e od vs, v = .ref e ∧ s1.heap.get? C = some (excClassObj nm q C N bs (.ref W :: SX.vmro) true sn sub ab col dd k0 k1 k2 k3 k5 "ValueError.__new__") ∧
      s1.heap.get? e = some { cls := .ref C, dict := od, data := .fields vs } ∧ vs[1]? = some .none ∧ Fly X E (.ref e) s1) (Fly X E) s := by
    refine wpAny_Call_Name_kw (ld_glob (X := X) I.unwish hg hm ?_ hdb)
    refine PySem.W.callWith_K (h₀ := X.base) I.ok.mod.kin c.kp (thn (ha cpos pins s σ H _ I h) fun us s1 ⟨vs, H1, I1', r, hz, q1⟩ => ⟨I1'.kIn, ?_⟩) he hpl
    have I1 : Inv X pins σ H1 s1 := I1'.unwish
    obtain ⟨hp, g, d, tk, os⟩ := s1
    have hz' : us.length ≤ sizeLine := by rw [← r.length, sizeLine_eq]; omega
    refine SX.exc_call PySem.F.excBase_ValueError (SX.bmOk W) I1.kIn (I1.kIn _ _ lk) hi hf (fun h' e hm' hle => ?_) hz'
    obtain ⟨t, het, _, _⟩ := hm'.there
    have I2 : Inv X pins σ (upd H1 e (ExN e C none)) ⟨h', g, d, tk, os⟩ := I1.laid (t' := tk) hm'.keeps hle (exN_ok het rfl)
    have q2 := q1 e (I1.hok.fresh hle)
    have r2 : Vals (V.ref e :: vs) (Value.ref e :: us) := .cons rfl r
    have hl : (Value.ref e :: us ++ []).length = ps.length := by
      have z := r2.length
      rw [FI.len _ _ _ _ q2] at z
      rw [List.append_nil]
      exact z.symm
    have hl' : (Value.ref e :: us).length = ps.length := by rw [List.append_nil] at hl; exact hl
    have bb := hb ⟨h', g, d, tk, os⟩ (Value.ref e :: us) I2.kIn hl
    rw [List.append_nil] at bb
    refine wpAny_call (codeAny_mono (FI.run _ X.stack ⟨h', g, d, tk, os⟩ _ ⟨Value.ref e :: us, []⟩ (Value.ref e :: us) (V.ref e :: vs) _ E0 (hr.make C us []) (I2.env0.make C us []) bb r2 q2) fun res s' hq => ?_)
    cases res with
    | error e => exact False.elim hq
    | ok fl =>
      cases fl with
      | next => exact False.elim hq
      | brk => exact False.elim hq
      | cont => exact False.elim hq
      | ret u =>
        obtain ⟨v, H3, I3, rv, ev, od, ee, q3⟩ := I2.after hq
        subst ev
        obtain ⟨vs', hx, h1⟩ := exN_at I3.hok ee
        refine ⟨rv, e, od, vs', rfl, I3.kIn _ _ lk, hx, h1, ?_⟩
        have I4 : Inv X pins σ (upd H3 e (ExO e C od)) { s' with heap := s'.heap, toks := s'.toks } := I3.write (x := e) (e := e) (by rw [ee]; exact True.intro) (.inl rfl) (fun b u _ z => z) ⟨_, hx⟩ (exO_ok hx)
        have I5 : Inv X [] σ (upd H3 e (ExO e C od)) s' := (show Inv X pins σ _ s' from I4).pins_of fun p hp => absurd hp (by simp)
        exact ⟨e, C, od, σ, _, rfl, I5, ⟨upd_same, vs', none, hx, h1, (fun t z => nomatch z), (fun z => nomatch z)⟩, q3⟩
  show wpAny (model X.prog X.w) X.A (exec (.Raise (some (.Call (.Name x np) (e0 :: rest) [] cpos)) none pos) X.env) _ (Fly X E) s
  rw [arm_exec_Raise]
  first
    | refine wpAny_bind (wpAny_standAt (SX.raise_made (SX.bmOk W) (I.ok.hd hc) (wpAny_bind (wpAny_mono core (fun v s1 h1 => wpAny_bind (wpAny_standAt (wpAny_pure h1))) fun _ _ z => z))))
    | (simp only [evalOpt, Option.map]; refine wpAny_bind (wpAny_standAt (SX.raise_made (SX.bmOk W) (I.ok.hd hc) (wpAny_bind (wpAny_mono core (fun v s1 h1 => wpAny_bind (wpAny_standAt (wpAny_pure h1))) fun _ _ z => z)))))
end
end L2
namespace SX
open PySem PySem.W
/-- any error class of the text -/
structure ExcAny (K : Frag) (C : Addr) (bm : List Value) : Prop where
  lk : ∃ nm q N bs hd sn sub ab col dd k0 k1 k2 k3 k5 newId, K.lookup C = some (excClassObj nm q C N bs bm hd sn sub ab col dd k0 k1 k2 k3 k5 newId)
  base : bm.contains (.type "BaseException") = true
theorem ExcC.any {K : Frag} {W C : Addr} (c : ExcC K W C) : ExcAny K C (.ref W :: vmro) := by
  obtain ⟨nm, q, N, bs, sn, sub, ab, col, dd, k0, k1, k2, k3, k5, e⟩ := c.lk
  exact ⟨⟨_, _, _, _, _, _, _, _, _, _, _, _, _, _, _, _, e⟩, (bmOk W).hasBase⟩
theorem matches_any {M : Model} {A : Around} {E : Value → Shared → Prop} {K : Frag} {C W : Addr} {bmC bmW : List Value} {s : Shared} {e : Addr} {oe : Obj} {Q : Bool → Shared → Prop} (X : K.In s.heap) (c : ExcAny K C bmC) (w : ExcAny K W bmW)
    (he : s.heap.get? e = some oe) (hcls : oe.cls = .ref C) (hq : Q ((Value.ref C :: bmC).contains (.ref W)) s) : wpAny M A (excMatches (.ref e) (.ref W)) Q E s := by
  obtain ⟨nm, q, N, bs, hd, sn, sub, ab, col, dd, k0, k1, k2, k3, k5, nid, lC⟩ := c.lk
  obtain ⟨nm', q', N', bs', hd', sn', sub', ab', col', dd', k0', k1', k2', k3', k5', nid', lW⟩ := w.lk
  have hC := X _ _ lC
  have hW := X _ _ lW
  have hcB : (Value.ref W :: bmW).contains (.type "BaseException") = true := by rw [List.contains_cons, w.base, Bool.or_true]
  have f := tc_notTuple
  obtain ⟨hp, g, d, t, os⟩ := s
  unfold excMatches
  repeat (first | (with_reducible refine wpAny_loadPart_at he ?_; rw [hcls]) | with_reducible refine wpAny_loadPart_at hW ?_ | (with_reducible refine wpAny_isSubtype_exc hW ?_; rw [hcB]) | with_reducible refine wpAny_isSubtype_exc hC ?_ | wp_step)
  cases hb : (Value.ref C :: bmC).contains (.ref W) <;> (rw [hb] at hq; wp_walk; exact hq)
end SX
namespace L2
open PySem PySem.Spec PyProof.Rows

abbrev Cx.pnw (X : Cx) (pn : List (Addr × Obj)) : Cx := { X with pn := pn }
/-- within an except suite -/
abbrev Cx.inH (X : Cx) (e : Addr) : Cx := { X with A := X.A.mark (some (.ref e)), calm := false, xe := fun _ _ => False }
section
variable {X : Cx} {pins : List (Addr × Obj)} {σ : St} {H : Hp} {s : Shared} {e : Addr}
theorem Cx.Ok.pnw {X : Cx} (ok : X.Ok) (pn : List (Addr × Obj)) : (X.pnw pn).Ok :=
  ⟨ok.mod, ok.kind, ok.glob, ok.blt, ok.above, ok.inj, ok.has, ok.cab, ok.hd, ok.frames, ok.stk, ok.exf, ok.bs, ok.bsz, ok.noex, ok.exfs, ok.funs, ok.frf⟩
theorem Cx.Ok.unpn {X : Cx} {pn : List (Addr × Obj)} (ok : (X.pnw pn).Ok) : X.Ok :=
  ⟨ok.mod, ok.kind, ok.glob, ok.blt, ok.above, ok.inj, ok.has, ok.cab, ok.hd, ok.frames, ok.stk, ok.exf, ok.bs, ok.bsz, ok.noex, ok.exfs, ok.funs, ok.frf⟩
theorem Inv.toPn (I : Inv X pins σ H s) : Inv (X.pnw (X.pn ++ pins)) [] σ H s :=
  ⟨I.ok.pnw _, I.os, I.bare, I.base, I.loc, I.cell, I.free, I.freeC, fun p hp => I.pin p (by
    have z : p ∈ (X.pn ++ pins) ++ [] := hp
    rw [List.append_nil] at z
    exact z), I.hok, I.len⟩
theorem Inv.ofPn {pl : List (Addr × Obj)} (I : Inv (X.pnw (X.pn ++ pins)) pl σ H s) : Inv X pins σ H s :=
  ⟨I.ok.unpn, I.os, I.bare, I.base, I.loc, I.cell, I.free, I.freeC, fun p hp => I.pin p (List.mem_append_left _ hp), I.hok, I.len⟩
theorem SP.ofPn {pl : List (Addr × Obj)} {E : Value → Shared → Prop} {D : Ends} {f : Flow} {s' : Shared} (h : SP ((X.pnw (X.pn ++ pins)).wish E) pl D f s') : SP X pins D f s' := by
  cases f with
  | next => obtain ⟨a, b, c, d⟩ := h; exact ⟨a, b, c.unwish.ofPn, d⟩
  | brk => obtain ⟨a, b, c, d⟩ := h; exact ⟨a, b, c.unwish.ofPn, d⟩
  | cont => obtain ⟨a, b, c, d⟩ := h; exact ⟨a, b, c.unwish.ofPn, d⟩
  | ret u => obtain ⟨v, a, b, c, d⟩ := h; exact ⟨v, a, b, c.unwish.ofPn, d⟩
theorem Cx.Ok.inH {X : Cx} (ok : X.Ok) (e : Addr) : (X.inH e).Ok :=
  ⟨ok.mod, ok.kind, ok.glob, ok.blt, ok.above, ok.inj, ok.has, ok.cab, (fun z => nomatch z), ok.frames, ok.stk, ok.exf, ok.bs, ok.bsz, ok.noex, ok.exfs, ok.funs, ok.frf⟩
theorem Inv.inH (I : Inv X pins σ H s) (e : Addr) : Inv (X.inH e) pins σ H s :=
  ⟨I.ok.inH e, I.os, I.bare, I.base, I.loc, I.cell, I.free, I.freeC, I.pin, I.hok, I.len⟩
theorem Inv.ofH (ok : X.Ok) (I : Inv (X.inH e) pins σ H s) : Inv X pins σ H s :=
  ⟨ok, I.os, I.bare, I.base, I.loc, I.cell, I.free, I.freeC, I.pin, I.hok, I.len⟩
end

end L2
namespace L2
open PySem PySem.Spec PyProof.Rows

/-! ### the names of Python's own that the text leaves as they are -/
structure Blt (mg : Str → Option Value) : Prop where
  b_len : mg "len" = none
  b_isinstance : mg "isinstance" = none
  b_all : mg "all" = none
  b_max : mg "max" = none
  b_min : mg "min" = none
  b_int : mg "int" = none
  b_str : mg "str" = none
  b_bool : mg "bool" = none
  b_tuple : mg "tuple" = none
  b_list : mg "list" = none
  b_range : mg "range" = none
  b_enumerate : mg "enumerate" = none
  b_ValueError : mg "ValueError" = none

/-! ### defs by their names -/
structure DefAt (K : PySem.W.Frag) (mg : Str → Option Value) (x : Str) (st : Stmt) (ps : List Str) : Prop where
  ex : ∃ f fd, Fun K x x st f fd ∧ Binds K fd ps [] ∧ mg x = some (.ref f)
def Calls (P : Program) (w : World) (K : PySem.W.Frag) (mg : Str → Option Value) (base : Heap) (CX : CXT) (k : Nat) (x : Str) (ps : List Str) (sp : Sp) : Prop :=
  ∃ f fd, FnOk P w K mg base CX k f fd ps sp ∧ Binds K fd ps [] ∧ mg x = some (.ref f) ∧ PySem.W.keepIn K (.ref f) = true
section
variable {P : Program} {w : World} {K : PySem.W.Frag} {mg : Str → Option Value} {base : Heap} {x : Str} {st : Stmt} {N ps : List Str} {k : Nat} {sp : Sp}
theorem DefAt.okX (D : DefAt K mg x st ps) (S : FnScope N ps (defScope st)) (len : ∀ vs H Q E, sp vs H Q E → vs.length = ps.length)
    (hbody : ∀ (f : Addr) (cdv : Value) (A : Around) (outer : List Env) (s : Shared) (H : Hp) (vs : List V) (Q : VK) (E : XK), Room k (A.deeper (envOfC x (defScope st) s.heap.objs.size f cdv)) → sp vs H Q E →
      ∃ t, PSs ((cxOf (CXe P w) P w K mg base N x (defScope st) f cdv A outer s H E).fly E) (defBody st) t ∧ t { nx := fun _ H' => Q .non H', rt := Q } (start N vs) H) : Calls P w K mg base (CXe P w) (k + 1) x ps sp := by
  obtain ⟨f, fd, F, b, m⟩ := D.ex
  exact ⟨f, fd, F.okX S len (hbody f), b, m, F.kp⟩
end
section
variable {X : Cx} {CX : CXT} {k : Nat} {x : Str} {ps : List Str} {sp : Sp} {E : XK} {p pos : Pos} {e : Expr} {es : List Expr} {t : TA}
theorem pe_fn (C : Calls X.prog X.w X.K X.mg X.base CX k x ps sp) (hr : Room k X.A) (hg : Gl X x) (hx : Passes CX X E) (ha : PA X (e :: es) t) (hdb : (x == ("__debug__" : Str)) = false := by decide)
    (he : starEach (e :: es) X.env = (false, eval e X.env) :: starEach es X.env := by rfl) (hpl : (backTo pos (starEach es X.env)).any (·.1) = false := by rfl) : PE X (.Call (.Name x p) (e :: es) [] pos) (tCall sp [] E t) := by
  obtain ⟨f, fd, F, b, m, kp⟩ := C
  exact pe_call F hr hg m kp b .nil hx ha hdb he hpl
end

/-! ### an error class with an __init__ of its own -/
def spI (C : Addr) (fs : List Str) : Sp := fun vs H Q _ => ∃ e xs, vs = .ref e :: xs ∧ xs.length = fs.length ∧ H e = some (ExN e C none) ∧ ∀ d, H d = none → d ≠ e → Q .non (upd (upd H e (ExN e C (some d))) d (.xd (fs.zip xs)))
structure ErrAt (P : Program) (w : World) (K : PySem.W.Frag) (mg : Str → Option Value) (base : Heap) (x : Str) (fs : List Str) (W C : Addr) : Prop where
  c : SX.ExcC K W C
  m : mg x = some (.ref C)
  na : ∀ f ∈ fs, PySem.W.findIn K (.ref C) f = some none
  i : ∃ fI fdI, FnOk P w K mg base CX0 1 fI fdI ("self" :: fs) (spI C fs) ∧ PySem.W.findIn K (.ref C) "__init__" = some (some (.ref fI)) ∧ PySem.W.typeIn K (.ref fI) = some (.type "function") ∧ Binds K fdI ("self" :: fs) []
theorem upd_comm {H : Hp} {a b : Addr} {o u : HO} (h : a ≠ b) : upd (upd H a o) b u = upd (upd H b u) a o := by
  funext c
  unfold upd
  by_cases h1 : c = a
  · subst h1; rw [if_neg h, if_pos rfl, if_pos rfl]
  · rw [if_neg h1, if_neg h1]
theorem ps_raiseX {X : Cx} {E : XK} {fs : List Str} {W C : Addr} {x : Str} {np cpos pos : Pos} {e0 : Expr} {rest : List Expr} {ta : TA} (hc : X.calm = true) (er : ErrAt X.prog X.w X.K X.mg X.base x fs W C) (hg : Gl X x) (hr : Room 2 X.A) (ha : PA (X.fly E) (e0 :: rest) ta)
    (hdb : (x == ("__debug__" : Str)) = false := by decide) (he : starEach (e0 :: rest) X.env = (false, eval e0 X.env) :: starEach rest X.env := by rfl) (hpl : (backTo cpos (starEach rest X.env)).any (·.1) = false := by rfl) :
    PS (X.fly E) (.Raise (some (.Call (.Name x np) (e0 :: rest) [] cpos)) none pos) (tRaise C (spI C fs) E ta) := by
  obtain ⟨fI, fdI, FI, hi, hf, hb⟩ := er.i
  exact ps_raise hc er.c hg er.m FI hi hf hb hr ha hdb he hpl
theorem raise_read {C : Addr} {fs : List Str} {vs : List V} {E : XK} {H1 : Hp} (hl : vs.length = fs.length) (hz : vs.length ≤ 1000)
    (h : ∀ e d, H1 e = none → H1 d = none → d ≠ e → E (.ref C) (some e) (upd (upd H1 e (ExO e C (some d))) d (.xd (fs.zip vs)))) :
    vs.length ≤ 1000 ∧ ∀ e, H1 e = none → spI C fs (.ref e :: vs) (upd H1 e (ExN e C none)) (fun v H2 => v = .non ∧ ∃ od, H2 e = some (ExN e C od) ∧ E (.ref C) (some e) (upd H2 e (ExO e C od))) E0 := by
  refine ⟨hz, fun e he => ⟨e, vs, rfl, hl, upd_same, fun d hd hde => ⟨rfl, some d, ?_, ?_⟩⟩⟩
  · rw [upd_ne (Ne.symm hde), upd_same]
  · have hd' : H1 d = none := by rw [upd_ne hde] at hd; exact hd
    have := h e d he hd' hde
    rw [upd_upd, upd_comm (a := d) (b := e) hde, upd_upd]
    exact this
/-! ### data, taken apart -/
theorem DatV.tup_of {K : PySem.W.Frag} {H : Hp} {v : V} {ds : List PyData} (h : DatV K H v (.tuple ds)) : ∃ a xs, v = .ref a ∧ SqT K H a xs ∧ DatVs K H xs ds := by
  cases h with
  | tup h1 h2 => exact ⟨_, _, rfl, h1, h2⟩
theorem DatV.lst_of {K : PySem.W.Frag} {H : Hp} {v : V} {ds : List PyData} (h : DatV K H v (.list ds)) : ∃ a xs, v = .ref a ∧ SqL K H a xs ∧ DatVs K H xs ds := by
  cases h with
  | lst h1 h2 => exact ⟨_, _, rfl, h1, h2⟩
theorem DatV.int_of {K : PySem.W.Frag} {H : Hp} {v : V} {i : Int} (h : DatV K H v (.int i)) : v = .int i := by cases h; rfl
theorem DatV.str_of {K : PySem.W.Frag} {H : Hp} {v : V} {i : Str} (h : DatV K H v (.str i)) : v = .str i := by cases h; rfl
theorem DatVs.cons_of {K : PySem.W.Frag} {H : Hp} {xs : List V} {d : PyData} {ds : List PyData} (h : DatVs K H xs (d :: ds)) : ∃ x t, xs = x :: t ∧ DatV K H x d ∧ DatVs K H t ds := by
  cases h with
  | cons h1 h2 => exact ⟨_, _, rfl, h1, h2⟩
theorem DatVs.nil_of {K : PySem.W.Frag} {H : Hp} {xs : List V} (h : DatVs K H xs []) : xs = [] := by cases h; rfl

/-! ### the names of a block -/
theorem KeepsV.nil_of {σ : St} (h : KeepsV [] σ) : σ = [] := List.length_eq_zero_iff.mp h.1
/-! ### a list or a tuple -/
def SqS (K : PySem.W.Frag) (H : Hp) (a : Addr) (xs : List V) : Prop := SqL K H a xs ∨ SqT K H a xs
theorem PI.or {X : Cx} {tg iter : Expr} {w1 w2 : TI} (h1 : PI X tg iter w1) (h2 : PI X tg iter w2) : PI X tg iter (fun σ H R => w1 σ H R ∨ w2 σ H R) := fun pins s σ H R I h => h.elim (h1 pins s σ H R I) (h2 pins s σ H R I)
/-- an iterator over a list or a tuple -/
def iSeq (K : PySem.W.Frag) (tl : TE) : TI := fun σ H R => tl σ H fun x H1 => ∃ a, x = .ref a ∧ (((∃ xs, SqL K H1 a xs) ∧ R (Itl K a) H1) ∨ ((∃ xs, SqT K H1 a xs) ∧ R (Itt K a) H1))
theorem pi_seq {X : Cx} {tg l : Expr} {tl : TE} (hl : PE X l tl) : PI X tg l (iSeq X.K tl) := by
  intro pins s σ H R I h
  refine thn (hl pins s σ H _ I h) fun v s1 ⟨x, H1, I1, r1, q1⟩ => ?_
  obtain ⟨a, e, q⟩ := q1
  subst e
  cases r1
  rcases q with ⟨⟨xs, hq⟩, q⟩ | ⟨⟨xs, hq⟩, q⟩
  · obtain ⟨its, rv, p, hz⟩ := I1.list hq
    refine wpAny_pyIter_list p.isList ?_
    refine ⟨s1.heap.objs.size, [s1.heap.objs.size], _, _, H1, rfl, I1.kept (t' := s1.toks) fun b o e => Heap.get?_push_of_some _ e, turn_list a _, ⟨_, Heap.get?_push_size _ rfl, rfl, rfl⟩, fun b hb => ?_, q⟩
    obtain rfl := List.mem_singleton.mp hb
    exact I1.fpOk (Nat.le_refl _) (I1.hok.fresh (Nat.le_refl _))
  · obtain ⟨its, rv, p, hz⟩ := I1.tuple hq
    refine wpAny_pyIter_tuple (show s1.heap.IsTuple a its.toArray from p) ?_
    refine ⟨s1.heap.objs.size, [s1.heap.objs.size], _, _, H1, rfl, I1.kept (t' := s1.toks) fun b o e => Heap.get?_push_of_some _ e, turn_tuple a _, ⟨_, Heap.get?_push_size _ rfl, rfl, rfl⟩, fun b hb => ?_, q⟩
    obtain rfl := List.mem_singleton.mp hb
    exact I1.fpOk (Nat.le_refl _) (I1.hok.fresh (Nat.le_refl _))
end L2
namespace L2
open PySem PySem.Spec PyProof.Rows

/-! ### // by a positive divisor that is no small one -/
def CDivW (i j : Int) : Prop := 0 < j ∧ j < 2 ^ 64
theorem op_fdivW {X : Cx} : OpR X (binaryOp .FloorDiv) (rI CDivW fun i j => .int (i / j)) := opI fun i j _ _ _ _ _ hc q => by
  have h1 : (0 : Int) < j := hc.1
  have h2 : j < 2 ^ 64 := hc.2
  have h3 : j.natAbs < 2 ^ 64 := by omega
  have h4 : j.natAbs.log2 < 64 := (Nat.log2_lt (by omega)).mpr h3
  exact floordiv_int (by omega) (by rw [Int.fdiv_eq_ediv_of_nonneg i (by omega)]; exact q) (.inl (PyProof.noPylong_of_log2 (by omega)))
/-- a callee that may raise, where it does not -/
theorem passN {X : Cx} {P : Program} {w : World} : Passes (CXe P w) X E0 := by
  rintro pins σ H s ev s' I ⟨e, C, od, H', rfl, os, bare, un, hok, he, hv, q⟩
  exact q.elim
/-! ### texts: a slice, index, enumerate -/
section
variable {X : Cx}
def rSlS : V → Option Int → Option Int → Hp → VK → Prop := fun x lo hi H Q => ∃ z, x = .str z ∧ z.length ≤ sizeLine ∧ Q (.str (Txt.slice z lo hi)) H
theorem part_of {v : Value} {o : Option Int} (h : IsPart v o) : ∃ l : Option (Int × Tok), partValue l = v ∧ l.map (·.1) = o := by
  cases h with
  | none => exact ⟨none, rfl, rfl⟩
  | int i t => exact ⟨some (i, t), rfl, rfl⟩
theorem sl_str : SlR X rSlS := by
  intro pins s σ H x v vl vu lo hi sl Q I rx hs pl pu h
  obtain ⟨z, rfl, hz, q⟩ := h
  obtain ⟨t, rfl⟩ := rx
  obtain ⟨l, rfl, el⟩ := part_of pl
  obtain ⟨u, rfl, eu⟩ := part_of pu
  obtain ⟨o, ho, hc, hd⟩ := hs
  refine ⟨"str", _, PyProof.Rows.slot_str_getitem.lookup, rfl, ?_⟩
  refine wpAny_getItem_str_slice (l := l) (u := u) (st := none) ⟨o, ho, hc, hd⟩ rfl ?_
  have le := Txt.slice_le z lo hi
  unfold Txt.slice at q le
  unfold sliceMade slicePicked
  rw [el, eu]
  simp only [beq_self_eq_true, Bool.true_and, Option.map_none, Option.getD_none] at q le ⊢
  by_cases hb : ((Builtin.Str.strSliceIndices lo hi 1 z.length).length == z.length) = true
  · rw [if_pos hb] at q ⊢
    exact ⟨.str z, H, I, ⟨t, rfl⟩, q⟩
  · rw [if_neg hb] at q le ⊢
    exact ⟨Nat.le_trans le hz, .str _, H, I.tok _, ⟨_, rfl⟩, q⟩
/-- z.index(y) where it is there -/
def rIndex : V → List V → Hp → VK → Prop := fun x vs H Q => ∃ z y i rest, x = .str z ∧ vs = [.str y] ∧ Builtin.Str.occurrences z y 0 z.length 1 = i :: rest ∧ Q (.int i) H
theorem mt_index : MtR X "str.index" rIndex := by
  intro pins s σ H x vs v us Q I rx rv h
  obtain ⟨z, y, i, rest, rfl, rfl, ho, q⟩ := h
  obtain ⟨t, rfl⟩ := rx
  obtain ⟨u, rfl, tu, rfl⟩ := rv.one
  exact call_gives F.slot_str_index rfl F.entry_str_index (F.args_str_index_2 _ _) (gives_str_index z y t tu i rest ho) ⟨.int i, H, I.tok _, ⟨_, rfl⟩, q⟩
/-! ### enumerate over a text -/
def Ity (z : Str) : It :=
  ⟨fun i _ => i < z.cps.size, fun i H x H' => ∃ p c, H p = none ∧ x = .ref p ∧ H' = upd H p (.tup [.int i, .str ⟨#[c]⟩]) ∧ z.cps[i]? = some c, fun i _ => i = z.cps.size⟩
theorem turn_enumS {P : Program} {w : World} {K : PySem.W.Frag} {es : List Expr} {k1} {tpos : Pos} (z : Str) (t : Tok) (T : String) (hT : ∀ A : Around, A.handled = none → ∀ it, Draws P w A it [it] z.cps.size (fun i v => ∃ c u, z.cps[i]? = some c ∧ v = Value.str { cps := #[c] } u) fun i h => h.IsStrIter it T z t i)
    (e it : Addr) (hei : e ≠ it) : Turn P w K (.Tuple es k1 tpos) (Ity z) [e, it] e (fun i h => (∃ old, IsEnum h e it i old) ∧ h.IsStrIter it T z t i) where
  mem := by simp
  obj := fun i h st b hb => by
    obtain ⟨⟨old, s1⟩, o, e2, c, d⟩ := st
    rcases List.mem_cons.mp hb with z | z
    · subst z
      exact ⟨_, s1, fun v z => by
        have z' : Data.fields _ = Data.cell v := z
        cases z'⟩
    · obtain rfl : b = it := by simpa using z
      exact ⟨o, e2, fun v z => by rw [d] at z; cases z⟩
  keep := fun i h h' st k => by
    obtain ⟨⟨old, s1⟩, o, e2, c, d⟩ := st
    exact ⟨⟨old, k e (by simp) _ s1⟩, o, k it (by simp) o e2, c, d⟩
  item := by
    intro X hP hw hK hc i pins s σ H E I hf st hg
    subst hP hw hK
    obtain ⟨⟨old, s1⟩, s2⟩ := st
    obtain ⟨f0, f1, f2, f3, f4, f5⟩ := hf e (by simp)
    obtain ⟨g0, g1, g2, g3, g4, g5⟩ := hf it (by simp)
    refine wpAny_pyNext_enum_itemD (hT X.A.in1 (I.ok.hd hc) it) s1 s2 hg hei (by simpa using hei) fun u h' tk ⟨c, tc, hcc, hu⟩ so si st hz' kp => ?_
    subst hu
    refine ⟨_, rfl, wpAny_letOwnedTupleGo_enum so fun h2 se sb => ?_⟩
    have ne1 : s.heap.objs.size ≠ e := Nat.ne_of_gt (Heap.lt_size s1)
    have hT2 : h2.get? s.heap.objs.size = some { cls := .type "tuple", data := .seq #[.int i tk, .str ⟨#[c]⟩ tc] } := (sb.2 _ ne1).trans st
    have fT : H s.heap.objs.size = none := I.hok.fresh (Nat.le_refl _)
    have kp2 : ∀ b o, b ≠ e → b ≠ it → s.heap.get? b = some o → h2.get? b = some o := fun b o h1 h2' q => (sb.2 b h1).trans (kp b o h1 h2' q)
    have hok2 : HOk X.prog X.w H h2 := fun b uu q => by
      refine (I.hok b uu q).stay (fun c v hc q' => kp2 c v ?_ ?_ q') (fun _ q => q) (fun _ _ q => q) fun _ _ q => q
      · rcases hc with z | z
        · rw [z]; exact fun zz => by rw [zz, f0] at q; cases q
        · exact fun zz => by rw [zz, f0] at z; cases z
      · rcases hc with z | z
        · rw [z]; exact fun zz => by rw [zz, g0] at q; cases q
        · exact fun zz => by rw [zz, g0] at z; cases z
    have hokT : HOk X.prog X.w (upd H s.heap.objs.size (.tup [.int i, .str ⟨#[c]⟩])) h2 := HOk.track hok2 fT ⟨by show 2 ≤ sizeLine; decide, [.int i tk, .str ⟨#[c]⟩ tc], .cons ⟨_, rfl⟩ (.cons ⟨_, rfl⟩ .nil), ⟨_, hT2, rfl, _, rfl⟩⟩
    have ltT : ∀ b uu, H b = some uu → b ≠ s.heap.objs.size := fun b uu q => ne_of_none q fT
    have I2 : Inv X pins σ (upd H s.heap.objs.size (.tup [.int i, .str ⟨#[c]⟩])) { s with heap := h2, gens := s.gens, drawn := s.drawn, toks := tk + 1 } := by
      refine I.step (ch := [e, it]) (fun b hb => ?_) (fun b o _ _ hc q _ => kp2 b o (fun z => hc (by simp [z])) (fun z => hc (by simp [z])) q) (fun b o _ _ hc q _ => ⟨o.slots, kp2 b o (fun z => hc (by simp [z])) (fun z => hc (by simp [z])) q⟩)
        (fun b o _ q n => by rw [upd_ne (Nat.ne_of_lt (Heap.lt_size q))]; exact n) (fun b o hc q => ⟨o, kp2 b o (fun z => hc (by simp [z])) (fun z => hc (by simp [z])) q⟩) (fun b ys q => by rw [upd_ne (ltT b _ q)]; exact q) (fun b o uu q => by rw [upd_ne (ltT b _ q)]; exact q)
        (fun b ps q => by rw [upd_ne (ltT b _ q)]; exact q) (fun m hm => ?_) hokT I.bare
      · rcases List.mem_cons.mp hb with z | z
        · subst z; exact ⟨f3, f1, f4, f5⟩
        · obtain rfl : b = it := by simpa using z
          exact ⟨g3, g1, g4, g5⟩
      · obtain ⟨o, es', ep, ho, r⟩ := hm
        exact ⟨o, es', ep, kp2 _ o (Ne.symm f1) (Ne.symm g1) ho, r⟩
    refine ⟨.ref s.heap.objs.size, _, I2, rfl, ⟨_, c, fT, rfl, rfl, hcc⟩, ⟨⟨_, by simpa using se⟩, ?_⟩, fun b hb => ?_⟩
    · obtain ⟨o, q1, q2, q3⟩ := si
      exact ⟨o, (sb.2 it hei.symm).trans q1, q2, q3⟩
    · rcases List.mem_cons.mp hb with z | z
      · subst z; rw [upd_ne (Ne.symm ne1)]; exact f0
      · obtain rfl : b = it := by simpa using z
        obtain ⟨o, q, _⟩ := s2
        rw [upd_ne (Nat.ne_of_lt (Heap.lt_size q))]; exact g0
  done := by
    intro X hP hw hK hc i pins s σ H E I hf st hg
    subst hP hw hK
    obtain ⟨⟨old, s1⟩, s2⟩ := st
    obtain ⟨g0, g1, g2, g3, g4, g5⟩ := hf it (by simp)
    have hg : i = z.cps.size := hg
    subst hg
    exact wpAny_pyNext_enum_endD (hT X.A.in1 (I.ok.hd hc) it) s1 s2 fun h' eb => ⟨rfl, I.turned (t' := s.toks) (fun b o hb q => eb b o hb q) g0 g1 g3 g4 g5⟩
  self := fun _ _ _ _ _ st h => wpAny_pyIter_enum st.1.choose_spec h
def iEnumS (ta : TA) : TI := fun σ H R => ta σ H fun vs H1 => ∃ z, vs = [.str z] ∧ R (Ity z) H1
theorem pi_enumS {es : List Expr} {k1} {tpos : Pos} {a : Expr} {ta : TA} {p pos : Pos} (hg : Gl X "enumerate") (hm : X.mg "enumerate" = none) (ha : PA X [a] ta) (hs : starEach [a] X.env = [(false, eval a X.env)] := by rfl) :
    PI X (.Tuple es k1 tpos) (.Call (.Name "enumerate" p) [a] [] pos) (iEnumS ta) := by
  intro pins s σ H R I h
  refine Call_ (ld_blt I hg hm PyProof.Rows.boot_enumerate (PyProof.Rows.callWith_type1 (thn (ha pos pins s σ H _ I h) fun us s1 ⟨vs, H1, I1, r1, q1⟩ => ?_) hs rfl))
  obtain ⟨z, e, q⟩ := q1
  subst e
  obtain ⟨u, rfl, t, rfl⟩ := vals1 r1
  have hT : ∀ A : Around, A.handled = none → ∀ it, Draws X.prog X.w A it [it] z.cps.size (fun i v => ∃ c u, z.cps[i]? = some c ∧ v = Value.str { cps := #[c] } u) fun i h => h.IsStrIter it (strIterType z) z t i := fun A hA it => by
    unfold strIterType
    split
    · exact Draws.strAscii hA it z t
    · exact Draws.strWide hA it z t
  refine call_enumerate_str fun h' se si hz' kp => ?_
  have I2 : Inv X pins σ H1 { s1 with heap := h' } := I1.kept (t' := s1.toks) kp
  refine wpAny_pyIter_enum se ?_
  refine ⟨s1.heap.objs.size + 1, [s1.heap.objs.size + 1, s1.heap.objs.size], _, _, H1, rfl, I2, turn_enumS z t _ hT _ _ (Nat.ne_of_gt (Nat.lt_succ_self _)), ⟨⟨_, se⟩, si⟩, fun b hb => ?_, q⟩
  rcases List.mem_cons.mp hb with z | z
  · subst z
    exact I1.fpOk (Nat.le_succ _) (I1.hok.fresh (Nat.le_succ _))
  · obtain rfl : b = s1.heap.objs.size := by simpa using z
    exact I1.fpOk (Nat.le_refl _) (I1.hok.fresh (Nat.le_refl _))
/-! ### isinstance of an exception, of several classes -/
def rIsT (K : PySem.W.Frag) : List V → Hp → VK → Prop := fun xs H Q => ∃ (a W C d : Addr) (fs : List (Str × V)) (p : Addr) (as : List Addr) (b : Bool), xs = [.ref a, .ref p] ∧ SX.ExcC K W C ∧ H a = some (ExO a C (some d)) ∧ H d = some (.xd fs) ∧ SqT K H p (as.map V.ref) ∧ PySem.W.kitAny K (.ref C) (as.map Value.ref) = some b ∧ Q (.bl b) H
theorem vals_refs : ∀ {as : List Addr} {us : List Value}, Vals (as.map V.ref) us → us = as.map Value.ref
  | [], _, .nil => rfl
  | a :: as, _, .cons r t => by rw [vals_refs t]; cases r; rfl
theorem call_isinstT : CallR X (.builtin "isinstance") (rIsT X.K) := by
  intro pins s σ H xs us Q I r h
  obtain ⟨a, W, C, d, fs, p, as, b, rfl, cc, ea, ed, hp, e, q⟩ := h
  obtain ⟨u, v, rfl, ru, rv⟩ := vals2 r
  cases (show u = Value.ref a from ru)
  cases (show v = Value.ref p from rv)
  obtain ⟨vs, hx⟩ := exO_at I.hok ea
  obtain ⟨mA, hns, r⟩ := (show ObjOk X.prog X.w H s.heap d (.xd fs) from I.hok d _ ed)
  obtain ⟨od, hod, _⟩ := lookIn_ns hns
  obtain ⟨its, r1, ht, _⟩ := I.tuple hp
  obtain ⟨⟨oc, odt, odata, osl⟩, eo, hc, n, hdt⟩ := ht
  cases (show oc = .type "tuple" from hc)
  cases (show odata = .seq its.toArray n from hdt)
  rw [← vals_refs r1] at e
  exact PySem.W.kia_tup (SX.kitx_exc (vs := vs) (od := some d) (o := some od) cc) I.kIn ⟨hx, rfl, rfl, hod⟩ eo e (fun z => nomatch z) fun tk => ⟨.bl b, H, I.tok _, rfl, q⟩
end

/-- isinstance of a tuple that is read -/
theorem call_isinstQ {X : Cx} : CallR X (.builtin "isinstance") (fun xs H Q => ∃ a ys c cv b, xs = [.ref a, c] ∧ SqT X.K H a ys ∧ clsV c = some cv ∧ PySem.W.kitOne X.K (.type "tuple") cv = some b ∧ Q (.bl b) H) := by
  intro pins s σ H xs us Q I r h
  obtain ⟨a, ys, c, cv, b, rfl, ha, hc, e, q⟩ := h
  obtain ⟨u, v, rfl, ru, rv⟩ := vals2 r
  obtain rfl := clsV_of hc rv
  cases (show u = Value.ref a from ru)
  obtain ⟨its, _, ⟨o, h1, h2, _⟩, _⟩ := I.tuple ha
  exact PySem.W.kia_one PySem.W.kitx_tuple I.kIn ⟨o, h1, h2⟩ e (fun z => nomatch z) fun tk => ⟨.bl b, H, I.tok _, rfl, q⟩

/-! ### a def that is called within an except suite, too -/
structure RoomH (k : Nat) (A : Around) : Prop where
  dp : A.depth + 3 * k + 5 < recursionLimit
  un : A.units + 16 * k + 200 < cLine
structure FnOkH (P : Program) (w : World) (K : PySem.W.Frag) (mg : Str → Option Value) (base : Heap) (k : Nat) (f : Addr) (fd : FuncData) (ps : List Str) (sp : Sp) : Prop where
  len : ∀ vs H Q E, sp vs H Q E → vs.length = ps.length
  run : ∀ (A : Around) (outer : List Env) (s : Shared) (H : Hp) (args : Args) (us : List Value) (vs : List V) (Q : VK), RoomH k A → Env0 P w K mg base A outer s H → BindsTo s fd args (ps.zip us) → Vals vs us → sp vs H Q E0 →
    codeAny (model P w) A (.call (.ref f) args) (CR CX0 outer P w H s Q E0) s
end L2
/-! machines: the program's own part, by plain data -/
namespace Mc
open PySem L2 PyProof.Rows
/-- left and right: a number or a text -/
inductive Tn where
  | n (i : Int) | w (x : Str)
def Tn.v : Tn → V
  | .n i => .int i
  | .w x => .str x
def Tn.d : Tn → PyData
  | .n i => .int i
  | .w x => .str x
structure Rw where
  l : Tn
  c : List (Int × Int)
  r : Tn
def cellD (c : Int × Int) : PyData := .tuple [.int c.1, .int c.2]
def rowD (r : Rw) : PyData := .tuple [r.l.d, .tuple (r.c.map cellD), r.r.d]
def machD (rs : List Rw) : PyData := .tuple (rs.map rowD)
/-- a row in the heap, of lists or tuples -/
inductive CellsAt (K : PySem.W.Frag) (H : Hp) : List V → List (Int × Int) → Prop
  | nil : CellsAt K H [] []
  | cons {q : Addr} {a b : Int} {xs : List V} {cs : List (Int × Int)} (h : SqS K H q [.int a, .int b]) (t : CellsAt K H xs cs) : CellsAt K H (.ref q :: xs) ((a, b) :: cs)
def RowAt (K : PySem.W.Frag) (H : Hp) (v : V) (r : Rw) : Prop := ∃ p b cs, v = .ref p ∧ SqS K H p [r.l.v, .ref b, r.r.v] ∧ SqS K H b cs ∧ CellsAt K H cs r.c
inductive RowsAt (K : PySem.W.Frag) (H : Hp) : List V → List Rw → Prop
  | nil : RowsAt K H [] []
  | cons {v : V} {r : Rw} {xs : List V} {rs : List Rw} (h : RowAt K H v r) (t : RowsAt K H xs rs) : RowsAt K H (v :: xs) (r :: rs)
/-! ### data of a machine: alike with itself, of a told shape -/
theorem eqvAll_refl : ∀ {xs : List PyData}, (∀ x ∈ xs, x.eqv x = true) → PyData.eqvAll xs xs = true
  | [], _ => by rw [PyData.eqvAll.eq_1]
  | x :: t, h => by rw [PyData.eqvAll.eq_2, h x (List.mem_cons_self ..), eqvAll_refl fun y hy => h y (List.mem_cons_of_mem _ hy)]; rfl
theorem eqv_tup {xs : List PyData} (h : ∀ x ∈ xs, x.eqv x = true) : (PyData.tuple xs).eqv (.tuple xs) = true := by
  show PyData.eqvAll xs xs = true
  exact eqvAll_refl h
theorem eqv_lst {xs : List PyData} (h : ∀ x ∈ xs, x.eqv x = true) : (PyData.list xs).eqv (.list xs) = true := by
  show PyData.eqvAll xs xs = true
  exact eqvAll_refl h
theorem eqv_int (i : Int) : (PyData.int i).eqv (.int i) = true := by rw [PyData.eqv.eq_5]; simp
theorem eqv_str (i : Str) : (PyData.str i).eqv (.str i) = true := by rw [PyData.eqv.eq_6]; simp
theorem eqv_cell (c : Int × Int) : (cellD c).eqv (cellD c) = true := eqv_tup fun x hx => by
  rcases List.mem_cons.mp hx with z | z
  · rw [z]; exact eqv_int _
  · rw [List.mem_singleton.mp z]; exact eqv_int _
theorem lay_all : ∀ {xs : List PyData}, (∀ x ∈ xs, x.canLay0 = true) → PyData.canLayAll0 xs = true
  | [], _ => by rfl
  | x :: t, h => by
    show (x.canLay0 && PyData.canLayAll0 t) = true
    rw [h x (List.mem_cons_self ..), lay_all fun y hy => h y (List.mem_cons_of_mem _ hy)]; rfl
theorem depth_all {n : Nat} : ∀ {xs : List PyData}, (∀ x ∈ xs, x.depth ≤ n) → PyData.depthAll xs ≤ n
  | [], _ => Nat.zero_le _
  | x :: t, h => by
    show max x.depth (PyData.depthAll t) ≤ n
    exact Nat.max_le.mpr ⟨h x (List.mem_cons_self ..), depth_all fun y hy => h y (List.mem_cons_of_mem _ hy)⟩
def Sh (n : Nat) (d : PyData) : Prop := d.canLay0 = true ∧ d.depth ≤ n
theorem sh_tup {n : Nat} {xs : List PyData} (h : ∀ x ∈ xs, Sh n x) : Sh (n + 1) (.tuple xs) := ⟨lay_all fun x hx => (h x hx).1, by
  have := depth_all fun x hx => (h x hx).2
  show PyData.depthAll xs + 1 ≤ n + 1
  omega⟩
theorem sh_lst {n : Nat} {xs : List PyData} (h : ∀ x ∈ xs, Sh n x) : Sh (n + 1) (.list xs) := ⟨lay_all fun x hx => (h x hx).1, by
  have := depth_all fun x hx => (h x hx).2
  show PyData.depthAll xs + 1 ≤ n + 1
  omega⟩
theorem sh_int (n : Nat) (i : Int) : Sh n (.int i) := ⟨rfl, Nat.zero_le _⟩
theorem sh_str (n : Nat) {x : Str} (h : PyData.strOk x = true) : Sh n (.str x) := ⟨h, Nat.zero_le _⟩
theorem Sh.shaped {n : Nat} {d : PyData} (h : Sh n d) (hn : n ≤ 64) : SeqAt.shaped d = true := by
  show (d.canLay0 && decide (d.depth ≤ 64)) = true
  rw [h.1, decide_eq_true (Nat.le_trans h.2 hn)]; rfl
/-! ### what stays when a list is changed -/
section
variable {K : PySem.W.Frag} {H : Hp} {p q : Addr} {xs ys : List V} {o : HO}
/-- tuples of tuples -/
inductive NoL : PyData → Prop where
  | int (i : Int) : NoL (.int i)
  | str (i : Str) : NoL (.str i)
  | tup {ds : List PyData} (h : ∀ d ∈ ds, NoL d) : NoL (.tuple ds)
end
section
variable {K : PySem.W.Frag} {H : Hp}
theorem cells_of : ∀ {xs : List V} {cs : List (Int × Int)}, DatVs K H xs (cs.map cellD) → CellsAt K H xs cs
  | xs, [], h => by obtain rfl := h.nil_of; exact .nil
  | xs, c :: cs, h => by
    obtain ⟨x, t, rfl, h1, h2⟩ := h.cons_of
    obtain ⟨a, ys, rfl, h3, h4⟩ := h1.tup_of
    obtain ⟨y0, t0, rfl, h5, h6⟩ := h4.cons_of
    obtain ⟨y1, t1, rfl, h7, h8⟩ := h6.cons_of
    obtain rfl := h8.nil_of
    obtain rfl := h5.int_of
    obtain rfl := h7.int_of
    exact .cons (.inr h3) (cells_of h2)
end
section
variable {K : PySem.W.Frag} {h : Heap} {mg : Str → Option Value}
theorem defAt_mk {x : Str} {st : Stmt} {ps : List Str} {f : Addr} {oc : Value} {od an : Option Addr} {osl : Array (Option Value)} {kV doc pm cdv ct : Value} (X : K.In h) (G : h.Ns mainGlobals mg)
    (a : PySem.W.nsIn K mainGlobals x = some (some (.ref f))) (l : K.lookup f = some ⟨oc, od, .func (PySem.W.fnOf x x (defArgs st) (defBody st) (defScope st) .none kV doc pm an cdv ct), osl⟩)
    (c : PySem.W.codeIn K cdv x = true) (k : PySem.W.keepIn K (.ref f) = true)
    (b : ∀ (kV doc pm : Value) (an : Option Addr) (cdv ct : Value) (us : List Value), us.length = ps.length → bindArgs (PySem.W.fnOf x x (defArgs st) (defBody st) (defScope st) .none kV doc pm an cdv ct) ⟨us, []⟩ = pure (ps.zip us)) : DefAt K mg x st ps := by
  have F := fun_mk (st := st) l c k
  exact ⟨f, _, F, F.binds b, PySem.W.mg_of X G a⟩
end

section
variable {K : PySem.W.Frag} {h : Heap} {mg : Str → Option Value}
theorem excC_mk {W C N : Addr} {bs sub : List Value} {nm q : Str} {ab : Bool} {sn : List Str} {col : Option Bool} {dd : Option Addr} {k0 k1 k2 k3 k5 : Option Value} (l : K.lookup C = some (excClassObj nm q C N bs (.ref W :: SX.vmro) true sn sub ab col dd k0 k1 k2 k3 k5 "ValueError.__new__"))
    (sa : PySem.W.findIn K (.ref C) "__setattr__" = some (some (.builtin "object.__setattr__"))) (ga : PySem.W.findIn K (.ref C) "__getattribute__" = some (some (.builtin "BaseException.__getattribute__"))) (gh : PySem.W.findIn K (.ref C) "__getattr__" = some none) (cl : PySem.W.findIn K (.ref C) "__class__" = some (some (.builtin "object.__class__")))
    (clg : PySem.W.specialIn K (.builtin "object.__class__") "__get__" = some (some (.builtin "getset_descriptor.__get__"))) (clt : PySem.W.takesIn K (.builtin "object.__class__") = some true) (kp : PySem.W.keepIn K (.ref C) = true) : SX.ExcC K W C := ⟨⟨_, _, _, _, _, _, _, _, _, _, _, _, _, _, l⟩, sa, ga, gh, cl, clg, clt, kp⟩
end
end Mc
namespace Mc
open PySem L2 PyProof.Rows
/-! ### signs -/
def isSign (n c : Nat) : Bool := decide (97 ≤ c ∧ c < 97 + n)
/-- the first sign that is none -/
def badAt (n : Nat) : Nat → List Nat → Option Nat
  | _, [] => none
  | i, c :: t => if isSign n c = true then badAt n (i + 1) t else some i
theorem badAt_cons (n i c : Nat) (t : List Nat) : badAt n i (c :: t) = if isSign n c = true then badAt n (i + 1) t else some i := rfl
theorem occ_one (x : Str) (c : Nat) : (Builtin.Str.occurrences x ⟨#[c]⟩ 0 x.length 1 = [] ∧ ∀ i : Nat, x.cps.toList[i]? ≠ some c) ∨ ∃ (i : Nat) (r : List Nat), Builtin.Str.occurrences x ⟨#[c]⟩ 0 x.length 1 = i :: r ∧ x.cps.toList[i]? = some c ∧ ∀ k : Nat, k < i → x.cps.toList[k]? ≠ some c := by
  rcases StrLaws.occ_head x ⟨#[c]⟩ 1 (Nat.le_refl _) with ⟨h1, h2⟩ | ⟨i, r, h1, h2, h3⟩
  · exact .inl ⟨h1, fun i e => h2 i ((StrLaws.subAt_one x c i).mpr e)⟩
  · exact .inr ⟨i, r, h1, (StrLaws.subAt_one x c i).mp h2, fun k hk e => h3 k hk ((StrLaws.subAt_one x c k).mpr e)⟩
theorem abc_cps {n : Nat} (h1 : 1 ≤ n) (h2 : n ≤ 3) : (Txt.slice "abc" none (some (n : Int))).cps.toList = [97, 98, 99].take n := by
  obtain rfl | rfl | rfl : n = 1 ∨ n = 2 ∨ n = 3 := by omega
  all_goals decide +kernel
theorem take_sign {n c : Nat} (h1 : 1 ≤ n) (h2 : n ≤ 3) : isSign n c = true ↔ ∃ i : Nat, (([97, 98, 99] : List Nat).take n)[i]? = some c := by
  unfold isSign
  rw [decide_eq_true_iff]
  constructor
  · intro h
    refine ⟨c - 97, ?_⟩
    obtain rfl | rfl | rfl : n = 1 ∨ n = 2 ∨ n = 3 := by omega
    · obtain rfl : c = 97 := by omega
      rfl
    · obtain rfl | rfl : c = 97 ∨ c = 98 := by omega
      all_goals rfl
    · obtain rfl | rfl | rfl : c = 97 ∨ c = 98 ∨ c = 99 := by omega
      all_goals rfl
  · rintro ⟨i, e⟩
    obtain ⟨hi, he⟩ := List.getElem?_eq_some_iff.mp e
    have hm := List.getElem_mem hi
    rw [he] at hm
    obtain rfl | rfl | rfl : n = 1 ∨ n = 2 ∨ n = 3 := by omega
    all_goals
      simp at hm
      omega
theorem in_known {n c : Nat} (h1 : 1 ≤ n) (h2 : n ≤ 3) : (!(!(Builtin.Str.occurrences (Txt.slice "abc" none (some (n : Int))) ⟨#[c]⟩ 0 (Txt.slice "abc" none (some (n : Int))).length 1).isEmpty)) = !isSign n c := by
  have e := abc_cps h1 h2
  rcases occ_one (Txt.slice "abc" none (some (n : Int))) c with ⟨a, b⟩ | ⟨i, r, a, b, _⟩
  · rw [a]
    have : isSign n c = false := Bool.eq_false_iff.mpr fun z => by
      obtain ⟨i, hi⟩ := (take_sign h1 h2).mp z
      rw [e] at b
      exact b i hi
    rw [this]; rfl
  · rw [a]
    rw [e] at b
    rw [(take_sign h1 h2).mpr ⟨i, b⟩]; rfl
theorem index_abc {c : Nat} (h : isSign 3 c = true) : ∃ r, Builtin.Str.occurrences "abc" ⟨#[c]⟩ 0 ("abc" : Str).length 1 = (c - 97) :: r := by
  have h := of_decide_eq_true h
  refine ⟨[], ?_⟩
  obtain rfl | rfl | rfl : c = 97 ∨ c = 98 ∨ c = 99 := by omega
  all_goals decide +kernel
/-! ### tables -/
def thingD (s q : Int) : PyData := .tuple [.int s, .int q]
def tabD (f a : List PyData) : PyData := .tuple [.tuple f, .tuple a]
def IsThing (d : PyData) : Prop := d = .none ∨ ∃ s q, d = thingD s q
def stillF (n : Nat) : List PyData := (List.range n).map fun i : Nat => thingD 1 (i : Int)
def stillA (n : Nat) : List PyData := (List.range n).map fun i : Nat => thingD (-1) (i : Int)
def signT (k : Nat) (rs : List Rw) : List PyData := rs.map fun r => thingD (r.c.getD k (0, 0)).2 (r.c.getD k (0, 0)).1
theorem eqv_non : (PyData.none).eqv .none = true := by rfl
theorem eqv_thing {d : PyData} (h : IsThing d) : d.eqv d = true := by
  rcases h with rfl | ⟨s, q, rfl⟩
  · exact eqv_non
  · exact eqv_cell (s, q)
theorem eqv_tab {f a : List PyData} (hf : ∀ d ∈ f, IsThing d) (ha : ∀ d ∈ a, IsThing d) : (tabD f a).eqv (tabD f a) = true := eqv_tup fun x hx => by
  rcases List.mem_cons.mp hx with z | hx
  · rw [z]; exact eqv_tup fun y hy => eqv_thing (hf y hy)
  · rw [List.mem_singleton.mp hx]; exact eqv_tup fun y hy => eqv_thing (ha y hy)
end Mc
namespace L2
open PySem PySem.Spec PyProof.Rows

/-! ### lists of pairs as tables -/


/-! ### a tracked dict, its keys ints and texts or tuples of these -/
theorem kV_is {P : Program} {w : World} {k : Key} {u : Value} (r : RelV (kV k) u) : (mixKind P w).is k u = true := by
  cases k with
  | inl i => obtain ⟨t, e⟩ := (show ∃ t, u = Value.int i t from r); subst e; exact mixKind_int P w i t
  | inr x => obtain ⟨t, e⟩ := (show ∃ t, u = Value.str x t from r); subst e; exact mixKind_str P w x t

section
variable {X : Cx} {pins : List (Addr × Obj)} {σ : St} {H : Hp} {s : Shared} {a : Addr} {y v : V} {u r : Value} {o : Option V} {A : Around} {E : Value → Shared → Prop}

theorem Inv.big (I : Inv X pins σ H s) : sysModules < s.heap.objs.size := by
  have h : mainGlobals < s.heap.objs.size := (I.mod.glob.keeps I.bk).lt
  exact Nat.lt_trans (by decide) h

/-- a dict's object is replaced -/
theorem d_write {h' : Heap} {t' : Nat} {ob : HO} (I : Inv X pins σ H s) (mu : Mut (H a)) (hs : Heap.SameBut a s.heap h') (he : ∃ q, h'.get? a = some q) (new : ObjOk X.prog X.w (upd H a ob) h' a ob) :
    Inv X pins σ (upd H a ob) { s with heap := h', toks := t' } :=
  I.write (x := a) (e := a) mu (.inl rfl) (fun b q hb z => (hs.2 b hb).trans z) he new
end



/-- the element of a subscription, not a slice -/
def NoSl (i : Expr) : Prop := ∀ ov iv, subscripted i false ov iv = operate [ov, iv] (getItem ov iv)
theorem subD_of {prog : Program} {w : World} {A : Around} {E : Value → Shared → Prop} {s : Shared} {env : Env} {value slice : Expr} {pos : Pos} {T id : String} {Q : Value → Shared → Prop}
    (hl : typeLookup (.type T) "__getitem__" = pure (some (.builtin id))) (hs : NoSl slice)
    (h : wpAny (model prog w) A (eval value env) (fun o s₁ => wpAny (model prog w) A (eval slice env) (fun i s₂ => s₂.TypeIs o T ∧ wpAny (model prog w) A (getItem o i) Q E s₂) E s₁) E s) :
    wpAny (model prog w) A (eval (.Subscript value slice pos) env) Q E s := by
  refine Subscript_ (wpAny_mono h (fun o s₁ h₁ => wpAny_mono h₁ (fun i s₂ h₂ => ?_) fun _ _ x => x) fun _ _ x => x)
  obtain ⟨hT, h₂⟩ := h₂
  unfold subscriptTail
  refine wpAny_bind ?_
  rw [getitemInPython_of_ne hT.not_modules]
  refine wpAny_bind (wpAny_specialOf hT hl ?_)
  have fin : wpAny (model prog w) A (subscripted slice false o i) (fun r s₃ => wpAny (model prog w) A (letTemporaryGo value o r >>= fun _ => pure r) Q E s₃) E s₂ := by
    rw [hs o i]
    exact wpAny_operating (wpAny_mono h₂ (fun r s₃ h₃ => wpAny_bind (wpAny_letTemporaryGo (wpAny_pure h₃))) fun _ _ x => x)
  first
    | exact wpAny_pure (wpAny_bind fin)
    | exact wpAny_bind (wpAny_pure (wpAny_bind fin))
    | exact wpAny_bind fin



/-! ### displays -/

/-- a method call o.m(e) of a built-in, with one argument: what must be seen of the text -/
structure M1 (X : Cx) (o : Expr) (m : Str) (apos : Pos) (e : Expr) (cpos : Pos) : Prop where
  base : attributeBase o m X.env (eval o X.env) = eval o X.env
  few : ((backTo cpos (starEach [e] X.env)).all (fun x => !x.1) && (backToKw cpos (keywordEach [] X.env)).all (fun x => x.1.isSome)
    && decide (([e] : List Expr).length + ([] : List Keyword).length + (if ([] : List Keyword).isEmpty then 0 else 1) < 30)) = true
  line : (apos.endLine == cpos.line) = true
  trees : backTo cpos (starEach [e] X.env) = [(false, eval e X.env)]
structure M2 (X : Cx) (o : Expr) (m : Str) (apos : Pos) (e f : Expr) (cpos : Pos) : Prop where
  base : attributeBase o m X.env (eval o X.env) = eval o X.env
  few : ((backTo cpos (starEach [e, f] X.env)).all (fun x => !x.1) && (backToKw cpos (keywordEach [] X.env)).all (fun x => x.1.isSome)
    && decide (([e, f] : List Expr).length + ([] : List Keyword).length + (if ([] : List Keyword).isEmpty then 0 else 1) < 30)) = true
  line : (apos.endLine == cpos.line) = true
  trees : backTo cpos (starEach [e, f] X.env) = [(false, eval e X.env), (false, eval f X.env)]



/-! ### dict(d): a copy -/


end L2
namespace L2
open PySem PySem.Spec PyProof.Rows
end L2
namespace L2
open PySem PySem.Spec PyProof.Rows

end L2
namespace Mc
open PySem L2 PyProof.Rows
/-! ### machines that are such -/
def Tn.good (n : Int) : Tn → Prop
  | .n i => 0 ≤ i ∧ i < n
  | .w x => x = "by" ∨ x = "out"
def cellGood (n : Int) (c : Int × Int) : Prop := 0 ≤ c.1 ∧ c.1 < n ∧ (c.2 = 1 ∨ c.2 = -1)
def Rw.good (n : Int) (r : Rw) : Prop := r.l.good n ∧ r.r.good n ∧ ∀ c ∈ r.c, cellGood n c
/-- a machine of sg signs and its strip -/
structure Mach (rs : List Rw) (sg : Nat) : Prop where
  len : 1 ≤ rs.length
  len2 : rs.length ≤ 1000
  sg1 : 1 ≤ sg
  sg3 : sg ≤ 3
  row : ∀ r ∈ rs, r.good rs.length ∧ r.c.length = sg
def Strip (sg : Nat) (z : List Nat) : Prop := z.length ≤ 1000 ∧ ∀ c ∈ z, isSign sg c = true
theorem badAt_ok {sg : Nat} : ∀ {z : List Nat} {i : Nat}, (∀ c ∈ z, isSign sg c = true) → badAt sg i z = none
  | [], _, _ => rfl
  | c :: t, i, h => by
    rw [badAt_cons, if_pos (h c (by simp))]
    exact badAt_ok fun x hx => h x (by simp [hx])
/-! ### the walk -/
def rowAt (rs : List Rw) (q : Int) : Rw := rs.getD q.toNat ⟨.n 0, [], .n 0⟩
/-- what the machine is told at a stand: where it goes (or a word), and its step -/
def cellAt (rs : List Rw) (z : List Nat) (st : Int × Int) : Tn × Int :=
  if st.1 = 0 then ((rowAt rs st.2).l, 1) else if st.1 = (z.length : Int) + 1 then ((rowAt rs st.2).r, -1) else
    (.n ((rowAt rs st.2).c.getD (z.getD (st.1.toNat - 1) 97 - 97) (0, 0)).1, ((rowAt rs st.2).c.getD (z.getD (st.1.toNat - 1) 97 - 97) (0, 0)).2)
def stepM (rs : List Rw) (z : List Nat) (st : Int × Int) : Option (Int × Int) :=
  match (cellAt rs z st).1 with
  | .w _ => none
  | .n q => some (st.1 + (cellAt rs z st).2, q)
def Valid (rs : List Rw) (z : List Nat) (st : Int × Int) : Prop := 0 ≤ st.1 ∧ st.1 ≤ (z.length : Int) + 1 ∧ 0 ≤ st.2 ∧ st.2 < (rs.length : Int)
theorem rowAt_mem {rs : List Rw} {q : Int} (h0 : 0 ≤ q) (h1 : q < rs.length) : rs[q.toNat]? = some (rowAt rs q) := by
  have h : q.toNat < rs.length := by omega
  unfold rowAt
  rw [List.getD_eq_getElem?_getD, List.getElem?_eq_getElem h]; rfl
theorem sign_ix {rs : List Rw} {sg : Nat} {z : List Nat} {st : Int × Int} (S : Strip sg z) (V : Valid rs z st) (h0 : st.1 ≠ 0) (h1 : st.1 ≠ (z.length : Int) + 1) : ∃ c, z[st.1.toNat - 1]? = some c ∧ isSign sg c = true ∧ z.getD (st.1.toNat - 1) 97 = c := by
  obtain ⟨a, b, _, _⟩ := V
  have hl : st.1.toNat - 1 < z.length := by omega
  refine ⟨z[st.1.toNat - 1], by simp [hl], S.2 _ (List.getElem_mem hl), by rw [List.getD_eq_getElem?_getD, List.getElem?_eq_getElem hl]; rfl⟩
theorem cell_get {rs : List Rw} {sg : Nat} {z : List Nat} {st : Int × Int} (M : Mach rs sg) (S : Strip sg z) (V : Valid rs z st) (h0 : st.1 ≠ 0) (h1 : st.1 ≠ (z.length : Int) + 1) :
    ∃ c, (rowAt rs st.2).c[z.getD (st.1.toNat - 1) 97 - 97]? = some c ∧ (rowAt rs st.2).c.getD (z.getD (st.1.toNat - 1) 97 - 97) (0, 0) = c ∧ cellGood rs.length c := by
  obtain ⟨c, _, hs, e⟩ := sign_ix S V h0 h1
  rw [e]
  have hs := of_decide_eq_true hs
  have hr := M.row _ (List.mem_of_getElem? (rowAt_mem V.2.2.1 V.2.2.2))
  have hl : c - 97 < (rowAt rs st.2).c.length := by rw [hr.2]; omega
  refine ⟨(rowAt rs st.2).c[c - 97], by simp [hl], by rw [List.getD_eq_getElem?_getD, List.getElem?_eq_getElem hl]; rfl, hr.1.2.2 _ (List.getElem_mem hl)⟩
/-! ### so many stands -/
theorem nat_nodup : ∀ (N : Nat) (l : List Nat), l.Nodup → (∀ x ∈ l, x < N) → l.length ≤ N
  | 0, l, _, h => by
    cases l with
    | nil => exact Nat.le_refl _
    | cons a t => exact absurd (h a (by simp)) (by omega)
  | N + 1, l, hn, h => by
    have ih := nat_nodup N (l.erase N) (hn.erase N) (fun x hx => by
      have := (hn.mem_erase_iff).mp hx
      have h2 := h x this.2
      omega)
    have := List.length_erase (a := N) (l := l)
    split at this <;> omega
theorem stands_few {rs : List Rw} {z : List Nat} {l : List (Int × Int)} (hn : l.Nodup) (hv : ∀ st ∈ l, Valid rs z st) : l.length ≤ (z.length + 2) * rs.length := by
  have h := nat_nodup ((z.length + 2) * rs.length) (l.map fun st => st.1.toNat * rs.length + st.2.toNat) ?_ ?_
  · rw [List.length_map] at h; exact h
  · unfold List.Nodup
    rw [List.pairwise_map]
    refine List.Pairwise.imp_of_mem (fun {a b} ha hb hab e => hab ?_) hn
    obtain ⟨a1, a2, a3, a4⟩ := hv a ha
    obtain ⟨b1, b2, b3, b4⟩ := hv b hb
    have hm : 0 < rs.length := by omega
    have e1 : (a.1.toNat * rs.length + a.2.toNat) / rs.length = (b.1.toNat * rs.length + b.2.toNat) / rs.length := by rw [e]
    have e2 : (a.1.toNat * rs.length + a.2.toNat) % rs.length = (b.1.toNat * rs.length + b.2.toNat) % rs.length := by rw [e]
    have ha2 : a.2.toNat < rs.length := by omega
    have hb2 : b.2.toNat < rs.length := by omega
    rw [Nat.mul_comm, Nat.mul_add_div hm, Nat.mul_comm b.1.toNat, Nat.mul_add_div hm, Nat.div_eq_of_lt ha2, Nat.div_eq_of_lt hb2] at e1
    rw [Nat.mul_comm, Nat.mul_add_mod, Nat.mul_comm b.1.toNat, Nat.mul_add_mod, Nat.mod_eq_of_lt ha2, Nat.mod_eq_of_lt hb2] at e2
    exact Prod.ext (by omega) (by omega)
  · intro x hx
    obtain ⟨st, hst, rfl⟩ := List.mem_map.mp hx
    obtain ⟨a1, a2, a3, a4⟩ := hv st hst
    have h1 : st.1.toNat + 1 ≤ z.length + 2 := by omega
    have h2 : st.2.toNat < rs.length := by omega
    calc st.1.toNat * rs.length + st.2.toNat < st.1.toNat * rs.length + rs.length := by omega
      _ = (st.1.toNat + 1) * rs.length := by rw [Nat.add_mul]; omega
      _ ≤ (z.length + 2) * rs.length := Nat.mul_le_mul_right _ h1
/-! ### the path -/
def pathF (rs : List Rw) (z : List Nat) : Nat → List (Int × Int) → Int × Int → List (Int × Int)
  | 0, ps, st => ps ++ [st]
  | k + 1, ps, st => if st ∈ ps then ps ++ [st] else match stepM rs z st with
    | none => ps ++ [st]
    | some st' => pathF rs z k (ps ++ [st]) st'
def pathB (rs : List Rw) (z : List Nat) : Nat := (z.length + 2) * rs.length
def pathM (rs : List Rw) (z : List Nat) : List (Int × Int) := pathF rs z (pathB rs z) [] (0, 0)
/-- underway: gone through ps, standing at st -/
structure Way (rs : List Rw) (z : List Nat) (ps : List (Int × Int)) (st : Int × Int) (k : Nat) : Prop where
  nd : ps.Nodup
  val : ∀ s ∈ ps ++ [st], Valid rs z s
  num : ps.length + k = pathB rs z
  res : pathF rs z k ps st = pathM rs z
end Mc
namespace L2
open PySem PySem.Spec PyProof.Rows
theorem strs_of : ∀ {ys : List Str} {us : List Value}, Vals (ys.map V.str) us → StrsAre us ys
  | [], _, .nil => .nil
  | y :: ys, _, .cons r t => by obtain ⟨t', rfl⟩ := r; exact .cons y t' (strs_of t)
def rJoin (K : PySem.W.Frag) : V → List V → Hp → VK → Prop := fun x vs H Q => ∃ (sep : Str) (a : Addr) (ys : List Str), x = .str sep ∧ vs = [.ref a] ∧ SqL K H a (ys.map V.str) ∧ (ys.map fun y => y.length).sum + ys.length * sep.length ≤ 16777216 ∧ Q (.str (Txt.join sep ys)) H
theorem mt_join {X : Cx} : MtR X "str.join" (rJoin X.K) := by
  intro pins s σ H x vs v us Q I rx rv h
  obtain ⟨sep, a, ys, rfl, rfl, ha, hz, q⟩ := h
  obtain ⟨t, rfl⟩ := rx
  obtain ⟨u, rfl, ru⟩ := rv.one
  cases (show u = Value.ref a from ru)
  obtain ⟨its, r, pl, _⟩ := I.list ha
  exact join_list (items := its.toArray) pl.isList (by simpa using strs_of r) hz fun t' k => ⟨.str _, H, I.tok _, ⟨_, rfl⟩, q⟩
end L2
namespace Mc
open PySem L2 PyProof.Rows
def one (c : Nat) : Str := ⟨#[c]⟩
theorem glue_fold (cs : List Nat) : ∀ (a : Array Nat), (List.foldl (fun acc p => acc ++ ("" : Str).cps ++ p.cps) a (cs.map one)).toList = a.toList ++ cs := by
  induction cs with
  | nil => intro a; simp
  | cons c t ih =>
    intro a
    rw [List.map_cons, List.foldl_cons, ih]
    have : ("" : Str).cps = #[] := rfl
    rw [this]
    simp [one]
theorem join_one (cs : List Nat) : (Txt.join "" (cs.map one)).cps.toList = cs := by
  unfold Txt.join Builtin.Str.glued
  cases cs with
  | nil => rfl
  | cons c t =>
    show (List.foldl _ (one c).cps (t.map one)).toList = _
    rw [glue_fold]; rfl
theorem sum_one (cs : List Nat) : ((cs.map one).map fun y => y.length).sum = cs.length := by
  induction cs with
  | nil => rfl
  | cons c t ih => rw [List.map_cons, List.map_cons, List.sum_cons, ih, List.length_cons]; show 1 + _ = _; omega
theorem str_ext {x y : Str} (h : x.cps.toList = y.cps.toList) : x = y := by
  cases x; cases y
  simp only [Str.mk.injEq]
  exact Array.toList_inj.mp h
theorem join_eq (cs : List Nat) : Txt.join "" (cs.map one) = ⟨cs.toArray⟩ := str_ext (by rw [join_one])
theorem abc_mod {k : Int} {sg : Nat} (h1 : 1 ≤ sg) (h3 : sg ≤ 3) : ∃ c, atI ("abc" : Str).cps.toList (k % (sg : Int)) = some c ∧ isSign sg c = true := by
  have h0 := Int.emod_nonneg k (show (sg : Int) ≠ 0 by omega)
  have h2 := Int.emod_lt_of_pos k (show (0 : Int) < sg by omega)
  obtain ⟨j, hj⟩ : ∃ j : Nat, k % (sg : Int) = j := ⟨(k % (sg : Int)).toNat, by omega⟩
  rw [hj] at h0 h2 ⊢
  refine ⟨97 + j, ?_, decide_eq_true (by omega)⟩
  obtain rfl | rfl | rfl : j = 0 ∨ j = 1 ∨ j = 2 := by omega
  all_goals decide +kernel
end Mc
namespace Mc
open PySem L2 PyProof.Rows
/-! ### goings with ways out -/
section
variable {S O : Type}
inductive Ex (st : S → Option (S ⊕ O)) : Nat → S → O → Prop
  | out {s : S} {o : O} (h : st s = some (.inr o)) : Ex st 0 s o
  | go {s s' : S} {o : O} {n : Nat} (h : st s = some (.inl s')) (t : Ex st n s' o) : Ex st (n + 1) s o
inductive Rc (st : S → Option (S ⊕ O)) : Nat → S → S → Prop
  | nil {s : S} : Rc st 0 s s
  | cons {s s' s'' : S} {n : Nat} (h : st s = some (.inl s')) (t : Rc st n s' s'') : Rc st (n + 1) s s''
variable {st : S → Option (S ⊕ O)}
theorem Ex.det {n n' : Nat} {s : S} {o o' : O} (a : Ex st n s o) (b : Ex st n' s o') : n = n' ∧ o = o' := by
  induction a generalizing n' o' with
  | out h =>
    cases b with
    | out h' => rw [h] at h'; cases h'; exact ⟨rfl, rfl⟩
    | go h' t => rw [h] at h'; cases h'
  | go h t ih =>
    cases b with
    | out h' => rw [h] at h'; cases h'
    | go h' t' =>
      rw [h] at h'; cases h'
      obtain ⟨e, e'⟩ := ih t'
      exact ⟨by omega, e'⟩
theorem Rc.ex {k n : Nat} {s s' : S} {o : O} (a : Rc st k s s') (b : Ex st n s o) : ∃ n', n = n' + k ∧ Ex st n' s' o := by
  induction a generalizing n with
  | nil => exact ⟨n, rfl, b⟩
  | cons h t ih =>
    cases b with
    | out h' => rw [h] at h'; cases h'
    | go h' t' =>
      rw [h] at h'; cases h'
      obtain ⟨n', e, q⟩ := ih t'
      exact ⟨n', by omega, q⟩
theorem Rc.to {k n : Nat} {s s' : S} {o : O} (a : Rc st k s s') (b : Ex st n s' o) : Ex st (n + k) s o := by
  induction a with
  | nil => exact b
  | cons h t ih => exact .go h (ih b)
theorem Rc.snoc {k : Nat} {s s' s'' : S} (a : Rc st k s s') (h : st s' = some (.inl s'')) : Rc st (k + 1) s s'' := by
  induction a with
  | nil => exact .cons h .nil
  | cons h' t ih => exact .cons h' (ih h)
theorem Rc.round {m n : Nat} {s : S} {o : O} (a : Rc st (m + 1) s s) : ¬ Ex st n s o := fun b => by
  obtain ⟨n', e, q⟩ := a.ex b
  have := (b.det q).1
  omega
def Res (st : S → Option (S ⊕ O)) (s : S) (r : Option O) : Prop := ∀ o, r = some o ↔ ∃ n, Ex st n s o
theorem Res.det {s : S} {r r' : Option O} (a : Res st s r) (b : Res st s r') : r = r' := by
  apply Option.ext
  intro o
  exact (a o).trans (b o).symm
theorem Res.out {s : S} {o : O} (h : st s = some (.inr o)) : Res st s (some o) := fun o' => by
  constructor
  · intro e; cases e; exact ⟨0, .out h⟩
  · rintro ⟨n, q⟩; rw [((Ex.out h).det q).2]
theorem Res.stuck {s : S} (h : st s = none) : Res st s none := fun o' => by
  constructor
  · intro e; cases e
  · rintro ⟨n, q⟩
    cases q with
    | out h' => rw [h] at h'; cases h'
    | go h' t => rw [h] at h'; cases h'
theorem Res.step {s s' : S} {r : Option O} (h : st s = some (.inl s')) (a : Res st s' r) : Res st s r := fun o => by
  rw [a o]
  constructor
  · rintro ⟨n, q⟩; exact ⟨n + 1, .go h q⟩
  · rintro ⟨n, q⟩
    cases q with
    | out h' => rw [h] at h'; cases h'
    | go h' t => rw [h] at h'; cases h'; exact ⟨_, t⟩
theorem Res.round {s : S} {m : Nat} (a : Rc st (m + 1) s s) : Res st s none := fun o => by
  constructor
  · intro e; cases e
  · rintro ⟨n, q⟩; exact absurd q a.round
open Classical in
noncomputable def resOf (st : S → Option (S ⊕ O)) (s : S) : Option O := if h : ∃ o n, Ex st n s o then some h.choose else none
theorem resOf_res (st : S → Option (S ⊕ O)) (s : S) : Res st s (resOf st s) := fun o => by
  unfold resOf
  by_cases h : ∃ o n, Ex st n s o
  · rw [dif_pos h]
    obtain ⟨n, q⟩ := h.choose_spec
    constructor
    · intro e; cases e; exact ⟨n, q⟩
    · rintro ⟨n', q'⟩; rw [(q.det q').2]
  · rw [dif_neg h]
    constructor
    · intro e; cases e
    · rintro ⟨n, q⟩; exact absurd ⟨o, n, q⟩ h
theorem Res.eq {s : S} {r : Option O} (a : Res st s r) : r = resOf st s := a.det (resOf_res st s)
theorem resOf_congr {S' : Type} {st' : S' → Option (S' ⊕ O)} {s : S} {s' : S'} (h : ∀ o, (∃ n, Ex st n s o) ↔ ∃ n, Ex st' n s' o) : resOf st s = resOf st' s' :=
  Option.ext fun o => ((resOf_res st s) o).trans ((h o).trans ((resOf_res st' s') o).symm)
/-- the loop that looks whether it was here before -/
structure Und2 (st : S → Option (S ⊕ O)) (s0 : S) (ps : List S) (s : S) : Prop where
  nd : ps.Nodup
  back : ∀ p ∈ ps, ∃ m, Rc st (m + 1) p s
  res : ∀ r, Res st s r → Res st s0 r
theorem Und2.start {s0 : S} : Und2 st s0 [] s0 := ⟨List.nodup_nil, fun p hp => by simp at hp, fun r h => h⟩
theorem Und2.next {s0 s s' : S} {ps : List S} (U : Und2 st s0 ps s) (hn : s ∉ ps) (h : st s = some (.inl s')) : Und2 st s0 (ps ++ [s]) s' where
  nd := by
    rw [List.nodup_append]
    exact ⟨U.nd, by simp, fun a ha b hb e => by rw [List.mem_singleton.mp hb] at e; exact hn (e ▸ ha)⟩
  back := fun p hp => by
    rcases List.mem_append.mp hp with q | q
    · obtain ⟨m, r⟩ := U.back p q; exact ⟨m + 1, r.snoc h⟩
    · rw [List.mem_singleton.mp q]; exact ⟨0, .cons h .nil⟩
  res := fun r a => U.res r (a.step h)
theorem Und2.met {s0 s : S} {ps : List S} (U : Und2 st s0 ps s) (h : s ∈ ps) : resOf st s0 = none := by
  obtain ⟨m, r⟩ := U.back s h
  exact ((U.res _ (Res.round r)).eq).symm
theorem Und2.outs {s0 s : S} {ps : List S} {o : O} (U : Und2 st s0 ps s) (h : st s = some (.inr o)) : resOf st s0 = some o := ((U.res _ (Res.out h)).eq).symm
theorem Und2.sticks {s0 s : S} {ps : List S} (U : Und2 st s0 ps s) (h : st s = none) : resOf st s0 = none := ((U.res _ (Res.stuck h)).eq).symm
end
/-! ### tables -/
abbrev Th := Option (Int × Int)
structure Tb where
  f : List Th
  a : List Th
def Tb.at (t : Tb) (w q : Int) : Th := (if w = 1 then t.f else t.a).getD q.toNat none
def thGood (m : Nat) : Th → Prop
  | none => True
  | some (d, q) => (d = 1 ∨ d = -1) ∧ 0 ≤ q ∧ q < (m : Int)
structure Tb.good (m : Nat) (t : Tb) : Prop where
  lf : t.f.length = m
  la : t.a.length = m
  gf : ∀ x ∈ t.f, thGood m x
  ga : ∀ x ∈ t.a, thGood m x
theorem Tb.good.at {m : Nat} {t : Tb} (h : t.good m) {w q : Int} (h0 : 0 ≤ q) (h1 : q < m) : (if w = 1 then t.f else t.a)[q.toNat]? = some (t.at w q) ∧ thGood m (t.at w q) := by
  have hl : q.toNat < (if w = 1 then t.f else t.a).length := by
    split
    · rw [h.lf]; omega
    · rw [h.la]; omega
  have e : (if w = 1 then t.f else t.a)[q.toNat]? = some (t.at w q) := by
    unfold Tb.at
    rw [List.getD_eq_getElem?_getD, List.getElem?_eq_getElem hl]; rfl
  refine ⟨e, ?_⟩
  have hm := List.mem_of_getElem? e
  split at hm
  · exact h.gf _ hm
  · exact h.ga _ hm
/-- going through boxes: (which box, the way of coming in, the room) -/
def boxSt (ts : List Tb) (s : Int × Int × Int) : Option ((Int × Int × Int) ⊕ (Int × Int)) :=
  match (ts.getD s.1.toNat ⟨[], []⟩).at s.2.1 s.2.2 with
  | none => none
  | some (w, q) => if 0 ≤ s.1 + w ∧ s.1 + w < (ts.length : Int) then some (.inl (s.1 + w, w, q)) else some (.inr (w, q))
noncomputable def boxTab (m : Nat) (ts : List Tb) : Tb := ⟨(List.range m).map fun q : Nat => resOf (boxSt ts) (0, 1, (q : Int)), (List.range m).map fun q : Nat => resOf (boxSt ts) ((ts.length : Int) - 1, -1, (q : Int))⟩
theorem boxTab_at {m : Nat} {ts : List Tb} {w q : Int} (h0 : 0 ≤ q) (h1 : q < m) : (boxTab m ts).at w q = if w = 1 then resOf (boxSt ts) (0, 1, q) else resOf (boxSt ts) ((ts.length : Int) - 1, -1, q) := by
  unfold Tb.at boxTab
  have hl : q.toNat < m := by omega
  have e : ((q.toNat : Nat) : Int) = q := by omega
  by_cases h : w = 1
  · rw [if_pos h, if_pos h, List.getD_eq_getElem?_getD, List.getElem?_map, List.getElem?_range hl]
    show (some (resOf (boxSt ts) (0, 1, ((q.toNat : Nat) : Int)))).getD none = _
    rw [e]; rfl
  · rw [if_neg h, if_neg h, List.getD_eq_getElem?_getD, List.getElem?_map, List.getElem?_range hl]
    show (some (resOf (boxSt ts) ((ts.length : Int) - 1, -1, ((q.toNat : Nat) : Int)))).getD none = _
    rw [e]; rfl
/-- all states that come up -/
def BoxV (m : Nat) (ts : List Tb) (s : Int × Int × Int) : Prop := 0 ≤ s.1 ∧ s.1 < (ts.length : Int) ∧ (s.2.1 = 1 ∨ s.2.1 = -1) ∧ 0 ≤ s.2.2 ∧ s.2.2 < (m : Int)
theorem box_get {ts : List Tb} {i : Int} (h0 : 0 ≤ i) (h1 : i < ts.length) : ∃ t, ts[i.toNat]? = some t ∧ ts.getD i.toNat ⟨[], []⟩ = t := by
  have hl : i.toNat < ts.length := by omega
  exact ⟨ts[i.toNat], by simp [hl], by rw [List.getD_eq_getElem?_getD, List.getElem?_eq_getElem hl]; rfl⟩
theorem box_step {m : Nat} {ts : List Tb} (hg : ∀ t ∈ ts, t.good m) {s : Int × Int × Int} (V : BoxV m ts s) : (boxSt ts s = none) ∨ (∃ s', boxSt ts s = some (.inl s') ∧ BoxV m ts s') ∨ ∃ w q, boxSt ts s = some (.inr (w, q)) ∧ (w = 1 ∨ w = -1) ∧ 0 ≤ q ∧ q < (m : Int) := by
  obtain ⟨v1, v2, v3, v4, v5⟩ := V
  obtain ⟨t, ht, e⟩ := box_get v1 v2
  have g := ((hg t (List.mem_of_getElem? ht)).at (w := s.2.1) v4 v5).2
  unfold boxSt
  rw [e]
  cases ha : t.at s.2.1 s.2.2 with
  | none => exact .inl rfl
  | some x =>
    obtain ⟨w, q⟩ := x
    rw [ha] at g
    obtain ⟨g1, g2, g3⟩ := g
    by_cases hi : 0 ≤ s.1 + w ∧ s.1 + w < (ts.length : Int)
    · exact .inr (.inl ⟨(s.1 + w, w, q), by simp only [if_pos hi], hi.1, hi.2, g1, g2, g3⟩)
    · exact .inr (.inr ⟨w, q, by simp only [if_neg hi], g1, g2, g3⟩)
theorem box_out {m : Nat} {ts : List Tb} (hg : ∀ t ∈ ts, t.good m) {n : Nat} {s : Int × Int × Int} {o : Int × Int} (V : BoxV m ts s) (h : Ex (boxSt ts) n s o) : (o.1 = 1 ∨ o.1 = -1) ∧ 0 ≤ o.2 ∧ o.2 < (m : Int) := by
  induction h with
  | out h =>
    rcases box_step hg V with e | ⟨s', e, _⟩ | ⟨w, q, e, g⟩
    · rw [h] at e; cases e
    · rw [h] at e; cases e
    · rw [h] at e; cases e; exact g
  | go h t ih =>
    rcases box_step hg V with e | ⟨s', e, V'⟩ | ⟨w, q, e, g⟩
    · rw [h] at e; cases e
    · rw [h] at e; cases e; exact ih V'
    · rw [h] at e; cases e
theorem boxTab_good {m : Nat} {ts : List Tb} (hg : ∀ t ∈ ts, t.good m) (hl : 1 ≤ ts.length) : (boxTab m ts).good m where
  lf := by unfold boxTab; simp
  la := by unfold boxTab; simp
  gf := fun x hx => by
    obtain ⟨q, hq, rfl⟩ := List.mem_map.mp hx
    have hq := List.mem_range.mp hq
    cases e : resOf (boxSt ts) (0, 1, (q : Int)) with
    | none => trivial
    | some o =>
      obtain ⟨n, h⟩ := ((resOf_res (boxSt ts) _) o).mp e
      exact box_out hg ⟨by show (0 : Int) ≤ 0; decide, by show (0 : Int) < _; omega, .inl rfl, by show (0 : Int) ≤ (q : Int); omega, by show (q : Int) < _; omega⟩ h
  ga := fun x hx => by
    obtain ⟨q, hq, rfl⟩ := List.mem_map.mp hx
    have hq := List.mem_range.mp hq
    cases e : resOf (boxSt ts) ((ts.length : Int) - 1, -1, (q : Int)) with
    | none => trivial
    | some o =>
      obtain ⟨n, h⟩ := ((resOf_res (boxSt ts) _) o).mp e
      exact box_out hg ⟨by show (0 : Int) ≤ (ts.length : Int) - 1; omega, by show (ts.length : Int) - 1 < _; omega, .inr rfl, by show (0 : Int) ≤ (q : Int); omega, by show (q : Int) < _; omega⟩ h
/-- the place of the long row for one of the short row: mid stands at place k of the short row -/
def long (k n : Int) (s : Int × Int × Int) : Int × Int × Int := (if s.1 < k then s.1 else if s.1 = k then (if s.2.1 = 1 then k else k + n - 1) else s.1 + n - 1, s.2.1, s.2.2)
theorem getD_app1 {α : Type} {l1 l2 : List α} {i : Nat} {d : α} (h : i < l1.length) : (l1 ++ l2).getD i d = l1.getD i d := by
  rw [List.getD_eq_getElem?_getD, List.getD_eq_getElem?_getD, List.getElem?_append_left h]
theorem getD_app2 {α : Type} {l1 l2 : List α} {i : Nat} {d : α} (h : l1.length ≤ i) : (l1 ++ l2).getD i d = l2.getD (i - l1.length) d := by
  rw [List.getD_eq_getElem?_getD, List.getD_eq_getElem?_getD, List.getElem?_append_right h]
section
variable {m : Nat} {l1 mid l2 : List Tb}
/-- within mid the long row goes as mid alone does -/
theorem mid_at (i : Int) (h0 : 0 ≤ i) (h1 : i < mid.length) : (l1 ++ mid ++ l2).getD ((l1.length : Int) + i).toNat ⟨[], []⟩ = mid.getD i.toNat ⟨[], []⟩ := by
  have e : ((l1.length : Int) + i).toNat = l1.length + i.toNat := by omega
  rw [e, List.append_assoc, getD_app2 (by omega), show l1.length + i.toNat - l1.length = i.toNat by omega, getD_app1 (by omega)]
theorem short_at (c : Tb) (s : Int × Int × Int) (h0 : 0 ≤ s.1) (h1 : s.1 ≠ (l1.length : Int)) (hm : 1 ≤ mid.length) : (l1 ++ [c] ++ l2).getD s.1.toNat ⟨[], []⟩ = (l1 ++ mid ++ l2).getD (long l1.length mid.length s).1.toNat ⟨[], []⟩ := by
  unfold long
  by_cases h : s.1 < (l1.length : Int)
  · simp only [if_pos h]
    rw [List.append_assoc, List.append_assoc, getD_app1 (by omega), getD_app1 (by omega)]
  · simp only [if_neg h, if_neg h1]
    have e : (s.1 + (mid.length : Int) - 1).toNat = s.1.toNat + mid.length - 1 := by omega
    have e1 : (l1 ++ [c]).length = l1.length + 1 := by simp
    have e2 : (l1 ++ mid).length = l1.length + mid.length := by simp
    rw [e, getD_app2 (by rw [e1]; omega), getD_app2 (by rw [e2]; omega), e1, e2]
    congr 1
    omega
theorem short_c (c : Tb) : (l1 ++ [c] ++ l2).getD ((l1.length : Int)).toNat ⟨[], []⟩ = c := by
  rw [List.append_assoc, getD_app2 (by omega)]
  have : (l1.length : Int).toNat - l1.length = 0 := by omega
  rw [this]; rfl
/-- out of mid: then on in the long row -/
theorem mid_out (hg : ∀ t ∈ mid, t.good m) {k : Nat} {i w q : Int} {o : Int × Int} (V : BoxV m mid (i, w, q)) (h : Ex (boxSt mid) k (i, w, q) o) : ∃ i' w' q', BoxV m mid (i', w', q') ∧ Rc (boxSt (l1 ++ mid ++ l2)) k ((l1.length : Int) + i, w, q) ((l1.length : Int) + i', w', q') ∧
    (mid.getD i'.toNat ⟨[], []⟩).at w' q' = some o ∧ ¬ (0 ≤ i' + o.1 ∧ i' + o.1 < (mid.length : Int)) := by
  generalize hs : ((i, w, q) : Int × Int × Int) = s at h V
  induction h generalizing i w q with
  | @out s o h =>
    subst hs
    refine ⟨i, w, q, V, .nil, ?_⟩
    unfold boxSt at h
    dsimp only at h
    cases ha : (mid.getD i.toNat ⟨[], []⟩).at w q with
    | none => rw [ha] at h; cases h
    | some x =>
      obtain ⟨w1, q1⟩ := x
      rw [ha] at h
      dsimp only at h
      by_cases hi : 0 ≤ i + w1 ∧ i + w1 < (mid.length : Int)
      · rw [if_pos hi] at h; cases h
      · rw [if_neg hi] at h; cases h; exact ⟨rfl, hi⟩
  | @go s s' o n h t ih =>
    subst hs
    have V' : BoxV m mid s' := by
      rcases box_step hg V with e | ⟨s1, e, V'⟩ | ⟨_, _, e, _⟩
      · rw [h] at e; cases e
      · rw [h] at e; cases e; exact V'
      · rw [h] at e; cases e
    obtain ⟨i1, w1, q1⟩ := s'
    obtain ⟨i', w', q', a, b, c⟩ := ih (i := i1) (w := w1) (q := q1) rfl V'
    refine ⟨i', w', q', a, .cons ?_ b, c⟩
    unfold boxSt at h ⊢
    dsimp only at h ⊢
    rw [mid_at i V.1 V.2.1]
    cases ha : (mid.getD i.toNat ⟨[], []⟩).at w q with
    | none => rw [ha] at h; cases h
    | some x =>
      obtain ⟨w2, q2⟩ := x
      rw [ha] at h
      dsimp only at h ⊢
      by_cases hi : 0 ≤ i + w2 ∧ i + w2 < (mid.length : Int)
      · rw [if_pos hi] at h
        cases h
        rw [if_pos]
        · rw [show (l1.length : Int) + i + w1 = (l1.length : Int) + (i + w1) by omega]
        · simp only [List.length_append]; omega
      · rw [if_neg hi] at h; cases h
/-- the other way round: what goes out of the long row, goes out of mid first -/
theorem mid_in (hg : ∀ t ∈ mid, t.good m) {n : Nat} {i w q : Int} {o : Int × Int} (V : BoxV m mid (i, w, q)) (h : Ex (boxSt (l1 ++ mid ++ l2)) n ((l1.length : Int) + i, w, q) o) :
    ∃ k i' w' q' o', Ex (boxSt mid) k (i, w, q) o' ∧ BoxV m mid (i', w', q') ∧ (mid.getD i'.toNat ⟨[], []⟩).at w' q' = some o' ∧ ¬ (0 ≤ i' + o'.1 ∧ i' + o'.1 < (mid.length : Int)) ∧ ∃ j, j ≤ n ∧ Ex (boxSt (l1 ++ mid ++ l2)) j ((l1.length : Int) + i', w', q') o := by
  induction n generalizing i w q with
  | zero =>
    cases ha : (mid.getD i.toNat ⟨[], []⟩).at w q with
    | none =>
      cases h with
      | out h => unfold boxSt at h; dsimp only at h; rw [mid_at i V.1 V.2.1, ha] at h; cases h
    | some x =>
      obtain ⟨w1, q1⟩ := x
      by_cases hi : 0 ≤ i + w1 ∧ i + w1 < (mid.length : Int)
      · cases h with
        | out h =>
          unfold boxSt at h; dsimp only at h
          rw [mid_at i V.1 V.2.1, ha] at h
          dsimp only at h
          rw [if_pos (by simp only [List.length_append]; omega)] at h
          cases h
      · refine ⟨0, i, w, q, (w1, q1), .out ?_, V, ha, hi, 0, Nat.le_refl _, h⟩
        unfold boxSt; dsimp only
        rw [ha]; dsimp only; rw [if_neg hi]
  | succ n ih =>
    cases ha : (mid.getD i.toNat ⟨[], []⟩).at w q with
    | none =>
      cases h with
      | go h t => unfold boxSt at h; dsimp only at h; rw [mid_at i V.1 V.2.1, ha] at h; cases h
    | some x =>
      obtain ⟨w1, q1⟩ := x
      by_cases hi : 0 ≤ i + w1 ∧ i + w1 < (mid.length : Int)
      · have hs : boxSt mid (i, w, q) = some (.inl (i + w1, w1, q1)) := by
          unfold boxSt; dsimp only; rw [ha]; dsimp only; rw [if_pos hi]
        have V' : BoxV m mid (i + w1, w1, q1) := by
          rcases box_step hg V with e | ⟨s1, e, V'⟩ | ⟨_, _, e, _⟩
          · rw [hs] at e; cases e
          · rw [hs] at e; cases e; exact V'
          · rw [hs] at e; cases e
        cases h with
        | go h t =>
          unfold boxSt at h; dsimp only at h
          rw [mid_at i V.1 V.2.1, ha] at h
          dsimp only at h
          rw [if_pos (by simp only [List.length_append]; omega)] at h
          cases h
          rw [show (l1.length : Int) + i + w1 = (l1.length : Int) + (i + w1) by omega] at t
          obtain ⟨k, i', w', q', o', a, b, c, d, j, hj, e⟩ := ih V' t
          exact ⟨k + 1, i', w', q', o', .go hs a, b, c, d, j, by omega, e⟩
      · refine ⟨0, i, w, q, (w1, q1), .out ?_, V, ha, hi, n + 1, Nat.le_refl _, h⟩
        unfold boxSt; dsimp only
        rw [ha]; dsimp only; rw [if_neg hi]
theorem long_step (c : Tb) (hm : 1 ≤ mid.length) {s : Int × Int × Int} {w' q' : Int} (hi : s.1 ≠ (l1.length : Int)) (h0 : 0 ≤ s.1) (h1 : s.1 < ((l1 ++ [c] ++ l2).length : Int)) (hw : w' = 1 ∨ w' = -1) :
    (0 ≤ s.1 + w' ∧ s.1 + w' < ((l1 ++ [c] ++ l2).length : Int) ↔ 0 ≤ (long l1.length mid.length s).1 + w' ∧ (long l1.length mid.length s).1 + w' < ((l1 ++ mid ++ l2).length : Int)) ∧
    (0 ≤ s.1 + w' ∧ s.1 + w' < ((l1 ++ [c] ++ l2).length : Int) → long l1.length mid.length (s.1 + w', w', q') = ((long l1.length mid.length s).1 + w', w', q')) := by
  simp only [List.length_append, List.length_cons, List.length_nil] at h1 ⊢
  unfold long
  dsimp only
  refine ⟨?_, fun hh => ?_⟩
  · by_cases h : s.1 < (l1.length : Int)
    · rw [if_pos h]; omega
    · rw [if_neg h, if_neg hi]; omega
  · refine Prod.ext ?_ rfl
    show (if s.1 + w' < (l1.length : Int) then s.1 + w' else if s.1 + w' = (l1.length : Int) then (if w' = 1 then (l1.length : Int) else (l1.length : Int) + (mid.length : Int) - 1) else s.1 + w' + (mid.length : Int) - 1) = (if s.1 < (l1.length : Int) then s.1 else if s.1 = (l1.length : Int) then (if s.2.1 = 1 then (l1.length : Int) else (l1.length : Int) + (mid.length : Int) - 1) else s.1 + (mid.length : Int) - 1) + w'
    rw [if_neg hi]
    rcases hw with rfl | rfl
    · by_cases h : s.1 < (l1.length : Int)
      · rw [if_pos h]
        by_cases h2 : s.1 + 1 < (l1.length : Int)
        · rw [if_pos h2]
        · rw [if_neg h2, if_pos (by omega), if_pos rfl]; omega
      · rw [if_neg h, if_neg (by omega), if_neg (by omega)]; omega
    · by_cases h : s.1 < (l1.length : Int)
      · rw [if_pos h, if_pos (by omega)]
      · rw [if_neg h, if_neg (by omega)]
        by_cases h2 : s.1 + -1 = (l1.length : Int)
        · rw [if_pos h2, if_neg (by decide)]; omega
        · rw [if_neg h2]; omega
/-- what mid tells at its place -/
theorem c_at {w q : Int} (hw : w = 1 ∨ w = -1) (h0 : 0 ≤ q) (h1 : q < (m : Int)) (hm : 1 ≤ mid.length) : (boxTab m mid).at w q = resOf (boxSt mid) ((if w = 1 then 0 else (mid.length : Int) - 1), w, q) := by
  rw [boxTab_at h0 h1]
  rcases hw with rfl | rfl
  · rw [if_pos rfl, if_pos rfl]
  · rw [if_neg (by decide), if_neg (by decide)]
theorem comp_iff (hg1 : ∀ t ∈ l1, t.good m) (hg : ∀ t ∈ mid, t.good m) (hg2 : ∀ t ∈ l2, t.good m) (hm : 1 ≤ mid.length) {s : Int × Int × Int} {o : Int × Int} (V : BoxV m (l1 ++ [boxTab m mid] ++ l2) s) :
    (∃ n, Ex (boxSt (l1 ++ [boxTab m mid] ++ l2)) n s o) ↔ ∃ n, Ex (boxSt (l1 ++ mid ++ l2)) n (long l1.length mid.length s) o := by
  have hgs : ∀ t ∈ l1 ++ [boxTab m mid] ++ l2, t.good m := fun t ht => by
    rcases List.mem_append.mp ht with y | y
    · rcases List.mem_append.mp y with y | y
      · exact hg1 t y
      · rw [List.mem_singleton.mp y]; exact boxTab_good hg hm
    · exact hg2 t y
  have Lm : ∀ {s : Int × Int × Int}, s.1 = (l1.length : Int) → long l1.length mid.length s = ((l1.length : Int) + (if s.2.1 = 1 then 0 else (mid.length : Int) - 1), s.2.1, s.2.2) := fun {s} h => by
    unfold long
    rw [if_neg (by omega), if_pos h]
    by_cases h1 : s.2.1 = 1
    · rw [if_pos h1, if_pos h1, Int.add_zero]
    · rw [if_neg h1, if_neg h1, Int.add_sub_assoc]
  have Vm : ∀ {s : Int × Int × Int}, BoxV m (l1 ++ [boxTab m mid] ++ l2) s → BoxV m mid ((if s.2.1 = 1 then 0 else (mid.length : Int) - 1), s.2.1, s.2.2) := fun {s} V => by
    obtain ⟨_, _, v3, v4, v5⟩ := V
    refine ⟨?_, ?_, v3, v4, v5⟩
    · show (0 : Int) ≤ if s.2.1 = 1 then 0 else (mid.length : Int) - 1; split <;> omega
    · show (if s.2.1 = 1 then (0 : Int) else (mid.length : Int) - 1) < _; split <;> omega
  -- leaving mid at i' with o': the same way on
  have leave : ∀ {i' : Int} {o' : Int × Int}, 0 ≤ i' → i' < (mid.length : Int) → (o'.1 = 1 ∨ o'.1 = -1) → ¬ (0 ≤ i' + o'.1 ∧ i' + o'.1 < (mid.length : Int)) →
      (0 ≤ (l1.length : Int) + o'.1 ∧ (l1.length : Int) + o'.1 < ((l1 ++ [boxTab m mid] ++ l2).length : Int) ↔ 0 ≤ (l1.length : Int) + i' + o'.1 ∧ (l1.length : Int) + i' + o'.1 < ((l1 ++ mid ++ l2).length : Int)) ∧
      long l1.length mid.length ((l1.length : Int) + o'.1, o'.1, o'.2) = ((l1.length : Int) + i' + o'.1, o'.1, o'.2) := fun {i' o'} a b hw h => by
    simp only [List.length_append, List.length_cons, List.length_nil]
    refine ⟨by rcases hw with e | e <;> rw [e] at h ⊢ <;> omega, ?_⟩
    unfold long
    refine Prod.ext ?_ rfl
    show (if (l1.length : Int) + o'.1 < (l1.length : Int) then (l1.length : Int) + o'.1 else if (l1.length : Int) + o'.1 = (l1.length : Int) then (if o'.1 = 1 then (l1.length : Int) else (l1.length : Int) + (mid.length : Int) - 1) else (l1.length : Int) + o'.1 + (mid.length : Int) - 1) = (l1.length : Int) + i' + o'.1
    rcases hw with e | e
    · rw [e] at h ⊢; rw [if_neg (by omega), if_neg (by omega)]; omega
    · rw [e] at h ⊢; rw [if_pos (by omega)]; omega
  constructor
  · rintro ⟨n, h⟩
    induction h with
    | @out s o h =>
      by_cases hi : s.1 = (l1.length : Int)
      · unfold boxSt at h
        rw [hi, short_c, c_at V.2.2.1 V.2.2.2.1 V.2.2.2.2 hm] at h
        cases hr : resOf (boxSt mid) ((if s.2.1 = 1 then 0 else (mid.length : Int) - 1), s.2.1, s.2.2) with
        | none => rw [hr] at h; cases h
        | some o' =>
          rw [hr] at h
          obtain ⟨k, hk⟩ := ((resOf_res (boxSt mid) _) o').mp hr
          have ho := box_out hg (Vm V) hk
          obtain ⟨i', w', q', V', rc, ha, hn⟩ := mid_out (l1 := l1) (l2 := l2) hg (Vm V) hk
          obtain ⟨lv1, lv2⟩ := leave V'.1 V'.2.1 ho.1 hn
          obtain ⟨ow, oq⟩ := o'
          dsimp only at h
          by_cases hin : 0 ≤ (l1.length : Int) + ow ∧ (l1.length : Int) + ow < ((l1 ++ [boxTab m mid] ++ l2).length : Int)
          · rw [if_pos hin] at h; cases h
          · rw [if_neg hin] at h; cases h
            rw [Lm hi]
            refine ⟨0 + k, rc.to (.out ?_)⟩
            unfold boxSt; dsimp only
            rw [mid_at i' V'.1 V'.2.1, ha]; dsimp only
            rw [if_neg fun z => hin (lv1.mpr z)]
      · refine ⟨0, .out ?_⟩
        have hs := h
        unfold boxSt at h ⊢
        rw [← short_at (boxTab m mid) s V.1 hi hm]
        show (match ((l1 ++ [boxTab m mid] ++ l2).getD s.1.toNat ⟨[], []⟩).at s.2.1 s.2.2 with | none => none | some (w, q) => if 0 ≤ (long l1.length mid.length s).1 + w ∧ (long l1.length mid.length s).1 + w < ((l1 ++ mid ++ l2).length : Int) then some (Sum.inl ((long l1.length mid.length s).1 + w, w, q)) else some (Sum.inr (w, q))) = _
        have gd : ∃ t, t.good m ∧ (l1 ++ [boxTab m mid] ++ l2).getD s.1.toNat ⟨[], []⟩ = t := by
          obtain ⟨t, ht, e⟩ := box_get V.1 V.2.1
          exact ⟨t, hgs t (List.mem_of_getElem? ht), e⟩
        obtain ⟨t, tg, te⟩ := gd
        rw [te] at h ⊢
        have g := (tg.at (w := s.2.1) V.2.2.2.1 V.2.2.2.2).2
        cases ha : t.at s.2.1 s.2.2 with
        | none => rw [ha] at h; cases h
        | some x =>
          obtain ⟨w1, q1⟩ := x
          rw [ha] at h g
          obtain ⟨l1s, _⟩ := long_step (l2 := l2) (boxTab m mid) hm (q' := q1) hi V.1 V.2.1 g.1
          dsimp only at h ⊢
          by_cases hin : 0 ≤ s.1 + w1 ∧ s.1 + w1 < ((l1 ++ [boxTab m mid] ++ l2).length : Int)
          · rw [if_pos hin] at h; cases h
          · rw [if_neg hin] at h; cases h
            rw [if_neg fun z => hin (l1s.mpr z)]
    | @go s s' o n h t ih =>
      have V' : BoxV m (l1 ++ [boxTab m mid] ++ l2) s' := by
        rcases box_step hgs V with e | ⟨s1, e, V'⟩ | ⟨_, _, e, _⟩
        · rw [h] at e; cases e
        · rw [h] at e; cases e; exact V'
        · rw [h] at e; cases e
      obtain ⟨j, hj⟩ := ih V'
      by_cases hi : s.1 = (l1.length : Int)
      · unfold boxSt at h
        rw [hi, short_c, c_at V.2.2.1 V.2.2.2.1 V.2.2.2.2 hm] at h
        cases hr : resOf (boxSt mid) ((if s.2.1 = 1 then 0 else (mid.length : Int) - 1), s.2.1, s.2.2) with
        | none => rw [hr] at h; cases h
        | some o' =>
          rw [hr] at h
          obtain ⟨k, hk⟩ := ((resOf_res (boxSt mid) _) o').mp hr
          have ho := box_out hg (Vm V) hk
          obtain ⟨i', w', q', Vi, rc, ha, hn⟩ := mid_out (l1 := l1) (l2 := l2) hg (Vm V) hk
          obtain ⟨lv1, lv2⟩ := leave Vi.1 Vi.2.1 ho.1 hn
          obtain ⟨ow, oq⟩ := o'
          dsimp only at h lv2
          by_cases hin : 0 ≤ (l1.length : Int) + ow ∧ (l1.length : Int) + ow < ((l1 ++ [boxTab m mid] ++ l2).length : Int)
          · rw [if_pos hin] at h; cases h
            rw [lv2] at hj
            rw [Lm hi]
            refine ⟨j + 1 + k, rc.to (.go ?_ hj)⟩
            unfold boxSt; dsimp only
            rw [mid_at i' Vi.1 Vi.2.1, ha]; dsimp only
            rw [if_pos (lv1.mp hin)]
          · rw [if_neg hin] at h; cases h
      · refine ⟨j + 1, .go ?_ hj⟩
        unfold boxSt at h ⊢
        rw [← short_at (boxTab m mid) s V.1 hi hm]
        show (match ((l1 ++ [boxTab m mid] ++ l2).getD s.1.toNat ⟨[], []⟩).at s.2.1 s.2.2 with | none => none | some (w, q) => if 0 ≤ (long l1.length mid.length s).1 + w ∧ (long l1.length mid.length s).1 + w < ((l1 ++ mid ++ l2).length : Int) then some (Sum.inl ((long l1.length mid.length s).1 + w, w, q)) else some (Sum.inr (w, q))) = _
        obtain ⟨t', ht', te⟩ := box_get V.1 V.2.1
        have tg := hgs t' (List.mem_of_getElem? ht')
        rw [te] at h ⊢
        have g := (tg.at (w := s.2.1) V.2.2.2.1 V.2.2.2.2).2
        cases ha : t'.at s.2.1 s.2.2 with
        | none => rw [ha] at h; cases h
        | some x =>
          obtain ⟨w1, q1⟩ := x
          rw [ha] at h g
          obtain ⟨l1s, l2s⟩ := long_step (l2 := l2) (boxTab m mid) hm (q' := q1) hi V.1 V.2.1 g.1
          dsimp only at h ⊢
          by_cases hin : 0 ≤ s.1 + w1 ∧ s.1 + w1 < ((l1 ++ [boxTab m mid] ++ l2).length : Int)
          · rw [if_pos hin] at h; cases h
            rw [if_pos (l1s.mp hin), l2s hin]
          · rw [if_neg hin] at h; cases h
  · rintro ⟨n, h⟩
    induction n using Nat.strongRecOn generalizing s with
    | _ n ih =>
      by_cases hi : s.1 = (l1.length : Int)
      · rw [Lm hi] at h
        obtain ⟨k, i', w', q', o', hk, Vi, ha, hn, j, hj, he⟩ := mid_in (l1 := l1) (l2 := l2) hg (Vm V) h
        have ho := box_out hg (Vm V) hk
        obtain ⟨lv1, lv2⟩ := leave Vi.1 Vi.2.1 ho.1 hn
        have hr : resOf (boxSt mid) ((if s.2.1 = 1 then 0 else (mid.length : Int) - 1), s.2.1, s.2.2) = some o' := ((resOf_res (boxSt mid) _) o').mpr ⟨k, hk⟩
        have hst : boxSt (l1 ++ [boxTab m mid] ++ l2) s = if 0 ≤ s.1 + o'.1 ∧ s.1 + o'.1 < ((l1 ++ [boxTab m mid] ++ l2).length : Int) then some (Sum.inl (s.1 + o'.1, o'.1, o'.2)) else some (Sum.inr (o'.1, o'.2)) := by
          unfold boxSt
          rw [show (l1 ++ [boxTab m mid] ++ l2).getD s.1.toNat ⟨[], []⟩ = boxTab m mid by rw [hi]; exact short_c _, c_at V.2.2.1 V.2.2.2.1 V.2.2.2.2 hm, hr]
        have hlg : boxSt (l1 ++ mid ++ l2) ((l1.length : Int) + i', w', q') = if 0 ≤ (l1.length : Int) + i' + o'.1 ∧ (l1.length : Int) + i' + o'.1 < ((l1 ++ mid ++ l2).length : Int) then some (Sum.inl ((l1.length : Int) + i' + o'.1, o'.1, o'.2)) else some (Sum.inr (o'.1, o'.2)) := by
          unfold boxSt; dsimp only
          rw [mid_at i' Vi.1 Vi.2.1, ha]
        rw [hi] at hst
        by_cases hin : 0 ≤ (l1.length : Int) + o'.1 ∧ (l1.length : Int) + o'.1 < ((l1 ++ [boxTab m mid] ++ l2).length : Int)
        · rw [if_pos hin] at hst
          rw [if_pos (lv1.mp hin)] at hlg
          have V' : BoxV m (l1 ++ [boxTab m mid] ++ l2) ((l1.length : Int) + o'.1, o'.1, o'.2) := ⟨hin.1, hin.2, ho.1, ho.2.1, ho.2.2⟩
          cases he with
          | out h' => rw [hlg] at h'; cases h'
          | @go _ _ _ j' h' t =>
            rw [hlg] at h'; cases h'
            rw [← lv2] at t
            obtain ⟨r, hr'⟩ := ih j' (by omega) V' t
            exact ⟨r + 1, .go hst hr'⟩
        · rw [if_neg hin] at hst
          rw [if_neg fun z => hin (lv1.mpr z)] at hlg
          cases he with
          | out h' => rw [hlg] at h'; cases h'; exact ⟨0, .out hst⟩
          | go h' t => rw [hlg] at h'; cases h'
      · obtain ⟨t', ht', te⟩ := box_get V.1 V.2.1
        have tg := hgs t' (List.mem_of_getElem? ht')
        have g := (tg.at (w := s.2.1) V.2.2.2.1 V.2.2.2.2).2
        have hlg : ∀ x, boxSt (l1 ++ mid ++ l2) (long l1.length mid.length s) = x → (match t'.at s.2.1 s.2.2 with | none => none | some (w, q) => if 0 ≤ (long l1.length mid.length s).1 + w ∧ (long l1.length mid.length s).1 + w < ((l1 ++ mid ++ l2).length : Int) then some (Sum.inl ((long l1.length mid.length s).1 + w, w, q)) else some (Sum.inr (w, q))) = x := fun x hx => by
          unfold boxSt at hx
          rw [← short_at (boxTab m mid) s V.1 hi hm, te] at hx
          exact hx
        cases h with
        | @out _ _ h =>
          have h' := hlg _ h
          refine ⟨0, .out ?_⟩
          unfold boxSt
          rw [te]
          cases ha : t'.at s.2.1 s.2.2 with
          | none => rw [ha] at h'; cases h'
          | some x =>
            obtain ⟨w1, q1⟩ := x
            rw [ha] at h' g
            obtain ⟨l1s, l2s⟩ := long_step (l2 := l2) (boxTab m mid) hm (q' := q1) hi V.1 V.2.1 g.1
            dsimp only at h' ⊢
            by_cases hin : 0 ≤ s.1 + w1 ∧ s.1 + w1 < ((l1 ++ [boxTab m mid] ++ l2).length : Int)
            · rw [if_pos (l1s.mp hin)] at h'; cases h'
            · rw [if_neg fun z => hin (l1s.mpr z)] at h'; cases h'
              rw [if_neg hin]
        | @go _ s' _ n' h t =>
          have h' := hlg _ h
          cases ha : t'.at s.2.1 s.2.2 with
          | none => rw [ha] at h'; cases h'
          | some x =>
            obtain ⟨w1, q1⟩ := x
            rw [ha] at h' g
            obtain ⟨l1s, l2s⟩ := long_step (l2 := l2) (boxTab m mid) hm (q' := q1) hi V.1 V.2.1 g.1
            dsimp only at h'
            by_cases hin : 0 ≤ s.1 + w1 ∧ s.1 + w1 < ((l1 ++ [boxTab m mid] ++ l2).length : Int)
            · rw [if_pos (l1s.mp hin), ← l2s hin] at h'; cases h'
              have V' : BoxV m (l1 ++ [boxTab m mid] ++ l2) (s.1 + w1, w1, q1) := ⟨hin.1, hin.2, g.1, g.2.1, g.2.2⟩
              obtain ⟨r, hr'⟩ := ih n' (by omega) V' t
              refine ⟨r + 1, .go ?_ hr'⟩
              unfold boxSt
              rw [te, ha]; dsimp only
              rw [if_pos hin]
            · rw [if_neg fun z => hin (l1s.mpr z)] at h'; cases h'
/-- brackets tell nothing -/
theorem box_comp (hg1 : ∀ t ∈ l1, t.good m) (hg : ∀ t ∈ mid, t.good m) (hg2 : ∀ t ∈ l2, t.good m) (hm : 1 ≤ mid.length) : boxTab m (l1 ++ [boxTab m mid] ++ l2) = boxTab m (l1 ++ mid ++ l2) := by
  have hl : ((l1 ++ [boxTab m mid] ++ l2).length : Int) = (l1.length : Int) + 1 + (l2.length : Int) := by simp; omega
  have hl2 : ((l1 ++ mid ++ l2).length : Int) = (l1.length : Int) + (mid.length : Int) + (l2.length : Int) := by simp; omega
  unfold boxTab
  congr 1
  · refine List.map_congr_left fun q hq => resOf_congr fun o => ?_
    have hq := List.mem_range.mp hq
    rw [← boxTab, comp_iff hg1 hg hg2 hm ⟨by show (0 : Int) ≤ 0; decide, by show (0 : Int) < _; omega, .inl rfl, by show (0 : Int) ≤ (q : Int); omega, by show (q : Int) < _; omega⟩]
    have e : long l1.length mid.length (0, 1, (q : Int)) = (0, 1, (q : Int)) := by
      unfold long
      refine Prod.ext ?_ rfl
      show (if (0 : Int) < (l1.length : Int) then (0 : Int) else if (0 : Int) = (l1.length : Int) then (if (1 : Int) = 1 then (l1.length : Int) else (l1.length : Int) + (mid.length : Int) - 1) else 0 + (mid.length : Int) - 1) = 0
      by_cases h : (0 : Int) < (l1.length : Int)
      · rw [if_pos h]
      · rw [if_neg h, if_pos (by omega), if_pos rfl]; omega
    rw [e]
  · refine List.map_congr_left fun q hq => resOf_congr fun o => ?_
    have hq := List.mem_range.mp hq
    rw [← boxTab, comp_iff hg1 hg hg2 hm ⟨by show (0 : Int) ≤ _ - 1; omega, by show _ - 1 < _; omega, .inr rfl, by show (0 : Int) ≤ (q : Int); omega, by show (q : Int) < _; omega⟩]
    have e : long l1.length mid.length (((l1 ++ [boxTab m mid] ++ l2).length : Int) - 1, -1, (q : Int)) = (((l1 ++ mid ++ l2).length : Int) - 1, -1, (q : Int)) := by
      unfold long
      refine Prod.ext ?_ rfl
      show (if ((l1 ++ [boxTab m mid] ++ l2).length : Int) - 1 < (l1.length : Int) then ((l1 ++ [boxTab m mid] ++ l2).length : Int) - 1 else if ((l1 ++ [boxTab m mid] ++ l2).length : Int) - 1 = (l1.length : Int) then (if (-1 : Int) = 1 then (l1.length : Int) else (l1.length : Int) + (mid.length : Int) - 1) else ((l1 ++ [boxTab m mid] ++ l2).length : Int) - 1 + (mid.length : Int) - 1) = ((l1 ++ mid ++ l2).length : Int) - 1
      rw [hl, hl2, if_neg (by omega)]
      by_cases h : (l2.length : Int) = 0
      · rw [if_pos (by omega), if_neg (by decide)]; omega
      · rw [if_neg (by omega)]; omega
    rw [e]
end
end Mc
namespace Mc
open PySem L2 PyProof.Rows
/-! ### so many states -/
theorem codes_few {S : Type} (f : S → Nat) (N : Nat) (l : List S) (hn : l.Nodup) (hf : ∀ s ∈ l, f s < N) (hi : ∀ a ∈ l, ∀ b ∈ l, f a = f b → a = b) : l.length ≤ N := by
  have h := nat_nodup N (l.map f) ?_ ?_
  · rw [List.length_map] at h; exact h
  · unfold List.Nodup
    rw [List.pairwise_map]
    exact List.Pairwise.imp_of_mem (fun {a b} ha hb hab e => hab (hi a ha b hb e)) hn
  · intro x hx
    obtain ⟨s, hs, rfl⟩ := List.mem_map.mp hx
    exact hf s hs
def PairV (m : Nat) (s : Int × Int) : Prop := (s.1 = 1 ∨ s.1 = -1) ∧ 0 ≤ s.2 ∧ s.2 < (m : Int)
theorem pair_few {m : Nat} {l : List (Int × Int)} (hn : l.Nodup) (hv : ∀ s ∈ l, PairV m s) : l.length ≤ 2 * m := by
  refine codes_few (fun s => (if s.1 = 1 then 0 else m) + s.2.toNat) (2 * m) l hn (fun s hs => ?_) (fun a ha b hb e => ?_)
  · obtain ⟨h1, h2, h3⟩ := hv s hs
    split <;> omega
  · obtain ⟨a1, a2, a3⟩ := hv a ha
    obtain ⟨b1, b2, b3⟩ := hv b hb
    refine Prod.ext ?_ ?_
    · rcases a1 with a1 | a1 <;> rcases b1 with b1 | b1 <;> rw [a1, b1] at e ⊢
      · rw [if_pos rfl, if_neg (by decide)] at e; omega
      · rw [if_neg (by decide), if_pos rfl] at e; omega
    · rcases a1 with a1 | a1 <;> rcases b1 with b1 | b1 <;> rw [a1, b1] at e
      · omega
      · rw [if_pos rfl, if_neg (by decide)] at e; omega
      · rw [if_neg (by decide), if_pos rfl] at e; omega
      · omega
/-- (the way, the room) of what goes over the border between them -/
def goneSt (a b : Tb) (s : Int × Int) : Option ((Int × Int) ⊕ (Int × Int)) :=
  match (if s.1 = 1 then b.at 1 s.2 else a.at (-1) s.2) with
  | none => none
  | some (w, q) => if w = -s.1 then some (.inl (w, q)) else some (.inr (w, q))
def gonePl (s : Int × Int) : Int × Int × Int := ((if s.1 = 1 then 1 else 0), s.1, s.2)
theorem gone_box {a b : Tb} {m : Nat} (ha : a.good m) (hb : b.good m) {s : Int × Int} (V : PairV m s) : (goneSt a b s = none ∧ boxSt [a, b] (gonePl s) = none) ∨ (∃ s', goneSt a b s = some (.inl s') ∧ boxSt [a, b] (gonePl s) = some (.inl (gonePl s')) ∧ PairV m s') ∨ ∃ o, goneSt a b s = some (.inr o) ∧ boxSt [a, b] (gonePl s) = some (.inr o) := by
  obtain ⟨w, q⟩ := s
  obtain ⟨v1, v2, v3⟩ := V
  dsimp only at v1 v2 v3
  have e0 : ([a, b].getD (0 : Int).toNat ⟨[], []⟩) = a := rfl
  have e1 : ([a, b].getD (1 : Int).toNat ⟨[], []⟩) = b := rfl
  rcases v1 with rfl | rfl
  · have g := (hb.at (w := 1) v2 v3).2
    cases h : b.at 1 q with
    | none => exact .inl ⟨by unfold goneSt; dsimp only; rw [if_pos rfl, h], by unfold boxSt gonePl; dsimp only; rw [if_pos rfl, e1, h]⟩
    | some x =>
      obtain ⟨w', q'⟩ := x
      rw [h] at g
      obtain ⟨g1, g2, g3⟩ := g
      rcases g1 with rfl | rfl
      · refine .inr (.inr ⟨(1, q'), by unfold goneSt; dsimp only; rw [if_pos rfl, h]; dsimp only; rw [if_neg (by decide)], ?_⟩)
        unfold boxSt gonePl; dsimp only; rw [if_pos rfl, e1, h]; dsimp only
        rw [if_neg (by show ¬ (0 ≤ (1 : Int) + 1 ∧ (1 : Int) + 1 < 2); decide)]
      · refine .inr (.inl ⟨(-1, q'), by unfold goneSt; dsimp only; rw [if_pos rfl, h]; dsimp only; rw [if_pos rfl], ?_, .inr rfl, g2, g3⟩)
        unfold boxSt gonePl; dsimp only; rw [if_pos rfl, e1, h]; dsimp only
        rw [if_pos (by show (0 ≤ (1 : Int) + -1 ∧ (1 : Int) + -1 < 2); decide), if_neg (by decide)]; rfl
  · have g := (ha.at (w := -1) v2 v3).2
    cases h : a.at (-1) q with
    | none => exact .inl ⟨by unfold goneSt; dsimp only; rw [if_neg (by decide), h], by unfold boxSt gonePl; dsimp only; rw [if_neg (by decide), e0, h]⟩
    | some x =>
      obtain ⟨w', q'⟩ := x
      rw [h] at g
      obtain ⟨g1, g2, g3⟩ := g
      rcases g1 with rfl | rfl
      · refine .inr (.inl ⟨(1, q'), by unfold goneSt; dsimp only; rw [if_neg (by decide), h]; dsimp only; rw [if_pos (by decide)], ?_, .inl rfl, g2, g3⟩)
        unfold boxSt gonePl; dsimp only; rw [if_neg (by decide), e0, h]; dsimp only
        rw [if_pos (by show (0 ≤ (0 : Int) + 1 ∧ (0 : Int) + 1 < 2); decide), if_pos rfl]; rfl
      · refine .inr (.inr ⟨(-1, q'), by unfold goneSt; dsimp only; rw [if_neg (by decide), h]; dsimp only; rw [if_neg (by decide)], ?_⟩)
        unfold boxSt gonePl; dsimp only; rw [if_neg (by decide), e0, h]; dsimp only
        rw [if_neg (by show ¬ (0 ≤ (0 : Int) + -1 ∧ (0 : Int) + -1 < 2); decide)]
theorem gone_res {a b : Tb} {m : Nat} (ha : a.good m) (hb : b.good m) {s : Int × Int} (V : PairV m s) : resOf (goneSt a b) s = resOf (boxSt [a, b]) (gonePl s) := by
  refine resOf_congr fun o => ⟨?_, ?_⟩
  · rintro ⟨n, h⟩
    refine ⟨n, ?_⟩
    induction h with
    | out h =>
      rcases gone_box ha hb V with ⟨e, _⟩ | ⟨s', e, _⟩ | ⟨o', e, g⟩
      · rw [h] at e; cases e
      · rw [h] at e; cases e
      · rw [h] at e; cases e; exact .out g
    | go h t ih =>
      rcases gone_box ha hb V with ⟨e, _⟩ | ⟨s', e, g, V'⟩ | ⟨o', e, g⟩
      · rw [h] at e; cases e
      · rw [h] at e; cases e; exact .go g (ih V')
      · rw [h] at e; cases e
  · rintro ⟨n, h⟩
    refine ⟨n, ?_⟩
    generalize hs : gonePl s = p at h
    induction h generalizing s with
    | out h =>
      subst hs
      rcases gone_box ha hb V with ⟨_, e⟩ | ⟨s', _, e, _⟩ | ⟨o', g, e⟩
      · rw [h] at e; cases e
      · rw [h] at e; cases e
      · rw [h] at e; cases e; exact .out g
    | go h t ih =>
      subst hs
      rcases gone_box ha hb V with ⟨_, e⟩ | ⟨s', g, e, V'⟩ | ⟨o', _, e⟩
      · rw [h] at e; cases e
      · rw [h] at e; cases e; exact .go g (ih V' rfl)
      · rw [h] at e; cases e
/-- what gone_out tells -/
noncomputable def goneR (a b : Tb) (th : Th) (w : Int) : Th :=
  match th with
  | none => none
  | some (d, q) => if d = w then resOf (goneSt a b) (d, q) else some (d, q)
theorem resOf_go {S O : Type} {st : S → Option (S ⊕ O)} {s s' : S} (h : st s = some (.inl s')) : resOf st s = resOf st s' := (((resOf_res st s').step h).eq).symm
theorem resOf_out {S O : Type} {st : S → Option (S ⊕ O)} {s : S} {o : O} (h : st s = some (.inr o)) : resOf st s = some o := ((Res.out h).eq).symm
theorem resOf_none {S O : Type} {st : S → Option (S ⊕ O)} {s : S} (h : st s = none) : resOf st s = none := ((Res.stuck h).eq).symm
theorem gone_fore {a b : Tb} {m : Nat} (ha : a.good m) (hb : b.good m) {q : Int} (h0 : 0 ≤ q) (h1 : q < (m : Int)) : goneR a b (a.at 1 q) 1 = resOf (boxSt [a, b]) (0, 1, q) := by
  have g := (ha.at (w := 1) h0 h1).2
  have e : ([a, b].getD (0 : Int).toNat ⟨[], []⟩) = a := rfl
  cases h : a.at 1 q with
  | none =>
    rw [resOf_none (by unfold boxSt; dsimp only; rw [e, h])]; rfl
  | some x =>
    obtain ⟨w, q'⟩ := x
    rw [h] at g
    obtain ⟨g1, g2, g3⟩ := g
    rcases g1 with rfl | rfl
    · rw [resOf_go (s' := (1, 1, q')) (by unfold boxSt; dsimp only; rw [e, h]; dsimp only; rw [if_pos (by show (0 ≤ (0 : Int) + 1 ∧ (0 : Int) + 1 < 2); decide)]; rfl)]
      show (if (1 : Int) = 1 then resOf (goneSt a b) (1, q') else some (1, q')) = _
      rw [if_pos rfl, gone_res ha hb ⟨.inl rfl, g2, g3⟩]; rfl
    · rw [resOf_out (o := (-1, q')) (by unfold boxSt; dsimp only; rw [e, h]; dsimp only; rw [if_neg (by show ¬ (0 ≤ (0 : Int) + -1 ∧ (0 : Int) + -1 < 2); decide)])]
      show (if (-1 : Int) = 1 then resOf (goneSt a b) (-1, q') else some (-1, q')) = _
      rw [if_neg (by decide)]
theorem gone_aft {a b : Tb} {m : Nat} (ha : a.good m) (hb : b.good m) {q : Int} (h0 : 0 ≤ q) (h1 : q < (m : Int)) : goneR a b (b.at (-1) q) (-1) = resOf (boxSt [a, b]) (1, -1, q) := by
  have g := (hb.at (w := -1) h0 h1).2
  have e : ([a, b].getD (1 : Int).toNat ⟨[], []⟩) = b := rfl
  cases h : b.at (-1) q with
  | none =>
    rw [resOf_none (by unfold boxSt; dsimp only; rw [e, h])]; rfl
  | some x =>
    obtain ⟨w, q'⟩ := x
    rw [h] at g
    obtain ⟨g1, g2, g3⟩ := g
    rcases g1 with rfl | rfl
    · rw [resOf_out (o := (1, q')) (by unfold boxSt; dsimp only; rw [e, h]; dsimp only; rw [if_neg (by show ¬ (0 ≤ (1 : Int) + 1 ∧ (1 : Int) + 1 < 2); decide)])]
      show (if (1 : Int) = -1 then resOf (goneSt a b) (1, q') else some (1, q')) = _
      rw [if_neg (by decide)]
    · rw [resOf_go (s' := (0, -1, q')) (by unfold boxSt; dsimp only; rw [e, h]; dsimp only; rw [if_pos (by show (0 ≤ (1 : Int) + -1 ∧ (1 : Int) + -1 < 2); decide)]; rfl)]
      show (if (-1 : Int) = -1 then resOf (goneSt a b) (-1, q') else some (-1, q')) = _
      rw [if_pos rfl, gone_res ha hb ⟨.inr rfl, g2, g3⟩]; rfl
/-- behind, as a table -/
theorem behind_f {a b : Tb} {m : Nat} (ha : a.good m) (hb : b.good m) : a.f.map (fun th => goneR a b th 1) = (boxTab m [a, b]).f := by
  refine List.ext_getElem? fun i => ?_
  show _ = ((List.range m).map _)[i]?
  rw [List.getElem?_map, List.getElem?_map]
  by_cases hi : i < m
  · rw [List.getElem?_range hi]
    have := (ha.at (w := 1) (q := (i : Int)) (by omega) (by omega)).1
    rw [if_pos rfl] at this
    rw [show ((i : Int)).toNat = i by omega] at this
    rw [this]
    show some (goneR a b (a.at 1 (i : Int)) 1) = _
    rw [gone_fore ha hb (by omega) (by omega)]; rfl
  · rw [List.getElem?_eq_none (by rw [ha.lf]; omega), List.getElem?_eq_none (by simp; omega)]; rfl
theorem behind_a {a b : Tb} {m : Nat} (ha : a.good m) (hb : b.good m) : b.a.map (fun th => goneR a b th (-1)) = (boxTab m [a, b]).a := by
  refine List.ext_getElem? fun i => ?_
  show _ = ((List.range m).map _)[i]?
  rw [List.getElem?_map, List.getElem?_map]
  by_cases hi : i < m
  · rw [List.getElem?_range hi]
    have := (hb.at (w := -1) (q := (i : Int)) (by omega) (by omega)).1
    rw [if_neg (by decide)] at this
    rw [show ((i : Int)).toNat = i by omega] at this
    rw [this]
    show some (goneR a b (b.at (-1) (i : Int)) (-1)) = _
    rw [gone_aft ha hb (by omega) (by omega)]; rfl
  · rw [List.getElem?_eq_none (by rw [hb.la]; omega), List.getElem?_eq_none (by simp; omega)]; rfl
/-! ### as data -/
def thD : Th → PyData
  | none => .none
  | some (d, q) => thingD d q
def tbD (t : Tb) : PyData := tabD (t.f.map thD) (t.a.map thD)
theorem th_thing (x : Th) : IsThing (thD x) := by
  cases x with
  | none => exact .inl rfl
  | some o => exact .inr ⟨o.1, o.2, rfl⟩
theorem tb_things (l : List Th) : ∀ d ∈ l.map thD, IsThing d := fun d hd => by
  obtain ⟨x, _, rfl⟩ := List.mem_map.mp hd
  exact th_thing x
def stillT (m : Nat) : Tb := ⟨(List.range m).map fun q : Nat => some (1, (q : Int)), (List.range m).map fun q : Nat => some (-1, (q : Int))⟩
theorem still_D (m : Nat) : tbD (stillT m) = tabD (stillF m) (stillA m) := by
  unfold tbD stillT stillF stillA
  rw [List.map_map, List.map_map]; rfl
theorem still_good (m : Nat) : (stillT m).good m where
  lf := by unfold stillT; simp
  la := by unfold stillT; simp
  gf := fun x hx => by
    obtain ⟨q, hq, rfl⟩ := List.mem_map.mp hx
    have := List.mem_range.mp hq
    exact ⟨.inl rfl, by omega, by omega⟩
  ga := fun x hx => by
    obtain ⟨q, hq, rfl⟩ := List.mem_map.mp hx
    have := List.mem_range.mp hq
    exact ⟨.inr rfl, by omega, by omega⟩
theorem still_at {m : Nat} {w q : Int} (hw : w = 1 ∨ w = -1) (h0 : 0 ≤ q) (h1 : q < (m : Int)) : (stillT m).at w q = some (w, q) := by
  unfold Tb.at stillT
  have hl : q.toNat < m := by omega
  have e : ((q.toNat : Nat) : Int) = q := by omega
  rcases hw with rfl | rfl
  · rw [if_pos rfl, List.getD_eq_getElem?_getD, List.getElem?_map, List.getElem?_range hl]
    show (some (some ((1 : Int), ((q.toNat : Nat) : Int)))).getD none = _
    rw [e]; rfl
  · rw [if_neg (by decide), List.getD_eq_getElem?_getD, List.getElem?_map, List.getElem?_range hl]
    show (some (some ((-1 : Int), ((q.toNat : Nat) : Int)))).getD none = _
    rw [e]; rfl
theorem tb_ext {m : Nat} {a b : Tb} (ha : a.good m) (hb : b.good m) (h : ∀ (w q : Int), (w = 1 ∨ w = -1) → 0 ≤ q → q < (m : Int) → a.at w q = b.at w q) : a = b := by
  have key : ∀ w : Int, (w = 1 ∨ w = -1) → (if w = 1 then a.f else a.a) = (if w = 1 then b.f else b.a) := fun w hw => by
    refine List.ext_getElem? fun i => ?_
    by_cases hi : i < m
    · have e1 := (ha.at (w := w) (q := (i : Int)) (by omega) (by omega)).1
      have e2 := (hb.at (w := w) (q := (i : Int)) (by omega) (by omega)).1
      rw [show ((i : Int)).toNat = i by omega] at e1 e2
      rw [e1, e2, h w i hw (by omega) (by omega)]
    · rw [List.getElem?_eq_none (by split; rw [ha.lf]; omega; rw [ha.la]; omega), List.getElem?_eq_none (by split; rw [hb.lf]; omega; rw [hb.la]; omega)]
  have f := key 1 (.inl rfl)
  have g := key (-1) (.inr rfl)
  rw [if_pos rfl, if_pos rfl] at f
  rw [if_neg (by decide), if_neg (by decide)] at g
  cases a; cases b
  dsimp only at f g
  rw [f, g]
theorem one_box {m : Nat} {t : Tb} (h : t.good m) : boxTab m [t] = t := by
  refine tb_ext (boxTab_good (fun x hx => by rw [List.mem_singleton.mp hx]; exact h) (by simp)) h fun w q hw h0 h1 => ?_
  rw [boxTab_at h0 h1]
  have g := (h.at (w := w) h0 h1).2
  have key : resOf (boxSt [t]) (0, w, q) = t.at w q := by
    have e : ([t].getD (0 : Int).toNat ⟨[], []⟩) = t := rfl
    cases hh : t.at w q with
    | none => exact resOf_none (by unfold boxSt; dsimp only; rw [e, hh])
    | some x =>
      obtain ⟨w', q'⟩ := x
      rw [hh] at g
      refine resOf_out (by unfold boxSt; dsimp only; rw [e, hh]; dsimp only; rw [if_neg]; rcases g.1 with rfl | rfl <;> (show ¬ (0 ≤ (0 : Int) + _ ∧ (0 : Int) + _ < 1); decide))
  rcases hw with rfl | rfl
  · rw [if_pos rfl]; exact key
  · rw [if_neg (by decide)]; exact key
theorem still_left {m : Nat} {t : Tb} (h : t.good m) : boxTab m [stillT m, t] = t := by
  have hg : ∀ x ∈ [stillT m, t], x.good m := fun x hx => by
    rcases List.mem_cons.mp hx with z | z
    · rw [z]; exact still_good m
    · rw [List.mem_singleton.mp z]; exact h
  have e0 : ([stillT m, t].getD (0 : Int).toNat ⟨[], []⟩) = stillT m := rfl
  have e1 : ([stillT m, t].getD (1 : Int).toNat ⟨[], []⟩) = t := rfl
  refine tb_ext (boxTab_good hg (by simp)) h fun w q hw h0 h1 => ?_
  have inner : ∀ w : Int, resOf (boxSt [stillT m, t]) (1, w, q) = t.at w q := fun w => by
    have g := (h.at (w := w) h0 h1).2
    cases hh : t.at w q with
    | none => exact resOf_none (by unfold boxSt; dsimp only; rw [e1, hh])
    | some x =>
      obtain ⟨w', q'⟩ := x
      rw [hh] at g
      obtain ⟨g1, g2, g3⟩ := g
      rcases g1 with rfl | rfl
      · exact resOf_out (by unfold boxSt; dsimp only; rw [e1, hh]; dsimp only; rw [if_neg (by show ¬ (0 ≤ (1 : Int) + 1 ∧ (1 : Int) + 1 < 2); decide)])
      · rw [resOf_go (s' := (0, -1, q')) (by unfold boxSt; dsimp only; rw [e1, hh]; dsimp only; rw [if_pos (by show (0 ≤ (1 : Int) + -1 ∧ (1 : Int) + -1 < 2); decide)]; rfl)]
        exact resOf_out (by unfold boxSt; dsimp only; rw [e0, still_at (.inr rfl) g2 g3]; dsimp only; rw [if_neg (by show ¬ (0 ≤ (0 : Int) + -1 ∧ (0 : Int) + -1 < 2); decide)])
  rw [boxTab_at h0 h1]
  rcases hw with rfl | rfl
  · rw [if_pos rfl, resOf_go (s' := (1, 1, q)) (by unfold boxSt; dsimp only; rw [e0, still_at (.inl rfl) h0 h1]; dsimp only; rw [if_pos (by show (0 ≤ (0 : Int) + 1 ∧ (0 : Int) + 1 < 2); decide)]; rfl)]
    exact inner 1
  · rw [if_neg (by decide)]; exact inner (-1)
end Mc
namespace L2
open PySem PySem.Spec PyProof.Rows
/-! ### over the signs of a text -/
def Its (z : Str) : It := ⟨fun i _ => i < z.cps.size, fun i H x H' => H' = H ∧ ∃ c, z.cps[i]? = some c ∧ x = .str ⟨#[c]⟩, fun i _ => i = z.cps.size⟩
theorem turn_str {P : Program} {w : World} {K : PySem.W.Frag} {tg : Expr} (z : Str) (t : Tok) (T : String) (hT : ∀ A : Around, A.handled = none → ∀ it, Walks P w A it [it] [it] z.cps.size (SignAt z) fun i h => h.IsStrIter it T z t i)
    (hself : ∀ (A : Around) (it : Addr) (i : Nat) (s : Shared) (Q E : Value → Shared → Prop), s.heap.IsStrIter it T z t i → Q (.ref it) s → wpAny (model P w) A (pyIter (.ref it)) Q E s)
    (hno : ["enumerate", "zip", "dict_itemiterator", "dict_reverseitemiterator", "odict_iterator", "itertools.zip_longest", "itertools.pairwise"].contains T = false) (it : Addr) : Turn P w K tg (Its z) [it] it (fun i h => h.IsStrIter it T z t i) where
  mem := by simp
  obj := fun i h st b hb => by
    obtain rfl : b = it := by simpa using hb
    obtain ⟨o, e, c, d⟩ := st
    exact ⟨o, e, fun v z => by rw [d] at z; cases z⟩
  keep := fun i h h' st k => by
    obtain ⟨o, e, c, d⟩ := st
    exact ⟨o, k it (by simp) o e, c, d⟩
  item := by
    intro X hP hw hK hc i pins s σ H E I hf st hg
    subst hP hw hK
    obtain ⟨f0, f1, f2, f3, f4, f5⟩ := hf it (by simp)
    refine (hT X.A (I.ok.hd hc) it).item i s _ E hg st fun v h' tk hv st' kp => ?_
    obtain ⟨c, tc, hcc, rfl⟩ := hv
    have I1 : Inv X pins σ H { s with heap := h', toks := tk } := I.turned (t' := tk) (it := it) (fun b o hb e => kp b o (by simpa using hb) e) f0 f1 f3 f4 f5
    obtain ⟨o, e, cc, d⟩ := id st'
    exact ⟨_, rfl, go_of (s := { s with heap := h', toks := tk }) e cc d hno ⟨.str ⟨#[c]⟩, H, I1, ⟨_, rfl⟩, ⟨rfl, c, hcc, rfl⟩, st', fun b hb => (hf b hb).1⟩⟩
  done := by
    intro X hP hw hK hc i pins s σ H E I hf st hg
    subst hP hw hK
    obtain ⟨f0, f1, f2, f3, f4, f5⟩ := hf it (by simp)
    have hg : i = z.cps.size := hg
    subst hg
    exact (hT X.A (I.ok.hd hc) it).done s _ E st fun h' tk kp => ⟨rfl, I.turned (t' := tk) (it := it) (fun b o hb e => kp b o (by simpa using hb) e) f0 f1 f3 f4 f5⟩
  self := fun A i s Q E st h => hself A it i s Q E st h
def iStr (te : TE) : TI := fun σ H R => te σ H fun x H1 => ∃ z, x = .str z ∧ R (Its z) H1
theorem pi_str {X : Cx} {tg l : Expr} {tl : TE} (hl : PE X l tl) : PI X tg l (iStr tl) := by
  intro pins s σ H R I h
  refine thn (hl pins s σ H _ I h) fun v s1 ⟨x, H1, I1, r1, q1⟩ => ?_
  obtain ⟨z, e, q⟩ := q1
  subst e
  obtain ⟨t, rfl⟩ := r1
  refine wpAny_pyIter_strU ?_
  have I2 : Inv X pins σ H1 { s1 with heap := s1.heap.push { cls := .type (strIterType z), data := .fields #[.str z t, .int 0 0] } } := I1.kept (t' := s1.toks) fun b o e => Heap.get?_push_of_some _ e
  have st : (s1.heap.push { cls := .type (strIterType z), data := .fields #[.str z t, .int 0 0] }).IsStrIter s1.heap.objs.size (strIterType z) z t 0 := ⟨_, Heap.get?_push_size _ rfl, rfl, rfl⟩
  have fin : ∀ b ∈ [s1.heap.objs.size], FpOk X pins H1 b := fun b hb => by
    obtain rfl := List.mem_singleton.mp hb
    exact I1.fpOk (Nat.le_refl _) (I1.hok.fresh (Nat.le_refl _))
  by_cases ha : (z.cps.all fun x => decide (x < 128)) = true
  · have eT : strIterType z = "str_ascii_iterator" := by unfold strIterType; rw [if_pos ha]
    rw [eT] at st I2 ⊢
    exact ⟨s1.heap.objs.size, [s1.heap.objs.size], _, _, H1, rfl, I2, turn_str z t "str_ascii_iterator" (fun A hA it => Walks.strAscii hA it z t) (fun A it i s Q E st h => wpAny_pyIter_striter_ascii st h) (by decide) _, st, fin, q⟩
  · have eT : strIterType z = "str_iterator" := by unfold strIterType; rw [if_neg ha]
    rw [eT] at st I2 ⊢
    exact ⟨s1.heap.objs.size, [s1.heap.objs.size], _, _, H1, rfl, I2, turn_str z t "str_iterator" (fun A hA it => Walks.strWide hA it z t) (fun A it i s Q E st h => wpAny_pyIter_striter_wide st h) (by decide) _, st, fin, q⟩
theorem vals_of : ∀ {xs : List V} {ys : List Value}, xs.length = ys.length → (∀ (i : Nat) x y, xs[i]? = some x → ys[i]? = some y → RelV x y) → Vals xs ys
  | [], [], _, _ => .nil
  | [], _ :: _, h, _ => by simp at h
  | _ :: _, [], h, _ => by simp at h
  | x :: xs, y :: ys, h, f => .cons (f 0 x y rfl rfl) (vals_of (by simpa using h) fun i a b h1 h2 => f (i + 1) a b (by simpa using h1) (by simpa using h2))
/-! ### list(range(n)) -/
theorem call_rangeO {X : Cx} : CallR X (.type "range") (fun xs H Q => ∃ n : Nat, xs = [.int n] ∧ n ≤ 1000000 ∧ ∀ p, H p = none → Q (.ref p) (upd H p (.rng 0 n))) := by
  intro pins s σ H xs us Q I r h
  obtain ⟨n, rfl, hn, q⟩ := h
  obtain ⟨u, rfl, t, rfl⟩ := vals1 r
  refine call_range_1 ?_
  refine ⟨.ref s.heap.objs.size, _, I.laid (o := .rng 0 n) (fun b ob q => Heap.get?_push_of_some _ q) (Nat.le_refl _) ⟨_, _, _, Heap.get?_push_size _ rfl⟩, rfl, q _ (I.hok.fresh (Nat.le_refl _))⟩
theorem call_list_rng {X : Cx} (hc : X.calm = true) : CallR X (.type "list") (fun xs H Q => ∃ (p : Addr) (n : Nat), xs = [.ref p] ∧ H p = some (.rng 0 n) ∧ n ≤ 1000000 ∧ ∀ l, H l = none → Q (.ref l) (upd H l (.lst ((List.range n).map fun i : Nat => V.int (i : Int))))) := by
  intro pins s σ H xs us Q I r h
  obtain ⟨p, n, rfl, hp, hn, q⟩ := h
  obtain ⟨u, rfl, ru⟩ := vals1 r
  cases (show u = Value.ref p from ru)
  obtain ⟨t, u, v, hr⟩ := (show ObjOk X.prog X.w H s.heap p (.rng 0 n) from I.hok p _ hp)
  refine call_list_range (a := 0) (b := (n : Int)) (c := 1) (n := n) (I.ok.hd hc) hr (small_one (by omega) (by omega) (by omega) (by omega)) (by rw [rangeSize_one]; split <;> omega) (by omega) fun h' tk acc c kp e it => ?_
  have hv : Vals ((List.range n).map fun i : Nat => V.int (i : Int)) acc.toList := by
    refine vals_of (by rw [List.length_map, List.length_range, Array.length_toList, it.1]) fun i x y h1 h2 => ?_
    rw [List.getElem?_map] at h1
    cases e' : (List.range n)[i]? with
    | none => rw [e'] at h1; cases h1
    | some k =>
      rw [e'] at h1
      cases h1
      have hk : k = i := by
        obtain ⟨hl, he⟩ := List.getElem?_eq_some_iff.mp e'
        rw [← he]; simp
      obtain ⟨t', rfl⟩ := it.2 i y (by rw [← h2, Array.getElem?_toList])
      refine ⟨t', ?_⟩
      rw [hk, show (0 : Int) + (i : Int) * 1 = (i : Int) by omega]
  refine ⟨.ref s.heap.objs.size, _, I.laid (t' := tk) (o := .lst ((List.range n).map fun i : Nat => V.int (i : Int))) kp (Nat.le_refl _) ⟨by simp; exact Nat.le_trans hn (by decide), acc.toList, c, hv, by simpa using e⟩, rfl, q _ (I.hok.fresh (Nat.le_refl _))⟩
end L2
namespace L2
open PySem PySem.Spec PyProof.Rows
/-! ### closures: how one is entered -/
structure InK (env : Env) (s₀ : Shared) (m cm : Str → Option Value) (s : Shared) : Prop where
  ic : InCall s₀ env.locals m s
  cell : ∀ n c, env.cells.lookup n = some c → s.heap.IsCell c (cm n)
  inj : ∀ n n' c, env.cells.lookup n = some c → env.cells.lookup n' = some c → n = n'
  ne : ∀ n c, env.cells.lookup n = some c → c ≠ env.locals
  up : ∀ n c, env.kindOf n = some .cell → env.cells.lookup n = some c → env.locals < c
/-- what the captured cells hold -/
structure ClAt (h : Heap) (scope : Scope) (cl : List (Str × Addr)) (cm : Str → Option Value) : Prop where
  cell : ∀ n c, cl.lookup n = some c → h.IsCell c (cm n)
  inj : ∀ n n' c, cl.lookup n = some c → cl.lookup n' = some c → n = n'
  off : ∀ y ∈ scope.names, y.2 = .cell → cl.lookup y.1 = none
end L2
namespace L2
open PySem PySem.Spec PyProof.Rows
/-- a function made by the text -/
def FnO (f : Addr) (o : Obj) : HO := .ext fun h => h.get? f = some o
/-- a cell that is not written any more -/
def CelO (c : Addr) (o : Obj) (v : V) : HO := .frz o (.ext fun h => ∃ u, RelV v u ∧ h.IsCell c (some u))
structure CloScope (N ps fr : List Str) (sc : Scope) : Prop where
  kind : sc.kind = .function
  co : sc.isCoroutine = false
  gen : sc.isGenerator = false
  nd : N.Nodup
  pre : N.take (ps ++ fr).length = ps ++ fr
  par : ∀ x ∈ ps, sc.names.lookup x = some .local ∨ sc.names.lookup x = some .cell
  cap : ∀ x ∈ fr, sc.names.lookup x = some .free
  only : ∀ y ∈ sc.names, y.2 = .free → y.1 ∈ fr
  off : ∀ y ∈ sc.names, y.2 = .cell → y.1 ∉ fr
/-- what is captured: the names fr, their cells cl, their values -/
structure CapAt (H : Hp) (fr : List Str) (cl : List (Str × Addr)) (vs : List V) : Prop where
  len : vs.length = fr.length
  only : ∀ n c, cl.lookup n = some c → n ∈ fr
  inj : ∀ n n' c, cl.lookup n = some c → cl.lookup n' = some c → n = n'
  at' : ∀ (i : Nat) x v, fr[i]? = some x → vs[i]? = some v → ∃ c o, cl.lookup x = some c ∧ H c = some (CelO c o v)
end L2
namespace L2
open PySem PySem.Spec PyProof.Rows
/-- a def or a lambda within a def, as it is written -/
structure ClSt where
  name : Str
  qual : Str
  params : Arguments
  body : FuncBody
  scope : Scope
def ClSt.fd (S : ClSt) (cl : List (Str × Addr)) (doc pm : Value) (c : Addr) (ct : Value) : FuncData :=
  { name := S.name, qualname := S.qual, params := S.params, body := S.body, scope := S.scope, globals := mainGlobals, closure := cl, defaults := .none, kwdefaults := .none, doc := doc, pyModule := pm, annotations := none, code := .ref c, closureTuple := ct, builtins := builtinsNs }
abbrev ClSt.obj (S : ClSt) (cl : List (Str × Addr)) (doc pm : Value) (c : Addr) (ct : Value) : Obj := { cls := .type "function", data := .func (S.fd cl doc pm c ct) }
end L2
namespace L2
open PySem PySem.Spec PyProof.Rows
/-- the cells that a closure takes from the frame around it -/
structure ClOf (cells : List (Str × Addr)) (sc : Scope) (cl : List (Str × Addr)) : Prop where
  of : ∀ x c, cl.lookup x = some c → cells.lookup x = some c
  all : ∀ x ∈ sc.names, x.2 = .free → ∃ c, cl.lookup x.1 = some c
  only : ∀ x c, cl.lookup x = some c → (x, NameKind.free) ∈ sc.names
/-- a running def's code object and its table -/
structure Tb (mg : Str → Option Value) (base : Heap) (c0 P0 : Addr) : Prop where
  hd : PySem.W.CodeHd base c0 P0
  bt : ∃ bm ob, mg "__builtins__" = some (.ref bm) ∧ bm ≠ builtinsNs ∧ base.get? bm = some ob ∧ ob.cls = .type "module" ∧ ob.dict = some builtinsNs ∧ ob.data = .plain
end L2
namespace L2
open PySem PySem.Spec PyProof.Rows
/-! ### closures: handed to a def -/
abbrev Cv := List (Addr × Obj × V)
def domC (cv : Cv) : List Addr := cv.map (·.1)
/-- the cells of the slots js, as cv tells them -/
structure PubRel (X : Cx) (σ : St) (H : Hp) (js : List Nat) (cv : Cv) : Prop where
  at' : ∀ b o v, cv.lookup b = some (o, v) → ∃ x j, j ∈ js ∧ X.N[j]? = some x ∧ X.env.cells.lookup x = some b ∧ σ[j]? = some (some v)
  all : ∀ j ∈ js, ∃ x c o v, X.N[j]? = some x ∧ X.env.cells.lookup x = some c ∧ σ[j]? = some (some v) ∧ cv.lookup c = some (o, v)
  free : ∀ b ∈ domC cv, H b = none
  inj : ∀ x y c, X.env.cells.lookup x = some c → X.env.cells.lookup y = some c → x = y
end L2
namespace L2
open PySem PySem.Spec PyProof.Rows
end L2
namespace Fl
open PySem L2 PyProof.Rows
/-! ### keys of dicts: numbers, texts, None, and tuples of these, however deep -/
mutual
def keyD : PyData → Bool
  | .none => true
  | .int _ => true
  | .str x => PyData.strOk x
  | .tuple xs => keysD xs
  | _ => false
def keysD : List PyData → Bool
  | [] => true
  | x :: t => keyD x && keysD t
end
mutual
def hashD (w : World) : PyData → Int
  | .none => reduceHash 0xFCA86420
  | .int i => hashInt i
  | .str x => hashStr w x
  | .tuple xs => reduceHash (Builtin.Tuple.tupleHashOf (hashesD w xs))
  | _ => 0
def hashesD (w : World) : List PyData → List Int
  | [] => []
  | x :: t => hashD w x :: hashesD w t
end
mutual
def drawsD : PyData → Nat
  | .tuple xs => drawsL xs + 1
  | _ => 1
def drawsL : List PyData → Nat
  | [] => 0
  | x :: t => drawsD x + drawsL t
end
mutual
theorem lay_key : ∀ {d : PyData}, keyD d = true → d.canLay0 = true
  | .none, _ => rfl
  | .int _, _ => rfl
  | .str x, h => h
  | .tuple xs, h => by
    have h' : keysD xs = true := h
    exact lay_keys h'
theorem lay_keys : ∀ {xs : List PyData}, keysD xs = true → PyData.canLayAll0 xs = true
  | [], _ => rfl
  | x :: t, h => by
    have h' : (keyD x && keysD t) = true := h
    rw [Bool.and_eq_true] at h'
    show (x.canLay0 && PyData.canLayAll0 t) = true
    rw [lay_key h'.1, lay_keys h'.2]; rfl
end
mutual
theorem eqv_key : ∀ {d e : PyData}, keyD d = true → keyD e = true → (PyData.eqv d e = true ↔ d = e)
  | .none, e, _, he => by cases e <;> simp [PyData.eqv] <;> cases he
  | .int i, e, _, he => by cases e <;> simp [PyData.eqv] <;> cases he
  | .str x, e, _, he => by cases e <;> simp [PyData.eqv] <;> cases he
  | .tuple xs, e, hd, he => by
    have hd' : keysD xs = true := hd
    cases e with
    | tuple ys =>
      have he' : keysD ys = true := he
      have := eqv_keys hd' he'
      show PyData.eqvAll xs ys = true ↔ _
      rw [this]
      exact ⟨fun z => by rw [z], fun z => by cases z; rfl⟩
    | _ => simp [PyData.eqv] <;> cases he
theorem eqv_keys : ∀ {xs ys : List PyData}, keysD xs = true → keysD ys = true → (PyData.eqvAll xs ys = true ↔ xs = ys)
  | [], ys, _, _ => by cases ys <;> simp [PyData.eqvAll]
  | x :: t, ys, hx, hy => by
    have hx' : (keyD x && keysD t) = true := hx
    rw [Bool.and_eq_true] at hx'
    cases ys with
    | nil => simp [PyData.eqvAll]
    | cons y u =>
      have hy' : (keyD y && keysD u) = true := hy
      rw [Bool.and_eq_true] at hy'
      rw [PyData.eqvAll, Bool.and_eq_true, eqv_key hx'.1 hy'.1, eqv_keys hx'.2 hy'.2]
      exact ⟨fun ⟨a, b⟩ => by rw [a, b], fun z => by cases z; exact ⟨rfl, rfl⟩⟩
end
noncomputable instance decPyData : DecidableEq PyData := fun a b => Classical.propDecidable (a = b)
theorem eqv_dec {d e : PyData} (hd : keyD d = true) (he : keyD e = true) : PyData.eqv d e = decide (d = e) := by
  by_cases h : d = e
  · rw [decide_eq_true h, (eqv_key hd he).mpr h]
  · rw [decide_eq_false h]
    cases q : PyData.eqv d e with
    | false => rfl
    | true => exact absurd ((eqv_key hd he).mp q) h
end Fl
namespace Fl
open PySem L2 PyProof.Rows
theorem drawsD_tup (xs : List PyData) : drawsD (.tuple xs) = drawsL xs + 1 := by rw [drawsD]
theorem in1_units (A : Around) : A.in1.units = A.units + 1 := rfl
def HashOk (prog : Program) (w : World) (E : Value → Shared → Prop) (d : PyData) : Prop := ∀ (v : Value) (as : List Addr) (A : Around) (s : Shared) (Q : Int → Shared → Prop), keyD d = true → Reads s.heap v d as → A.units + d.depth < cLine → Q (hashD w d) { s with toks := s.toks + drawsD d } →
    wpAny (model prog w) A (pyHash v) Q E s
theorem hash_l {prog : Program} {w : World} {E : Value → Shared → Prop} : ∀ (xs : List PyData) (ih : ∀ x ∈ xs, HashOk prog w E x) (vs : List Value) (as : List Addr) (A : Around) (s : Shared) (b : Array Int) (Q : Array Int → Shared → Prop), keysD xs = true → ReadsAll s.heap vs xs as → A.units + PyData.depthAll xs < cLine →
    (∀ b', b'.toList = b.toList ++ hashesD w xs → Q b' { s with toks := s.toks + drawsL xs }) →
    wpAny (model prog w) A (forIn vs b fun x r => do let h ← pyHash x; pure PUnit.unit; pure (ForInStep.yield (r.push h))) Q E s := by
  intro xs
  induction xs with
  | nil =>
    intro ih vs as A s b Q _ x _ h
    cases x
    exact wpAny_pure (h b (by simp [hashesD]))
  | cons k xs ih0 =>
    intro ih vs as A s b Q hk x hu h
    cases x with
    | @cons v vs _ _ as bs x1 x2 =>
      have hk' : (keyD k && keysD xs) = true := hk
      rw [Bool.and_eq_true] at hk'
      have hu' : A.units + max k.depth (PyData.depthAll xs) < cLine := hu
      rw [List.forIn_cons]
      refine wpAny_bind (wpAny_bind (ih k List.mem_cons_self _ _ A s _ hk'.1 x1 (by omega) ?_))
      refine wpAny_bind (wpAny_pure (wpAny_pure ?_))
      refine ih0 (fun x hx => ih x (List.mem_cons_of_mem _ hx)) _ _ A { s with toks := s.toks + drawsD k } _ Q hk'.2 x2 (by omega) fun b' hb => ?_
      have q := h b' (by rw [hb]; simp [hashesD])
      rw [show drawsL (k :: xs) = drawsD k + drawsL xs by rw [drawsL], ← Nat.add_assoc] at q
      exact q
end Fl
namespace Fl
open PySem L2 PyProof.Rows
theorem hashD_int (w : World) (i : Int) : hashD w (.int i) = hashInt i := by rw [hashD]
theorem hashD_str (w : World) (i : Str) : hashD w (.str i) = hashStr w i := by rw [hashD]
theorem hashD_tup (w : World) (xs : List PyData) : hashD w (.tuple xs) = reduceHash (Builtin.Tuple.tupleHashOf (hashesD w xs)) := by rw [hashD]
theorem drawsD_int (i : Int) : drawsD (.int i) = 1 := by unfold drawsD; rfl
theorem drawsD_str (i : Str) : drawsD (.str i) = 1 := by unfold drawsD; rfl
theorem hash_int {prog : Program} {w : World} {E : Value → Shared → Prop} (i : Int) : HashOk prog w E (.int i) := fun v as A s Q _ r _ h => by
  rw [hashD_int, drawsD_int] at h
  cases r
  exact wpAny_pyHash_int h
theorem hash_str {prog : Program} {w : World} {E : Value → Shared → Prop} (i : Str) : HashOk prog w E (.str i) := fun v as A s Q _ r _ h => by
  rw [hashD_str, drawsD_str] at h
  cases r
  exact wpAny_pyHash_str h
theorem hash_tup {prog : Program} {w : World} {E : Value → Shared → Prop} (xs : List PyData) (ih : ∀ x ∈ xs, HashOk prog w E x) : HashOk prog w E (.tuple xs) := fun v as A s Q hk r hu h => by
  rw [hashD_tup, drawsD_tup] at h
  cases r with
  | @tuple a o vs n _ as h1 h2 h3 h4 =>
    have hk' : keysD xs = true := hk
    have hu' : A.units + (PyData.depthAll xs + 1) < cLine := hu
    refine PySem.W.pyHash_slot (T := "tuple") ⟨o, h1, h2⟩ F.slot_tuple_hash F.entry_tuple_hash (F.args_tuple_hash_1 _) (beq_builtin_none _) (.inr (by omega)) ?_
    show wpAny _ _ (Builtin.Tuple.tupleItemsOf (.ref a) >>= _) _ _ s
    refine wpAny_bind (wpAny_tupleItemsOf h1 h3 ?_)
    refine wpAny_bind ?_
    rw [← Array.forIn_toList]
    refine hash_l xs ih vs.toList as A.in1 s #[] _ hk' h4 (by rw [in1_units]; omega) fun b hb => ?_
    show wpAny _ _ (retInt (Builtin.Tuple.tupleHashOf b.toList)) _ _ _
    rw [hb]
    exact wpAny_bind (wpAny_mkInt (wpAny_pure ⟨_, _, rfl, h⟩))
end Fl
namespace Fl
open PySem L2 PyProof.Rows
theorem hashD_non' (w : World) : hashD w .none = reduceHash 0xFCA86420 := by rw [hashD]
theorem drawsD_non' : drawsD .none = 1 := by unfold drawsD; rfl
theorem hash_non {prog : Program} {w : World} {E : Value → Shared → Prop} : HashOk prog w E .none := fun v as A s Q _ r hu h => by
  rw [hashD_non', drawsD_non'] at h
  generalize hg : reduceHash 0xFCA86420 = g at h
  cases r
  refine PySem.W.pyHash_slot (T := "NoneType") rfl F.slot_NoneType_hash F.entry_NoneType_hash (F.args_NoneType_hash_1 _) (beq_builtin_none _) (.inr (by omega)) (wpAny_bind (wpAny_pure (wpAny_bind (wpAny_mkInt (wpAny_pure ⟨0xFCA86420, _, rfl, ?_⟩)))))
  rw [hg]
  exact h
end Fl
namespace Fl
open PySem L2 PyProof.Rows
theorem hash_n {prog : Program} {w : World} {E : Value → Shared → Prop} : ∀ (n : Nat) (d : PyData), sizeOf d ≤ n → HashOk prog w E d := by
  intro n
  induction n with
  | zero => intro d h; cases d <;> simp at h
  | succ n ih =>
    intro d h
    cases d with
    | none => exact hash_non
    | int i => exact hash_int i
    | str x => exact hash_str x
    | tuple xs =>
      refine hash_tup xs fun x hx => ih x ?_
      have := List.sizeOf_lt_of_mem hx
      simp only [PyData.tuple.sizeOf_spec] at h
      omega
    | bool b => exact fun v as A s Q hk => nomatch hk
    | list xs => exact fun v as A s Q hk => nomatch hk
    | dict xs => exact fun v as A s Q hk => nomatch hk
theorem hash_d {prog : Program} {w : World} {E : Value → Shared → Prop} (d : PyData) : HashOk prog w E d := hash_n (sizeOf d) d (Nat.le_refl _)
theorem quiet_d {M : Model} {A : Around} {E : Value → Shared → Prop} {s : Shared} : ∀ (n : Nat) (d : PyData) (v : Value) (as : List Addr) (Q : Bool → Shared → Prop), keyD d = true → Reads s.heap v d as → d.depth ≤ n → Q true s → wpAny M A (eqIsQuiet n v) Q E s := by
  intro n
  induction n with
  | zero =>
    intro d v as Q hk r hd h
    cases d with
    | none => cases r; rw [eqIsQuiet_byValue _ rfl]; exact wpAny_pure h
    | int i => cases r; rw [eqIsQuiet_byValue _ rfl]; exact wpAny_pure h
    | str x => cases r; rw [eqIsQuiet_byValue _ rfl]; exact wpAny_pure h
    | tuple xs =>
      have hd' : PyData.depthAll xs + 1 ≤ 0 := hd
      omega
    | bool b => exact nomatch hk
    | list xs => exact nomatch hk
    | dict xs => exact nomatch hk
  | succ n ih =>
    intro d v as Q hk r hd h
    cases d with
    | none => cases r; rw [eqIsQuiet_byValue _ rfl]; exact wpAny_pure h
    | int i => cases r; rw [eqIsQuiet_byValue _ rfl]; exact wpAny_pure h
    | str x => cases r; rw [eqIsQuiet_byValue _ rfl]; exact wpAny_pure h
    | bool b => exact nomatch hk
    | list xs => exact nomatch hk
    | dict xs => exact nomatch hk
    | tuple xs =>
      cases r with
      | @tuple a o vs m _ as h1 h2 h3 h4 =>
        have hk' : keysD xs = true := hk
        have hd' : PyData.depthAll xs + 1 ≤ n + 1 := hd
        have hT : s.TypeIs (.ref a) "tuple" := ⟨o, h1, h2⟩
        unfold eqIsQuiet
        refine wpAny_bind (wpAny_specialOf hT F.slot_tuple_eq.lookup ?_)
        show wpAny _ _ (isInstance (.ref a) (.type "tuple") >>= _) _ _ s
        refine wpAny_bind (wpAny_isInstance hT isSubtype_tuple_tuple ?_)
        simp only [Bool.not_true, Bool.false_eq_true, if_false]
        refine wpAny_bind (wpAny_seqItems h1 h3 ?_)
        refine wpAny_bind ?_
        show wpAny _ _ (forIn vs _ _) _ _ s
        rw [← Array.forIn_toList]
        refine wpAny_forIn_list _ (fun rest r s' => r.1 = none ∧ s' = s ∧ ∃ ys bs, keysD ys = true ∧ PyData.depthAll ys ≤ n ∧ ReadsAll s.heap rest ys bs) _ ?_ ?_ _ _ ⟨rfl, rfl, xs, _, hk', by omega, h4⟩
        · rintro v rest r s' ⟨hr, rfl, ys, bs, hy, hdy, ry⟩
          cases ry with
          | @cons _ _ y yt cs ds r1 r2 =>
            have hy' : (keyD y && keysD yt) = true := hy
            rw [Bool.and_eq_true] at hy'
            have hdy' : max y.depth (PyData.depthAll yt) ≤ n := hdy
            refine wpAny_bind (ih y v _ _ hy'.1 r1 (by omega) ?_)
            simp only [Bool.not_true, Bool.false_eq_true, if_false]
            exact wpAny_pure ⟨rfl, rfl, yt, _, hy'.2, by omega, r2⟩
        · rintro ⟨r1, r2⟩ s' ⟨hr, rfl, _⟩
          simp only at hr
          subst hr
          exact wpAny_pure h
/-- a key that is a tuple, at an address -/
def NKey (h : Heap) (d : PyData) (a : Addr) : Prop := keyD d = true ∧ d.depth ≤ 8 ∧ ∃ as, Reads h (.ref a) d as
mutual
theorem reads_keep {h h' : Heap} {a : Addr} {o : Obj} {es : Array DictEntry} {ep : Nat} (ho : h.get? a = some o) (hd : o.data = .dict es ep) (hs : Heap.SameBut a h h') : ∀ {v : Value} {d : PyData} {as : List Addr}, keyD d = true → Reads h v d as → Reads h' v d as
  | _, _, _, _, .none => .none
  | _, .bool _, _, hk, _ => nomatch hk
  | _, _, _, _, .int i t => .int i t
  | _, _, _, _, .str i t => .str i t
  | _, .list _, _, hk, _ => nomatch hk
  | _, .dict _, _, hk, _ => nomatch hk
  | _, .tuple _, _, hk, .tuple (a := b) h1 h2 h3 h4 => .tuple ((hs.2 b (fun z => by subst z; rw [ho] at h1; cases h1; rw [hd] at h3; cases h3)).trans h1) h2 h3 (readsAll_keep ho hd hs hk h4)
theorem readsAll_keep {h h' : Heap} {a : Addr} {o : Obj} {es : Array DictEntry} {ep : Nat} (ho : h.get? a = some o) (hd : o.data = .dict es ep) (hs : Heap.SameBut a h h') : ∀ {vs : List Value} {xs : List PyData} {as : List Addr}, keysD xs = true → ReadsAll h vs xs as → ReadsAll h' vs xs as
  | _, _, _, _, .nil => .nil
  | _, _, _, hk, .cons r1 r2 => .cons (reads_keep ho hd hs ((Bool.and_eq_true ..).mp hk).1 r1) (readsAll_keep ho hd hs ((Bool.and_eq_true ..).mp hk).2 r2)
end
noncomputable def nestKind (prog : Program) (w : World) : HeapKind prog w PyData where
  is := NKey
  hash := hashD w
  draws := drawsD
  room := fun A => A.units + 9 < cLine
  inj := fun {h a x y} hx hy => by
    obtain ⟨k1, _, as, r1⟩ := hx
    obtain ⟨k2, _, bs, r2⟩ := hy
    exact PySem.SeqAt.Reads.unique x y _ _ _ (lay_key k1) r1 r2
  keeps := fun {h h' k a d o es ep} hx ho hd hs => by
    obtain ⟨k1, k2, as, r1⟩ := hx
    exact ⟨k1, k2, as, reads_keep ho hd hs k1 r1⟩
  pyHash := fun {A E s k a Q} hu hk h => by
    obtain ⟨k1, k2, as, r1⟩ := hk
    exact hash_d k _ as A s Q k1 r1 (by omega) h
  eqBool := fun {A E s x y a b Q} hu hx hy h => by
    obtain ⟨k1, k2, as, r1⟩ := hx
    obtain ⟨l1, l2, bs, r2⟩ := hy
    refine PySem.SeqAt.eqAt_reads x y A s _ _ as bs r1 r2 (lay_key k1) (lay_key l1) ?_ prog w E Q ?_
    · have : min x.depth y.depth ≤ 8 := Nat.le_trans (Nat.min_le_left _ _) k2
      omega
    · rw [eqv_dec k1 l1]; exact h
  quiet := fun {A E s k a Q} hk h => by
    obtain ⟨k1, k2, as, r1⟩ := hk
    exact quiet_d 8 k _ as Q k1 r1 k2 h
end Fl
namespace Fl
open PySem L2 PyProof.Rows
/-! ### a dict of one's own: entries by the key's data, the key's value, the value -/
abbrev Ent := PyData × V × V
def EntOk (w : World) (p : Ent) (en : DictEntry) : Prop := en.hash = hashD w p.1 ∧ RelV p.2.1 en.key ∧ RelV p.2.2 en.val
def DicO (w : World) (a : Addr) (es : List Ent) : HO := .ext fun h => (a == sysModules) = false ∧ ∃ o ar ep, h.get? a = some o ∧ o.ExactDict ∧ o.data = .dict ar ep ∧ Paired (EntOk w) es ar.toList
theorem dicO_ok {P : Program} {w : World} {H : Hp} {h : Heap} {a : Addr} {es : List Ent} (hd : (a == sysModules) = false) (hh : ∃ o ar ep, h.get? a = some o ∧ o.ExactDict ∧ o.data = .dict ar ep ∧ Paired (EntOk w) es ar.toList) : ObjOk P w H h a (DicO w a es) :=
  ⟨⟨hd, hh⟩, let ⟨o, _, _, e, _⟩ := hh; ⟨o, e⟩, fun h1 h2 ⟨q, o, es, ep, e, r⟩ kp => ⟨q, o, es, ep, kp _ e, r⟩⟩
def tupK : PyData → Bool
  | .tuple xs => keyD (.tuple xs) && decide ((PyData.tuple xs).depth ≤ 8)
  | _ => false
def valK : PyData → Bool
  | .int _ => true
  | .str _ => true
  | _ => false
def sameK (k : PyData) (ks : List PyData) : Bool := (tupK k && ks.all tupK) || (valK k && ks.all valK)
theorem tupK_of {d : PyData} (h : tupK d = true) : ∃ xs, d = .tuple xs ∧ keyD d = true ∧ d.depth ≤ 8 := by
  cases d with
  | tuple xs =>
    have h' : (keyD (.tuple xs) && decide ((PyData.tuple xs).depth ≤ 8)) = true := h
    rw [Bool.and_eq_true] at h'
    exact ⟨xs, rfl, h'.1, of_decide_eq_true h'.2⟩
  | _ => cases h
def keyPy : Key → PyData
  | .inl i => .int i
  | .inr x => .str x
theorem valK_of {d : PyData} (h : valK d = true) : ∃ k, d = keyPy k := by
  cases d with
  | int i => exact ⟨.inl i, rfl⟩
  | str i => exact ⟨.inr i, rfl⟩
  | _ => cases h
theorem keyPy_inj {a b : Key} (h : keyPy a = keyPy b) : a = b := by
  cases a <;> cases b <;> cases h <;> rfl
theorem dat_key {K : PySem.W.Frag} {H : Hp} {v : V} {k : Key} (h : DatV K H v (keyPy k)) : v = kV k := by
  cases k with
  | inl i => exact h.int_of
  | inr x => exact h.str_of
theorem hash_key {P : Program} {w : World} (k : Key) : hashD w (keyPy k) = (mixKind P w).hash k := by
  cases k with
  | inl i => exact hashD_int w i
  | inr x => exact hashD_str w x
def entH : Ent → (PyData × Addr × Value) → Prop := fun e x => e.1 = x.1 ∧ e.2.1 = .ref x.2.1 ∧ RelV e.2.2 x.2.2
def entV : Ent → (Key × Value) → Prop := fun e x => e.1 = keyPy x.1 ∧ e.2.1 = kV x.1 ∧ RelV e.2.2 x.2
theorem ents_H {P : Program} {w : World} : ∀ {es : List Ent} {ens : List DictEntry}, Paired (EntOk w) es ens → (∀ e ∈ es, ∃ b, e.2.1 = .ref b) → ∃ xs, ens = xs.map (entryOfKey (nestKind P w)) ∧ Paired entH es xs
  | _, _, .nil, _ => ⟨[], rfl, .nil⟩
  | e :: es, en :: ens, .cons h t, hb => by
    obtain ⟨xs, h1, h2⟩ := ents_H (P := P) t fun e he => hb e (List.mem_cons_of_mem _ he)
    obtain ⟨b, hb'⟩ := hb e List.mem_cons_self
    obtain ⟨q1, q2, q3⟩ := h
    rw [hb'] at q2
    obtain ⟨hash, key, val⟩ := en
    have q2' : key = Value.ref b := q2
    have q1' : hash = hashD w e.1 := q1
    subst q2' q1'
    exact ⟨(e.1, b, val) :: xs, by rw [List.map_cons, h1]; rfl, .cons ⟨rfl, hb', q3⟩ h2⟩
theorem ents_ofH {P : Program} {w : World} : ∀ {es : List Ent} {xs : List (PyData × Addr × Value)}, Paired entH es xs → Paired (EntOk w) es (xs.map (entryOfKey (nestKind P w)))
  | _, _, .nil => .nil
  | _, _, .cons h t => .cons ⟨by rw [h.1]; rfl, by rw [h.2.1]; rfl, h.2.2⟩ (ents_ofH t)
theorem ents_V {P : Program} {w : World} : ∀ {es : List Ent} {ens : List DictEntry}, Paired (EntOk w) es ens → (∀ e ∈ es, ∃ k, e.1 = keyPy k ∧ e.2.1 = kV k) → ∃ xs, Pairs (mixKind P w) ens xs ∧ Paired entV es xs ∧ ∀ en ∈ ens, ∃ k, (mixKind P w).is k en.key = true ∧ en.hash = (mixKind P w).hash k
  | _, _, .nil, _ => ⟨[], .nil, .nil, fun _ h => by cases h⟩
  | e :: es, en :: ens, .cons h t, hb => by
    obtain ⟨xs, h1, h2, h3⟩ := ents_V (P := P) t fun e he => hb e (List.mem_cons_of_mem _ he)
    obtain ⟨k, hk1, hk2⟩ := hb e List.mem_cons_self
    obtain ⟨q1, q2, q3⟩ := h
    have hi : (mixKind P w).is k en.key = true := kV_is (by rw [← hk2]; exact q2)
    refine ⟨(k, en.val) :: xs, .cons hi rfl h1, .cons ⟨hk1, hk2, q3⟩ h2, fun en' hen => ?_⟩
    rcases List.mem_cons.mp hen with z | z
    · subst z; exact ⟨k, hi, by rw [q1, hk1, hash_key (P := P)]⟩
    · exact h3 en' z
theorem rel_key {P : Program} {w : World} {k : Key} {v : Value} (h : (mixKind P w).is k v = true) : RelV (kV k) v := by
  rcases keyIs_shape h with ⟨i, t, rfl, rfl⟩ | ⟨x, t, rfl, rfl⟩
  · exact ⟨t, rfl⟩
  · exact ⟨t, rfl⟩
theorem ents_ofV {P : Program} {w : World} : ∀ {es : List Ent} {xs : List (Key × Value)} {ens : List DictEntry}, Paired entV es xs → Pairs (mixKind P w) ens xs → (∀ en ∈ ens, ∃ k, (mixKind P w).is k en.key = true ∧ en.hash = (mixKind P w).hash k) → Paired (EntOk w) es ens
  | _, _, _, .nil, .nil, _ => .nil
  | _, _, _, .cons h t, .cons p1 p2 ps, hk => by
    obtain ⟨k, hk1, hk2⟩ := hk _ List.mem_cons_self
    obtain rfl := (mixKind P w).inj _ _ _ hk1 p1
    refine .cons ⟨by rw [hk2, h.1, hash_key (P := P)], by rw [h.2.1]; exact rel_key hk1, by rw [p2]; exact h.2.2⟩ (ents_ofV t ps fun en he => hk en (List.mem_cons_of_mem _ he))
/-- what stands at a key; the entries behind a store -/
noncomputable def atE (es : List Ent) (k : PyData) : Option V := (es.find? fun e => decide (e.1 = k)).map (·.2.2)
noncomputable def putE (es : List Ent) (k : PyData) (kv v : V) : List Ent := if (atE es k).isSome then es.map (fun e => if e.1 = k then (e.1, e.2.1, v) else e) else es ++ [(k, kv, v)]
theorem relO_H {k : PyData} : ∀ {es : List Ent} {xs : List (PyData × Addr × Value)}, Paired entH es xs → RelO (atE es k) ((atKey xs k).map (·.2))
  | _, _, .nil => trivial
  | e :: es, x :: xs, .cons h t => by
    have ih := relO_H (k := k) t
    unfold atE atKey at ih ⊢
    rw [List.find?_cons, List.find?_cons, h.1]
    by_cases q : x.1 = k
    · rw [decide_eq_true q]; exact h.2.2
    · rw [decide_eq_false q]; exact ih
theorem relO_V {k : Key} : ∀ {es : List Ent} {xs : List (Key × Value)}, Paired entV es xs → RelO (atE es (keyPy k)) (valueAt xs k)
  | _, _, .nil => trivial
  | e :: es, x :: xs, .cons h t => by
    have ih := relO_V (k := k) t
    unfold atE valueAt at ih ⊢
    rw [List.find?_cons, List.find?_cons, h.1]
    by_cases q : x.1 = k
    · rw [decide_eq_true q, decide_eq_true (by rw [q])]; exact h.2.2
    · rw [decide_eq_false q, decide_eq_false (fun z => q (keyPy_inj z))]; exact ih
theorem relO_some {o : Option V} {u : Option Value} (h : RelO o u) : o.isSome = u.isSome := by
  cases o <;> cases u <;> first | rfl | exact h.elim
theorem paired_map {α β : Type} {f : α → β → Prop} {g : α → α} {k : β → β} (hg : ∀ a b, f a b → f (g a) (k b)) : ∀ {xs : List α} {ys : List β}, Paired f xs ys → Paired f (xs.map g) (ys.map k)
  | _, _, .nil => .nil
  | _, _, .cons h t => .cons (hg _ _ h) (paired_map hg t)
theorem paired_app {α β : Type} {f : α → β → Prop} {a : α} {b : β} (h : f a b) : ∀ {xs : List α} {ys : List β}, Paired f xs ys → Paired f (xs ++ [a]) (ys ++ [b])
  | _, _, .nil => .cons h .nil
  | _, _, .cons q t => .cons q (paired_app h t)
theorem put_H {k : PyData} {b : Addr} {v : V} {u : Value} {es : List Ent} {xs : List (PyData × Addr × Value)} (r : RelV v u) (h : Paired entH es xs) : Paired entH (putE es k (.ref b) v) (storedH xs k b u) := by
  have q := relO_some (relO_H (k := k) h)
  rw [Option.isSome_map] at q
  unfold putE storedH
  rw [q]
  cases (atKey xs k).isSome with
  | true =>
    rw [if_pos rfl, if_pos rfl]
    refine paired_map (fun e x hx => ?_) h
    unfold putAt
    rw [hx.1]
    by_cases z : x.1 = k
    · rw [if_pos z, if_pos z]; exact ⟨rfl, hx.2.1, r⟩
    · rw [if_neg z, if_neg z]; exact hx
  | false => rw [if_neg (by decide), if_neg (by decide)]; exact paired_app ⟨rfl, rfl, r⟩ h
theorem any_V {k : Key} : ∀ {xs : List (Key × Value)}, xs.any (fun kv => decide (kv.1 = k)) = (valueAt xs k).isSome
  | [] => rfl
  | x :: xs => by
    have ih := any_V (k := k) (xs := xs)
    unfold valueAt at ih ⊢
    rw [List.any_cons, List.find?_cons]
    by_cases q : x.1 = k
    · rw [decide_eq_true q]; rfl
    · rw [decide_eq_false q, Bool.false_or]; exact ih
theorem put_V {k : Key} {v : V} {u : Value} {es : List Ent} {xs : List (Key × Value)} (r : RelV v u) (h : Paired entV es xs) : Paired entV (putE es (keyPy k) (kV k) v) (stored xs k u) := by
  have q := relO_some (relO_V (k := k) h)
  unfold putE stored
  rw [q, any_V]
  cases (valueAt xs k).isSome with
  | true =>
    rw [if_pos rfl, if_pos rfl]
    refine paired_map (fun e x hx => ?_) h
    by_cases z : x.1 = k
    · rw [if_pos z, if_pos (by rw [hx.1, z])]; exact ⟨by rw [hx.1], hx.2.1, r⟩
    · rw [if_neg z, if_neg (fun y => z (keyPy_inj (hx.1.symm.trans y)))]; exact hx
  | false => rw [if_neg (by decide), if_neg (by decide)]; exact paired_app ⟨rfl, rfl, r⟩ h
section
variable {X : Cx} {pins : List (Addr × Obj)} {σ : L2.St} {H : Hp} {s : Shared} {a : Addr} {es : List Ent} {k : PyData} {kv v : V} {ku u : Value} {A : Around} {E : Value → Shared → Prop}
/-- the dict is told with keys of one sort, k among them -/
structure DicAt (X : Cx) (H : Hp) (a : Addr) (es : List Ent) (k : PyData) (kv : V) : Prop where
  o : H a = some (DicO X.w a es)
  ks : ∀ e ∈ es, DatV X.K H e.2.1 e.1
  nd : (es.map (·.1)).Nodup
  dk : DatV X.K H kv k
  one : sameK k (es.map (·.1)) = true
theorem paired_mem {α β : Type} {f : α → β → Prop} {y : β} : ∀ {xs : List α} {ys : List β}, Paired f xs ys → y ∈ ys → ∃ x, x ∈ xs ∧ f x y
  | _, _, .nil, h => by cases h
  | _, _, .cons q t, h => by
    rcases List.mem_cons.mp h with z | z
    · subst z; exact ⟨_, List.mem_cons_self, q⟩
    · obtain ⟨x, h1, h2⟩ := paired_mem t z
      exact ⟨x, List.mem_cons_of_mem _ h1, h2⟩
theorem paired_fst {α β γ : Type} {f : α → β → Prop} {g : α → γ} {k : β → γ} (h : ∀ a b, f a b → g a = k b) : ∀ {xs : List α} {ys : List β}, Paired f xs ys → xs.map g = ys.map k
  | _, _, .nil => rfl
  | _, _, .cons q t => by rw [List.map_cons, List.map_cons, h _ _ q, paired_fst h t]
theorem nodup_map {α β : Type} {f : α → β} : ∀ {xs : List α}, (xs.map f).Nodup → xs.Nodup
  | [], _ => List.nodup_nil
  | x :: t, h => by
    rw [List.map_cons, List.nodup_cons] at h
    exact List.nodup_cons.mpr ⟨fun z => h.1 (List.mem_map_of_mem z), nodup_map h.2⟩
theorem DicAt.cases (D : DicAt X H a es k kv) (I : Inv X pins σ H s) (rk : RelV kv ku) : (a == sysModules) = false ∧
    ((∃ b xs, kv = .ref b ∧ ku = .ref b ∧ Paired entH es xs ∧ (nestKind X.prog X.w).is s.heap k b ∧ s.heap.DictOfH (nestKind X.prog X.w) a xs) ∨
     (∃ kk xs, k = keyPy kk ∧ kv = kV kk ∧ Paired entV es xs ∧ (mixKind X.prog X.w).is kk ku = true ∧ s.heap.DictOf (mixKind X.prog X.w) a xs)) := by
  obtain ⟨⟨hd, o, ar, ep, h1, h2, h3, h4⟩, _, _⟩ := (show ObjOk X.prog X.w H s.heap a (DicO X.w a es) from I.hok a _ D.o)
  refine ⟨hd, ?_⟩
  have hone := D.one
  unfold sameK at hone
  rw [Bool.or_eq_true, Bool.and_eq_true, Bool.and_eq_true, List.all_eq_true, List.all_eq_true] at hone
  rcases hone with ⟨hk, ha⟩ | ⟨hk, ha⟩
  · have key : ∀ (d : PyData) (v : V), tupK d = true → DatV X.K H v d → ∃ b', v = .ref b' ∧ (nestKind X.prog X.w).is s.heap d b' := fun d v hd hv => by
      obtain ⟨ws, rfl, q1, q2⟩ := tupK_of hd
      obtain ⟨b', vs, rfl, _, _⟩ := hv.tup_of
      obtain ⟨as, r⟩ := hv.reads I (u := .ref b') rfl
      exact ⟨b', rfl, q1, q2, as, r⟩
    obtain ⟨b, rfl, hkb⟩ := key _ _ hk D.dk
    cases (show ku = Value.ref b from rk)
    obtain ⟨xs, hx1, hx2⟩ := ents_H (P := X.prog) h4 fun e he => by
      obtain ⟨b', e1, _⟩ := key e.1 e.2.1 (ha _ (List.mem_map_of_mem he)) (D.ks e he)
      exact ⟨b', e1⟩
    refine .inl ⟨b, xs, rfl, rfl, hx2, hkb, o, ar, ep, h1, h2, h3, hx1, fun x hx => ?_, ?_⟩
    · obtain ⟨e, he, hex⟩ := paired_mem hx2 hx
      obtain ⟨b', e1, q⟩ := key e.1 e.2.1 (ha _ (List.mem_map_of_mem he)) (D.ks e he)
      rw [hex.2.1] at e1
      cases e1
      rw [← hex.1]; exact q
    · rw [← paired_fst (g := fun e : Ent => e.1) (fun a b h => h.1) hx2]; exact D.nd
  · obtain ⟨kk, rfl⟩ := valK_of hk
    have hkv := dat_key D.dk
    obtain ⟨xs, hx1, hx2, hx3⟩ := ents_V (P := X.prog) h4 fun e he => by
      obtain ⟨k', hk'⟩ := valK_of (ha _ (List.mem_map_of_mem he))
      have q := D.ks e he
      rw [hk'] at q
      exact ⟨k', hk', dat_key q⟩
    refine .inr ⟨kk, xs, rfl, hkv, hx2, kV_is (by rw [← hkv]; exact rk), o, ar, ep, h1, h2, h3, fun en hen => hx3 en (by simpa using hen), hx1, ?_⟩
    have : es.map (·.1) = (xs.map (·.1)).map keyPy := by rw [List.map_map]; exact paired_fst (g := fun e : Ent => e.1) (fun a b h => h.1) hx2
    have nd := D.nd
    rw [this] at nd
    exact nodup_map nd
theorem room_nest {A : Around} (hu : A.units + 64 < cLine) : (nestKind X.prog X.w).room A.in1 := by show A.in1.units + 9 < cLine; rw [in1_units]; omega
theorem dic_in {Q : Value → Shared → Prop} (hu : A.units + 64 < cLine) (D : DicAt X H a es k kv) (I : Inv X pins σ H s) (rk : RelV kv ku) (h : ∀ s', Inv X pins σ H s' → Q (.bool (atE es k).isSome) s') : wpAny (model X.prog X.w) A (compareOp .In ku (.ref a)) Q E s := by
  obtain ⟨hd, ⟨b, xs, rfl, rfl, hx, hk, dd⟩ | ⟨kk, xs, rfl, rfl, hx, hk, dd⟩⟩ := D.cases I rk
  · refine wpAny_in_heap (room_nest hu) hk hd dd ?_
    have q := relO_some (relO_H (k := k) hx)
    rw [Option.isSome_map] at q
    rw [← q]; exact h _ (I.tok _)
  · refine wpAny_in_of hk hd dd.mapOf ?_
    rw [← relO_some (relO_V (k := kk) hx)]; exact h _ (I.tok _)
theorem dic_nin {Q : Value → Shared → Prop} (hu : A.units + 64 < cLine) (D : DicAt X H a es k kv) (I : Inv X pins σ H s) (rk : RelV kv ku) (h : ∀ s', Inv X pins σ H s' → Q (.bool (!(atE es k).isSome)) s') : wpAny (model X.prog X.w) A (compareOp .NotIn ku (.ref a)) Q E s := by
  obtain ⟨hd, ⟨b, xs, rfl, rfl, hx, hk, dd⟩ | ⟨kk, xs, rfl, rfl, hx, hk, dd⟩⟩ := D.cases I rk
  · refine wpAny_notIn_heap (room_nest hu) hk hd dd ?_
    have q := relO_some (relO_H (k := k) hx)
    rw [Option.isSome_map] at q
    rw [← q]; exact h _ (I.tok _)
  · refine wpAny_notIn_of hk hd dd.mapOf ?_
    rw [← relO_some (relO_V (k := kk) hx)]; exact h _ (I.tok _)
theorem dic_get {Q : Value → Shared → Prop} (hu : A.units + 64 < cLine) (D : DicAt X H a es k kv) (I : Inv X pins σ H s) (rk : RelV kv ku) (hv : atE es k = some v) (h : ∀ w' s', Inv X pins σ H s' → RelV v w' → Q w' s') : wpAny (model X.prog X.w) A (getItem (.ref a) ku) Q E s := by
  obtain ⟨hd, ⟨b, xs, rfl, rfl, hx, hk, dd⟩ | ⟨kk, xs, rfl, rfl, hx, hk, dd⟩⟩ := D.cases I rk
  · have q := relO_H (k := k) hx
    rw [hv] at q
    obtain ⟨w', hw, rw'⟩ := RelO.some_of q
    obtain ⟨p, hp, hp2⟩ := Option.map_eq_some_iff.mp hw
    refine wpAny_getItem_heap (room_nest hu) hk dd hp ?_
    rw [hp2]; exact h w' _ (I.tok _) rw'
  · have q := relO_V (k := kk) hx
    rw [hv] at q
    obtain ⟨w', hw, rw'⟩ := RelO.some_of q
    exact wpAny_getItem_of hk dd.mapOf hw (h w' _ (I.tok _) rw')
theorem dic_put {Q : Unit → Shared → Prop} (hu : A.units + 64 < cLine) (D : DicAt X H a es k kv) (I : Inv X pins σ H s) (rk : RelV kv ku) (rv : RelV v u) (hz : es.length ≤ sizeLine) (h : ∀ s', Inv X pins σ (upd H a (DicO X.w a (putE es k kv v))) s' → Q () s') :
    wpAny (model X.prog X.w) A (setItem (.ref a) ku u) Q E s := by
  obtain ⟨hd, ⟨b, xs, rfl, rfl, hx, hk, dd⟩ | ⟨kk, xs, rfl, rfl, hx, hk, dd⟩⟩ := D.cases I rk
  · have hl : xs.length ≤ sizeLine := by rw [← Paired.length hx]; exact hz
    refine wpAny_setItem_heap (hsz := hl) (room_nest hu) hk dd fun h' dd' hs => h _ ?_
    obtain ⟨q', ar, ep, hq, h2, h3, h4, _, h5⟩ := dd'
    refine d_write I (by rw [D.o]; exact True.intro) hs ⟨q', hq⟩ (dicO_ok hd ⟨q', ar, ep, hq, h2, h3, ?_⟩)
    rw [h4]
    exact ents_ofH (put_H rv hx)
  · have hl : xs.length ≤ sizeLine := by rw [← Paired.length hx]; exact hz
    refine wpAny_setItem_pairs (hsz := hl) hk dd fun h' dd' hs => h _ ?_
    obtain ⟨q', ar, ep, hq, h2, h3, h4, h5, _⟩ := dd'
    refine d_write I (by rw [D.o]; exact True.intro) hs ⟨q', hq⟩ (dicO_ok hd ⟨q', ar, ep, hq, h2, h3, ?_⟩)
    exact ents_ofV (put_V rv hx) h5 fun en hen => h4 en (by simpa using hen)
end
end Fl
/-! THE FUNCTION LAYER: a def of the text is a function of plain data in Lean; its judgement is built rule by rule -/
namespace Fl
open PySem L2 PyProof.Rows

/-- an error: its class's name, its values -/
structure Er where
  c : Str
  fs : List (Str × PyData)
/-- nothing is promised, a value, an error -/
inductive R (α : Type) where
  | bad | ok (a : α) | ex (e : Er)
def R.bind {α β : Type} : R α → (α → R β) → R β
  | .bad, _ => .bad
  | .ok a, f => f a
  | .ex e, _ => .ex e
@[simp] theorem R.bind_ok {α β : Type} (a : α) (f : α → R β) : (R.ok a).bind f = f a := id rfl
@[simp] theorem R.bind_bad {α β : Type} (f : α → R β) : (R.bad : R α).bind f = .bad := id rfl
@[simp] theorem R.bind_ex {α β : Type} (e : Er) (f : α → R β) : (R.ex e : R α).bind f = .ex e := id rfl
/-- what a name holds: data that stays; a list of one's own; a dict of one's own; an error; a def -/
inductive A where
  | d (x : PyData) | l (xs : List PyData) | m (kvs : List (PyData × PyData)) | x (e : Er) | g (k n : Nat) (f : List PyData → R PyData) | k (q : Str)
abbrev Sg := List (Option A)
/-- how a function acts (at its address, by what it leans on, its level, its number of parameters); the tables of code -/
structure Gb where
  B : Addr → Hp → Nat → Nat → (List PyData → R PyData) → Prop
  T : Hp
/-- the context of a def's run: F0 what stays, H0 the heap, at its entry; the frame's cells -/
structure Ct where
  K : PySem.W.Frag
  mg : Str → Option Value
  w : World
  F0 : Hp
  H0 : Hp
  g : Gb
  cells : List (Str × Addr)
  cls : Str → Option ClSt

theorem dicO_cod {w : World} {p : Addr} {es : List Ent} {q : Str} (h : DicO w p es = .cod q) : False := by unfold DicO at h; cases h
theorem same_refl (H : Hp) : Same H H := fun _ _ h => h
theorem same_none {H H' : Hp} (s : Same H H') {a : Addr} (h : H' a = none) : H a = none := by
  cases e : H a with
  | none => rfl
  | some o => rw [s a o e] at h; cases h
/-- not there yet, but for code objects -/
def NewIn (H : Hp) (a : Addr) : Prop := H a = none ∨ ∃ q, H a = some (.cod q)
theorem NewIn.back {H H1 : Hp} {a : Addr} (s : Same H H1) (h : NewIn H1 a) : NewIn H a := by
  cases e : H a with
  | none => exact .inl e
  | some o =>
    have e1 := s a o e
    rcases h with z | ⟨q, z⟩
    · rw [e1] at z; cases z
    · rw [e1] at z; cases z; exact .inr ⟨q, e⟩
/-- the heap grows; of what is new some stays -/
structure Ext (F H F' H' : Hp) : Prop where
  hh : Same H H'
  ff : Same F F'
  fh : Same F' H'
  nw : ∀ a, F a = none → F' a ≠ none → NewIn H a
theorem Ext.refl {F H : Hp} (h : Same F H) : Ext F H F H := ⟨same_refl H, same_refl F, h, fun a e n => absurd e n⟩
theorem Ext.trans {F H F1 H1 F2 H2 : Hp} (a : Ext F H F1 H1) (b : Ext F1 H1 F2 H2) : Ext F H F2 H2 :=
  ⟨fun x o e => b.hh x o (a.hh x o e), fun x o e => b.ff x o (a.ff x o e), b.fh, fun x e n => by
    cases q : F1 x with
    | none => exact (b.nw x q n).back a.hh
    | some o => exact a.nw x e (by rw [q]; exact fun z => nomatch z)⟩
theorem Ext.stay {F H F' H' : Hp} (s : Ext F H F' H') {p : Addr} {o : HO} (h3 : F p = none) (h2 : H p = some o) (hno : ∀ q, o ≠ .cod q) : F' p = none := by
  cases q : F' p with
  | none => rfl
  | some o =>
    rcases s.nw p h3 (by rw [q]; exact fun z => nomatch z) with z | ⟨q', z⟩
    · rw [z] at h2; cases h2
    · rw [z] at h2; cases h2; exact absurd rfl (hno _)
theorem same_upd {F H : Hp} {p : Addr} {o : HO} (s : Same F H) : Same (upd F p o) (upd H p o) := fun a u e => by
  by_cases q : a = p
  · subst q; rw [upd_same] at e ⊢; exact e
  · rw [upd_ne q] at e ⊢; exact s a u e
/-- something new that stays -/
theorem Ext.new {F H : Hp} {p : Addr} {o : HO} (s : Same F H) (hp : H p = none) : Ext F H (upd F p o) (upd H p o) :=
  ⟨Same.upd hp, Same.upd (same_none s hp), same_upd s, fun a e n => by
    by_cases q : a = p
    · subst q; exact .inl hp
    · rw [upd_ne q] at n; exact absurd e n⟩
/-- something new of one's own -/
theorem Ext.own {F H : Hp} {p : Addr} {o : HO} (s : Same F H) (hp : H p = none) : Ext F H F (upd H p o) :=
  ⟨Same.upd hp, same_refl F, fun a u e => by
    rw [upd_ne (ne_of_none (s a u e) hp)]; exact s a u e, fun a e n => absurd e n⟩

/-- an error's object -/
def XRel (K : PySem.W.Frag) (mg : Str → Option Value) (F : Hp) (e : Er) (a C : Addr) : Prop := mg e.c = some (.ref C) ∧ ∃ od, F a = some (ExO a C od) ∧ ((e.fs = [] ∧ od = none) ∨ ∃ d fvs, od = some d ∧ F d = some (.xd fvs) ∧ fvs.map (·.1) = e.fs.map (·.1) ∧ DatVs K F (fvs.map (·.2)) (e.fs.map (·.2)))
theorem XRel.same {K : PySem.W.Frag} {mg : Str → Option Value} {F F' : Hp} {e : Er} {a C : Addr} (s : Same F F') (h : XRel K mg F e a C) : XRel K mg F' e a C := by
  obtain ⟨m, od, h1, h2⟩ := h
  refine ⟨m, od, s _ _ h1, h2.imp id ?_⟩
  rintro ⟨d, fvs, e1, e2, e3, e4⟩
  exact ⟨d, fvs, e1, s _ _ e2, e3, e4.same s⟩
/-- what stays -/
def AF (g : Gb) (K : PySem.W.Frag) (mg : Str → Option Value) (F : Hp) : A → V → Prop
  | .d x, v => DatV K F v x
  | .x e, v => ∃ a C, v = .ref a ∧ XRel K mg F e a C
  | .g k n G, v => ∃ f F1, v = .ref f ∧ Same F1 F ∧ g.B f F1 k n G
  | _, _ => False
theorem AF.same {g : Gb} {K : PySem.W.Frag} {mg : Str → Option Value} {F F' : Hp} (s : Same F F') : ∀ {a : A} {v : V}, AF g K mg F a v → AF g K mg F' a v
  | .d x, v, h => DatV.same s h
  | .x e, v, ⟨a, C, h1, h2⟩ => ⟨a, C, h1, h2.same s⟩
  | .g k n G, v, ⟨f, F1, h1, h2, h3⟩ => ⟨f, F1, h1, fun a o z => s a o (h2 a o z), h3⟩
def A.own : A → Bool
  | .l _ => true
  | .m _ => true
  | _ => false
/-- a dict's entries, and what they say -/
structure MapRel (K : PySem.W.Frag) (F : Hp) (es : List Ent) (kvs : List (PyData × PyData)) : Prop where
  k1 : es.map (·.1) = kvs.map (·.1)
  k2 : DatVs K F (es.map (·.2.1)) (kvs.map (·.1))
  vs : DatVs K F (es.map (·.2.2)) (kvs.map (·.2))
  nd : (kvs.map (·.1)).Nodup
theorem MapRel.same {K : PySem.W.Frag} {F F' : Hp} {es : List Ent} {kvs : List (PyData × PyData)} (s : Same F F') (h : MapRel K F es kvs) : MapRel K F' es kvs := ⟨h.k1, h.k2.same s, h.vs.same s, h.nd⟩
/-- a slot's thing -/
def AO (c : Ct) (F H : Hp) : A → V → Prop
  | .l xs, v => ∃ p vs, v = .ref p ∧ H p = some (.lst vs) ∧ F p = none ∧ c.H0 p = none ∧ DatVs c.K F vs xs
  | .m kvs, v => ∃ p es, v = .ref p ∧ H p = some (DicO c.w p es) ∧ F p = none ∧ c.H0 p = none ∧ MapRel c.K F es kvs
  | .k q, v => ∃ S f cl doc pm cc ct, c.cls q = some S ∧ v = .ref f ∧ F f = some (FnO f (S.obj cl doc pm cc ct)) ∧ F cc = some (.cod S.qual) ∧ ClOf c.cells S.scope cl
  | a, v => AF c.g c.K c.mg F a v
theorem AO.ext {c : Ct} {F H F' H' : Hp} (s : Ext F H F' H') : ∀ {a : A} {v : V}, AO c F H a v → AO c F' H' a v
  | .d x, v, h => DatV.same s.ff h
  | .x e, v, h => AF.same (g := c.g) (K := c.K) (mg := c.mg) (a := .x e) s.ff h
  | .g k n G, v, h => AF.same (g := c.g) (K := c.K) (mg := c.mg) (a := .g k n G) s.ff h
  | .k q, v, ⟨S, f, cl, doc, pm, cc, ct, h0, h1, h2, h3, h4⟩ => ⟨S, f, cl, doc, pm, cc, ct, h0, h1, s.ff _ _ h2, s.ff _ _ h3, h4⟩
  | .l xs, v, ⟨p, vs, h1, h2, h3, h4, h5⟩ => ⟨p, vs, h1, s.hh _ _ h2, s.stay h3 h2 (fun _ z => nomatch z), h4, h5.same s.ff⟩
  | .m kvs, v, ⟨p, vs, h1, h2, h3, h4, h5⟩ => ⟨p, vs, h1, s.hh _ _ h2, s.stay h3 h2 (fun _ z => dicO_cod z), h4, h5.same s.ff⟩
/-- an own thing's place -/
theorem AO.at {c : Ct} {F H : Hp} {a : A} {v : V} (h : AO c F H a v) (o : a.own = true) : ∃ p o, v = .ref p ∧ H p = some o ∧ F p = none ∧ c.H0 p = none := by
  cases a with
  | l xs => obtain ⟨p, vs, h1, h2, h3, h4, h5⟩ := h; exact ⟨p, _, h1, h2, h3, h4⟩
  | m xs => obtain ⟨p, vs, h1, h2, h3, h4, h5⟩ := h; exact ⟨p, _, h1, h2, h3, h4⟩
  | d x => cases o
  | x e => cases o
  | g k n f => cases o
  | k S => cases o
/-- a change elsewhere -/
theorem AO.off {c : Ct} {F H : Hp} {p : Addr} {o : HO} : ∀ {a : A} {v : V}, AO c F H a v → v ≠ .ref p → AO c F (upd H p o) a v
  | .l xs, v, ⟨q, vs, h1, h2, h3, h4, h5⟩, n => ⟨q, vs, h1, by rw [upd_ne (fun z => n (by rw [h1, z]))]; exact h2, h3, h4, h5⟩
  | .m xs, v, ⟨q, vs, h1, h2, h3, h4, h5⟩, n => ⟨q, vs, h1, by rw [upd_ne (fun z => n (by rw [h1, z]))]; exact h2, h3, h4, h5⟩
  | .d x, v, h, _ => h
  | .x e, v, h, _ => h
  | .g k n G, v, h, _ => h
  | .k S, v, h, _ => h
structure Ab (c : Ct) (ρ : Sg) (σ : L2.St) (F H : Hp) : Prop where
  len : ρ.length = σ.length
  fh : Same F H
  slot : ∀ (i : Nat) (a : A), ρ[i]? = some (some a) → ∃ v, σ[i]? = some (some v) ∧ AO c F H a v
  apart : ∀ (i j : Nat) (a b : A), i ≠ j → ρ[i]? = some (some a) → ρ[j]? = some (some b) → a.own = true → b.own = true → σ[i]? ≠ σ[j]?
  f0 : Same c.F0 F
  h0 : Same c.H0 H
  n0 : ∀ a, c.F0 a = none → F a ≠ none → NewIn c.H0 a
  t0 : Same c.g.T c.F0
theorem Ab.all {c : Ct} {ρ : Sg} {σ : L2.St} {F H : Hp} (b : Ab c ρ σ F H) : Ext c.F0 c.H0 F H := ⟨b.h0, b.f0, b.fh, b.n0⟩
theorem Ab.ext {c : Ct} {ρ : Sg} {σ : L2.St} {F H F' H' : Hp} (b : Ab c ρ σ F H) (e : Ext F H F' H') : Ab c ρ σ F' H' where
  len := b.len
  fh := e.fh
  slot := fun i a h => let ⟨v, h1, h2⟩ := b.slot i a h; ⟨v, h1, h2.ext e⟩
  apart := b.apart
  f0 := fun x o h => e.ff x o (b.f0 x o h)
  h0 := fun x o h => e.hh x o (b.h0 x o h)
  n0 := fun a h n => by
    cases q : F a with
    | none => exact (e.nw a q n).back b.h0
    | some o => exact b.n0 a h (by rw [q]; exact fun z => nomatch z)
  t0 := b.t0

/-- what is wanted of an error that leaves -/
def XW (c : Ct) (E : XK) (e : Er) : Prop := ∀ a C F' H', Ext c.F0 c.H0 F' H' → XRel c.K c.mg F' e a C → E (.ref C) (some a) H'
def Rk {α : Type} (c : Ct) (E : XK) (F H : Hp) (r : R α) (k : α → Prop) : Prop := match r with
  | .bad => False
  | .ok a => k a
  | .ex e => XW c E e

/-- an expression's reading: Rel by the thing, its value, the heap ahead, what stays and the heap behind -/
abbrev VR (α : Type) := α → V → Hp → Hp → Hp → Prop
def tV {α : Type} (Rel : VR α) (c : Ct) (E : XK) (f : Sg → R α) : TE := fun σ H Q => ∃ ρ F, Ab c ρ σ F H ∧ Rk c E F H (f ρ) fun d => ∀ v F' H', Ext F H F' H' → Rel d v H F' H' → Q v H'
/-- data that stays -/
def relD (c : Ct) : VR PyData := fun d v _ F _ => DatV c.K F v d
/-- data to be read on the spot -/
def DatR (K : PySem.W.Frag) (F H : Hp) (v : V) (d : PyData) : Prop := DatV K F v d ∨ ∃ p vs xs, v = .ref p ∧ d = .list xs ∧ H p = some (.lst vs) ∧ DatVs K F vs xs
def relR (c : Ct) : VR PyData := fun d v _ F H => DatR c.K F H v d
/-- a thing that stays -/
def relA (c : Ct) : VR A := fun a v _ F _ => AF c.g c.K c.mg F a v
/-- a new list of one's own -/
def relN (c : Ct) : VR (List PyData) := fun xs v H F H' => ∃ p vs, v = .ref p ∧ H p = none ∧ H' p = some (.lst vs) ∧ F p = none ∧ DatVs c.K F vs xs
abbrev PD (X : Cx) (c : Ct) (E : XK) (e : Expr) (f : Sg → R PyData) : Prop := PE X e (tV (relD c) c E f)
abbrev PR (X : Cx) (c : Ct) (E : XK) (e : Expr) (f : Sg → R PyData) : Prop := PE X e (tV (relR c) c E f)
abbrev PV (X : Cx) (c : Ct) (E : XK) (e : Expr) (f : Sg → R A) : Prop := PE X e (tV (relA c) c E f)
abbrev PN (X : Cx) (c : Ct) (E : XK) (e : Expr) (f : Sg → R (List PyData)) : Prop := PE X e (tV (relN c) c E f)
theorem PE.imp {X : Cx} {e : Expr} {t t' : TE} (h : PE X e t) (i : ∀ σ H Q, t' σ H Q → t σ H Q) : PE X e t' := fun pins s σ H Q I q => h pins s σ H Q I (i σ H Q q)
theorem PT.imp {X : Cx} {e : Expr} {t t' : TT} (h : PT X e t) (i : ∀ σ H Q, t' σ H Q → t σ H Q) : PT X e t' := fun pins s σ H Q I q => h pins s σ H Q I (i σ H Q q)
theorem PS.imp {X : Cx} {e : Stmt} {t t' : TS} (h : PS X e t) (i : ∀ D σ H, t' D σ H → t D σ H) : PS X e t' := fun pins s σ H D I q => h pins s σ H D I (i D σ H q)
theorem PSs.imp {X : Cx} {e : List Stmt} {t t' : TS} (h : PSs X e t) (i : ∀ D σ H, t' D σ H → t D σ H) : PSs X e t' := fun pins s σ H D I q => h pins s σ H D I (i D σ H q)
/-- a relation that growth keeps -/
def Keeps {α : Type} (Rel : VR α) : Prop := ∀ d v H F H1 F2 H2, Ext F H1 F2 H2 → Rel d v H F H1 → Rel d v H F2 H2
theorem DatR.ext {K : PySem.W.Frag} {F H F' H' : Hp} {v : V} {d : PyData} (e : Ext F H F' H') (h : DatR K F H v d) : DatR K F' H' v d := by
  rcases h with h | ⟨p, vs, xs, h1, h2, h3, h4⟩
  · exact .inl (h.same e.ff)
  · exact .inr ⟨p, vs, xs, h1, h2, e.hh _ _ h3, h4.same e.ff⟩
theorem keepsR (c : Ct) : Keeps (relR c) := fun d v H F H1 F2 H2 e h => DatR.ext e h
theorem DatR.heap {K : PySem.W.Frag} {F H : Hp} {v : V} {d : PyData} (s : Same F H) (h : DatR K F H v d) : DatV K H v d := by
  rcases h with h | ⟨p, vs, xs, h1, h2, h3, h4⟩
  · exact h.same s
  · subst h1 h2; exact .lst (SqL.of h3) (h4.same s)

/-! ### the forms of a rule -/
section
variable {X : Cx} {c : Ct} {E : XK} {α β γ : Type} {Ra : VR α} {Rb : VR β} {Rc : VR γ} {σ : L2.St} {H : Hp} {Q : VK}
theorem Rk.ok {F : Hp} {a : α} {k : α → Prop} (h : Rk c E F H (.ok a) k) : k a := h
theorem Rk.imp {F : Hp} {r : R α} {k k' : α → Prop} (h : Rk c E F H r k) (i : ∀ a, r = .ok a → k a → k' a) : Rk c E F H r k' := by
  cases r with
  | bad => exact h
  | ok a => exact i a rfl h
  | ex e => exact h
theorem Rk.bind {F : Hp} {r : R α} {f : α → R β} {k : β → Prop} (h : Rk c E F H (r.bind f) k) : Rk c E F H r fun a => Rk c E F H (f a) k := by
  cases r with
  | bad => exact h
  | ok a => exact h
  | ex e => exact h
theorem Rk.ext {F F' H' : Hp} {r : R α} {k : α → Prop} (e : Ext F H F' H') (h : Rk c E F H r k) : Rk c E F' H' r k := by
  cases r with
  | bad => exact h
  | ok a => exact h
  | ex x => exact h
end
/-- a relation whose start may be put further back -/
def Back {α : Type} (Rel : VR α) : Prop := ∀ d v H H1 F' H', Same H H1 → Rel d v H1 F' H' → Rel d v H F' H'
theorem backD (c : Ct) : Back (relD c) := fun _ _ _ _ _ _ _ h => h
section
variable {X : Cx} {c : Ct} {E : XK} {α β γ : Type} {Ra : VR α} {Rb : VR β} {Rc : VR γ}
/-- what a step of values must show: of a, at v, the told thing -/
def Op1 (c : Ct) (Ra : VR α) (Rb : VR β) (g : α → R β) (r : V → Hp → VK → Prop) : Prop :=
  ∀ (H0 F H : Hp) (a : α) (b : β) (v : V) (Q : VK), Same F H → Ra a v H0 F H → g a = .ok b → (∀ w F' H', Ext F H F' H' → Rb b w H F' H' → Q w H') → r v H Q
def Op2 (c : Ct) (Ra : VR α) (Rb : VR β) (Rc : VR γ) (g : α → β → R γ) (r : R2) : Prop :=
  ∀ (H0 H1 F H : Hp) (a : α) (b : β) (d : γ) (v u : V) (Q : VK), Same F H → Ra a v H0 F H → Rb b u H1 F H → g a b = .ok d → (∀ w F' H', Ext F H F' H' → Rc d w H F' H' → Q w H') → r v u H Q
/-- plain: no error comes of the step itself -/
def Plain1 (g : α → R β) : Prop := ∀ a e, g a ≠ .ex e
def Plain2 (g : α → β → R γ) : Prop := ∀ a b e, g a b ≠ .ex e
theorem tV1 {f : Sg → R α} {g : α → R β} {r : V → Hp → VK → Prop} (ho : Op1 c Ra Rb g r) (hp : Plain1 g) (kb : Back Rb) {σ : L2.St} {H : Hp} {Q : VK} (h : tV Rb c E (fun ρ => (f ρ).bind g) σ H Q) :
    tV Ra c E f σ H fun v H1 => r v H1 Q := by
  obtain ⟨ρ, F, ab, h⟩ := h
  refine ⟨ρ, F, ab, (Rk.bind h).imp fun a ea q v F1 H1 e1 rv => ?_⟩
  cases eg : g a with
  | bad => rw [eg] at q; exact q.elim
  | ex e => exact absurd eg (hp a e)
  | ok b =>
    rw [eg] at q
    exact ho H F1 H1 a b v Q e1.fh rv eg fun w F' H' e2 rw' => q w F' H' (e1.trans e2) (kb _ _ _ _ _ _ e1.hh rw')
theorem tV2 {f : Sg → R α} {f' : Sg → R β} {g : α → β → R γ} {r : R2} (ho : Op2 c Ra Rb Rc g r) (hp : Plain2 g) (ka : Keeps Ra) (kb : Back Rc) {σ : L2.St} {H : Hp} {Q : VK} (h : tV Rc c E (fun ρ => (f ρ).bind fun a => (f' ρ).bind fun b => g a b) σ H Q) :
    tOp r (tV Ra c E f) (tV Rb c E f') σ H Q := by
  obtain ⟨ρ, F, ab, h⟩ := h
  refine ⟨ρ, F, ab, (Rk.bind h).imp fun a ea q v F1 H1 e1 rv => ?_⟩
  refine ⟨ρ, F1, ab.ext e1, ((Rk.bind q).ext e1).imp fun b eb q u F2 H2 e2 ru => ?_⟩
  cases eg : g a b with
  | bad => rw [eg] at q; exact q.elim
  | ex e => exact absurd eg (hp a b e)
  | ok d =>
    rw [eg] at q
    exact ho H H1 F2 H2 a b d v u Q e2.fh (ka _ _ _ _ _ _ _ e2 rv) ru eg fun w F' H' e3 rw' => q w F' H' ((e1.trans e2).trans e3) (kb _ _ _ _ _ _ (fun x o z => e2.hh x o (e1.hh x o z)) rw')
end
end Fl
namespace Fl
open PySem L2 PyProof.Rows

/-! ### data, taken apart -/
section
variable {K : PySem.W.Frag} {F H : Hp} {v : V}
theorem DatV.bl_of {b : Bool} (h : DatV K H v (.bool b)) : v = .bl b := by cases h; rfl
theorem DatV.non_of (h : DatV K H v .none) : v = .non := by cases h; rfl
theorem DatR.int_of {i : Int} (h : DatR K F H v (.int i)) : v = .int i := by
  rcases h with h | ⟨_, _, _, _, h, _⟩
  · exact h.int_of
  · cases h
theorem DatR.str_of {i : Str} (h : DatR K F H v (.str i)) : v = .str i := by
  rcases h with h | ⟨_, _, _, _, h, _⟩
  · exact h.str_of
  · cases h
theorem DatR.bl_of {i : Bool} (h : DatR K F H v (.bool i)) : v = .bl i := by
  rcases h with h | ⟨_, _, _, _, h, _⟩
  · exact DatV.bl_of h
  · cases h
theorem DatR.non_of (h : DatR K F H v .none) : v = .non := by
  rcases h with h | ⟨_, _, _, _, h, _⟩
  · exact DatV.non_of h
  · cases h
theorem DatR.tup_of {xs : List PyData} (s : Same F H) (h : DatR K F H v (.tuple xs)) : ∃ a vs, v = .ref a ∧ SqT K F a vs ∧ SqT K H a vs ∧ DatVs K F vs xs := by
  rcases h with h | ⟨_, _, _, _, h, _⟩
  · obtain ⟨a, vs, h1, h2, h3⟩ := h.tup_of
    exact ⟨a, vs, h1, h2, h2.same s, h3⟩
  · cases h
theorem DatR.lst_of {xs : List PyData} (s : Same F H) (h : DatR K F H v (.list xs)) : ∃ a vs, v = .ref a ∧ SqL K H a vs ∧ DatVs K F vs xs := by
  rcases h with h | ⟨p, vs, ys, h1, h2, h3, h4⟩
  · obtain ⟨a, vs, h1, h2, h3⟩ := h.lst_of
    exact ⟨a, vs, h1, h2.same s, h3⟩
  · cases h2
    exact ⟨p, vs, h1, SqL.of h3, h4⟩
theorem datVs_at {vs : List V} {xs : List PyData} {i : Int} {d : PyData} (h : DatVs K F vs xs) (e : atI xs i = some d) : ∃ x, atI vs i = some x ∧ DatV K F x d := by
  unfold atI at e ⊢
  rw [h.length]
  cases q : ixN xs.length i with
  | none => rw [q] at e; cases e
  | some j =>
    rw [q] at e
    exact h.get' (i := j) e
end

/-! ### names, constants -/
def eV (i : Nat) : Sg → R PyData := fun ρ => match ρ[i]? with
  | some (some (.d x)) => .ok x
  | _ => .bad
def rV (i : Nat) : Sg → R PyData := fun ρ => match ρ[i]? with
  | some (some (.d x)) => .ok x
  | some (some (.l xs)) => .ok (.list xs)
  | _ => .bad
def vV (i : Nat) : Sg → R A := fun ρ => match ρ[i]? with
  | some (some (.d x)) => .ok (.d x)
  | some (some (.x e)) => .ok (.x e)
  | some (some (.g k n f)) => .ok (.g k n f)
  | _ => .bad
def eC (d : PyData) : Sg → R PyData := fun _ => .ok d
section
variable {X : Cx} {c : Ct} {E : XK} {e a b : Expr}
theorem pd_var {i : Nat} (h : PE X e (tVar i)) : PD X c E e (eV i) := PE.imp h fun σ H Q ⟨ρ, F, ab, k⟩ => by
  unfold eV at k
  split at k
  · rename_i x hx
    obtain ⟨v, h1, h2⟩ := ab.slot i _ hx
    exact ⟨v, h1, k v F H (Ext.refl ab.fh) h2⟩
  · exact k.elim
theorem pr_var {i : Nat} (h : PE X e (tVar i)) : PR X c E e (rV i) := PE.imp h fun σ H Q ⟨ρ, F, ab, k⟩ => by
  unfold rV at k
  split at k
  · rename_i x hx
    obtain ⟨v, h1, h2⟩ := ab.slot i _ hx
    exact ⟨v, h1, k v F H (Ext.refl ab.fh) (.inl h2)⟩
  · rename_i x hx
    obtain ⟨v, h1, p, vs, h2, h3, h4, h5, h6⟩ := ab.slot i _ hx
    exact ⟨v, h1, k v F H (Ext.refl ab.fh) (.inr ⟨p, vs, x, h2, rfl, h3, h6⟩)⟩
  · exact k.elim
theorem pv_var {i : Nat} (h : PE X e (tVar i)) : PV X c E e (vV i) := PE.imp h fun σ H Q ⟨ρ, F, ab, k⟩ => by
  unfold vV at k
  split at k
  · rename_i x hx
    obtain ⟨v, h1, h2⟩ := ab.slot i _ hx
    exact ⟨v, h1, k v F H (Ext.refl ab.fh) h2⟩
  · rename_i x hx
    obtain ⟨v, h1, h2⟩ := ab.slot i _ hx
    exact ⟨v, h1, k v F H (Ext.refl ab.fh) h2⟩
  · rename_i kk nn ff hx
    obtain ⟨v, h1, h2⟩ := ab.slot i _ hx
    exact ⟨v, h1, k v F H (Ext.refl ab.fh) h2⟩
  · exact k.elim
theorem pd_const {v : V} {d : PyData} (h : PE X e (tC v)) (hd : ∀ F, DatV c.K F v d) : PD X c E e (eC d) := PE.imp h fun σ H Q ⟨ρ, F, ab, k⟩ => k v F H (Ext.refl ab.fh) (hd F)
theorem pd_int {i j pos} : PD X c E (.Constant (.int i) j pos) (eC (.int i)) := pd_const pe_int fun _ => .int i
theorem pd_bl {i j pos} : PD X c E (.Constant (.bool i) j pos) (eC (.bool i)) := pd_const pe_bl fun _ => .bl i
theorem pd_str {i j pos} : PD X c E (.Constant (.str i) j pos) (eC (.str i)) := pd_const pe_str fun _ => .str i
theorem pd_non {j pos} : PD X c E (.Constant .none j pos) (eC .none) := pd_const pe_non fun _ => .non
/-! ### from one form to another -/
theorem pr_of {f : Sg → R PyData} (h : PD X c E e f) : PR X c E e f := PE.imp h fun σ H Q ⟨ρ, F, ab, k⟩ => ⟨ρ, F, ab, k.imp fun d _ q v F' H' s r => q v F' H' s (.inl r)⟩
def vD (f : Sg → R PyData) : Sg → R A := fun ρ => (f ρ).bind fun x => .ok (.d x)
theorem pv_of {f : Sg → R PyData} (h : PD X c E e f) : PV X c E e (vD f) := PE.imp h fun σ H Q ⟨ρ, F, ab, k⟩ => ⟨ρ, F, ab, (Rk.bind k).imp fun d _ q v F' H' s r => Rk.ok q v F' H' s r⟩
def getD : A → R PyData
  | .d x => .ok x
  | _ => .bad
def eA (f : Sg → R A) : Sg → R PyData := fun ρ => (f ρ).bind getD
theorem pd_of {f : Sg → R A} (h : PV X c E e f) : PD X c E e (eA f) := PE.imp h fun σ H Q ⟨ρ, F, ab, k⟩ => ⟨ρ, F, ab, (Rk.bind k).imp fun d _ q v F' H' s r => by
  cases d with
  | d x => exact Rk.ok q v F' H' s r
  | _ => exact False.elim q⟩
def eL (f : Sg → R (List PyData)) : Sg → R PyData := fun ρ => (f ρ).bind fun xs => .ok (.list xs)
/-- a new list is let stay -/
theorem pd_ofN {f : Sg → R (List PyData)} (h : PN X c E e f) : PD X c E e (eL f) := PE.imp h fun σ H Q ⟨ρ, F, ab, k⟩ => ⟨ρ, F, ab, (Rk.bind k).imp fun xs _ q v F' H' s r => by
  obtain ⟨p, vs, h1, h2, h3, h4, h5⟩ := r
  subst h1
  refine Rk.ok q (.ref p) (upd F' p (.lst vs)) H' ⟨s.hh, fun a o z => ?_, fun a o z => ?_, fun a z n => ?_⟩ (.lst (SqL.of upd_same) (h5.same (Same.upd h4)))
  · rw [upd_ne (ne_of_none (s.ff a o z) h4)]; exact s.ff a o z
  · by_cases w : a = p
    · subst w; rw [upd_same] at z; rw [h3]; exact z
    · rw [upd_ne w] at z; exact s.fh a o z
  · by_cases w : a = p
    · subst w; exact .inl h2
    · rw [upd_ne w] at n; exact s.nw a z n⟩
/-- read on the spot -/
def e1 {α β : Type} (g : α → R β) (f : Sg → R α) : Sg → R β := fun ρ => (f ρ).bind g
def e2 {α β γ : Type} (g : α → β → R γ) (f : Sg → R α) (f' : Sg → R β) : Sg → R γ := fun ρ => (f ρ).bind fun x => (f' ρ).bind fun y => g x y

/-! ### operations -/
def dAdd : PyData → PyData → R PyData
  | .int i, .int j => .ok (.int (i + j))
  | .str x, .str y => if x.length + y.length ≤ sizeLine then .ok (.str (x ++ y)) else .bad
  | .tuple xs, .tuple ys => if xs.isEmpty = false ∧ xs.length + ys.length ≤ sizeLine then .ok (.tuple (xs ++ ys)) else .bad
  | _, _ => .bad
def dSub : PyData → PyData → R PyData
  | .int i, .int j => .ok (.int (i - j))
  | _, _ => .bad
def dMul : PyData → PyData → R PyData
  | .int i, .int j => if (-18446744073709551616 < i ∧ i < 18446744073709551616) ∨ (-18446744073709551616 < j ∧ j < 18446744073709551616) then .ok (.int (i * j)) else .bad
  | _, _ => .bad
def dDiv : PyData → PyData → R PyData
  | .int i, .int j => if 0 < j ∧ j < 18446744073709551616 then .ok (.int (i / j)) else .bad
  | _, _ => .bad
def dMod : PyData → PyData → R PyData
  | .int i, .int j => if 0 < j then .ok (.int (i % j)) else .bad
  | _, _ => .bad
def dNeg : PyData → R PyData
  | .int i => .ok (.int (-i))
  | _ => .bad
def dLt : PyData → PyData → R PyData
  | .int i, .int j => .ok (.bool (decide (i < j)))
  | _, _ => .bad
def dLe : PyData → PyData → R PyData
  | .int i, .int j => .ok (.bool (decide (i ≤ j)))
  | _, _ => .bad
def dGt : PyData → PyData → R PyData
  | .int i, .int j => .ok (.bool (decide (j < i)))
  | _, _ => .bad
def dGe : PyData → PyData → R PyData
  | .int i, .int j => .ok (.bool (decide (j ≤ i)))
  | _, _ => .bad
def dEq (x y : PyData) : R PyData := if SeqAt.shaped x = true ∧ SeqAt.shaped y = true then .ok (.bool (PyData.eqv x y)) else .bad
def dNe (x y : PyData) : R PyData := if SeqAt.shaped x = true ∧ SeqAt.shaped y = true then .ok (.bool (!PyData.eqv x y)) else .bad
def isNon : PyData → Bool
  | .none => true
  | _ => false
def dIs (x y : PyData) : R PyData := if isNon y = true then .ok (.bool (isNon x)) else .bad
def dIsnt (x y : PyData) : R PyData := if isNon y = true then .ok (.bool (!isNon x)) else .bad
def inD : PyData → PyData → Option Bool
  | .str i, .str j => some (!(Builtin.Str.occurrences j i 0 j.length 1).isEmpty)
  | x, .list xs => if SeqAt.shaped x = true ∧ SeqAt.shaped (.list xs) = true then some (xs.any fun y => PyData.eqv y x) else none
  | x, .tuple xs => if SeqAt.shaped x = true ∧ SeqAt.shaped (.tuple xs) = true then some (xs.any fun y => PyData.eqv y x) else none
  | _, _ => none
def dIn (x y : PyData) : R PyData := match inD x y with
  | some b => .ok (.bool b)
  | none => .bad
def dNin (x y : PyData) : R PyData := match inD x y with
  | some b => .ok (.bool (!b))
  | none => .bad
def dIx : PyData → PyData → R PyData
  | .list xs, .int i => match atI xs i with
    | some v => .ok v
    | none => .bad
  | .tuple xs, .int i => match atI xs i with
    | some v => .ok v
    | none => .bad
  | .str z, .int i => if z.length ≤ sizeLine then match atI z.cps.toList i with
    | some u => .ok (.str ⟨#[u]⟩)
    | none => .bad else .bad
  | _, _ => .bad
end
end Fl
namespace Fl
open PySem L2 PyProof.Rows
section
variable {X : Cx} {c : Ct} {E : XK} {e a b : Expr} {α β γ : Type} {Ra : VR α} {Rb : VR β} {Rc : VR γ} {pos : Pos}
def r2D (Ra : VR α) (Rb : VR β) (Rc : VR γ) (g : α → β → R γ) : R2 := fun v u H Q => ∃ H0 H1 F a b d, Same F H ∧ Ra a v H0 F H ∧ Rb b u H1 F H ∧ g a b = .ok d ∧ ∀ w F' H', Ext F H F' H' → Rc d w H F' H' → Q w H'
def r1D (Ra : VR α) (Rb : VR β) (g : α → R β) : V → Hp → VK → Prop := fun v H Q => ∃ H0 F a b, Same F H ∧ Ra a v H0 F H ∧ g a = .ok b ∧ ∀ w F' H', Ext F H F' H' → Rb b w H F' H' → Q w H'
theorem op2_r {g : α → β → R γ} : Op2 c Ra Rb Rc g (r2D Ra Rb Rc g) := fun H0 H1 F H a b d v u Q sf ra rb eg q => ⟨H0, H1, F, a, b, d, sf, ra, rb, eg, q⟩
theorem op1_r {g : α → R β} : Op1 c Ra Rb g (r1D Ra Rb g) := fun H0 F H a b v Q sf ra eg q => ⟨H0, F, a, b, sf, ra, eg, q⟩
/-- the rule of a two-place operation on data -/
theorem pd_bin {op : Operator} {g : PyData → PyData → R PyData} {fa fb : Sg → R PyData} (ho : OpR X (binaryOp op) (r2D (relR c) (relR c) (relD c) g)) (hp : Plain2 g) (ha : PR X c E a fa) (hb : PR X c E b fb) : PD X c E (.BinOp a op b pos) (e2 g fa fb) :=
  PE.imp (pe_op ho ha hb) fun σ H Q h => tV2 op2_r hp (keepsR c) (backD c) h
theorem pd_un {op : UnaryOp} {g : PyData → R PyData} {fa : Sg → R PyData} (ho : UnR X (unaryOp op) (r1D (relR c) (relD c) g)) (hp : Plain1 g) (ha : PR X c E a fa) : PD X c E (.UnaryOp op a pos) (e1 g fa) :=
  PE.imp (pe_un ho ha) fun σ H Q h => tV1 op1_r hp (backD c) h
theorem pd_cmp {op : CmpOp} {g : PyData → PyData → R PyData} {fa fb : Sg → R PyData} (ho : OpR X (compareOp op) (r2D (relR c) (relR c) (relD c) g)) (hp : Plain2 g) (ha : PR X c E a fa) (hb : PR X c E b fb) (hm : behindInMarks op b = false) : PD X c E (.Compare a [op] [b] pos) (e2 g fa fb) :=
  PE.imp (pe_cmpR ho ha hb hm) fun σ H Q h => tV2 op2_r hp (keepsR c) (backD c) h
theorem pd_ix {g : PyData → PyData → R PyData} {fa fb : Sg → R PyData} (ho : IxR X (r2D (relR c) (relR c) (relD c) g)) (hp : Plain2 g) (ha : PR X c E a fa) (hb : PR X c E b fb) (hs : PlainIx b := by exact fun _ _ => rfl) : PD X c E (.Subscript a b pos) (e2 g fa fb) :=
  PE.imp (L2.pe_ix ho ha hb hs) fun σ H Q h => tV2 op2_r hp (keepsR c) (backD c) h
theorem opr_add (hK : X.K = c.K) : OpR X (binaryOp .Add) (r2D (relR c) (relR c) (relD c) dAdd) := by
  intro pins s σ H v u x y Q I rx ry h
  obtain ⟨H0, H1, F, a, b, d, sf, ra, rb, eg, q⟩ := h
  unfold dAdd at eg
  split at eg
  · rename_i i j
    cases eg
    obtain rfl := DatR.int_of ra
    obtain rfl := DatR.int_of rb
    exact op_add pins s σ H _ _ x y Q I rx ry ⟨i, j, rfl, rfl, q _ F H (Ext.refl sf) (.int _)⟩
  · rename_i i j
    split at eg
    · rename_i hz
      cases eg
      obtain rfl := DatR.str_of ra
      obtain rfl := DatR.str_of rb
      exact op_add_str pins s σ H _ _ x y Q I rx ry ⟨i, j, rfl, rfl, hz, q _ F H (Ext.refl sf) (.str _)⟩
    · cases eg
  · rename_i xs ys
    split at eg
    · rename_i hz
      cases eg
      obtain ⟨pa, vs, rfl, fa, ha, da⟩ := DatR.tup_of sf ra
      obtain ⟨pb, us, rfl, fb, hb, db⟩ := DatR.tup_of sf rb
      rw [← hK] at ha hb
      refine op_catT pins s σ H _ _ x y Q I rx ry ⟨pa, pb, vs, us, rfl, rfl, ha, hb, ?_, by rw [da.length, db.length]; exact hz.2, fun z => ?_, fun z p hp => ?_⟩
      · intro z; subst z; obtain rfl : xs = [] := by cases da; rfl
        exact absurd hz.1 (by decide)
      · subst z
        obtain rfl : ys = [] := by cases db; rfl
        exact q _ F H (Ext.refl sf) (by rw [List.append_nil]; exact .tup fa da)
      · exact q _ _ _ (Ext.new sf hp) (.tup (SqT.of upd_same) ((da.append db).same (Same.upd (same_none sf hp))))
    · cases eg
  · cases eg
theorem plain_add : Plain2 dAdd := by
  intro a b e h
  unfold dAdd at h
  split at h <;> (try split at h) <;> cases h
theorem opr_ii {f : Value → Value → Sem Value} {g : PyData → PyData → R PyData} {C : Int → Int → Prop} {k : Int → Int → PyData} {kv : Int → Int → V} (ho : OpR X f (rI C kv)) (hk : ∀ i j F, DatV c.K F (kv i j) (k i j))
    (hg : ∀ a b d, g a b = .ok d → ∃ i j, a = .int i ∧ b = .int j ∧ C i j ∧ d = k i j) : OpR X f (r2D (relR c) (relR c) (relD c) g) := by
  intro pins s σ H v u x y Q I rx ry h
  obtain ⟨H0, H1, F, a, b, d, sf, ra, rb, eg, q⟩ := h
  obtain ⟨i, j, rfl, rfl, hc, rfl⟩ := hg a b d eg
  obtain rfl := DatR.int_of ra
  obtain rfl := DatR.int_of rb
  exact ho pins s σ H _ _ x y Q I rx ry ⟨i, j, rfl, rfl, hc, q _ F H (Ext.refl sf) (hk i j F)⟩
theorem rI_of {f : Value → Value → Sem Value} {kv : Int → Int → V} (ho : OpR X f (rI0 kv)) : OpR X f (rI (fun _ _ => True) kv) := fun pins s σ H x y v u Q I rx ry ⟨i, j, h1, h2, _, q⟩ => ho pins s σ H x y v u Q I rx ry ⟨i, j, h1, h2, q⟩
theorem opr_sub : OpR X (binaryOp .Sub) (r2D (relR c) (relR c) (relD c) dSub) := opr_ii (rI_of op_sub) (fun _ _ _ => .int _) fun a b d h => by
  unfold dSub at h; split at h
  · cases h; exact ⟨_, _, rfl, rfl, trivial, rfl⟩
  · cases h
theorem opr_mul : OpR X (binaryOp .Mult) (r2D (relR c) (relR c) (relD c) dMul) := opr_ii op_mul (fun _ _ _ => .int _) fun a b d h => by
  unfold dMul at h; split at h
  · split at h
    · rename_i hc; cases h; exact ⟨_, _, rfl, rfl, hc, rfl⟩
    · cases h
  · cases h
theorem opr_div : OpR X (binaryOp .FloorDiv) (r2D (relR c) (relR c) (relD c) dDiv) := opr_ii op_fdivW (fun _ _ _ => .int _) fun a b d h => by
  unfold dDiv at h; split at h
  · split at h
    · rename_i hc; cases h; exact ⟨_, _, rfl, rfl, hc, rfl⟩
    · cases h
  · cases h
theorem opr_mod : OpR X (binaryOp .Mod) (r2D (relR c) (relR c) (relD c) dMod) := opr_ii op_mod (fun _ _ _ => .int _) fun a b d h => by
  unfold dMod at h; split at h
  · split at h
    · rename_i hc; cases h; exact ⟨_, _, rfl, rfl, hc, rfl⟩
    · cases h
  · cases h
theorem opr_lt : OpR X (compareOp .Lt) (r2D (relR c) (relR c) (relD c) dLt) := opr_ii (rI_of op_lt) (fun _ _ _ => .bl _) fun a b d h => by
  unfold dLt at h; split at h
  · cases h; exact ⟨_, _, rfl, rfl, trivial, rfl⟩
  · cases h
theorem opr_le : OpR X (compareOp .LtE) (r2D (relR c) (relR c) (relD c) dLe) := opr_ii (rI_of op_le) (fun _ _ _ => .bl _) fun a b d h => by
  unfold dLe at h; split at h
  · cases h; exact ⟨_, _, rfl, rfl, trivial, rfl⟩
  · cases h
theorem opr_gt : OpR X (compareOp .Gt) (r2D (relR c) (relR c) (relD c) dGt) := opr_ii (rI_of op_gt) (fun _ _ _ => .bl _) fun a b d h => by
  unfold dGt at h; split at h
  · cases h; exact ⟨_, _, rfl, rfl, trivial, rfl⟩
  · cases h
theorem opr_ge : OpR X (compareOp .GtE) (r2D (relR c) (relR c) (relD c) dGe) := opr_ii (rI_of op_ge) (fun _ _ _ => .bl _) fun a b d h => by
  unfold dGe at h; split at h
  · cases h; exact ⟨_, _, rfl, rfl, trivial, rfl⟩
  · cases h
theorem plain_sub : Plain2 dSub := by intro a b e h; unfold dSub at h; split at h <;> cases h
theorem plain_mul : Plain2 dMul := by intro a b e h; unfold dMul at h; split at h <;> (try split at h) <;> cases h
theorem plain_div : Plain2 dDiv := by intro a b e h; unfold dDiv at h; split at h <;> (try split at h) <;> cases h
theorem plain_mod : Plain2 dMod := by intro a b e h; unfold dMod at h; split at h <;> (try split at h) <;> cases h
theorem plain_lt : Plain2 dLt := by intro a b e h; unfold dLt at h; split at h <;> cases h
theorem plain_le : Plain2 dLe := by intro a b e h; unfold dLe at h; split at h <;> cases h
theorem plain_gt : Plain2 dGt := by intro a b e h; unfold dGt at h; split at h <;> cases h
theorem plain_ge : Plain2 dGe := by intro a b e h; unfold dGe at h; split at h <;> cases h
theorem plain_eq : Plain2 dEq := by intro a b e h; unfold dEq at h; split at h <;> cases h
theorem plain_ne : Plain2 dNe := by intro a b e h; unfold dNe at h; split at h <;> cases h
theorem plain_is : Plain2 dIs := by intro a b e h; unfold dIs at h; split at h <;> cases h
theorem plain_isnt : Plain2 dIsnt := by intro a b e h; unfold dIsnt at h; split at h <;> cases h
theorem plain_nin : Plain2 dNin := by intro a b e h; unfold dNin at h; split at h <;> cases h
theorem plain_neg : Plain1 dNeg := by intro a e h; unfold dNeg at h; split at h <;> cases h
theorem plain_ix : Plain2 dIx := by
  intro a b e h
  unfold dIx at h
  split at h <;> (try split at h) <;> (try split at h) <;> cases h
theorem unr_neg : UnR X (unaryOp .USub) (r1D (relR c) (relD c) dNeg) := by
  intro pins s σ H v x Q I rx h
  obtain ⟨H0, F, a, d, sf, ra, eg, q⟩ := h
  unfold dNeg at eg
  split at eg
  · rename_i i
    cases eg
    obtain rfl := DatR.int_of ra
    exact un_neg pins s σ H _ x Q I rx ⟨i, rfl, q _ F H (Ext.refl sf) (.int _)⟩
  · cases eg
theorem opr_eq (hK : X.K = c.K) (hu : X.A.units + 64 < cLine) : OpR X (compareOp .Eq) (r2D (relR c) (relR c) (relD c) dEq) := by
  intro pins s σ H v u x y Q I rx ry h
  obtain ⟨H0, H1, F, a, b, d, sf, ra, rb, eg, q⟩ := h
  unfold dEq at eg
  split at eg
  · rename_i hs
    cases eg
    exact op_eqD hu pins s σ H _ _ x y Q I rx ry ⟨a, b, by rw [hK]; exact DatR.heap sf ra, by rw [hK]; exact DatR.heap sf rb, hs.1, hs.2, q _ F H (Ext.refl sf) (.bl _)⟩
  · cases eg
theorem opr_ne (hK : X.K = c.K) (hu : X.A.units + 64 < cLine) : OpR X (compareOp .NotEq) (r2D (relR c) (relR c) (relD c) dNe) := by
  intro pins s σ H v u x y Q I rx ry h
  obtain ⟨H0, H1, F, a, b, d, sf, ra, rb, eg, q⟩ := h
  unfold dNe at eg
  split at eg
  · rename_i hs
    cases eg
    exact op_neD hu pins s σ H _ _ x y Q I rx ry ⟨a, b, by rw [hK]; exact DatR.heap sf ra, by rw [hK]; exact DatR.heap sf rb, hs.1, hs.2, q _ F H (Ext.refl sf) (.bl _)⟩
  · cases eg
theorem isNon_iff {K : PySem.W.Frag} {F H : Hp} {v : V} {d : PyData} (h : DatR K F H v d) : decide (v = .non) = isNon d := by
  rcases h with h | ⟨p, vs, xs, h1, h2, _⟩
  · cases h <;> rfl
  · subst h1 h2; rfl
theorem opr_is : OpR X (compareOp .Is) (r2D (relR c) (relR c) (relD c) dIs) := by
  intro pins s σ H v u x y Q I rx ry h
  obtain ⟨H0, H1, F, a, b, d, sf, ra, rb, eg, q⟩ := h
  unfold dIs at eg
  split at eg
  · rename_i hs
    cases eg
    have e2 := isNon_iff rb
    rw [hs] at e2
    refine op_isN pins s σ H _ _ x y Q I rx ry ⟨of_decide_eq_true e2, q _ F H (Ext.refl sf) ?_⟩
    rw [isNon_iff ra]; exact .bl _
  · cases eg
theorem opr_isnt : OpR X (compareOp .IsNot) (r2D (relR c) (relR c) (relD c) dIsnt) := by
  intro pins s σ H v u x y Q I rx ry h
  obtain ⟨H0, H1, F, a, b, d, sf, ra, rb, eg, q⟩ := h
  unfold dIsnt at eg
  split at eg
  · rename_i hs
    cases eg
    have e2 := isNon_iff rb
    rw [hs] at e2
    refine op_notN pins s σ H _ _ x y Q I rx ry ⟨of_decide_eq_true e2, q _ F H (Ext.refl sf) ?_⟩
    rw [isNon_iff ra]; exact .bl _
  · cases eg
theorem shaped_all {xs : List PyData} (h : SeqAt.shaped (.list xs) = true) : PyData.canLayAll0 xs = true ∧ PyData.depthAll xs ≤ 63 := by
  have h' : (PyData.canLay0 (.list xs) && decide ((PyData.list xs).depth ≤ 64)) = true := h
  rw [Bool.and_eq_true] at h'
  have hd : PyData.depthAll xs + 1 ≤ 64 := of_decide_eq_true h'.2
  exact ⟨h'.1, by omega⟩
theorem shaped_allT {xs : List PyData} (h : SeqAt.shaped (.tuple xs) = true) : PyData.canLayAll0 xs = true ∧ PyData.depthAll xs ≤ 63 := by
  have h' : (PyData.canLay0 (.tuple xs) && decide ((PyData.tuple xs).depth ≤ 64)) = true := h
  rw [Bool.and_eq_true] at h'
  have hd : PyData.depthAll xs + 1 ≤ 64 := of_decide_eq_true h'.2
  exact ⟨h'.1, by omega⟩
theorem shaped_lay {d : PyData} (h : SeqAt.shaped d = true) : d.canLay0 = true := by
  have h' : (PyData.canLay0 d && decide (d.depth ≤ 64)) = true := h
  rw [Bool.and_eq_true] at h'
  exact h'.1
theorem inD_cases {x y : PyData} {b : Bool} (h : inD x y = some b) : (∃ i j, x = .str i ∧ y = .str j ∧ b = !(Builtin.Str.occurrences j i 0 j.length 1).isEmpty) ∨
    (∃ xs, y = .list xs ∧ SeqAt.shaped x = true ∧ SeqAt.shaped (.list xs) = true ∧ b = xs.any fun z => PyData.eqv z x) ∨ (∃ xs, y = .tuple xs ∧ SeqAt.shaped x = true ∧ SeqAt.shaped (.tuple xs) = true ∧ b = xs.any fun z => PyData.eqv z x) := by
  unfold inD at h
  split at h
  · cases h; exact .inl ⟨_, _, rfl, rfl, rfl⟩
  · split at h
    · rename_i hs; cases h; exact .inr (.inl ⟨_, rfl, hs.1, hs.2, rfl⟩)
    · cases h
  · split at h
    · rename_i hs; cases h; exact .inr (.inr ⟨_, rfl, hs.1, hs.2, rfl⟩)
    · cases h
  · cases h
theorem min_le63 {a b : Nat} (h : a ≤ 63) : min a b ≤ 63 := Nat.le_trans (Nat.min_le_left _ _) h
theorem opr_in (hK : X.K = c.K) (hu : X.A.units + 64 < cLine) : OpR X (compareOp .In) (r2D (relR c) (relR c) (relD c) dIn) := by
  intro pins s σ H v u x y Q I rx ry h
  obtain ⟨H0, H1, F, a, b, d, sf, ra, rb, eg, q⟩ := h
  unfold dIn at eg
  split at eg
  · rename_i bb hb
    cases eg
    have fin : EP X pins σ Q (.bool bb) s := ⟨.bl bb, H, I, rfl, q _ F H (Ext.refl sf) (.bl _)⟩
    rcases inD_cases hb with ⟨i, j, rfl, rfl, rfl⟩ | ⟨xs, rfl, h1, h2, rfl⟩ | ⟨xs, rfl, h1, h2, rfl⟩
    · obtain rfl := DatR.str_of ra
      obtain rfl := DatR.str_of rb
      exact op_in_str pins s σ H _ _ x y Q I rx ry ⟨i, j, rfl, rfl, q _ F H (Ext.refl sf) (.bl _)⟩
    · obtain ⟨as, r1⟩ := DatV.reads I (by rw [hK]; exact DatR.heap sf ra) rx
      obtain ⟨bs, r2⟩ := DatV.reads I (by rw [hK]; exact DatR.heap sf rb) ry
      have hs := shaped_all h2
      have hm := min_le63 (b := a.depth) hs.2
      exact SeqAt.in_list_reads r2 r1 hs.1 (shaped_lay h1) (by omega) fin
    · obtain ⟨as, r1⟩ := DatV.reads I (by rw [hK]; exact DatR.heap sf ra) rx
      obtain ⟨bs, r2⟩ := DatV.reads I (by rw [hK]; exact DatR.heap sf rb) ry
      have hs := shaped_allT h2
      have hm := min_le63 (b := a.depth) hs.2
      exact SeqAt.in_tuple_reads r2 r1 hs.1 (shaped_lay h1) (by omega) fin
  · cases eg
theorem opr_nin (hK : X.K = c.K) (hu : X.A.units + 64 < cLine) : OpR X (compareOp .NotIn) (r2D (relR c) (relR c) (relD c) dNin) := by
  intro pins s σ H v u x y Q I rx ry h
  obtain ⟨H0, H1, F, a, b, d, sf, ra, rb, eg, q⟩ := h
  unfold dNin at eg
  split at eg
  · rename_i bb hb
    cases eg
    have fin : EP X pins σ Q (.bool (!bb)) s := ⟨.bl (!bb), H, I, rfl, q _ F H (Ext.refl sf) (.bl _)⟩
    rcases inD_cases hb with ⟨i, j, rfl, rfl, rfl⟩ | ⟨xs, rfl, h1, h2, rfl⟩ | ⟨xs, rfl, h1, h2, rfl⟩
    · obtain rfl := DatR.str_of ra
      obtain rfl := DatR.str_of rb
      exact op_notin_str pins s σ H _ _ x y Q I rx ry ⟨i, j, rfl, rfl, q _ F H (Ext.refl sf) (.bl _)⟩
    · obtain ⟨as, r1⟩ := DatV.reads I (by rw [hK]; exact DatR.heap sf ra) rx
      obtain ⟨bs, r2⟩ := DatV.reads I (by rw [hK]; exact DatR.heap sf rb) ry
      have hs := shaped_all h2
      have hm := min_le63 (b := a.depth) hs.2
      exact SeqAt.notIn_list_reads r2 r1 hs.1 (shaped_lay h1) (by omega) fin
    · obtain ⟨as, r1⟩ := DatV.reads I (by rw [hK]; exact DatR.heap sf ra) rx
      obtain ⟨bs, r2⟩ := DatV.reads I (by rw [hK]; exact DatR.heap sf rb) ry
      have hs := shaped_allT h2
      have hm := min_le63 (b := a.depth) hs.2
      exact SeqAt.notIn_tuple_reads r2 r1 hs.1 (shaped_lay h1) (by omega) fin
  · cases eg
theorem ixr_d (hK : X.K = c.K) : IxR X (r2D (relR c) (relR c) (relD c) dIx) := by
  intro value slice pins s σ H v u x y Q I rx ry h hs
  obtain ⟨H0, H1, F, a, b, d, sf, ra, rb, eg, q⟩ := h
  unfold dIx at eg
  split at eg
  · rename_i xs i
    split at eg
    · rename_i w hw
      cases eg
      obtain ⟨p, vs, rfl, h1, h2⟩ := DatR.lst_of sf ra
      obtain rfl := DatR.int_of rb
      obtain ⟨z, h3, h4⟩ := datVs_at h2 hw
      rw [← hK] at h1
      exact ix_list value slice pins s σ H _ _ x y Q I rx ry ⟨p, vs, i, z, rfl, rfl, h1, h3, q _ F H (Ext.refl sf) h4⟩ hs
    · cases eg
  · rename_i xs i
    split at eg
    · rename_i w hw
      cases eg
      obtain ⟨p, vs, rfl, _, h1, h2⟩ := DatR.tup_of sf ra
      obtain rfl := DatR.int_of rb
      obtain ⟨z, h3, h4⟩ := datVs_at h2 hw
      rw [← hK] at h1
      exact ix_tup value slice pins s σ H _ _ x y Q I rx ry ⟨p, vs, i, z, rfl, rfl, h1, h3, q _ F H (Ext.refl sf) h4⟩ hs
    · cases eg
  · rename_i z i
    split at eg
    · rename_i hz
      split at eg
      · rename_i w hw
        cases eg
        obtain rfl := DatR.str_of ra
        obtain rfl := DatR.int_of rb
        exact ix_str value slice pins s σ H _ _ x y Q I rx ry ⟨z, i, w, rfl, rfl, hz, hw, q _ F H (Ext.refl sf) (.str _)⟩ hs
      · cases eg
    · cases eg
  · cases eg

/-! ### tests -/
def tTf (c : Ct) (E : XK) (f : Sg → R Bool) : TT := fun σ H Q => ∃ ρ F, Ab c ρ σ F H ∧ Rk c E F H (f ρ) fun b => ∀ F' H', Ext F H F' H' → Q b H'
abbrev PTf (X : Cx) (c : Ct) (E : XK) (e : Expr) (f : Sg → R Bool) : Prop := PT X e (tTf c E f)
def asB : PyData → R Bool
  | .bool b => .ok b
  | _ => .bad
theorem test_of {f : Sg → R PyData} {σ : L2.St} {H : Hp} {Q : Bool → Hp → Prop} (h : tTf c E (e1 asB f) σ H Q) : tV (relD c) c E f σ H fun x H' => ∃ k, x = .bl k ∧ Q k H' := by
  obtain ⟨ρ, F, ab, h⟩ := h
  refine ⟨ρ, F, ab, (Rk.bind h).imp fun d _ q v F' H' s r => ?_⟩
  cases d with
  | bool b => exact ⟨b, DatV.bl_of r, Rk.ok q F' H' s⟩
  | _ => exact False.elim q
theorem pt_cmp {op : CmpOp} {g : PyData → PyData → R PyData} {fa fb : Sg → R PyData} (ho : OpR X (compareOp op) (r2D (relR c) (relR c) (relD c) g)) (hp : Plain2 g) (ha : PR X c E a fa) (hb : PR X c E b fb) (hm : behindInMarks op b = false) : PTf X c E (.Compare a [op] [b] pos) (e1 asB (e2 g fa fb)) :=
  PT.imp (pt_cmpR ho ha hb hm) fun σ H Q h => tV2 op2_r hp (keepsR c) (backD c) (test_of h)
theorem pt_val {f : Sg → R PyData} (h : PD X c E e f) (he : ∀ whole, isTrue e X.env whole = (do let v ← whole; standAt e.pos; holding [v] (truthy v)) := by intro _; rfl) : PTf X c E e (e1 asB f) :=
  PT.imp (L2.pt_val h he) fun σ H Q h => test_of h
def bAnd (f g : Sg → R Bool) : Sg → R Bool := fun ρ => (f ρ).bind fun b => if b = true then g ρ else .ok false
def bOr (f g : Sg → R Bool) : Sg → R Bool := fun ρ => (f ρ).bind fun b => if b = true then .ok true else g ρ
def bNot (f : Sg → R Bool) : Sg → R Bool := fun ρ => (f ρ).bind fun b => .ok (!b)
abbrev PWf (X : Cx) (c : Ct) (E : XK) (e : Expr) (f : Sg → R Bool) : Prop := PW X e (tTf c E f)
theorem PW.imp {X : Cx} {e : Expr} {t t' : TT} (h : PW X e t) (i : ∀ σ H Q, t' σ H Q → t σ H Q) : PW X e t' := fun whole pins s σ H Q I q => h whole pins s σ H Q I (i σ H Q q)
theorem tand {f g : Sg → R Bool} {σ : L2.St} {H : Hp} {Q : Bool → Hp → Prop} (h : tTf c E (bAnd f g) σ H Q) : tAnd (tTf c E f) (tTf c E g) σ H Q := by
  obtain ⟨ρ, F, ab, h⟩ := h
  refine ⟨ρ, F, ab, (Rk.bind h).imp fun b _ q F' H' s => ?_⟩
  cases b with
  | true => exact ⟨ρ, F', ab.ext s, (Rk.ext s q).imp fun d _ z F2 H2 s2 => z F2 H2 (s.trans s2)⟩
  | false => exact Rk.ok q F' H' s
theorem pw_and1 {f : Sg → R Bool} (h : PTf X c E a f) : PWf X c E (.BoolOp .And [a] pos) f := L2.pw_and1 h
theorem pw_and {f g : Sg → R Bool} {rest : List Expr} (h : PTf X c E a f) (h2 : PWf X c E (.BoolOp .And (b :: rest) pos) g) : PWf X c E (.BoolOp .And (a :: b :: rest) pos) (bAnd f g) := PW.imp (L2.pw_and h h2) fun _ _ _ q => tand q
/-! ### and, or, not as values; a if t else b -/
def eAnd (f g : Sg → R PyData) : Sg → R PyData := fun ρ => (f ρ).bind fun x => (asB x).bind fun b => if b = true then g ρ else .ok (.bool false)
def eOr (f g : Sg → R PyData) : Sg → R PyData := fun ρ => (f ρ).bind fun x => (asB x).bind fun b => if b = true then .ok (.bool true) else g ρ
def eNot (f : Sg → R PyData) : Sg → R PyData := fun ρ => (f ρ).bind fun x => (asB x).bind fun b => .ok (.bool (!b))
def eIf {α : Type} (t : Sg → R Bool) (f g : Sg → R α) : Sg → R α := fun ρ => (t ρ).bind fun b => if b = true then f ρ else g ρ
theorem pd_if {t : Sg → R Bool} {f g : Sg → R PyData} {q : Expr} (hq : PTf X c E q t) (h : PD X c E a f) (h2 : PD X c E b g) : PD X c E (.IfExp q a b pos) (eIf t f g) := PE.imp (pe_ifExp hq h h2) fun σ H Q ⟨ρ, F, ab, k⟩ => by
  refine ⟨ρ, F, ab, (Rk.bind k).imp fun b _ q F' H' s => ?_⟩
  cases b with
  | true => exact iteT ⟨ρ, F', ab.ext s, (Rk.ext s q).imp fun d _ z v F2 H2 s2 => z v F2 H2 (s.trans s2)⟩
  | false => exact iteF ⟨ρ, F', ab.ext s, (Rk.ext s q).imp fun d _ z v F2 H2 s2 => z v F2 H2 (s.trans s2)⟩
/-- a op b op c -/
def eCh (g g' : PyData → PyData → R PyData) (fa fb fc : Sg → R PyData) : Sg → R PyData := fun ρ => (fa ρ).bind fun x => (fb ρ).bind fun y => (g x y).bind fun z => (asB z).bind fun k => if k = true then (fc ρ).bind fun w => g' y w else .ok (.bool false)
theorem tchain {g g' : PyData → PyData → R PyData} (hp : Plain2 g) (hp' : Plain2 g') {fa fb fc : Sg → R PyData} {σ : L2.St} {H : Hp} {Q : VK} (h : tV (relD c) c E (eCh g g' fa fb fc) σ H Q) :
    tChain (r2D (relR c) (relR c) (relD c) g) (r2D (relR c) (relR c) (relD c) g') (tV (relR c) c E fa) (tV (relR c) c E fb) (tV (relR c) c E fc) σ H Q := by
  obtain ⟨ρ, F, ab, h⟩ := h
  refine ⟨ρ, F, ab, (Rk.bind h).imp fun x _ q v F1 H1 s1 rv => ?_⟩
  refine ⟨ρ, F1, ab.ext s1, ((Rk.bind q).ext s1).imp fun y _ q u F2 H2 s2 ru => ?_⟩
  cases eg : g x y with
  | bad => rw [eg] at q; exact q.elim
  | ex e => exact absurd eg (hp x y e)
  | ok z =>
    rw [eg] at q
    refine ⟨H, H1, F2, x, y, z, s2.fh, DatR.ext s2 rv, ru, eg, fun w F3 H3 s3 rw' => ?_⟩
    have s13 := (s1.trans s2).trans s3
    cases z with
    | bool k =>
      refine ⟨k, DatV.bl_of rw', ?_⟩
      cases k with
      | false => exact iteF (Rk.ok q (.bl false) F3 H3 s13 (.bl false))
      | true =>
        have q' : Rk c E F H ((fc ρ).bind fun w => g' y w) (fun d => ∀ v F' H', Ext F H F' H' → relD c d v H F' H' → Q v H') := q
        refine iteT ⟨ρ, F3, ab.ext s13, ((Rk.bind q').ext s13).imp fun w _ q v' F4 H4 s4 rw2 => ?_⟩
        cases eg2 : g' y w with
        | bad => rw [eg2] at q; exact q.elim
        | ex e => exact absurd eg2 (hp' y w e)
        | ok z2 =>
          rw [eg2] at q
          exact ⟨H1, H3, F4, y, w, z2, s4.fh, DatR.ext (s3.trans s4) ru, rw2, eg2, fun w' F5 H5 s5 r5 => Rk.ok q w' F5 H5 ((s13.trans s4).trans s5) r5⟩
    | _ => exact False.elim q
theorem pt_chain {op op' : CmpOp} {g g' : PyData → PyData → R PyData} {cc : Expr} {fa fb fc : Sg → R PyData} (ho : OpR X (compareOp op) (r2D (relR c) (relR c) (relD c) g)) (hp : Plain2 g) (ho' : OpR X (compareOp op') (r2D (relR c) (relR c) (relD c) g')) (hp' : Plain2 g')
    (ha : PR X c E a fa) (hb : PR X c E b fb) (hc : PR X c E cc fc) (hm : lastMarks [op, op'] [b, cc] = false := by with_unfolding_all rfl) : PTf X c E (.Compare a [op, op'] [b, cc] pos) (e1 asB (eCh g g' fa fb fc)) :=
  PT.imp (L2.pt_chain ho ho' ha hb hc hm) fun σ H Q h => tchain hp hp' (test_of h)
end
end Fl
namespace Fl
open PySem L2 PyProof.Rows

/-! ### lists of expressions -/
def AFs (g : Gb) (K : PySem.W.Frag) (mg : Str → Option Value) (F : Hp) : List A → List V → Prop
  | [], [] => True
  | a :: as, v :: vs => AF g K mg F a v ∧ AFs g K mg F as vs
  | _, _ => False
theorem AFs.same {g : Gb} {K : PySem.W.Frag} {mg : Str → Option Value} {F F' : Hp} (s : Same F F') : ∀ {as : List A} {vs : List V}, AFs g K mg F as vs → AFs g K mg F' as vs
  | [], [], _ => trivial
  | a :: as, v :: vs, h => ⟨AF.same s h.1, AFs.same s h.2⟩
theorem AFs.len {g : Gb} {K : PySem.W.Frag} {mg : Str → Option Value} {F : Hp} : ∀ {as : List A} {vs : List V}, AFs g K mg F as vs → vs.length = as.length
  | [], [], _ => rfl
  | a :: as, v :: vs, h => by rw [List.length_cons, List.length_cons, AFs.len h.2]
theorem PA.imp {X : Cx} {es : List Expr} {t t' : TA} (h : PA X es t) (i : ∀ σ H Q, t' σ H Q → t σ H Q) : PA X es t' := fun pos pins s σ H Q I q => h pos pins s σ H Q I (i σ H Q q)
def tAd (c : Ct) (E : XK) (f : Sg → R (List PyData)) : TA := fun σ H Q => ∃ ρ F, Ab c ρ σ F H ∧ Rk c E F H (f ρ) fun ds => ∀ vs F' H', Ext F H F' H' → DatVs c.K F' vs ds → Q vs H'
def tAv (c : Ct) (E : XK) (f : Sg → R (List A)) : TA := fun σ H Q => ∃ ρ F, Ab c ρ σ F H ∧ Rk c E F H (f ρ) fun ds => ∀ vs F' H', Ext F H F' H' → AFs c.g c.K c.mg F' ds vs → Q vs H'
abbrev PAd (X : Cx) (c : Ct) (E : XK) (es : List Expr) (f : Sg → R (List PyData)) : Prop := PA X es (tAd c E f)
abbrev PAv (X : Cx) (c : Ct) (E : XK) (es : List Expr) (f : Sg → R (List A)) : Prop := PA X es (tAv c E f)
def aNil {α : Type} : Sg → R (List α) := fun _ => .ok []
def aCons {α : Type} (f : Sg → R α) (g : Sg → R (List α)) : Sg → R (List α) := fun ρ => (f ρ).bind fun x => (g ρ).bind fun xs => .ok (x :: xs)
section
variable {X : Cx} {c : Ct} {E : XK} {e a b : Expr} {es : List Expr} {pos : Pos}
theorem pad_nil : PAd X c E [] aNil := PA.imp pa_nil fun σ H Q ⟨ρ, F, ab, k⟩ => Rk.ok k [] F H (Ext.refl ab.fh) .nil
theorem pav_nil : PAv X c E [] aNil := PA.imp pa_nil fun σ H Q ⟨ρ, F, ab, k⟩ => Rk.ok k [] F H (Ext.refl ab.fh) trivial
theorem pad_cons {f : Sg → R PyData} {g : Sg → R (List PyData)} (h : PD X c E e f) (h2 : PAd X c E es g) (hs : starEach (e :: es) X.env = (false, eval e X.env) :: starEach es X.env := by rfl) : PAd X c E (e :: es) (aCons f g) := PA.imp (pa_cons h h2 hs) fun σ H Q ⟨ρ, F, ab, k⟩ => by
  refine ⟨ρ, F, ab, (Rk.bind k).imp fun x _ q v F1 H1 s1 r1 => ⟨ρ, F1, ab.ext s1, ((Rk.bind q).ext s1).imp fun xs _ q vs F2 H2 s2 r2 => ?_⟩⟩
  exact Rk.ok q (v :: vs) F2 H2 (s1.trans s2) (.cons (DatV.same s2.ff r1) r2)
theorem pav_cons {f : Sg → R A} {g : Sg → R (List A)} (h : PV X c E e f) (h2 : PAv X c E es g) (hs : starEach (e :: es) X.env = (false, eval e X.env) :: starEach es X.env := by rfl) : PAv X c E (e :: es) (aCons f g) := PA.imp (pa_cons h h2 hs) fun σ H Q ⟨ρ, F, ab, k⟩ => by
  refine ⟨ρ, F, ab, (Rk.bind k).imp fun x _ q v F1 H1 s1 r1 => ⟨ρ, F1, ab.ext s1, ((Rk.bind q).ext s1).imp fun xs _ q vs F2 H2 s2 r2 => ?_⟩⟩
  exact Rk.ok q (v :: vs) F2 H2 (s1.trans s2) ⟨AF.same s2.ff r1, r2⟩
/-! ### (a, b), [a, b] -/
def eTup (f : Sg → R (List PyData)) : Sg → R PyData := fun ρ => (f ρ).bind fun xs => if xs.length ≤ 16777216 then .ok (.tuple xs) else .bad
def nLst (f : Sg → R (List PyData)) : Sg → R (List PyData) := fun ρ => (f ρ).bind fun xs => if xs.length ≤ 16777216 then .ok xs else .bad
theorem line_eq : sizeLine = 16777216 := sizeLine_eq
theorem pd_tup {x1} {f : Sg → R (List PyData)} (h : PAd X c E es f) : PD X c E (.Tuple es x1 pos) (eTup f) := PE.imp (pe_tup h) fun σ H Q ⟨ρ, F, ab, k⟩ => by
  refine ⟨ρ, F, ab, (Rk.bind k).imp fun xs _ q vs F1 H1 s1 r1 => ?_⟩
  by_cases hz : xs.length ≤ 16777216
  · rw [if_pos hz] at q
    refine ⟨by rw [r1.length, line_eq]; exact hz, fun p hp => ?_⟩
    exact Rk.ok q (.ref p) _ _ (s1.trans (Ext.new s1.fh hp)) (.tup (SqT.of upd_same) (r1.same (Same.upd (same_none s1.fh hp))))
  · rw [if_neg hz] at q; exact q.elim
theorem pn_lst {f : Sg → R (List PyData)} (h : PAd X c E es f) : PN X c E (.List es pos) (nLst f) := PE.imp (pe_lst h) fun σ H Q ⟨ρ, F, ab, k⟩ => by
  refine ⟨ρ, F, ab, (Rk.bind k).imp fun xs _ q vs F1 H1 s1 r1 => ?_⟩
  by_cases hz : xs.length ≤ 16777216
  · rw [if_pos hz] at q
    refine ⟨by rw [r1.length, line_eq]; exact hz, fun p hp => ?_⟩
    exact Rk.ok q (.ref p) _ _ (s1.trans (Ext.own s1.fh hp)) ⟨p, vs, rfl, same_none s1.hh hp, upd_same, same_none s1.fh hp, r1⟩
  · rw [if_neg hz] at q; exact q.elim

/-! ### calls of Python's own -/
def dLen : PyData → R PyData
  | .str z => if z.length ≤ 16777216 then .ok (.int z.length) else .bad
  | .list xs => .ok (.int xs.length)
  | .tuple xs => .ok (.int xs.length)
  | _ => .bad
theorem plain_len : Plain1 dLen := by intro a e h; unfold dLen at h; split at h <;> (try split at h) <;> cases h
theorem pd_len {fa : Sg → R PyData} (hK : X.K = c.K) (h0 : PE X e (tCB (fun xs H Q => ∃ x n, xs = [x] ∧ LenV X.K x H n ∧ Q (.int n) H) (tCons (tV (relR c) c E fa) tNil))) : PD X c E e (e1 dLen fa) :=
  PE.imp h0 fun σ H Q h => by
    obtain ⟨ρ, F, ab, k⟩ := tV1 (Ra := relR c) op1_r plain_len (backD c) h
    refine ⟨ρ, F, ab, k.imp fun d _ q v F' H' s r => ?_⟩
    obtain ⟨H0, F1, a, d', sf, ra, eg, q⟩ := q v F' H' s r
    unfold dLen at eg
    split at eg
    · rename_i z
      split at eg
      · rename_i hz
        cases eg
        obtain rfl := DatR.str_of ra
        exact ⟨_, _, rfl, ⟨by rw [line_eq]; exact hz, rfl⟩, q _ F1 H' (Ext.refl sf) (.int _)⟩
      · cases eg
    · cases eg
      obtain ⟨p, vs, rfl, h1, h2⟩ := DatR.lst_of sf ra
      rw [← hK] at h1
      exact ⟨_, vs.length, rfl, .inl ⟨vs, h1, rfl⟩, q _ F1 H' (Ext.refl sf) (by rw [h2.length]; exact .int _)⟩
    · cases eg
      obtain ⟨p, vs, rfl, _, h1, h2⟩ := DatR.tup_of sf ra
      rw [← hK] at h1
      exact ⟨_, vs.length, rfl, .inr ⟨vs, h1, rfl⟩, q _ F1 H' (Ext.refl sf) (by rw [h2.length]; exact .int _)⟩
    · cases eg
def dTup : PyData → R PyData
  | .list xs => .ok (.tuple xs)
  | .tuple xs => .ok (.tuple xs)
  | _ => .bad
theorem plain_tup : Plain1 dTup := by intro a e h; unfold dTup at h; split at h <;> cases h
theorem pd_tuple {fa : Sg → R PyData} (hK : X.K = c.K) (h0 : PE X e (tCB (fun xs H Q => ∃ p ys, xs = [.ref p] ∧ ((SqL X.K H p ys ∧ ∀ l, H l = none → Q (.ref l) (upd H l (.tup ys))) ∨ (SqT X.K H p ys ∧ Q (.ref p) H))) (tCons (tV (relR c) c E fa) tNil))) : PD X c E e (e1 dTup fa) :=
  PE.imp h0 fun σ H Q h => by
    obtain ⟨ρ, F, ab, k⟩ := tV1 (Ra := relR c) op1_r plain_tup (backD c) h
    refine ⟨ρ, F, ab, k.imp fun d _ q v F' H' s r => ?_⟩
    obtain ⟨H0, F1, a, d', sf, ra, eg, q⟩ := q v F' H' s r
    unfold dTup at eg
    split at eg
    · cases eg
      obtain ⟨p, vs, rfl, h1, h2⟩ := DatR.lst_of sf ra
      rw [← hK] at h1
      exact ⟨p, vs, rfl, .inl ⟨h1, fun l hl => q _ _ _ (Ext.new sf hl) (.tup (SqT.of upd_same) (h2.same (Same.upd (same_none sf hl))))⟩⟩
    · cases eg
      obtain ⟨p, vs, rfl, f1, h1, h2⟩ := DatR.tup_of sf ra
      rw [← hK] at h1
      exact ⟨p, vs, rfl, .inr ⟨h1, q _ F1 H' (Ext.refl sf) (.tup f1 h2)⟩⟩
    · cases eg
def dLst : PyData → R (List PyData)
  | .list xs => .ok xs
  | .tuple xs => .ok xs
  | _ => .bad
def dInt : PyData → R PyData
  | .int i => .ok (.int i)
  | .bool b => .ok (.int (if b = true then 1 else 0))
  | _ => .bad
theorem plain_int : Plain1 dInt := by intro a e h; unfold dInt at h; split at h <;> cases h
theorem pd_intc {fa : Sg → R PyData} (h0 : PE X e (tCB (fun xs H Q => (∃ i, xs = [.int i] ∧ Q (.int i) H) ∨ ∃ k, xs = [.bl k] ∧ Q (.int (if k then 1 else 0)) H) (tCons (tV (relR c) c E fa) tNil))) : PD X c E e (e1 dInt fa) :=
  PE.imp h0 fun σ H Q h => by
    obtain ⟨ρ, F, ab, k⟩ := tV1 (Ra := relR c) op1_r plain_int (backD c) h
    refine ⟨ρ, F, ab, k.imp fun d _ q v F' H' s r => ?_⟩
    obtain ⟨H0, F1, a, d', sf, ra, eg, q⟩ := q v F' H' s r
    unfold dInt at eg
    split at eg
    · cases eg
      obtain rfl := DatR.int_of ra
      exact .inl ⟨_, rfl, q _ F1 H' (Ext.refl sf) (.int _)⟩
    · rename_i b
      cases eg
      obtain rfl := DatR.bl_of ra
      exact .inr ⟨b, rfl, q _ F1 H' (Ext.refl sf) (by cases b <;> exact .int _)⟩
    · cases eg
/-- all of a list of truths -/
def bools : List PyData → Option (List Bool)
  | [] => some []
  | .bool b :: t => (bools t).map (b :: ·)
  | _ => none
end
end Fl
namespace Fl
open PySem L2 PyProof.Rows
/-- how a statement ends -/
inductive Fw where
  | nx (ρ : Sg) | bk (ρ : Sg) | ct (ρ : Sg) | rt (a : A)
def FwOk (c : Ct) (F : Hp) (D : Ends) : Fw → Prop
  | .nx ρ => ∀ σ' F' H', Same F F' → Ab c ρ σ' F' H' → D.nx σ' H'
  | .bk ρ => ∀ σ' F' H', Same F F' → Ab c ρ σ' F' H' → D.bk σ' H'
  | .ct ρ => ∀ σ' F' H', Same F F' → Ab c ρ σ' F' H' → D.ct σ' H'
  | .rt a => ∀ v F' H', Ext c.F0 c.H0 F' H' → AF c.g c.K c.mg F' a v → D.rt v H'
theorem FwOk.same {c : Ct} {F F1 : Hp} {D : Ends} (s : Same F F1) : ∀ {w : Fw}, FwOk c F D w → FwOk c F1 D w
  | .nx ρ, h => fun σ' F' H' s' ab => h σ' F' H' (fun a o z => s' a o (s a o z)) ab
  | .bk ρ, h => fun σ' F' H' s' ab => h σ' F' H' (fun a o z => s' a o (s a o z)) ab
  | .ct ρ, h => fun σ' F' H' s' ab => h σ' F' H' (fun a o z => s' a o (s a o z)) ab
  | .rt a, h => h
def tSf (c : Ct) (E : XK) (f : Sg → R Fw) : TS := fun D σ H => ∃ ρ F, Ab c ρ σ F H ∧ Rk c E F H (f ρ) (FwOk c F D)
abbrev PSf (X : Cx) (c : Ct) (E : XK) (st : Stmt) (f : Sg → R Fw) : Prop := PS X st (tSf c E f)
abbrev PSSf (X : Cx) (c : Ct) (E : XK) (st : List Stmt) (f : Sg → R Fw) : Prop := PSs X st (tSf c E f)
/-! ### the names' things -/
theorem get_set {α : Type} {l : List α} {i j : Nat} {x y : α} (h : (l.set i x)[j]? = some y) : (i = j ∧ y = x ∧ i < l.length) ∨ (i ≠ j ∧ l[j]? = some y) := by
  by_cases e : i = j
  · subst e
    by_cases hl : i < l.length
    · rw [List.getElem?_set_self hl] at h; exact .inl ⟨rfl, (Option.some.inj h).symm, hl⟩
    · rw [List.getElem?_eq_none_iff.mpr (by rw [List.length_set]; omega)] at h; cases h
  · rw [List.getElem?_set_ne e] at h; exact .inr ⟨e, h⟩
theorem Ab.setF {c : Ct} {ρ : Sg} {σ : L2.St} {F H : Hp} {i : Nat} {a : A} {v : V} (b : Ab c ρ σ F H) (ha : AO c F H a v) (hn : a.own = true → ∀ (j : Nat) (a' : A), j ≠ i → ρ[j]? = some (some a') → a'.own = true → σ[j]? ≠ some (some v)) : Ab c (ρ.set i (some a)) (σ.set i (some v)) F H where
  len := by rw [List.length_set, List.length_set]; exact b.len
  fh := b.fh
  slot := fun j a' h => by
    rcases get_set h with ⟨e, q, hl⟩ | ⟨ne, q⟩
    · subst e
      cases q
      exact ⟨v, List.getElem?_set_self (by rw [← b.len]; exact hl), ha⟩
    · rw [List.getElem?_set_ne ne]; exact b.slot j a' q
  apart := fun j k a' b' hjk h1 h2 o1 o2 => by
    rcases get_set h1 with ⟨e, q, hl⟩ | ⟨ne, q⟩
    · subst e
      cases q
      rcases get_set h2 with ⟨e', q', hl'⟩ | ⟨ne', q'⟩
      · exact absurd e' hjk
      · rw [List.getElem?_set_self (by rw [← b.len]; exact hl), List.getElem?_set_ne ne']
        exact (hn o1 k b' (Ne.symm hjk) q' o2).symm
    · rcases get_set h2 with ⟨e', q', hl'⟩ | ⟨ne', q'⟩
      · subst e'
        cases q'
        rw [List.getElem?_set_self (by rw [← b.len]; exact hl'), List.getElem?_set_ne ne]
        exact hn o2 j a' hjk q o1
      · rw [List.getElem?_set_ne ne, List.getElem?_set_ne ne']
        exact b.apart j k a' b' hjk q q' o1 o2
  f0 := b.f0
  h0 := b.h0
  n0 := b.n0
  t0 := b.t0
theorem AO.of {c : Ct} {F H : Hp} : ∀ {a : A} {v : V}, AF c.g c.K c.mg F a v → AO c F H a v
  | .d x, v, h => h
  | .x e, v, h => h
  | .g k n G, v, h => h
theorem AF.notOwn {g : Gb} {K : PySem.W.Frag} {mg : Str → Option Value} {F : Hp} : ∀ {a : A} {v : V}, AF g K mg F a v → a.own = false
  | .d x, v, h => rfl
  | .x e, v, h => rfl
  | .g k n G, v, h => rfl
theorem Ab.setA {c : Ct} {ρ : Sg} {σ : L2.St} {F H : Hp} {i : Nat} {a : A} {v : V} (b : Ab c ρ σ F H) (ha : AF c.g c.K c.mg F a v) : Ab c (ρ.set i (some a)) (σ.set i (some v)) F H :=
  b.setF (AO.of ha) fun z => by rw [AF.notOwn ha] at z; cases z
/-- a new list of one's own goes into a name -/
theorem Ab.setN {c : Ct} {ρ : Sg} {σ : L2.St} {F H F' H' : Hp} {i : Nat} {xs : List PyData} {v : V} (b : Ab c ρ σ F H) (e : Ext F H F' H') (h : relN c xs v H F' H') : Ab c (ρ.set i (some (.l xs))) (σ.set i (some v)) F' H' := by
  obtain ⟨p, vs, rfl, h1, h2, h3, h4⟩ := h
  refine (b.ext e).setF ⟨p, vs, rfl, h2, h3, same_none b.h0 h1, h4⟩ fun _ j a' _ ha' ho => ?_
  obtain ⟨w, hw, q⟩ := b.slot j a' ha'
  rw [hw]
  intro z
  cases z
  obtain ⟨p', o', e', q1, _⟩ := q.at ho
  cases e'
  rw [h1] at q1
  cases q1
/-- a thing of one's own changes -/
theorem Ab.putO {c : Ct} {ρ : Sg} {σ : L2.St} {F H : Hp} {i : Nat} {a a' : A} {p : Addr} {o : HO} (b : Ab c ρ σ F H) (hi : ρ[i]? = some (some a)) (ho : a.own = true) (hp : σ[i]? = some (some (.ref p))) (ho' : a'.own = true) (hy : AO c F (upd H p o) a' (.ref p)) :
    Ab c (ρ.set i (some a')) σ F (upd H p o) := by
  obtain ⟨v, h1, q⟩ := b.slot i _ hi
  rw [hp] at h1
  cases h1
  obtain ⟨p', o', e', h2, h3, h4⟩ := q.at ho
  cases e'
  have other : ∀ (j : Nat) (a : A) (w : V), j ≠ i → ρ[j]? = some (some a) → σ[j]? = some (some w) → AO c F H a w → AO c F (upd H p o) a w := by
    intro j a2 w hj ha hw q2
    by_cases own : a2.own = true
    · refine q2.off fun z => ?_
      subst z
      exact b.apart j i _ _ hj ha hi own ho (by rw [hw, hp])
    · cases a2 with
      | l zs => exact absurd rfl own
      | m zs => exact absurd rfl own
      | d x => exact q2
      | x e => exact q2
      | g k n f => exact q2
      | k S => exact q2
  exact {
    len := by rw [List.length_set]; exact b.len
    fh := fun a o z => by rw [upd_ne (fun w => by subst w; rw [h3] at z; cases z)]; exact b.fh a o z
    slot := fun j a h => by
      rcases get_set h with ⟨e, q, hl⟩ | ⟨ne, q⟩
      · subst e
        cases q
        exact ⟨_, hp, hy⟩
      · obtain ⟨w, hw, q2⟩ := b.slot j a q
        exact ⟨w, hw, other j a w (Ne.symm ne) q hw q2⟩
    apart := fun j k a' b' hjk h1 h2 o1 o2 => by
      rcases get_set h1 with ⟨e, q, hl⟩ | ⟨ne, q⟩
      · subst e
        cases q
        rcases get_set h2 with ⟨e', q', hl'⟩ | ⟨ne', q'⟩
        · exact absurd e' hjk
        · exact b.apart _ k _ b' hjk hi q' ho o2
      · rcases get_set h2 with ⟨e', q', hl'⟩ | ⟨ne', q'⟩
        · subst e'
          exact b.apart j _ a' _ hjk q hi o1 ho
        · exact b.apart j k a' b' hjk q q' o1 o2
    f0 := b.f0
    h0 := fun a o z => by rw [upd_ne (fun w => by subst w; rw [h4] at z; cases z)]; exact b.h0 a o z
    n0 := b.n0
    t0 := b.t0 }
/-- a list of one's own changes -/
theorem Ab.putL {c : Ct} {ρ : Sg} {σ : L2.St} {F H : Hp} {i : Nat} {xs ys : List PyData} {p : Addr} {vs : List V} (b : Ab c ρ σ F H) (hi : ρ[i]? = some (some (.l xs))) (hp : σ[i]? = some (some (.ref p))) (hy : DatVs c.K F vs ys) :
    Ab c (ρ.set i (some (.l ys))) σ F (upd H p (.lst vs)) := by
  obtain ⟨v, h1, p', us, rfl, h2, h3, h4, h5⟩ := b.slot i _ hi
  rw [hp] at h1
  cases h1
  exact b.putO hi rfl hp rfl ⟨p, vs, rfl, upd_same, h3, h4, hy⟩
/-- a dict of one's own changes -/
theorem Ab.putM {c : Ct} {ρ : Sg} {σ : L2.St} {F H : Hp} {i : Nat} {kvs kvs' : List (PyData × PyData)} {p : Addr} {es : List Ent} (b : Ab c ρ σ F H) (hi : ρ[i]? = some (some (.m kvs))) (hp : σ[i]? = some (some (.ref p))) (hy : MapRel c.K F es kvs') :
    Ab c (ρ.set i (some (.m kvs'))) σ F (upd H p (DicO c.w p es)) := by
  obtain ⟨v, h1, p', us, rfl, h2, h3, h4, h5⟩ := b.slot i _ hi
  rw [hp] at h1
  cases h1
  exact b.putO hi rfl hp rfl ⟨p, es, rfl, upd_same, h3, h4, hy⟩
/-- a new dict of one's own goes into a name -/
theorem Ab.setM {c : Ct} {ρ : Sg} {σ : L2.St} {F H F' H' : Hp} {i : Nat} {kvs : List (PyData × PyData)} {p : Addr} {es : List Ent} (b : Ab c ρ σ F H) (e : Ext F H F' H') (h1 : H p = none) (h2 : H' p = some (DicO c.w p es)) (h3 : F' p = none) (h4 : MapRel c.K F' es kvs) : Ab c (ρ.set i (some (.m kvs))) (σ.set i (some (.ref p))) F' H' := by
  refine (b.ext e).setF ⟨p, es, rfl, h2, h3, same_none b.h0 h1, h4⟩ fun _ j a' _ ha' ho => ?_
  obtain ⟨w, hw, q⟩ := b.slot j a' ha'
  rw [hw]
  intro z
  cases z
  obtain ⟨p', o', e', q1, _⟩ := q.at ho
  cases e'
  rw [h1] at q1
  cases q1
/-- a list of one's own is let stay -/
def fz (i : Nat) (ρ : Sg) : Sg := match ρ[i]? with
  | some (some (.l xs)) => ρ.set i (some (.d (.list xs)))
  | _ => ρ
theorem Ab.frz {c : Ct} {ρ : Sg} {σ : L2.St} {F H : Hp} (b : Ab c ρ σ F H) (i : Nat) : ∃ F', Same F F' ∧ Ab c (fz i ρ) σ F' H := by
  unfold fz
  split
  · rename_i xs hi
    obtain ⟨v, hp, p, vs, rfl, h2, h3, h4, h5⟩ := b.slot i _ hi
    have sf : Same F (upd F p (.lst vs)) := Same.upd h3
    refine ⟨upd F p (.lst vs), sf, ?_⟩
    exact {
      len := by rw [List.length_set]; exact b.len
      fh := fun a o z => by
        by_cases w : a = p
        · subst w; rw [upd_same] at z; rw [h2]; exact z
        · rw [upd_ne w] at z; exact b.fh a o z
      slot := fun j a h => by
        rcases get_set h with ⟨e, q, hl⟩ | ⟨ne, q⟩
        · subst e
          cases q
          exact ⟨_, hp, .lst (SqL.of upd_same) (h5.same sf)⟩
        · obtain ⟨w, hw, q2⟩ := b.slot j a q
          refine ⟨w, hw, ?_⟩
          cases a with
          | l zs =>
            obtain ⟨r, ws, e, q1, q2, q3, q4⟩ := q2
            refine ⟨r, ws, e, q1, ?_, q3, q4.same sf⟩
            rw [upd_ne]
            · exact q2
            · intro z
              subst z
              exact b.apart j i _ _ (Ne.symm ne) q hi rfl rfl (by rw [hw, hp, e])
          | m kvs =>
            obtain ⟨r, ws, e, q1, q2, q3, q4⟩ := q2
            refine ⟨r, ws, e, q1, ?_, q3, q4.same sf⟩
            rw [upd_ne]
            · exact q2
            · intro z
              subst z
              exact b.apart j i _ _ (Ne.symm ne) q hi rfl rfl (by rw [hw, hp, e])
          | d x => exact DatV.same sf q2
          | x e => exact AF.same (g := c.g) (K := c.K) (mg := c.mg) (a := .x e) sf q2
          | g k n f => exact AF.same (g := c.g) (K := c.K) (mg := c.mg) (a := .g k n f) sf q2
          | k S => obtain ⟨S, f, cl, doc, pm, cc, ct, h0, h1, h2, h3, h4⟩ := q2; exact ⟨S, f, cl, doc, pm, cc, ct, h0, h1, sf _ _ h2, sf _ _ h3, h4⟩
      apart := fun j k a' b' hjk h1 h2 o1 o2 => by
        rcases get_set h1 with ⟨e, q, hl⟩ | ⟨ne, q⟩
        · subst e
          cases q
          cases o1
        · rcases get_set h2 with ⟨e', q', hl'⟩ | ⟨ne', q'⟩
          · subst e'
            cases q'
            cases o2
          · exact b.apart j k a' b' hjk q q' o1 o2
      f0 := fun a o z => sf a o (b.f0 a o z)
      h0 := b.h0
      n0 := fun a z n => by
        by_cases w : a = p
        · subst w; exact .inl h4
        · rw [upd_ne w] at n; exact b.n0 a z n
      t0 := b.t0 }
  · exact ⟨F, same_refl F, b⟩
def dAddI : PyData → PyData → R PyData
  | .int i, .int j => .ok (.int (i + j))
  | _, _ => .bad
section
variable {X : Cx} {c : Ct} {E : XK} {e a b : Expr} {st : Stmt} {rest : List Stmt} {pos : Pos}
/-- ahead of a statement a list is let stay -/
def sFz (i : Nat) (f : Sg → R Fw) : Sg → R Fw := fun ρ => f (fz i ρ)
theorem ps_fz (i : Nat) {f : Sg → R Fw} (h : PSf X c E st f) : PSf X c E st (sFz i f) := PS.imp h fun D σ H ⟨ρ, F, ab, k⟩ => by
  obtain ⟨F', s, ab'⟩ := ab.frz i
  refine ⟨fz i ρ, F', ab', ?_⟩
  have k' : Rk c E F H (f (fz i ρ)) (FwOk c F D) := k
  cases q : f (fz i ρ) with
  | bad => rw [q] at k'; exact k'
  | ok w => rw [q] at k'; exact FwOk.same s k'
  | ex e => rw [q] at k'; exact k'
def sNx : Sg → R Fw := fun ρ => .ok (.nx ρ)
def sSeq (f g : Sg → R Fw) : Sg → R Fw := fun ρ => (f ρ).bind fun w => match w with
  | .nx ρ' => g ρ'
  | w => .ok w
theorem pss_nil : PSSf X c E [] sNx := PSs.imp L2.pss_nil fun D σ H ⟨ρ, F, ab, k⟩ => Rk.ok k σ F H (same_refl F) ab
theorem pss_one {f : Sg → R Fw} (h : PSf X c E st f) : PSSf X c E [st] f := L2.pss_one h
theorem pss_cons {f g : Sg → R Fw} (h : PSf X c E st f) (h2 : PSSf X c E rest g) : PSSf X c E (st :: rest) (sSeq f g) := PSs.imp (L2.pss_cons h h2) fun D σ H ⟨ρ, F, ab, k⟩ => by
  refine ⟨ρ, F, ab, (Rk.bind k).imp fun w _ q => ?_⟩
  cases w with
  | nx ρ' =>
    intro σ' F' H' s ab'
    refine ⟨ρ', F', ab', ?_⟩
    have q' : Rk c E F H (g ρ') (FwOk c F D) := q
    cases eg : g ρ' with
    | bad => rw [eg] at q'; exact q'
    | ok w => rw [eg] at q'; exact FwOk.same s q'
    | ex e => rw [eg] at q'; exact q'
  | bk ρ' => exact q
  | ct ρ' => exact q
  | rt a => exact q
def sRet (f : Sg → R A) : Sg → R Fw := fun ρ => (f ρ).bind fun a => .ok (.rt a)
theorem ps_ret {f : Sg → R A} (h : PV X c E e f) : PSf X c E (.Return (some e) pos) (sRet f) := PS.imp (L2.ps_ret h) fun D σ H ⟨ρ, F, ab, k⟩ =>
  ⟨ρ, F, ab, (Rk.bind k).imp fun a _ q v F' H' s r => Rk.ok q v F' H' (ab.all.trans s) r⟩
def sRetN : Sg → R Fw := fun _ => .ok (.rt (.d .none))
def sIf (t : Sg → R Bool) (f g : Sg → R Fw) : Sg → R Fw := fun ρ => (t ρ).bind fun b => if b = true then f ρ else g ρ
theorem Rk.fw {F F1 H H1 : Hp} {D : Ends} {r : R Fw} (s : Same F F1) (k : Rk c E F H r (FwOk c F D)) : Rk c E F1 H1 r (FwOk c F1 D) := by
  cases r with
  | bad => exact k
  | ok w => exact FwOk.same s k
  | ex e => exact k
theorem ps_if {q : Expr} {sa sb : List Stmt} {t : Sg → R Bool} {f g : Sg → R Fw} (hq : PTf X c E q t) (ha : PSSf X c E sa f) (hb : PSSf X c E sb g) : PSf X c E (.If q sa sb pos) (sIf t f g) := PS.imp (L2.ps_if hq ha hb) fun D σ H ⟨ρ, F, ab, k⟩ => by
  refine ⟨ρ, F, ab, (Rk.bind k).imp fun b _ q F' H' s => ?_⟩
  cases b with
  | true => exact iteT ⟨ρ, F', ab.ext s, Rk.fw s.ff q⟩
  | false => exact iteF ⟨ρ, F', ab.ext s, Rk.fw s.ff q⟩
def sSet (i : Nat) (f : Sg → R A) : Sg → R Fw := fun ρ => (f ρ).bind fun a => .ok (.nx (ρ.set i (some a)))
theorem ps_set {i : Nat} {f : Sg → R A} (h : PS X st (tAsg (tV (relA c) c E f) (gName i))) : PSf X c E st (sSet i f) := PS.imp h fun D σ H ⟨ρ, F, ab, k⟩ =>
  ⟨ρ, F, ab, (Rk.bind k).imp fun a _ q v F' H' s r => Rk.ok q _ F' H' s.ff ((ab.ext s).setA r)⟩
def sSetN (i : Nat) (f : Sg → R (List PyData)) : Sg → R Fw := fun ρ => (f ρ).bind fun xs => .ok (.nx (ρ.set i (some (.l xs))))
theorem ps_setN {i : Nat} {f : Sg → R (List PyData)} (h : PS X st (tAsg (tV (relN c) c E f) (gName i))) : PSf X c E st (sSetN i f) := PS.imp h fun D σ H ⟨ρ, F, ab, k⟩ =>
  ⟨ρ, F, ab, (Rk.bind k).imp fun a _ q v F' H' s r => Rk.ok q _ F' H' s.ff (ab.setN s r)⟩
def sExpr (f : Sg → R A) : Sg → R Fw := fun ρ => (f ρ).bind fun _ => .ok (.nx ρ)
theorem ps_expr {f : Sg → R A} (h : PS X st (tDrop (tV (relA c) c E f))) : PSf X c E st (sExpr f) := PS.imp h fun D σ H ⟨ρ, F, ab, k⟩ =>
  ⟨ρ, F, ab, (Rk.bind k).imp fun a _ q v F' H' s r => Rk.ok q _ F' H' s.ff (ab.ext s)⟩
/-- xs.append(e) -/
def sApp (i : Nat) (f : Sg → R PyData) : Sg → R Fw := fun ρ => match ρ[i]? with
  | some (some (.l xs)) => (f ρ).bind fun x => if xs.length < 16777216 then .ok (.nx (ρ.set i (some (.l (xs ++ [x]))))) else .bad
  | _ => .bad
theorem ps_app {i : Nat} {f : Sg → R PyData} (hK : X.K = c.K) (h : PS X st (tDrop (tBM X.K "list" rAppend (tVar i) (tCons (tV (relD c) c E f) tNil)))) : PSf X c E st (sApp i f) := PS.imp h fun D σ H ⟨ρ, F, ab, k⟩ => by
  unfold sApp at k
  split at k
  · rename_i xs hi
    obtain ⟨v, hp, p, vs, rfl, h2, h3, h4, h5⟩ := ab.slot i _ hi
    refine ⟨_, hp, .inl ⟨rfl, vs, SqL.of h2⟩, ρ, F, ab, (Rk.bind k).imp fun x _ q u F1 H1 s1 r1 => ?_⟩
    by_cases hz : xs.length < 16777216
    · rw [if_pos hz] at q
      refine ⟨p, vs, u, rfl, rfl, s1.hh _ _ h2, by rw [h5.length, line_eq]; exact hz, ?_⟩
      exact Rk.ok q σ F1 _ s1.ff ((ab.ext s1).putL hi hp ((h5.same s1.ff).append (.cons r1 .nil)))
    · rw [if_neg hz] at q; exact q.elim
  · exact k.elim
/-- x += e, of ints -/
def sAug (i : Nat) (g : PyData → PyData → R PyData) (f : Sg → R PyData) : Sg → R Fw := fun ρ => (eV i ρ).bind fun x => (f ρ).bind fun y => (g x y).bind fun z => .ok (.nx (ρ.set i (some (.d z))))
theorem ps_aug {i : Nat} {k : Int → Int → Int} {g : PyData → PyData → R PyData} {f : Sg → R PyData} (hg : ∀ x y, (∃ i j, x = .int i ∧ y = .int j ∧ g x y = .ok (.int (k i j))) ∨ g x y = .bad) (h : PS X st (tAug i (tV (relR c) c E f) (ipI k))) : PSf X c E st (sAug i g f) := PS.imp h fun D σ H ⟨ρ, F, ab, k⟩ => by
  have k' := Rk.bind k
  unfold eV at k'
  split at k'
  · rename_i x hx
    obtain ⟨v, h1, h2⟩ := ab.slot i _ hx
    refine ⟨v, h1, ρ, F, ab, (Rk.bind k').imp fun y _ q u F1 H1 s1 r1 => ?_⟩
    rcases hg x y with ⟨m, n, rfl, rfl, e⟩ | e
    · rw [e] at q
      obtain rfl := DatV.int_of h2
      obtain rfl := DatR.int_of r1
      exact ⟨m, n, rfl, rfl, Rk.ok q _ F1 H1 s1.ff ((ab.ext s1).setA (a := .d _) (.int _))⟩
    · rw [e] at q; exact q.elim
  · exact k'.elim
theorem aug_add (x y : PyData) : (∃ i j, x = .int i ∧ y = .int j ∧ dAddI x y = .ok (.int (i + j))) ∨ dAddI x y = .bad := by
  unfold dAddI
  split
  · exact .inl ⟨_, _, rfl, rfl, rfl⟩
  · exact .inr rfl
end
end Fl
namespace Fl
open PySem L2 PyProof.Rows
/-- g stores x as fs tells, and changes the slots of is alone -/
def Tg (c : Ct) (g : TG) (fs : PyData → Sg → Option Sg) (is : List Nat) : Prop := ∀ (v : V) (x : PyData) (ρ ρ' : Sg) (σ : L2.St) (F H : Hp) (Q : L2.St → Hp → Prop), Ab c ρ σ F H → DatV c.K F v x → fs x ρ = some ρ' →
  (∀ σ' : L2.St, σ'.length = σ.length → (∀ j : Nat, j ∉ is → σ'[j]? = σ[j]?) → Ab c ρ' σ' F H → Q σ' H) → g v σ H Q
def stN (i : Nat) : PyData → Sg → Option Sg := fun x ρ => some (ρ.set i (some (.d x)))
theorem tg_name {c : Ct} (i : Nat) : Tg c (gName i) (stN i) [i] := fun v x ρ ρ' σ F H Q ab r e q => by
  cases e
  exact q _ List.length_set (fun j hj => List.getElem?_set_ne (by intro z; subst z; exact hj (by simp))) (ab.setA (a := .d x) r)
def stL : List (PyData → Sg → Option Sg) → List PyData → Sg → Option Sg
  | [], [], ρ => some ρ
  | f :: fs, x :: xs, ρ => (f x ρ).bind (stL fs xs)
  | _, _, _ => none
def Tgs (c : Ct) (g : TGs) (fs : List (PyData → Sg → Option Sg)) (is : List Nat) : Prop := ∀ (vs : List V) (xs : List PyData) (ρ ρ' : Sg) (σ : L2.St) (F H : Hp) (Q : L2.St → Hp → Prop), Ab c ρ σ F H → DatVs c.K F vs xs → stL fs xs ρ = some ρ' →
  (∀ σ' : L2.St, σ'.length = σ.length → (∀ j : Nat, j ∉ is → σ'[j]? = σ[j]?) → Ab c ρ' σ' F H → Q σ' H) → g vs σ H Q
theorem tgs_nil {c : Ct} : Tgs c gNil [] [] := fun vs xs ρ ρ' σ F H Q ab r e q => by
  cases xs with
  | nil => cases e; exact ⟨by cases r; rfl, q σ rfl (fun _ _ => rfl) ab⟩
  | cons x t => cases e
theorem tgs_cons {c : Ct} {g : TG} {gs : TGs} {f : PyData → Sg → Option Sg} {fs : List (PyData → Sg → Option Sg)} {is js : List Nat} (h : Tg c g f is) (h2 : Tgs c gs fs js) : Tgs c (gCons g gs) (f :: fs) (is ++ js) := fun vs xs ρ ρ' σ F H Q ab r e q => by
  cases r with
  | nil => cases e
  | cons r1 r2 =>
    rename_i x d vs ds
    have e' : (f d ρ).bind (stL fs ds) = some ρ' := e
    cases e1 : f d ρ with
    | none => rw [e1] at e'; cases e'
    | some ρ1 =>
      rw [e1] at e'
      refine ⟨_, _, rfl, h _ _ ρ ρ1 σ F H _ ab r1 e1 fun σ1 l1 k1 ab1 => h2 _ _ ρ1 ρ' σ1 F H _ ab1 r2 e' fun σ2 l2 k2 ab2 => q σ2 (l2.trans l1) (fun j hj => ?_) ab2⟩
      rw [List.mem_append, not_or] at hj
      exact (k2 j hj.2).trans (k1 j hj.1)
def stT (fs : List (PyData → Sg → Option Sg)) : PyData → Sg → Option Sg := fun x ρ => match x with
  | .tuple xs => stL fs xs ρ
  | _ => none
theorem stL_len : ∀ {fs : List (PyData → Sg → Option Sg)} {xs : List PyData} {ρ ρ' : Sg}, stL fs xs ρ = some ρ' → xs.length = fs.length
  | [], [], _, _, _ => rfl
  | [], _ :: _, _, _, h => by cases h
  | _ :: _, [], _, _, h => by cases h
  | f :: fs, x :: xs, ρ, ρ', h => by
    have h' : (f x ρ).bind (stL fs xs) = some ρ' := h
    cases e : f x ρ with
    | none => rw [e] at h'; cases h'
    | some ρ1 =>
      rw [e] at h'
      have := stL_len (fs := fs) (xs := xs) h'
      simp [this]
theorem tg_tup {c : Ct} {gs : TGs} {fs : List (PyData → Sg → Option Sg)} {is : List Nat} {n : Nat} {K : PySem.W.Frag} (hK : K = c.K) (h : Tgs c gs fs is) (hn : fs.length = n) : Tg c (gTup K n gs) (stT fs) is := fun v x ρ ρ' σ F H Q ab r e q => by
  cases x with
  | tuple xs =>
    obtain ⟨a, vs, rfl, h1, h2⟩ := r.tup_of
    subst hK
    exact ⟨a, vs, rfl, h1.same ab.fh, by rw [h2.length, stL_len e, hn], h vs xs ρ ρ' σ F H Q ab h2 e q⟩
  | _ => cases e

/-! ### what is walked -/
structure Yld (K : PySem.W.Frag) (J : It) (F B : Hp) (xs : List PyData) : Prop where
  len : xs.length ≤ sizeLine
  go : ∀ (i : Nat) F1 H1, Same F F1 → Same F1 H1 → Same B H1 → i < xs.length → J.go i H1
  yld : ∀ (i : Nat) F1 H1 v H2 x, Same F F1 → Same F1 H1 → Same B H1 → J.yld i H1 v H2 → xs[i]? = some x → ∃ F2, Ext F1 H1 F2 H2 ∧ DatV K F2 v x
  stop : ∀ F1 H1, Same F F1 → Same F1 H1 → Same B H1 → J.stop xs.length H1
def tI (c : Ct) (E : XK) (f : Sg → R (List PyData)) : TI := fun σ H Rr => ∃ ρ F, Ab c ρ σ F H ∧ Rk c E F H (f ρ) fun xs => ∀ J B F' H', Ext F H F' H' → Same B H' → Yld c.K J F' B xs → Rr J H'
def tI0 (c : Ct) (E : XK) (f : Sg → R (List PyData)) : TI := fun σ H Rr => ∃ ρ F, Ab c ρ σ F H ∧ Rk c E F H (f ρ) fun xs => ∀ J F' H', Ext F H F' H' → Yld c.K J F' (fun _ => none) xs → Rr J H'
theorem PI.imp {X : Cx} {tg e : Expr} {t t' : TI} (h : PI X tg e t) (i : ∀ σ H Q, t' σ H Q → t σ H Q) : PI X tg e t' := fun pins s σ H Q I q => h pins s σ H Q I (i σ H Q q)
/-- walked on the spot (a comprehension); walked while statements run -/
abbrev PIf (X : Cx) (c : Ct) (E : XK) (tg e : Expr) (f : Sg → R (List PyData)) : Prop := PI X tg e (tI c E f)
abbrev PI0 (X : Cx) (c : Ct) (E : XK) (tg e : Expr) (f : Sg → R (List PyData)) : Prop := PI X tg e (tI0 c E f)
theorem pi_of {X : Cx} {c : Ct} {E : XK} {tg e : Expr} {f : Sg → R (List PyData)} (h : PI0 X c E tg e f) : PIf X c E tg e f := PI.imp h fun σ H Q ⟨ρ, F, ab, k⟩ =>
  ⟨ρ, F, ab, k.imp fun xs _ q J F' H' s y => q J (fun _ => none) F' H' s (fun _ _ z => nomatch z) y⟩
def none_same {H : Hp} : Same (fun _ => none) H := fun _ _ z => nomatch z
/-- the items of a list, a tuple or a text -/
def dItems : PyData → R (List PyData)
  | .list xs => if xs.length ≤ 16777216 then .ok xs else .bad
  | .tuple xs => if xs.length ≤ 16777216 then .ok xs else .bad
  | .str z => if z.cps.toList.length ≤ 16777216 then .ok (z.cps.toList.map fun u => .str ⟨#[u]⟩) else .bad
  | _ => .bad
theorem yld_list {K : PySem.W.Frag} {F B H : Hp} {a : Addr} {vs : List V} {xs : List PyData} (hz : xs.length ≤ 16777216) (hs : ∀ H1, Same F H1 → Same B H1 → SqL K H1 a vs) (hd : DatVs K F vs xs) : Yld K (Itl K a) F B xs where
  len := by rw [line_eq]; exact hz
  go := fun i F1 H1 h1 h2 h3 hi => by
    have q := hs H1 (fun x o z => h2 x o (h1 x o z)) h3
    exact ⟨vs, vs[i]'(by rw [hd.length]; exact hi), q, by simp⟩
  yld := fun i F1 H1 v H2 x h1 h2 h3 y e => by
    obtain ⟨rfl, y⟩ := y
    have q := y vs (hs _ (fun x o z => h2 x o (h1 x o z)) h3)
    obtain ⟨d, e2, r⟩ := hd.get q
    rw [e] at e2
    cases e2
    exact ⟨F1, Ext.refl h2, r.same h1⟩
  stop := fun F1 H1 h1 h2 h3 => ⟨vs, hs H1 (fun x o z => h2 x o (h1 x o z)) h3, by rw [hd.length]; exact Nat.le_refl _⟩
theorem yld_tup {K : PySem.W.Frag} {F B : Hp} {a : Addr} {vs : List V} {xs : List PyData} (hz : xs.length ≤ 16777216) (hs : SqT K F a vs) (hd : DatVs K F vs xs) : Yld K (Itt K a) F B xs where
  len := by rw [line_eq]; exact hz
  go := fun i F1 H1 h1 h2 h3 hi => by
    have q := hs.same (H' := H1) (fun x o z => h2 x o (h1 x o z))
    exact ⟨vs, vs[i]'(by rw [hd.length]; exact hi), q, by simp⟩
  yld := fun i F1 H1 v H2 x h1 h2 h3 y e => by
    obtain ⟨rfl, y⟩ := y
    have q := y vs (hs.same (fun x o z => h2 x o (h1 x o z)))
    obtain ⟨d, e2, r⟩ := hd.get q
    rw [e] at e2
    cases e2
    exact ⟨F1, Ext.refl h2, r.same h1⟩
  stop := fun F1 H1 h1 h2 h3 => ⟨vs, hs.same (fun x o z => h2 x o (h1 x o z)), by rw [hd.length]; exact Nat.le_refl _⟩
theorem yld_str {K : PySem.W.Frag} {F B : Hp} {z : Str} (hz : z.cps.toList.length ≤ 16777216) : Yld K (Its z) F B (z.cps.toList.map fun u => .str ⟨#[u]⟩) where
  len := by rw [line_eq, List.length_map]; exact hz
  go := fun i F1 H1 h1 h2 h3 hi => by
    rw [List.length_map, Array.length_toList] at hi
    exact hi
  yld := fun i F1 H1 v H2 x h1 h2 h3 y e => by
    obtain ⟨rfl, u, hu, rfl⟩ := y
    rw [List.getElem?_map, Array.getElem?_toList, hu] at e
    cases e
    exact ⟨F1, Ext.refl h2, .str _⟩
  stop := fun F1 H1 h1 h2 h3 => by
    show (z.cps.toList.map _).length = z.cps.size
    rw [List.length_map, Array.length_toList]
section
variable {X : Cx} {c : Ct} {E : XK} {tg e a b : Expr} {pos : Pos}
/-- over data that stays -/
theorem pi_d {f : Sg → R PyData} (hK : X.K = c.K) (h : PD X c E e f) : PI0 X c E tg e (e1 dItems f) := PI.imp (PI.or (pi_seq h) (pi_str h)) fun σ H Q ⟨ρ, F, ab, k⟩ => by
  have k' := Rk.bind k
  cases hf : f ρ with
  | bad => rw [hf] at k'; exact k'.elim
  | ex x => rw [hf] at k'; exact .inl ⟨ρ, F, ab, by rw [hf]; exact k'⟩
  | ok d =>
    rw [hf] at k'
    have k2 := Rk.ok k'
    unfold dItems at k2
    split at k2
    · rename_i xs
      split at k2
      · rename_i hz
        refine .inl ⟨ρ, F, ab, ?_⟩
        rw [hf]
        intro v F' H' s r
        obtain ⟨p, vs, rfl, h1, h2⟩ := DatV.lst_of r
        refine ⟨p, rfl, .inl ⟨⟨vs, ?_⟩, ?_⟩⟩
        · rw [hK]; exact h1.same s.fh
        · rw [hK]; exact Rk.ok k2 _ F' H' s (yld_list (H := H') hz (fun H1 q _ => h1.same q) h2)
      · exact k2.elim
    · rename_i xs
      split at k2
      · rename_i hz
        refine .inl ⟨ρ, F, ab, ?_⟩
        rw [hf]
        intro v F' H' s r
        obtain ⟨p, vs, rfl, h1, h2⟩ := DatV.tup_of r
        refine ⟨p, rfl, .inr ⟨⟨vs, ?_⟩, ?_⟩⟩
        · rw [hK]; exact h1.same s.fh
        · rw [hK]; exact Rk.ok k2 _ F' H' s (yld_tup hz h1 h2)
      · exact k2.elim
    · rename_i z
      split at k2
      · rename_i hz
        refine .inr ⟨ρ, F, ab, ?_⟩
        rw [hf]
        intro v F' H' s r
        obtain rfl := DatV.str_of r
        exact ⟨z, rfl, Rk.ok k2 _ F' H' s (yld_str hz)⟩
      · exact k2.elim
    · exact k2.elim
/-- over a list of one's own, on the spot -/
theorem pi_r {f : Sg → R PyData} (hK : X.K = c.K) (h : PR X c E e f) : PIf X c E tg e (e1 dItems f) := PI.imp (PI.or (pi_seq h) (pi_str h)) fun σ H Q ⟨ρ, F, ab, k⟩ => by
  have k' := Rk.bind k
  cases hf : f ρ with
  | bad => rw [hf] at k'; exact k'.elim
  | ex x => rw [hf] at k'; exact .inl ⟨ρ, F, ab, by rw [hf]; exact k'⟩
  | ok d =>
    rw [hf] at k'
    have k2 := Rk.ok k'
    unfold dItems at k2
    split at k2
    · rename_i xs
      split at k2
      · rename_i hz
        refine .inl ⟨ρ, F, ab, ?_⟩
        rw [hf]
        intro v F' H' s r
        obtain ⟨p, vs, rfl, h1, h2⟩ := DatR.lst_of s.fh r
        refine ⟨p, rfl, .inl ⟨⟨vs, ?_⟩, ?_⟩⟩
        · rw [hK]; exact h1
        · rw [hK]; exact Rk.ok k2 _ H' F' H' s (same_refl _) (yld_list (H := H') hz (fun H1 _ q => h1.same q) h2)
      · exact k2.elim
    · rename_i xs
      split at k2
      · rename_i hz
        refine .inl ⟨ρ, F, ab, ?_⟩
        rw [hf]
        intro v F' H' s r
        obtain ⟨p, vs, rfl, h1, _, h2⟩ := DatR.tup_of s.fh r
        refine ⟨p, rfl, .inr ⟨⟨vs, ?_⟩, ?_⟩⟩
        · rw [hK]; exact h1.same s.fh
        · rw [hK]; exact Rk.ok k2 _ H' F' H' s (same_refl _) (yld_tup hz h1 h2)
      · exact k2.elim
    · rename_i z
      split at k2
      · rename_i hz
        refine .inr ⟨ρ, F, ab, ?_⟩
        rw [hf]
        intro v F' H' s r
        obtain rfl := DatR.str_of r
        exact ⟨z, rfl, Rk.ok k2 _ H' F' H' s (same_refl _) (yld_str hz)⟩
      · exact k2.elim
    · exact k2.elim
/-- range(n), range(a, b) -/
def rangeL (lo : Int) (n : Nat) : List PyData := (List.range n).map fun i : Nat => .int (lo + i)
def dRange (lo hi : Int) : R (List PyData) := if -4611686018427387904 ≤ lo ∧ lo < 4611686018427387904 ∧ -4611686018427387904 ≤ hi ∧ hi < 4611686018427387904 ∧ hi - lo ≤ 16777216 then .ok (rangeL lo (hi - lo).toNat) else .bad
def iRange1 (f : Sg → R PyData) : Sg → R (List PyData) := fun ρ => (f ρ).bind fun x => match x with
  | .int j => dRange 0 j
  | _ => .bad
def iRange2 (f g : Sg → R PyData) : Sg → R (List PyData) := fun ρ => (f ρ).bind fun x => (g ρ).bind fun y => match x, y with
  | .int i, .int j => dRange i j
  | _, _ => .bad
theorem yld_range {K : PySem.W.Frag} {F B : Hp} {lo : Int} {n : Nat} (hz : n ≤ 16777216) : Yld K (Itr lo n) F B (rangeL lo n) where
  len := by unfold rangeL; rw [line_eq, List.length_map, List.length_range]; exact hz
  go := fun i F1 H1 h1 h2 h3 hi => by unfold rangeL at hi; rw [List.length_map, List.length_range] at hi; exact hi
  yld := fun i F1 H1 v H2 x h1 h2 h3 y e => by
    obtain ⟨rfl, rfl⟩ := y
    unfold rangeL at e
    rw [List.getElem?_map] at e
    cases q : (List.range n)[i]? with
    | none => rw [q] at e; cases e
    | some j =>
      rw [q] at e
      cases e
      obtain ⟨hl, hv⟩ := List.getElem?_eq_some_iff.mp q
      rw [List.getElem_range] at hv
      subst hv
      exact ⟨F1, Ext.refl h2, .int _⟩
  stop := fun F1 H1 h1 h2 h3 => by show n ≤ _; unfold rangeL; rw [List.length_map, List.length_range]; exact Nat.le_refl _
theorem pi_rng1 {f : Sg → R PyData} (h : PI X tg e (iRng1 (tCons (tV (relR c) c E f) tNil))) : PI0 X c E tg e (iRange1 f) := PI.imp h fun σ H Q ⟨ρ, F, ab, k⟩ => by
  refine ⟨ρ, F, ab, (Rk.bind k).imp fun x _ q v F' H' s r => ?_⟩
  cases x with
  | int j =>
    have q' : Rk c E F H (dRange 0 j) _ := q
    unfold dRange at q'
    split at q'
    · rename_i hz
      obtain rfl := DatR.int_of r
      refine ⟨j, rfl, by omega, by omega, ?_⟩
      have e0 : (j - 0).toNat = j.toNat := by rw [Int.sub_zero]
      rw [← e0]
      exact Rk.ok q' _ F' H' s (yld_range (by omega))
    · exact q'.elim
  | _ => exact q.elim
end
end Fl
namespace Fl
open PySem L2 PyProof.Rows
/-! ### comprehensions -/
def capA (js : List (Option Nat)) (ρ : Sg) : Sg := js.map fun o => o.bind fun j => (ρ[j]?).join
theorem cap_get {α : Type} {js : List (Option Nat)} {ρ : List (Option α)} {i : Nat} {a : α} (h : (js.map fun o => o.bind fun j => (ρ[j]?).join)[i]? = some (some a)) : ∃ j, js[i]? = some (some j) ∧ ρ[j]? = some (some a) := by
  rw [List.getElem?_map] at h
  cases e : js[i]? with
  | none => rw [e] at h; cases h
  | some o =>
    rw [e] at h
    have h' : (o.bind fun j => (ρ[j]?).join) = some a := Option.some.inj h
    cases o with
    | none => cases h'
    | some j =>
      have h2 : (ρ[j]?).join = some a := h'
      cases e2 : ρ[j]? with
      | none => rw [e2] at h2; cases h2
      | some o2 => rw [e2] at h2; have : o2 = some a := h2; subst this; exact ⟨j, rfl, e2⟩
theorem cap_put {α : Type} {js : List (Option Nat)} {ρ : List (Option α)} {i j : Nat} {a : α} (h : js[i]? = some (some j)) (h2 : ρ[j]? = some (some a)) : (js.map fun o => o.bind fun j => (ρ[j]?).join)[i]? = some (some a) := by
  rw [List.getElem?_map, h]
  show some ((ρ[j]?).join) = _
  rw [h2]; rfl
/-- no slot is taken twice -/
def capOnce (js : List (Option Nat)) : Prop := ∀ (i k j : Nat), js[i]? = some (some j) → js[k]? = some (some j) → i = k
theorem capOnce_of {js : List (Option Nat)} (h : js.Pairwise fun a b => a = none ∨ a ≠ b) : capOnce js := fun i k j h1 h2 => by
  obtain ⟨l1, e1⟩ := List.getElem?_eq_some_iff.mp h1
  obtain ⟨l2, e2⟩ := List.getElem?_eq_some_iff.mp h2
  rw [List.pairwise_iff_getElem] at h
  rcases Nat.lt_trichotomy i k with q | q | q
  · rcases h i k l1 l2 q with z | z
    · rw [e1] at z; cases z
    · exact absurd (e1.trans e2.symm) z
  · exact q
  · rcases h k i l2 l1 q with z | z
    · rw [e2] at z; cases z
    · exact absurd (e2.trans e1.symm) z
theorem Ab.cap {c : Ct} {ρ : Sg} {σ σ0 : L2.St} {F H : Hp} {js : List (Option Nat)} (b : Ab c ρ σ F H) (ho : capOnce js) (k : KeepsV (capV js σ) σ0) : Ab c (capA js ρ) σ0 F H where
  len := by rw [k.1]; unfold capA capV; rw [List.length_map, List.length_map]
  fh := b.fh
  slot := fun i a h => by
    obtain ⟨j, h1, h2⟩ := cap_get h
    obtain ⟨v, h3, h4⟩ := b.slot j a h2
    exact ⟨v, k.2 i v (cap_put h1 h3), h4⟩
  apart := fun i i' a a' hne h h' o o' => by
    obtain ⟨j, h1, h2⟩ := cap_get h
    obtain ⟨j', h1', h2'⟩ := cap_get h'
    have hj : j ≠ j' := fun z => hne (ho i i' j h1 (by rw [h1', z]))
    obtain ⟨v, h3, _⟩ := b.slot j a h2
    obtain ⟨v', h3', _⟩ := b.slot j' a' h2'
    rw [k.2 i v (cap_put h1 h3), k.2 i' v' (cap_put h1' h3'), ← h3, ← h3']
    exact b.apart j j' a a' hj h2 h2' o o'
  f0 := b.f0
  h0 := b.h0
  n0 := b.n0
  t0 := b.t0
def R.noEx {α : Type} : R α → R α
  | .ex _ => .bad
  | r => r
@[simp] theorem R.noEx_ok {α : Type} (a : α) : (R.ok a).noEx = .ok a := id rfl
def optR {α : Type} : Option α → R α
  | some a => .ok a
  | none => .bad
@[simp] theorem optR_some {α : Type} (a : α) : optR (some a) = .ok a := id rfl
def compL (fs : PyData → Sg → Option Sg) (ft : Sg → R Bool) (fe : Sg → R PyData) (ρ0 : Sg) : List PyData → R (List PyData)
  | [] => .ok []
  | x :: t => (optR (fs x ρ0)).bind fun ρ1 => (ft ρ1).noEx.bind fun b => if b = true then (fe ρ1).noEx.bind fun y => (compL fs ft fe ρ0 t).bind fun ys => .ok (y :: ys) else compL fs ft fe ρ0 t
theorem compL_noEx {fs : PyData → Sg → Option Sg} {ft : Sg → R Bool} {fe : Sg → R PyData} {ρ0 : Sg} {e : Er} : ∀ {xs : List PyData}, compL fs ft fe ρ0 xs ≠ .ex e
  | [] => fun h => by cases h
  | x :: t => fun h => by
    unfold compL at h
    cases h1 : fs x ρ0 with
    | none => rw [h1] at h; cases h
    | some ρ1 =>
      rw [h1] at h
      have h : ((ft ρ1).noEx.bind fun b => if b = true then (fe ρ1).noEx.bind fun y => (compL fs ft fe ρ0 t).bind fun ys => .ok (y :: ys) else compL fs ft fe ρ0 t) = .ex e := h
      cases h2 : ft ρ1 with
      | bad => rw [h2] at h; cases h
      | ex _ => rw [h2] at h; cases h
      | ok b =>
        rw [h2] at h
        have h : (if b = true then (fe ρ1).noEx.bind fun y => (compL fs ft fe ρ0 t).bind fun ys => .ok (y :: ys) else compL fs ft fe ρ0 t) = .ex e := h
        cases b with
        | false => exact compL_noEx (xs := t) h
        | true =>
          have h : ((fe ρ1).noEx.bind fun y => (compL fs ft fe ρ0 t).bind fun ys => .ok (y :: ys)) = .ex e := h
          cases h3 : fe ρ1 with
          | bad => rw [h3] at h; cases h
          | ex _ => rw [h3] at h; cases h
          | ok y =>
            rw [h3] at h
            have h : ((compL fs ft fe ρ0 t).bind fun ys => .ok (y :: ys)) = .ex e := h
            cases h4 : compL fs ft fe ρ0 t with
            | bad => rw [h4] at h; cases h
            | ex e' => exact compL_noEx (xs := t) (e := e') h4
            | ok ys => rw [h4] at h; cases h
theorem compL_cons {fs : PyData → Sg → Option Sg} {ft : Sg → R Bool} {fe : Sg → R PyData} {ρ0 : Sg} {x : PyData} {t ys : List PyData} (h : compL fs ft fe ρ0 (x :: t) = .ok ys) :
    ∃ ρ1 b, fs x ρ0 = some ρ1 ∧ ft ρ1 = .ok b ∧ ((b = true ∧ ∃ y zs, fe ρ1 = .ok y ∧ compL fs ft fe ρ0 t = .ok zs ∧ ys = y :: zs) ∨ (b = false ∧ compL fs ft fe ρ0 t = .ok ys)) := by
  unfold compL at h
  cases h1 : fs x ρ0 with
  | none => rw [h1] at h; cases h
  | some ρ1 =>
    rw [h1] at h
    have h : ((ft ρ1).noEx.bind fun b => if b = true then (fe ρ1).noEx.bind fun y => (compL fs ft fe ρ0 t).bind fun ys => .ok (y :: ys) else compL fs ft fe ρ0 t) = .ok ys := h
    cases h2 : ft ρ1 with
    | bad => rw [h2] at h; cases h
    | ex _ => rw [h2] at h; cases h
    | ok b =>
      rw [h2] at h
      have h : (if b = true then (fe ρ1).noEx.bind fun y => (compL fs ft fe ρ0 t).bind fun ys => .ok (y :: ys) else compL fs ft fe ρ0 t) = .ok ys := h
      refine ⟨ρ1, b, rfl, h2, ?_⟩
      cases b with
      | false => exact .inr ⟨rfl, h⟩
      | true =>
        refine .inl ⟨rfl, ?_⟩
        have h : ((fe ρ1).noEx.bind fun y => (compL fs ft fe ρ0 t).bind fun ys => .ok (y :: ys)) = .ok ys := h
        cases h3 : fe ρ1 with
        | bad => rw [h3] at h; cases h
        | ex _ => rw [h3] at h; cases h
        | ok y =>
          rw [h3] at h
          have h : ((compL fs ft fe ρ0 t).bind fun ys => .ok (y :: ys)) = .ok ys := h
          cases h4 : compL fs ft fe ρ0 t with
          | bad => rw [h4] at h; cases h
          | ex e' => rw [h4] at h; cases h
          | ok zs => rw [h4] at h; cases h; exact ⟨y, zs, rfl, rfl, rfl⟩
def nComp (js : List (Option Nat)) (fi : Sg → R (List PyData)) (fs : PyData → Sg → Option Sg) (ft : Sg → R Bool) (fe : Sg → R PyData) : Sg → R (List PyData) := fun ρ => (fi ρ).bind fun xs => compL fs ft fe (capA js ρ) xs
def bYes : Sg → R Bool := fun _ => .ok true
section
variable {X : Cx} {c : Ct} {E : XK} {e a b : Expr} {pos : Pos}
theorem pif_nil : L2.PIf X [] (tTf c E bYes) := fun pins s σ H Q I ⟨ρ, F, ab, k⟩ => L2.pif_nil pins s σ H Q I (Rk.ok k F H (Ext.refl ab.fh))
theorem keeps_tg {js : List (Option Nat)} {is : List Nat} {σ σ0 σ1 : L2.St} (k : KeepsV (capV js σ) σ0) (hl : σ1.length = σ0.length) (h : ∀ j : Nat, j ∉ is → σ1[j]? = σ0[j]?) (hi : ∀ i ∈ is, js[i]? = some none) : KeepsV (capV js σ) σ1 :=
  ⟨hl.trans k.1, fun i v e => by
    by_cases q : i ∈ is
    · unfold capV at e
      rw [List.getElem?_map, hi i q] at e
      cases e
    · rw [h i q]; exact k.2 i v e⟩
theorem comp_read {N : List Str} {js : List (Option Nat)} {scope : Scope} {tg elt : Expr} {ifs : List Expr} {fi : Sg → R (List PyData)} {fs : PyData → Sg → Option Sg} {ft : Sg → R Bool} {fe : Sg → R PyData} {is : List Nat} (ho : capOnce js) (hi : ∀ i ∈ is, js[i]? = some none)
    (hb : ∀ (cl : List (Str × Addr)) (C : Addr) (s : Shared) (H0 : Hp) (fp : List Addr), ∃ g, PG (cxComp X N scope cl C s H0 fp) tg g ∧ Tg c g fs is ∧ L2.PIf (cxComp X N scope cl C s H0 fp) ifs (tTf c E0 ft) ∧ PD (cxComp X N scope cl C s H0 fp) c E0 elt fe)
    {σ : L2.St} {H : Hp} {Q : VK} (h : tV (relN c) c E (nComp js fi fs ft fe) σ H Q) : tComp X N scope js tg elt ifs (tI c E fi) σ H Q := by
  obtain ⟨ρ, F, ab, k⟩ := h
  refine ⟨ρ, F, ab, (Rk.bind k).imp fun xs _ q J B F1 H1 s1 sb yl => ?_⟩
  cases hc : compL fs ft fe (capA js ρ) xs with
  | bad => rw [hc] at q; exact q.elim
  | ex e => exact absurd hc compL_noEx
  | ok ys =>
    rw [hc] at q
    refine comp_of (n := xs.length) (fun i acc H' => ∃ F', Ext F1 H1 F' H' ∧ acc.length ≤ i ∧ ∃ zs rest, DatVs c.K F' acc zs ∧ compL fs ft fe (capA js ρ) (xs.drop i) = .ok rest ∧ zs ++ rest = ys) yl.len ⟨F1, Ext.refl s1.fh, Nat.le_refl _, [], ys, .nil, hc, rfl⟩ ?_ ?_ ?_ ?_ ?_
    · rintro i acc H' _ ⟨F', _, h, _⟩; exact h
    · rintro i acc H' hlt ⟨F', e1, _⟩
      exact yl.go i F' H' e1.ff e1.fh (fun a o z => e1.hh a o (sb a o z)) hlt
    · rintro acc H' ⟨F', e1, _⟩
      exact yl.stop F' H' e1.ff e1.fh (fun a o z => e1.hh a o (sb a o z))
    · rintro i v acc Ha Hb hlt ⟨F', e1, hlen, zs, rest, hd, hr, hz⟩ hy
      obtain ⟨F2, e2, rx⟩ := yl.yld i F' Ha v Hb xs[i] e1.ff e1.fh (fun a o z => e1.hh a o (sb a o z)) hy (List.getElem?_eq_getElem hlt)
      have hdr : xs.drop i = xs[i] :: xs.drop (i + 1) := List.drop_eq_getElem_cons hlt
      rw [hdr] at hr
      obtain ⟨ρ1, bb, hs, ht, hcase⟩ := compL_cons hr
      intro cl C s H0 fp
      obtain ⟨g, hg, tg', hif, he⟩ := hb cl C s H0 fp
      refine ⟨g, _, _, hg, hif, he, fun σ0 k0 => ?_⟩
      have ab0 : Ab c (capA js ρ) σ0 F2 Hb := (ab.ext (s1.trans (e1.trans e2))).cap ho k0
      refine tg' v xs[i] _ ρ1 σ0 F2 Hb _ ab0 rx hs fun σ1 hl1 hk1 ab1 => ⟨keeps_tg k0 hl1 hk1 hi, ρ1, F2, ab1, ?_⟩
      rw [ht]
      intro F3 H3 e3
      rcases hcase with ⟨rfl, y, ws, hy1, hy2, rfl⟩ | ⟨rfl, hy2⟩
      · refine iteT ⟨ρ1, F3, ab1.ext e3, ?_⟩
        rw [hy1]
        intro w F4 H4 e4 rw'
        refine ⟨F4, e1.trans (e2.trans (e3.trans e4)), by rw [List.length_append, List.length_singleton]; omega, zs ++ [y], ws, (hd.same (e2.trans (e3.trans e4)).ff).append (.cons rw' .nil), hy2, by rw [List.append_assoc]; exact hz⟩
      · exact iteF ⟨F3, e1.trans (e2.trans e3), by omega, zs, rest, hd.same (e2.trans e3).ff, hy2, hz⟩
    · rintro acc H' ⟨F', e1, _, zs, rest, hd, hr, hz⟩ p hp
      rw [List.drop_length] at hr
      cases hr
      rw [List.append_nil] at hz
      subst hz
      exact Rk.ok q (.ref p) F' _ (s1.trans (e1.trans (Ext.own e1.fh hp))) ⟨p, acc, rfl, same_none (s1.trans e1).hh hp, upd_same, same_none e1.fh hp, hd⟩
theorem pn_comp {N : List Str} {js : List (Option Nat)} {scope : Scope} {tg elt : Expr} {ifs : List Expr} {fi : Sg → R (List PyData)} {fs : PyData → Sg → Option Sg} {ft : Sg → R Bool} {fe : Sg → R PyData} {is : List Nat} (h : PE X e (tComp X N scope js tg elt ifs (tI c E fi))) (ho : js.Pairwise fun a b => a = none ∨ a ≠ b) (hi : ∀ i ∈ is, js[i]? = some none)
    (hb : ∀ (cl : List (Str × Addr)) (C : Addr) (s : Shared) (H0 : Hp) (fp : List Addr), ∃ g, PG (cxComp X N scope cl C s H0 fp) tg g ∧ Tg c g fs is ∧ L2.PIf (cxComp X N scope cl C s H0 fp) ifs (tTf c E0 ft) ∧ PD (cxComp X N scope cl C s H0 fp) c E0 elt fe) :
    PN X c E e (nComp js fi fs ft fe) := PE.imp h fun σ H Q q => comp_read (capOnce_of ho) hi hb q
/-- name = [..] -/
theorem ps_setC {i : Nat} {st : Stmt} {N : List Str} {js : List (Option Nat)} {scope : Scope} {tg elt : Expr} {ifs : List Expr} {fi : Sg → R (List PyData)} {fs : PyData → Sg → Option Sg} {ft : Sg → R Bool} {fe : Sg → R PyData} {is : List Nat} (h : PS X st (tAsg (tComp X N scope js tg elt ifs (tI c E fi)) (gName i))) (ho : js.Pairwise fun a b => a = none ∨ a ≠ b) (hi : ∀ i ∈ is, js[i]? = some none)
    (hb : ∀ (cl : List (Str × Addr)) (C : Addr) (s : Shared) (H0 : Hp) (fp : List Addr), ∃ g, PG (cxComp X N scope cl C s H0 fp) tg g ∧ Tg c g fs is ∧ L2.PIf (cxComp X N scope cl C s H0 fp) ifs (tTf c E0 ft) ∧ PD (cxComp X N scope cl C s H0 fp) c E0 elt fe) :
    PSf X c E st (sSetN i (nComp js fi fs ft fe)) := ps_setN (PS.imp h fun D σ H q => comp_read (capOnce_of ho) hi hb q)
end
/-! ### for -/
def forF (fs : PyData → Sg → Option Sg) (fb : Sg → R Fw) : List PyData → Sg → R Fw
  | [], ρ => .ok (.nx ρ)
  | x :: t, ρ => (optR (fs x ρ)).bind fun ρ1 => (fb ρ1).bind fun w => match w with
    | .nx ρ2 => forF fs fb t ρ2
    | .ct ρ2 => forF fs fb t ρ2
    | .bk ρ2 => .ok (.nx ρ2)
    | .rt a => .ok (.rt a)
def sFor (fi : Sg → R (List PyData)) (fs : PyData → Sg → Option Sg) (fb : Sg → R Fw) : Sg → R Fw := fun ρ => (fi ρ).bind fun xs => forF fs fb xs ρ
section
variable {X : Cx} {c : Ct} {E : XK} {e a b : Expr} {pos : Pos} {st : Stmt}
theorem ps_for {g : TG} {fi : Sg → R (List PyData)} {fs : PyData → Sg → Option Sg} {is : List Nat} {fb : Sg → R Fw} (hg : Tg c g fs is) (h : PS X st (tFor (tI0 c E fi) g (tSf c E fb))) : PSf X c E st (sFor fi fs fb) := PS.imp h fun D σ H ⟨ρ, F, ab, k⟩ => by
  refine ⟨ρ, F, ab, (Rk.bind k).imp fun xs _ q J F1 H1 s1 yl => ?_⟩
  refine ⟨fun i m σ H => m = xs.length - i ∧ i ≤ xs.length ∧ ∃ ρ' F', Same F1 F' ∧ Ab c ρ' σ F' H ∧ Rk c E F' H (forF fs fb (xs.drop i) ρ') (FwOk c F D), ⟨xs.length, by simp, Nat.zero_le _, ρ, F1, same_refl _, ab.ext s1, Rk.ext s1 q⟩, ?_⟩
  rintro i m σ2 H2 ⟨rfl, hi, ρ2, F2, s2, ab2, k2⟩
  by_cases hlt : i < xs.length
  · refine .inr ⟨yl.go i F2 H2 s2 ab2.fh none_same hlt, fun σ' H' => ∃ ρ' F', Same F1 F' ∧ Ab c ρ' σ' F' H' ∧ Rk c E F' H' (forF fs fb (xs.drop (i + 1)) ρ') (FwOk c F D), fun σ' H' w => ⟨xs.length - (i + 1), by omega, rfl, hlt, w⟩, fun v H3 y => ?_⟩
    obtain ⟨F3, e3, rv⟩ := yl.yld i F2 H2 v H3 xs[i] s2 ab2.fh none_same y (List.getElem?_eq_getElem hlt)
    have hdr : xs.drop i = xs[i] :: xs.drop (i + 1) := List.drop_eq_getElem_cons hlt
    rw [hdr] at k2
    unfold forF at k2
    cases h1 : fs xs[i] ρ2 with
    | none => rw [h1] at k2; exact k2.elim
    | some ρ3 =>
      rw [h1] at k2
      refine hg v xs[i] ρ2 ρ3 σ2 F3 H3 _ (ab2.ext e3) rv h1 fun σ3 _ _ ab3 => ⟨ρ3, F3, ab3, ?_⟩
      have k3 : Rk c E F2 H2 (fb ρ3) _ := Rk.bind k2
      cases h2 : fb ρ3 with
      | bad => rw [h2] at k3; exact k3.elim
      | ex e => rw [h2] at k3; exact k3
      | ok w =>
        rw [h2] at k3
        have k4 := Rk.ok k3
        have sF : Same F F3 := fun a o z => e3.ff a o (s2 a o (s1.ff a o z))
        cases w with
        | nx ρ4 => exact fun σ' F' H' s' ab' => ⟨ρ4, F', fun a o z => s' a o (e3.ff a o (s2 a o z)), ab', k4⟩
        | ct ρ4 => exact fun σ' F' H' s' ab' => ⟨ρ4, F', fun a o z => s' a o (e3.ff a o (s2 a o z)), ab', k4⟩
        | bk ρ4 => exact fun σ' F' H' s' ab' => Rk.ok k4 σ' F' H' (fun a o z => s' a o (sF a o z)) ab'
        | rt a => exact fun v F' H' z r => Rk.ok k4 v F' H' z r
  · have e : i = xs.length := by omega
    subst e
    rw [List.drop_length] at k2
    exact .inl ⟨yl.stop F2 H2 s2 ab2.fh none_same, Rk.ok k2 σ2 F2 H2 (fun a o z => s2 a o (s1.ff a o z)) ab2⟩
end
/-! ### while -/
def whileN (t : Sg → R Bool) (b : Sg → R Fw) : Nat → Sg → R Fw
  | 0, _ => .bad
  | n + 1, ρ => (t ρ).bind fun k => if k = true then (b ρ).bind fun w => match w with
      | .nx ρ' => whileN t b n ρ'
      | .ct ρ' => whileN t b n ρ'
      | .bk ρ' => .ok (.nx ρ')
      | .rt a => .ok (.rt a)
    else .ok (.nx ρ)
open Classical in
noncomputable def sWhile (t : Sg → R Bool) (b : Sg → R Fw) : Sg → R Fw := fun ρ => if h : ∃ n, whileN t b n ρ ≠ .bad then whileN t b h.choose ρ else .bad
theorem R.bind_mono {α β : Type} {r : R α} {f g : α → R β} (h : r.bind f ≠ .bad) (hfg : ∀ a, f a ≠ .bad → g a = f a) : r.bind g = r.bind f := by
  cases r with
  | bad => rfl
  | ex e => rfl
  | ok a => exact hfg a h
theorem whileN_mono {t : Sg → R Bool} {b : Sg → R Fw} : ∀ {n m : Nat} {ρ : Sg}, n ≤ m → whileN t b n ρ ≠ .bad → whileN t b m ρ = whileN t b n ρ
  | 0, _, _, _, h => absurd rfl h
  | n + 1, 0, _, hm, _ => absurd hm (by omega)
  | n + 1, m + 1, ρ, hm, h => by
    unfold whileN at h ⊢
    refine R.bind_mono h fun k hk => ?_
    cases k with
    | false => rfl
    | true =>
      refine R.bind_mono (r := b ρ) hk fun w hw => ?_
      cases w with
      | nx ρ' => exact whileN_mono (by omega) hw
      | ct ρ' => exact whileN_mono (by omega) hw
      | bk ρ' => rfl
      | rt a => rfl
theorem sWhile_of {t : Sg → R Bool} {b : Sg → R Fw} {ρ : Sg} {n : Nat} (h : whileN t b n ρ ≠ .bad) : sWhile t b ρ = whileN t b n ρ := by
  have hx : ∃ n, whileN t b n ρ ≠ .bad := ⟨n, h⟩
  unfold sWhile
  rw [dif_pos hx]
  have hc := hx.choose_spec
  rcases Nat.le_total n hx.choose with q | q
  · exact whileN_mono q h
  · exact (whileN_mono q hc).symm
/-- the loop's own equation -/
theorem sWhile_eq (t : Sg → R Bool) (b : Sg → R Fw) (ρ : Sg) : sWhile t b ρ = (t ρ).bind fun k => if k = true then (b ρ).bind fun w => match w with
      | .nx ρ' => sWhile t b ρ'
      | .ct ρ' => sWhile t b ρ'
      | .bk ρ' => .ok (.nx ρ')
      | .rt a => .ok (.rt a)
    else .ok (.nx ρ) := by
  have key : ∀ n, (∀ k, t ρ = .ok k → k = true → ∀ w, b ρ = .ok w → ∀ ρ', (w = .nx ρ' ∨ w = .ct ρ') → sWhile t b ρ' = whileN t b n ρ') → whileN t b (n + 1) ρ = (t ρ).bind fun k => if k = true then (b ρ).bind fun w => match w with
      | .nx ρ' => sWhile t b ρ'
      | .ct ρ' => sWhile t b ρ'
      | .bk ρ' => .ok (.nx ρ')
      | .rt a => .ok (.rt a)
    else .ok (.nx ρ) := by
    intro n h
    unfold whileN
    cases ht : t ρ with
    | bad => rfl
    | ex e => rfl
    | ok k =>
      cases k with
      | false => rfl
      | true =>
        show ((b ρ).bind _) = ((b ρ).bind _)
        cases hb : b ρ with
        | bad => rfl
        | ex e => rfl
        | ok w =>
          cases w with
          | nx ρ' => exact (h true ht rfl _ hb ρ' (.inl rfl)).symm
          | ct ρ' => exact (h true ht rfl _ hb ρ' (.inr rfl)).symm
          | bk ρ' => rfl
          | rt a => rfl
  by_cases hx : ∃ n, whileN t b n ρ ≠ .bad
  · obtain ⟨n, hn⟩ := hx
    cases n with
    | zero => exact absurd rfl hn
    | succ n =>
      rw [sWhile_of hn]
      refine key n fun k ht hk w hb ρ' hw => ?_
      subst hk
      refine sWhile_of fun z => hn ?_
      unfold whileN
      rw [ht]
      show ((b ρ).bind _) = _
      rw [hb]
      rcases hw with rfl | rfl
      · exact z
      · exact z
  · have h0 : sWhile t b ρ = .bad := by unfold sWhile; rw [dif_neg hx]
    rw [h0]
    -- the next state has none either
    have hall : ∀ n, whileN t b n ρ = .bad := fun n => Classical.byContradiction fun z => hx ⟨n, z⟩
    cases ht : t ρ with
    | bad => rfl
    | ex e => have := hall 1; unfold whileN at this; rw [ht] at this; cases this
    | ok k =>
      cases k with
      | false => have := hall 1; unfold whileN at this; rw [ht] at this; cases this
      | true =>
        show R.bad = ((b ρ).bind _)
        cases hb : b ρ with
        | bad => rfl
        | ex e => have := hall 1; unfold whileN at this; rw [ht] at this; change ((b ρ).bind _) = _ at this; rw [hb] at this; cases this
        | ok w =>
          have nxt : ∀ ρ', (w = .nx ρ' ∨ w = .ct ρ') → sWhile t b ρ' = .bad := fun ρ' hw => by
            unfold sWhile
            rw [dif_neg]
            rintro ⟨n, hn⟩
            refine hn ?_
            have := hall (n + 1)
            unfold whileN at this
            rw [ht] at this
            change ((b ρ).bind _) = _ at this
            rw [hb] at this
            rcases hw with rfl | rfl <;> exact this
          cases w with
          | nx ρ' => exact (nxt ρ' (.inl rfl)).symm
          | ct ρ' => exact (nxt ρ' (.inr rfl)).symm
          | bk ρ' => have := hall 1; unfold whileN at this; rw [ht] at this; change ((b ρ).bind _) = _ at this; rw [hb] at this; cases this
          | rt a => have := hall 1; unfold whileN at this; rw [ht] at this; change ((b ρ).bind _) = _ at this; rw [hb] at this; cases this
section
variable {X : Cx} {c : Ct} {E : XK} {st : Stmt}
theorem ps_while {t : Sg → R Bool} {fb : Sg → R Fw} (h : PS X st (tWhile (tTf c E t) (tSf c E fb))) : PSf X c E st (sWhile t fb) := PS.imp h fun D σ H ⟨ρ, F, ab, k⟩ => by
  have hx : ∃ n, whileN t fb n ρ ≠ .bad := Classical.byContradiction fun z => by
    have : sWhile t fb ρ = .bad := by unfold sWhile; rw [dif_neg z]
    rw [this] at k
    exact k
  obtain ⟨n, hn⟩ := hx
  rw [sWhile_of hn] at k
  refine ⟨fun m σ H => ∃ ρ' F', Same F F' ∧ Ab c ρ' σ F' H ∧ Rk c E F' H (whileN t fb m ρ') (FwOk c F D), ⟨n, ρ, F, same_refl F, ab, k⟩, ?_⟩
  rintro m σ1 H1 ⟨ρ1, F1, s1, ab1, k1⟩
  cases m with
  | zero => exact k1.elim
  | succ m =>
    unfold whileN at k1
    refine ⟨ρ1, F1, ab1, (Rk.bind k1).imp fun b _ q F2 H2 e2 => ?_⟩
    have ab2 := ab1.ext e2
    cases b with
    | false => exact iteF (Rk.ok q σ1 F2 H2 (fun a o z => e2.ff a o (s1 a o z)) ab2)
    | true =>
      refine iteT ⟨fun σ' H' => ∃ ρ' F', Same F F' ∧ Ab c ρ' σ' F' H' ∧ Rk c E F' H' (whileN t fb m ρ') (FwOk c F D), fun σ' H' w => ⟨m, by omega, w⟩, ρ1, F2, ab2, ?_⟩
      have q' : Rk c E F1 H1 (fb ρ1) _ := Rk.bind (r := fb ρ1) q
      cases h2 : fb ρ1 with
      | bad => rw [h2] at q'; exact q'.elim
      | ex e => rw [h2] at q'; exact q'
      | ok w =>
        rw [h2] at q'
        have k4 := Rk.ok q'
        have sF : Same F F2 := fun a o z => e2.ff a o (s1 a o z)
        cases w with
        | nx ρ4 => exact fun σ' F' H' s' ab' => ⟨ρ4, F', fun a o z => s' a o (sF a o z), ab', k4⟩
        | ct ρ4 => exact fun σ' F' H' s' ab' => ⟨ρ4, F', fun a o z => s' a o (sF a o z), ab', k4⟩
        | bk ρ4 => exact fun σ' F' H' s' ab' => Rk.ok k4 σ' F' H' (fun a o z => s' a o (sF a o z)) ab'
        | rt a => exact fun v F' H' z r => Rk.ok k4 v F' H' z r
end
end Fl
namespace Fl
open PySem L2 PyProof.Rows
/-- a function that takes data and tells data, by what it leans on -/
def spG (K : PySem.W.Frag) (mg : Str → Option Value) (T F1 : Hp) (n : Nat) (G : List PyData → R PyData) : Sp := fun vs H Q E => ∃ F ds, Same F1 F ∧ Same T F ∧ Same F H ∧ DatVs K F vs ds ∧ ds.length = n ∧ match G ds with
  | .bad => False
  | .ok d => ∀ v F' H', Ext F H F' H' → DatV K F' v d → Q v H'
  | .ex e => ∀ a C F' H', Ext F H F' H' → XRel K mg F' e a C → E (.ref C) (some a) H'
def Beh (P : Program) (w : World) (K : PySem.W.Frag) (mg : Str → Option Value) (base : Heap) (T : Hp) (f : Addr) (F1 : Hp) (k n : Nat) (G : List PyData → R PyData) : Prop :=
  ∃ fd ps, ps.length = n ∧ Binds K fd ps [] ∧ FnOk P w K mg base (CXe P w) k f fd ps (spG K mg T F1 n G) ∧ (PySem.W.keepIn K (.ref f) = true ∨ ∃ oc od fd' sl, F1 f = some (FnO f ⟨oc, od, .func fd', sl⟩))
def gOf (P : Program) (w : World) (K : PySem.W.Frag) (mg : Str → Option Value) (base : Heap) (T : Hp) : Gb := ⟨Beh P w K mg base T, T⟩
def spF (g : Gb) (K : PySem.W.Frag) (mg : Str → Option Value) (n : Nat) (G : List A → R A) : Sp := fun vs H Q E => ∃ F as, Same g.T F ∧ Same F H ∧ AFs g K mg F as vs ∧ as.length = n ∧ match G as with
  | .bad => False
  | .ok a => ∀ v F' H', Ext F H F' H' → AF g K mg F' a v → Q v H'
  | .ex e => ∀ a C F' H', Ext F H F' H' → XRel K mg F' e a C → E (.ref C) (some a) H'
def CallsF (P : Program) (w : World) (K : PySem.W.Frag) (mg : Str → Option Value) (base : Heap) (T : Hp) (k : Nat) (x : Str) (ps : List Str) (G : List A → R A) : Prop := Calls P w K mg base (CXe P w) k x ps (spF (gOf P w K mg base T) K mg ps.length G)
def vCall (n : Nat) (G : List A → R A) (f : Sg → R (List A)) : Sg → R A := fun ρ => (f ρ).bind fun as => if as.length = n then G as else .bad
theorem pv_fn {X : Cx} {c : Ct} {E : XK} {e : Expr} {n : Nat} {G : List A → R A} {g : Gb} {K : PySem.W.Frag} {mg : Str → Option Value} {f : Sg → R (List A)} (hG : g = c.g) (hK : K = c.K) (hM : mg = c.mg) (h : PE X e (tCall (spF g K mg n G) [] E (tAv c E f))) : PV X c E e (vCall n G f) := PE.imp h fun σ H Q ⟨ρ, F, ab, k⟩ => by
  subst hG hK hM
  refine ⟨ρ, F, ab, (Rk.bind k).imp fun as _ q vs F1 H1 s1 r1 => ?_⟩
  by_cases hn : as.length = n
  · rw [if_pos hn] at q
    refine ⟨F1, as, fun a o z => s1.ff a o (ab.f0 a o (ab.t0 a o z)), s1.fh, by rw [List.append_nil]; exact r1, hn, ?_⟩
    cases hg : G as with
    | bad => rw [hg] at q; exact q
    | ok a => rw [hg] at q; exact fun v F' H' s r => Rk.ok q v F' H' (s1.trans s) r
    | ex e => rw [hg] at q; exact fun a C F' H' s r => q a C F' H' ((ab.all.trans s1).trans s) r
  · rw [if_neg hn] at q; exact q.elim
def fnF (n : Nat) (fb : Sg → R Fw) : List A → R A := fun as => (fb (as.map some ++ List.replicate (n - as.length) none)).bind fun w => match w with
  | .rt a => .ok a
  | .nx _ => .ok (.d .none)
  | _ => .bad
theorem AFs.get {g : Gb} {K : PySem.W.Frag} {mg : Str → Option Value} {F : Hp} : ∀ {as : List A} {vs : List V} {i : Nat} {a : A}, AFs g K mg F as vs → as[i]? = some a → ∃ v, vs[i]? = some v ∧ AF g K mg F a v
  | [], [], _, _, _, h => by simp at h
  | a :: as, v :: vs, 0, _, h, e => by simp at e; subst e; exact ⟨v, rfl, h.1⟩
  | a :: as, v :: vs, i + 1, _, h, e => by
    obtain ⟨w, h1, h2⟩ := AFs.get (i := i) h.2 (by simpa using e)
    exact ⟨w, by simpa using h1, h2⟩
theorem map_some_get {α : Type} {as : List α} {n i : Nat} {a : α} (h : (as.map some ++ List.replicate n none)[i]? = some (some a)) : as[i]? = some a := by
  by_cases hi : i < as.length
  · rw [List.getElem?_append_left (by rw [List.length_map]; exact hi), List.getElem?_map] at h
    cases e : as[i]? with
    | none => rw [e] at h; cases h
    | some b => rw [e] at h; cases h; rfl
  · rw [List.getElem?_append_right (by rw [List.length_map]; omega), List.getElem?_replicate] at h
    split at h
    · cases h
    · cases h
theorem ab_start {g : Gb} {cells : List (Str × Addr)} {cls : Str → Option ClSt} {K : PySem.W.Frag} {mg : Str → Option Value} {w : World} {F H : Hp} {as : List A} {vs : List V} {n : Nat} (s0 : Same g.T F) (s : Same F H) (h : AFs g K mg F as vs) : Ab ⟨K, mg, w, F, H, g, cells, cls⟩ (as.map some ++ List.replicate (n - as.length) none) (vs.map some ++ List.replicate (n - vs.length) none) F H where
  len := by rw [List.length_append, List.length_append, List.length_map, List.length_map, List.length_replicate, List.length_replicate, h.len]
  fh := s
  slot := fun i a e => by
    obtain ⟨v, h1, h2⟩ := h.get (map_some_get e)
    refine ⟨v, ?_, AO.of h2⟩
    have hi : i < vs.length := (List.getElem?_eq_some_iff.mp h1).1
    rw [List.getElem?_append_left (by rw [List.length_map]; exact hi), List.getElem?_map, h1]; rfl
  apart := fun i j a b _ e1 _ o _ => by
    obtain ⟨v, h1, h2⟩ := h.get (map_some_get e1)
    rw [AF.notOwn h2] at o
    cases o
  f0 := same_refl F
  h0 := same_refl H
  n0 := fun a e n => absurd e n
  t0 := s0
theorem fn_read {g : Gb} {cells : List (Str × Addr)} {cls : Str → Option ClSt} {K : PySem.W.Frag} {mg : Str → Option Value} {w : World} {n : Nat} {fb : Sg → R Fw} {vs : List V} {as : List A} {F H : Hp} {Q : VK} {E : XK} (h0 : Same g.T F) (h1 : Same F H) (h2 : AFs g K mg F as vs) (h4 : match fnF n fb as with
  | .bad => False
  | .ok a => ∀ v F' H', Ext F H F' H' → AF g K mg F' a v → Q v H'
  | .ex e => ∀ a C F' H', Ext F H F' H' → XRel K mg F' e a C → E (.ref C) (some a) H') : tSf ⟨K, mg, w, F, H, g, cells, cls⟩ E fb { nx := fun _ H' => Q .non H', rt := Q } (vs.map some ++ List.replicate (n - vs.length) none) H := by
  refine ⟨_, F, ab_start h0 h1 h2, ?_⟩
  unfold fnF at h4
  cases e : fb (as.map some ++ List.replicate (n - as.length) none) with
  | bad => rw [e] at h4; exact h4
  | ex x => rw [e] at h4; exact h4
  | ok w =>
    rw [e] at h4
    cases w with
    | nx ρ' => exact fun σ' F' H' s ab => h4 .non F' H' ab.all .non
    | rt a => exact h4
    | bk ρ' => exact h4.elim
    | ct ρ' => exact h4.elim
section
variable {P : Program} {w : World} {K : PySem.W.Frag} {mg : Str → Option Value} {base : Heap} {T : Hp} {x : Str} {st : Stmt} {N ps : List Str} {k : Nat}
theorem def_ok {fb : Sg → R Fw} (D : DefAt K mg x st ps) (S : FnScope N ps (defScope st))
    (hbody : ∀ (f : Addr) (cdv : Value) (A : Around) (outer : List Env) (s : Shared) (H F : Hp) (E : XK), Room k (A.deeper (envOfC x (defScope st) s.heap.objs.size f cdv)) →
      PSSf ((cxOf (CXe P w) P w K mg base N x (defScope st) f cdv A outer s H E).fly E) ⟨K, mg, w, F, H, gOf P w K mg base T, (envOfC x (defScope st) s.heap.objs.size f cdv).cells, fun _ => none⟩ E (defBody st) fb) : CallsF P w K mg base T (k + 1) x ps (fnF N.length fb) := by
  refine D.okX S (fun vs H Q E h => ?_) (fun f cdv A outer s H vs Q E hr h => ?_)
  · obtain ⟨F, as, _, _, h2, h3, _⟩ := h
    rw [h2.len, h3]
  · obtain ⟨F, as, h0, h1, h2, h3, h4⟩ := h
    exact ⟨_, hbody f cdv A outer s H F E hr, fn_read h0 h1 h2 h4⟩
end
/-! ### raise -/
def sRaise (cn : Str) (fs : List Str) (f : Sg → R (List PyData)) : Sg → R Fw := fun ρ => (f ρ).bind fun xs => if xs.length = fs.length then .ex ⟨cn, fs.zip xs⟩ else .bad
theorem zip_fst {α β : Type} : ∀ {xs : List α} {ys : List β}, ys.length = xs.length → (xs.zip ys).map (·.1) = xs
  | [], _, _ => by simp
  | x :: xs, [], h => by simp at h
  | x :: xs, y :: ys, h => by simp at h; simp [zip_fst h]
theorem zip_snd {α β : Type} : ∀ {xs : List α} {ys : List β}, ys.length = xs.length → (xs.zip ys).map (·.2) = ys
  | [], [], _ => by simp
  | [], _ :: _, h => by simp at h
  | x :: xs, [], h => by simp at h
  | x :: xs, y :: ys, h => by simp at h; simp [zip_snd h]
theorem ps_raise {X : Cx} {c : Ct} {E : XK} {st : Stmt} {cn : Str} {C : Addr} {fs : List Str} {f : Sg → R (List PyData)} (hm : c.mg cn = some (.ref C)) (hl : fs.length ≤ 1000) (h : PS X st (tRaise C (spI C fs) E (tAd c E f))) : PSf X c E st (sRaise cn fs f) := PS.imp h fun D σ H ⟨ρ, F, ab, k⟩ => by
  refine ⟨ρ, F, ab, (Rk.bind k).imp fun xs _ q vs F1 H1 s1 r1 => ?_⟩
  by_cases hn : xs.length = fs.length
  · rw [if_pos hn] at q
    have hv : vs.length = fs.length := by rw [r1.length, hn]
    refine raise_read hv (by rw [hv]; exact hl) fun e d he hd hne => ?_
    have s2 : Ext F1 H1 (upd F1 e (ExO e C (some d))) (upd H1 e (ExO e C (some d))) := Ext.new s1.fh he
    have s3 : Ext _ _ (upd (upd F1 e (ExO e C (some d))) d (.xd (fs.zip vs))) (upd (upd H1 e (ExO e C (some d))) d (.xd (fs.zip vs))) := Ext.new s2.fh (by rw [upd_ne hne]; exact hd)
    refine q e C _ _ ((ab.all.trans s1).trans (s2.trans s3)) ⟨hm, some d, ?_, .inr ⟨d, fs.zip vs, rfl, upd_same, ?_, ?_⟩⟩
    · rw [upd_ne (Ne.symm hne), upd_same]
    · show _ = (fs.zip xs).map (·.1)
      rw [zip_fst hv, zip_fst hn]
    · show DatVs _ _ _ ((fs.zip xs).map (·.2))
      rw [zip_snd hv, zip_snd hn]
      exact r1.same (s2.trans s3).ff
  · rw [if_neg hn] at q; exact q.elim
end Fl
namespace Fl
open PySem L2 PyProof.Rows
/-! ### slices -/
def tPf (c : Ct) (E : XK) (f : Sg → R (Option Int)) : TO := fun σ H Q => ∃ ρ F, Ab c ρ σ F H ∧ Rk c E F H (f ρ) fun o => ∀ F' H', Ext F H F' H' → Q o H'
def oNo : Sg → R (Option Int) := fun _ => .ok none
def oSo (f : Sg → R PyData) : Sg → R (Option Int) := fun ρ => (f ρ).bind fun x => match x with
  | .int i => .ok (some i)
  | _ => .bad
def cutL {α : Type} (xs : List α) (lo hi : Option Int) : List α := (xs.drop (HT.sIx xs.length 0 lo)).take (HT.sIx xs.length xs.length hi - HT.sIx xs.length 0 lo)
def dSl : PyData → Option Int → Option Int → R PyData
  | .list xs, lo, hi => .ok (.list (cutL xs lo hi))
  | .tuple xs, lo, hi => if ¬ (HT.sIx xs.length 0 lo = 0 ∧ HT.sIx xs.length xs.length hi = xs.length) then .ok (.tuple (cutL xs lo hi)) else .bad
  | .str z, lo, hi => if z.length ≤ 16777216 then .ok (.str (Txt.slice z lo hi)) else .bad
  | _, _, _ => .bad
def nSl : PyData → Option Int → Option Int → R (List PyData)
  | .list xs, lo, hi => .ok (cutL xs lo hi)
  | _, _, _ => .bad
def eSl {α : Type} (g : PyData → Option Int → Option Int → R α) (f : Sg → R PyData) (lo hi : Sg → R (Option Int)) : Sg → R α := fun ρ => (f ρ).bind fun x => (lo ρ).bind fun l => (hi ρ).bind fun h => g x l h
theorem cutL_dat {K : PySem.W.Frag} {F : Hp} {vs : List V} {xs : List PyData} (h : DatVs K F vs xs) (lo hi : Option Int) : DatVs K F (cutV vs lo hi) (cutL xs lo hi) := by
  unfold cutV cutL
  rw [h.length]
  exact (h.drop _).take _
theorem PO.imp {X : Cx} {e : Option Expr} {t t' : TO} (h : PO X e t) (i : ∀ σ H Q, t' σ H Q → t σ H Q) : PO X e t' := fun pins s σ H Q I q => h pins s σ H Q I (i σ H Q q)
section
variable {X : Cx} {c : Ct} {E : XK} {e a b : Expr} {pos p2 : Pos} {lo hi : Option Expr}
theorem po_no : PO X none (tPf c E oNo) := PO.imp po_none fun σ H Q ⟨ρ, F, ab, k⟩ => Rk.ok k F H (Ext.refl ab.fh)
theorem po_so {f : Sg → R PyData} (h : PR X c E e f) : PO X (some e) (tPf c E (oSo f)) := PO.imp (po_some h) fun σ H Q ⟨ρ, F, ab, k⟩ => ⟨ρ, F, ab, (Rk.bind k).imp fun x _ q v F' H' s r => by
  cases x with
  | int i => exact ⟨i, DatR.int_of r, Rk.ok q F' H' s⟩
  | _ => exact q.elim⟩
def rSlD (c : Ct) {α : Type} (Rb : VR α) (g : PyData → Option Int → Option Int → R α) : V → Option Int → Option Int → Hp → VK → Prop := fun v lo hi H Q => ∃ F x d, Same F H ∧ DatR c.K F H v x ∧ g x lo hi = .ok d ∧ ∀ w F' H', Ext F H F' H' → Rb d w H F' H' → Q w H'
theorem slr_d (hK : X.K = c.K) : SlR X (rSlD c (relD c) dSl) := by
  intro pins s σ H v x vl vu lo hi sl Q I rx hs pl pu h
  obtain ⟨F, d, w, sf, ra, eg, q⟩ := h
  unfold dSl at eg
  split at eg
  · cases eg
    obtain ⟨p, vs, rfl, h1, h2⟩ := DatR.lst_of sf ra
    rw [← hK] at h1
    exact sl_list pins s σ H _ x vl vu lo hi sl Q I rx hs pl pu ⟨p, vs, rfl, h1, fun l hl => q _ _ _ (Ext.new sf hl) (.lst (SqL.of upd_same) ((cutL_dat h2 lo hi).same (Same.upd (same_none sf hl))))⟩
  · rename_i xs _ _
    split at eg
    · rename_i hw
      cases eg
      obtain ⟨p, vs, rfl, _, h1, h2⟩ := DatR.tup_of sf ra
      rw [← hK] at h1
      exact sl_tup pins s σ H _ x vl vu lo hi sl Q I rx hs pl pu ⟨p, vs, rfl, h1, by rw [h2.length]; exact hw, fun l hl => q _ _ _ (Ext.new sf hl) (.tup (SqT.of upd_same) ((cutL_dat h2 lo hi).same (Same.upd (same_none sf hl))))⟩
    · cases eg
  · split at eg
    · rename_i hz
      cases eg
      obtain rfl := DatR.str_of ra
      exact sl_str pins s σ H _ x vl vu lo hi sl Q I rx hs pl pu ⟨_, rfl, by rw [line_eq]; exact hz, q _ F H (Ext.refl sf) (.str _)⟩
    · cases eg
  · cases eg
theorem sl_read {α : Type} {Rb : VR α} {g : PyData → Option Int → Option Int → R α} (hp : ∀ x l h e, g x l h ≠ .ex e) (kb : Back Rb) {f : Sg → R PyData} {fl fh : Sg → R (Option Int)} {σ : L2.St} {H : Hp} {Q : VK} (h : tV Rb c E (eSl g f fl fh) σ H Q) :
    tSl (rSlD c Rb g) (tV (relR c) c E f) (tPf c E fl) (tPf c E fh) σ H Q := by
  obtain ⟨ρ, F, ab, k⟩ := h
  refine ⟨ρ, F, ab, (Rk.bind k).imp fun x _ q v F1 H1 s1 r1 => ⟨ρ, F1, ab.ext s1, ((Rk.bind q).ext s1).imp fun l _ q F2 H2 s2 => ⟨ρ, F2, ab.ext (s1.trans s2), ((Rk.bind q).ext (s1.trans s2)).imp fun hh _ q F3 H3 s3 => ?_⟩⟩⟩
  cases eg : g x l hh with
  | bad => rw [eg] at q; exact q.elim
  | ex e => exact absurd eg (hp x l hh e)
  | ok d =>
    rw [eg] at q
    have s13 := (s1.trans s2).trans s3
    exact ⟨F3, x, d, s3.fh, DatR.ext (s2.trans s3) r1, eg, fun w F' H' s r => Rk.ok q w F' H' (s13.trans s) (kb _ _ _ _ _ _ s13.hh r)⟩
theorem plain_sl : ∀ x l h e, dSl x l h ≠ .ex e := by intro x l h e q; unfold dSl at q; split at q <;> (try split at q) <;> cases q
theorem pd_slice {f : Sg → R PyData} {fl fh : Sg → R (Option Int)} (hK : X.K = c.K) (he : PR X c E e f) (hl : PO X lo (tPf c E fl)) (hh : PO X hi (tPf c E fh)) : PD X c E (.Subscript e (.Slice lo hi none p2) pos) (eSl dSl f fl fh) :=
  PE.imp (pe_slice (slr_d hK) he hl hh) fun σ H Q h => sl_read plain_sl (backD c) h
/-! ### isinstance of data -/
def tyN : PyData → String
  | .none => "NoneType"
  | .bool _ => "bool"
  | .int _ => "int"
  | .str _ => "str"
  | .list _ => "list"
  | .tuple _ => "tuple"
  | .dict _ => "dict"
def isTn (t T : String) : Bool := t == T || (T == "int" && t == "bool")
def dIsT (T : String) (x : PyData) : R PyData := match x with
  | .dict _ => .bad
  | x => .ok (.bool (isTn (tyN x) T))
structure Kit (K : PySem.W.Frag) (T : String) : Prop where
  non : PySem.W.kitOne K (.type "NoneType") (.type T) = some (isTn "NoneType" T)
  bl : PySem.W.kitOne K (.type "bool") (.type T) = some (isTn "bool" T)
  int : PySem.W.kitOne K (.type "int") (.type T) = some (isTn "int" T)
  str : PySem.W.kitOne K (.type "str") (.type T) = some (isTn "str" T)
  lst : PySem.W.kitOne K (.type "list") (.type T) = some (isTn "list" T)
  tup : PySem.W.kitOne K (.type "tuple") (.type T) = some (isTn "tuple" T)
theorem kit_str (K : PySem.W.Frag) : Kit K "str" := ⟨rfl, rfl, rfl, rfl, rfl, rfl⟩
theorem call_isL {X : Cx} : CallR X (.builtin "isinstance") (fun xs H Q => ∃ a ys c cv b, xs = [.ref a, c] ∧ SqL X.K H a ys ∧ clsV c = some cv ∧ PySem.W.kitOne X.K (.type "list") cv = some b ∧ Q (.bl b) H) := by
  intro pins s σ H xs us Q I r h
  obtain ⟨a, ys, c, cv, b, rfl, ha, hc, e, q⟩ := h
  obtain ⟨u, v, rfl, ru, rv⟩ := vals2 r
  obtain rfl := clsV_of hc rv
  cases (show u = Value.ref a from ru)
  obtain ⟨its, _, pl, _⟩ := I.list ha
  obtain ⟨o, h1, h2, _⟩ := pl.isList
  exact PySem.W.kia_one PySem.W.kitx_list I.kIn ⟨o, h1, h2⟩ e (fun z => nomatch z) fun tk => ⟨.bl b, H, I.tok _, rfl, q⟩
def rIsD (c : Ct) (T : String) : List V → Hp → VK → Prop := fun xs H Q => ∃ F x v d, xs = [v, .ty T] ∧ Same F H ∧ DatR c.K F H v x ∧ dIsT T x = .ok d ∧ ∀ w F' H', Ext F H F' H' → DatV c.K F' w d → Q w H'
theorem call_isD (hK : X.K = c.K) {T : String} (k : Kit X.K T) : CallR X (.builtin "isinstance") (rIsD c T) := by
  intro pins s σ H xs us Q I r h
  obtain ⟨F, x, v, d, rfl, sf, ra, eg, q⟩ := h
  cases x with
  | dict _ => cases eg
  | none =>
    cases eg
    obtain rfl := DatR.non_of ra
    exact call_isinst pins s σ H _ us Q I r ⟨_, _, _, _, _, rfl, .pl .non, rfl, k.non, q _ F H (Ext.refl sf) (.bl _)⟩
  | bool b =>
    cases eg
    obtain rfl := DatR.bl_of ra
    exact call_isinst pins s σ H _ us Q I r ⟨_, _, _, _, _, rfl, .pl (.bl b), rfl, k.bl, q _ F H (Ext.refl sf) (.bl _)⟩
  | int b =>
    cases eg
    obtain rfl := DatR.int_of ra
    exact call_isinst pins s σ H _ us Q I r ⟨_, _, _, _, _, rfl, .pl (.int b), rfl, k.int, q _ F H (Ext.refl sf) (.bl _)⟩
  | str b =>
    cases eg
    obtain rfl := DatR.str_of ra
    exact call_isinst pins s σ H _ us Q I r ⟨_, _, _, _, _, rfl, .pl (.str b), rfl, k.str, q _ F H (Ext.refl sf) (.bl _)⟩
  | tuple xs =>
    cases eg
    obtain ⟨p, vs, rfl, _, h1, h2⟩ := DatR.tup_of sf ra
    rw [← hK] at h1
    exact call_isinstQ pins s σ H _ us Q I r ⟨p, vs, _, _, _, rfl, h1, rfl, k.tup, q _ F H (Ext.refl sf) (.bl _)⟩
  | list xs =>
    cases eg
    obtain ⟨p, vs, rfl, h1, h2⟩ := DatR.lst_of sf ra
    rw [← hK] at h1
    exact call_isL pins s σ H _ us Q I r ⟨p, vs, _, _, _, rfl, h1, rfl, k.lst, q _ F H (Ext.refl sf) (.bl _)⟩
theorem pd_isT {T : String} {f : Sg → R PyData} (h : PE X e (tCB (rIsD c T) (tCons (tV (relR c) c E f) (tCons (tC (.ty T)) tNil)))) : PD X c E e (e1 (dIsT T) f) := PE.imp h fun σ H Q ⟨ρ, F, ab, k⟩ => by
  refine ⟨ρ, F, ab, (Rk.bind k).imp fun x _ q v F1 H1 s1 r1 => ?_⟩
  show rIsD c T [v, .ty T] H1 Q
  cases x with
  | dict _ => exact q.elim
  | none => exact ⟨F1, _, v, _, rfl, s1.fh, r1, rfl, fun w F' H' s r => Rk.ok q w F' H' (s1.trans s) r⟩
  | bool _ => exact ⟨F1, _, v, _, rfl, s1.fh, r1, rfl, fun w F' H' s r => Rk.ok q w F' H' (s1.trans s) r⟩
  | int _ => exact ⟨F1, _, v, _, rfl, s1.fh, r1, rfl, fun w F' H' s r => Rk.ok q w F' H' (s1.trans s) r⟩
  | str _ => exact ⟨F1, _, v, _, rfl, s1.fh, r1, rfl, fun w F' H' s r => Rk.ok q w F' H' (s1.trans s) r⟩
  | list _ => exact ⟨F1, _, v, _, rfl, s1.fh, r1, rfl, fun w F' H' s r => Rk.ok q w F' H' (s1.trans s) r⟩
  | tuple _ => exact ⟨F1, _, v, _, rfl, s1.fh, r1, rfl, fun w F' H' s r => Rk.ok q w F' H' (s1.trans s) r⟩

/-! ### texts: join, index -/
def strL : List PyData → Option (List Str)
  | [] => some []
  | .str s :: t => (strL t).map (s :: ·)
  | _ => none
theorem strs_of {K : PySem.W.Frag} {F : Hp} : ∀ {vs : List V} {xs : List PyData} {ys : List Str}, DatVs K F vs xs → strL xs = some ys → vs = ys.map V.str
  | _, _, ys, .nil, e => by cases e; rfl
  | _, _, ys, .cons (d := d) (ds := t) h h2, e => by
    cases d with
    | str b =>
      unfold strL at e
      cases q : strL t with
      | none => rw [q] at e; cases e
      | some cs =>
        rw [q] at e
        cases e
        rw [strs_of h2 q, h.str_of]; rfl
    | _ => cases e
def dJoin : PyData → PyData → R PyData
  | .str sep, .list xs => match strL xs with
    | some ys => if (ys.map fun y => y.length).sum + ys.length * sep.length ≤ 16777216 then .ok (.str (Txt.join sep ys)) else .bad
    | none => .bad
  | _, _ => .bad
theorem pd_join {f g : Sg → R PyData} (hK : X.K = c.K) (h : PE X e (tBM X.K "str" (rJoin X.K) (tV (relR c) c E f) (tCons (tV (relR c) c E g) tNil))) (hs : ∀ ρ x, f ρ = .ok x → ∃ z, x = .str z) : PD X c E e (e2 dJoin f g) := PE.imp h fun σ H Q ⟨ρ, F, ab, k⟩ => by
  refine ⟨ρ, F, ab, (Rk.bind k).imp fun x ex q v F1 H1 s1 r1 => ?_⟩
  obtain ⟨z, rfl⟩ := hs ρ x ex
  obtain rfl := DatR.str_of r1
  refine ⟨rfl, ρ, F1, ab.ext s1, ((Rk.bind q).ext s1).imp fun y _ q u F2 H2 s2 r2 => ?_⟩
  cases y with
  | list xs =>
    have q' : Rk c E F H (match strL xs with
      | some ys => if (ys.map fun y => y.length).sum + ys.length * z.length ≤ 16777216 then R.ok (PyData.str (Txt.join z ys)) else .bad
      | none => .bad) (fun d => ∀ v F' H', Ext F H F' H' → relD c d v H F' H' → Q v H') := q
    split at q'
    · rename_i ys hy
      split at q'
      · rename_i hz
        obtain ⟨p, vs, rfl, h1, h2⟩ := DatR.lst_of s2.fh r2
        rw [← hK] at h1
        obtain rfl := strs_of h2 hy
        exact ⟨z, p, ys, rfl, rfl, h1, hz, Rk.ok q' _ F2 H2 (s1.trans s2) (.str _)⟩
      · exact q'.elim
    · exact q'.elim
  | _ => exact q.elim
def dIndex : PyData → PyData → R PyData
  | .str z, .str y => match Builtin.Str.occurrences z y 0 z.length 1 with
    | i :: _ => .ok (.int i)
    | [] => .bad
  | _, _ => .bad
theorem pd_index {f g : Sg → R PyData} (h : PE X e (tBM X.K "str" rIndex (tV (relR c) c E f) (tCons (tV (relR c) c E g) tNil))) (hs : ∀ ρ x, f ρ = .ok x → ∃ z, x = .str z) : PD X c E e (e2 dIndex f g) := PE.imp h fun σ H Q ⟨ρ, F, ab, k⟩ => by
  refine ⟨ρ, F, ab, (Rk.bind k).imp fun x ex q v F1 H1 s1 r1 => ?_⟩
  obtain ⟨z, rfl⟩ := hs ρ x ex
  obtain rfl := DatR.str_of r1
  refine ⟨rfl, ρ, F1, ab.ext s1, ((Rk.bind q).ext s1).imp fun y _ q u F2 H2 s2 r2 => ?_⟩
  cases y with
  | str y =>
    have q' : Rk c E F H (match Builtin.Str.occurrences z y 0 z.length 1 with
      | i :: _ => R.ok (PyData.int i)
      | [] => .bad) (fun d => ∀ v F' H', Ext F H F' H' → relD c d v H F' H' → Q v H') := q
    split at q'
    · rename_i i rest ho
      obtain rfl := DatR.str_of r2
      exact ⟨z, y, i, rest, rfl, rfl, ho, Rk.ok q' _ F2 H2 (s1.trans s2) (.int _)⟩
    · exact q'.elim
  | _ => exact q.elim

/-! ### enumerate -/
def numL : Nat → List PyData → List PyData
  | _, [] => []
  | i, x :: t => .tuple [.int i, x] :: numL (i + 1) t
theorem numL_len : ∀ (i : Nat) (xs : List PyData), (numL i xs).length = xs.length
  | _, [] => rfl
  | i, x :: t => by rw [numL, List.length_cons, List.length_cons, numL_len]
theorem numL_get : ∀ (k i : Nat) (xs : List PyData), (numL k xs)[i]? = (xs[i]?).map fun x => .tuple [.int ((k + i : Nat) : Int), x]
  | k, i, [] => by simp [numL]
  | k, 0, x :: t => by simp [numL]
  | k, i + 1, x :: t => by rw [numL, List.getElem?_cons_succ, List.getElem?_cons_succ, numL_get, show k + 1 + i = k + (i + 1) by omega]
def dNums : PyData → R (List PyData)
  | .list xs => if xs.length ≤ 16777216 then .ok (numL 0 xs) else .bad
  | .str z => if z.cps.toList.length ≤ 16777216 then .ok (numL 0 (z.cps.toList.map fun u => .str ⟨#[u]⟩)) else .bad
  | _ => .bad
theorem yld_enum {K : PySem.W.Frag} {F B : Hp} {a : Addr} {vs : List V} {xs : List PyData} (hz : xs.length ≤ 16777216) (hs : ∀ H1, Same F H1 → Same B H1 → SqL K H1 a vs) (hd : DatVs K F vs xs) : Yld K (Ite K a) F B (numL 0 xs) where
  len := by rw [line_eq, numL_len]; exact hz
  go := fun i F1 H1 h1 h2 h3 hi => by
    rw [numL_len] at hi
    exact ⟨vs, vs[i]'(by rw [hd.length]; exact hi), hs H1 (fun x o z => h2 x o (h1 x o z)) h3, by simp⟩
  yld := fun i F1 H1 v H2 x h1 h2 h3 y e => by
    obtain ⟨p, w, hp, rfl, rfl, y⟩ := y
    have q := y vs (hs _ (fun x o z => h2 x o (h1 x o z)) h3)
    obtain ⟨d, e2, r⟩ := hd.get q
    rw [numL_get, e2] at e
    cases e
    refine ⟨_, Ext.new h2 hp, .tup (SqT.of upd_same) (.cons ?_ (.cons ((r.same h1).same (Same.upd (same_none h2 hp))) .nil))⟩
    rw [Nat.zero_add]; exact .int _
  stop := fun F1 H1 h1 h2 h3 => ⟨vs, hs H1 (fun x o z => h2 x o (h1 x o z)) h3, by rw [hd.length, numL_len]; exact Nat.le_refl _⟩
theorem yld_enumS {K : PySem.W.Frag} {F B : Hp} {z : Str} (hz : z.cps.toList.length ≤ 16777216) : Yld K (Ity z) F B (numL 0 (z.cps.toList.map fun u => .str ⟨#[u]⟩)) where
  len := by rw [line_eq, numL_len, List.length_map]; exact hz
  go := fun i F1 H1 h1 h2 h3 hi => by
    rw [numL_len, List.length_map, Array.length_toList] at hi
    exact hi
  yld := fun i F1 H1 v H2 x h1 h2 h3 y e => by
    obtain ⟨p, u, hp, rfl, rfl, hu⟩ := y
    rw [numL_get, List.getElem?_map, Array.getElem?_toList, hu] at e
    cases e
    refine ⟨_, Ext.new h2 hp, .tup (SqT.of upd_same) (.cons ?_ (.cons (.str _) .nil))⟩
    rw [Nat.zero_add]; exact .int _
  stop := fun F1 H1 h1 h2 h3 => by
    show (numL 0 _).length = z.cps.size
    rw [numL_len, List.length_map, Array.length_toList]
theorem pi_enu {tg : Expr} {f : Sg → R PyData} (hK : X.K = c.K) (h : PI X tg e (iEnum X.K (tCons (tV (relD c) c E f) tNil))) (h' : PI X tg e (iEnumS (tCons (tV (relD c) c E f) tNil))) : PI0 X c E tg e (e1 dNums f) := PI.imp (PI.or h h') fun σ H Q ⟨ρ, F, ab, k⟩ => by
  have k' := Rk.bind k
  cases hf : f ρ with
  | bad => rw [hf] at k'; exact k'.elim
  | ex x => rw [hf] at k'; exact .inl ⟨ρ, F, ab, by rw [hf]; exact k'⟩
  | ok d =>
    rw [hf] at k'
    have k2 := Rk.ok k'
    unfold dNums at k2
    split at k2
    · rename_i xs
      split at k2
      · rename_i hz
        refine .inl ⟨ρ, F, ab, ?_⟩
        rw [hf]
        intro v F' H' s r
        obtain ⟨p, vs, rfl, h1, h2⟩ := DatV.lst_of r
        refine ⟨p, rfl, ⟨vs, ?_⟩, ?_⟩
        · rw [hK]; exact h1.same s.fh
        · rw [hK]; exact Rk.ok k2 _ F' H' s (yld_enum hz (fun H1 q _ => h1.same q) h2)
      · exact k2.elim
    · rename_i z
      split at k2
      · rename_i hz
        refine .inr ⟨ρ, F, ab, ?_⟩
        rw [hf]
        intro v F' H' s r
        obtain rfl := DatV.str_of r
        exact ⟨z, rfl, Rk.ok k2 _ F' H' s (yld_enumS hz)⟩
      · exact k2.elim
    · exact k2.elim
end
end Fl
namespace Fl
open PySem L2 PyProof.Rows
/-! ### a dict in a name -/
noncomputable def getM (kvs : List (PyData × PyData)) (k : PyData) : Option PyData := (kvs.find? fun p => decide (p.1 = k)).map (·.2)
noncomputable def hasM (kvs : List (PyData × PyData)) (k : PyData) : Bool := (getM kvs k).isSome
noncomputable def putM (kvs : List (PyData × PyData)) (k v : PyData) : List (PyData × PyData) := if hasM kvs k = true then kvs.map (fun p => if p.1 = k then (p.1, v) else p) else kvs ++ [(k, v)]
theorem get_rel {K : PySem.W.Frag} {F : Hp} {k : PyData} : ∀ {es : List Ent} {kvs : List (PyData × PyData)}, es.map (·.1) = kvs.map (·.1) → DatVs K F (es.map (·.2.2)) (kvs.map (·.2)) →
    (atE es k = none ∧ getM kvs k = none) ∨ ∃ v d, atE es k = some v ∧ getM kvs k = some d ∧ DatV K F v d
  | [], [], _, _ => .inl ⟨rfl, rfl⟩
  | [], _ :: _, h, _ => by cases h
  | _ :: _, [], h, _ => by cases h
  | e :: es, p :: kvs, h, r => by
    rw [List.map_cons, List.map_cons] at h r
    injection h with h1 h2
    obtain ⟨v, t, e1, r1, r2⟩ := r.cons_of
    rw [List.cons.injEq] at e1
    obtain ⟨rfl, rfl⟩ := e1
    have ih := get_rel (k := k) h2 r2
    unfold atE getM at ih ⊢
    rw [List.find?_cons, List.find?_cons, h1]
    by_cases q : p.1 = k
    · rw [decide_eq_true q]; exact .inr ⟨_, _, rfl, rfl, r1⟩
    · rw [decide_eq_false q]; exact ih
theorem MapRel.get {K : PySem.W.Frag} {F : Hp} {es : List Ent} {kvs : List (PyData × PyData)} (m : MapRel K F es kvs) (k : PyData) : (atE es k = none ∧ getM kvs k = none) ∨ ∃ v d, atE es k = some v ∧ getM kvs k = some d ∧ DatV K F v d := get_rel m.k1 m.vs
theorem MapRel.has {K : PySem.W.Frag} {F : Hp} {es : List Ent} {kvs : List (PyData × PyData)} (m : MapRel K F es kvs) (k : PyData) : (atE es k).isSome = hasM kvs k := by
  unfold hasM
  rcases m.get k with ⟨a, b⟩ | ⟨v, d, a, b, _⟩ <;> rw [a, b] <;> rfl
theorem hasM_iff {kvs : List (PyData × PyData)} {k : PyData} : hasM kvs k = true ↔ k ∈ kvs.map (·.1) := by
  unfold hasM getM
  rw [Option.isSome_map]
  induction kvs with
  | nil => simp
  | cons p t ih =>
    rw [List.find?_cons]
    by_cases q : p.1 = k
    · rw [decide_eq_true q]; simp [q]
    · rw [decide_eq_false q, ih, List.map_cons]
      exact ⟨fun z => List.mem_cons_of_mem _ z, fun z => (List.mem_cons.mp z).resolve_left (fun w => q w.symm)⟩
theorem keys_putM {kvs : List (PyData × PyData)} {k v : PyData} : (putM kvs k v).map (·.1) = if hasM kvs k = true then kvs.map (·.1) else kvs.map (·.1) ++ [k] := by
  unfold putM
  cases h : hasM kvs k with
  | true =>
    rw [if_pos rfl, if_pos rfl, List.map_map]
    refine List.map_congr_left fun p _ => ?_
    show (if p.1 = k then (p.1, v) else p).1 = p.1
    split <;> rfl
  | false => rw [if_neg (by decide), if_neg (by decide), List.map_append]; rfl
theorem map_put {K : PySem.W.Frag} {F : Hp} {k d : PyData} {v : V} (r : DatV K F v d) : ∀ {es : List Ent} {kvs : List (PyData × PyData)}, es.map (·.1) = kvs.map (·.1) → DatVs K F (es.map (·.2.1)) (kvs.map (·.1)) → DatVs K F (es.map (·.2.2)) (kvs.map (·.2)) →
    (es.map fun e => if e.1 = k then (e.1, e.2.1, v) else e).map (·.1) = (kvs.map fun p => if p.1 = k then (p.1, d) else p).map (·.1) ∧
    DatVs K F ((es.map fun e => if e.1 = k then (e.1, e.2.1, v) else e).map (·.2.1)) ((kvs.map fun p => if p.1 = k then (p.1, d) else p).map (·.1)) ∧
    DatVs K F ((es.map fun e => if e.1 = k then (e.1, e.2.1, v) else e).map (·.2.2)) ((kvs.map fun p => if p.1 = k then (p.1, d) else p).map (·.2))
  | [], [], _, _, _ => ⟨rfl, .nil, .nil⟩
  | [], _ :: _, h, _, _ => by cases h
  | _ :: _, [], h, _, _ => by cases h
  | e :: es, p :: kvs, h, rk, rv => by
    rw [List.map_cons, List.map_cons] at h rk rv
    injection h with h1 h2
    obtain ⟨_, _, e1, r1, r2⟩ := rk.cons_of
    rw [List.cons.injEq] at e1
    obtain ⟨rfl, rfl⟩ := e1
    obtain ⟨_, _, e1, q1, q2⟩ := rv.cons_of
    rw [List.cons.injEq] at e1
    obtain ⟨rfl, rfl⟩ := e1
    obtain ⟨a1, a2, a3⟩ := map_put r h2 r2 q2
    simp only [List.map_cons]
    rw [h1, a1]
    by_cases q : p.1 = k
    · rw [if_pos q, if_pos q]; exact ⟨rfl, .cons r1 a2, .cons r a3⟩
    · rw [if_neg q, if_neg q]; exact ⟨by rw [h1], .cons r1 a2, .cons q1 a3⟩
theorem MapRel.put {K : PySem.W.Frag} {F : Hp} {es : List Ent} {kvs : List (PyData × PyData)} {k d : PyData} {kv v : V} (m : MapRel K F es kvs) (rk : DatV K F kv k) (r : DatV K F v d) : MapRel K F (putE es k kv v) (putM kvs k d) := by
  have hh := m.has k
  have nd : ((putM kvs k d).map (·.1)).Nodup := by
    rw [keys_putM]
    cases h : hasM kvs k with
    | true => rw [if_pos rfl]; exact m.nd
    | false =>
      rw [if_neg (by decide), List.nodup_append]
      refine ⟨m.nd, by simp, fun a ha b hb z => ?_⟩
      rw [List.mem_singleton] at hb
      subst hb z
      rw [hasM_iff.mpr ha] at h
      cases h
  unfold putE
  rw [hh]
  unfold putM at nd ⊢
  cases h : hasM kvs k with
  | true =>
    rw [h, if_pos rfl] at nd
    rw [if_pos rfl, if_pos rfl]
    obtain ⟨a1, a2, a3⟩ := map_put (k := k) r m.k1 m.k2 m.vs
    exact ⟨a1, a2, a3, nd⟩
  | false =>
    rw [h, if_neg (by decide)] at nd
    rw [if_neg (by decide), if_neg (by decide)]
    refine ⟨by rw [List.map_append, List.map_append, m.k1]; rfl, ?_, ?_, nd⟩
    · rw [List.map_append, List.map_append]; exact m.k2.append (.cons rk .nil)
    · rw [List.map_append, List.map_append]; exact m.vs.append (.cons r .nil)
theorem datVs_mem {K : PySem.W.Frag} {F : Hp} : ∀ {es : List Ent} {kvs : List (PyData × PyData)}, es.map (·.1) = kvs.map (·.1) → DatVs K F (es.map (·.2.1)) (kvs.map (·.1)) → ∀ e ∈ es, DatV K F e.2.1 e.1
  | [], _, _, _, e, he => by cases he
  | _ :: _, [], h, _, _, _ => by cases h
  | e0 :: es, p :: kvs, h, rk, e, he => by
    rw [List.map_cons, List.map_cons] at h rk
    injection h with h1 h2
    obtain ⟨_, _, e1, r1, r2⟩ := rk.cons_of
    rw [List.cons.injEq] at e1
    obtain ⟨rfl, rfl⟩ := e1
    rcases List.mem_cons.mp he with z | z
    · subst z; rw [h1]; exact r1
    · exact datVs_mem h2 r2 e z
section
variable {X : Cx} {c : Ct} {E : XK} {e a b : Expr} {st : Stmt} {pos : Pos}
theorem dicAt {ρ : Sg} {σ : L2.St} {F H : Hp} {i : Nat} {kvs : List (PyData × PyData)} {k : PyData} {kv : V} (hK : X.K = c.K) (hW : X.w = c.w) (ab : Ab c ρ σ F H) (hi : ρ[i]? = some (some (.m kvs))) (hk : DatV c.K F kv k) (hs : sameK k (kvs.map (·.1)) = true) :
    ∃ p es, σ[i]? = some (some (.ref p)) ∧ DicAt X H p es k kv ∧ MapRel c.K F es kvs := by
  obtain ⟨v, hp, p, es, rfl, h2, h3, h4, h5⟩ := ab.slot i _ hi
  refine ⟨p, es, hp, ⟨by rw [hW]; exact h2, fun e he => by rw [hK]; exact (datVs_mem h5.k1 h5.k2 e he).same ab.fh, by rw [h5.k1]; exact h5.nd, by rw [hK]; exact hk.same ab.fh, by rw [h5.k1]; exact hs⟩, h5⟩
/-- x = {} -/
def tMNew (w : World) : TE := fun _ H Q => ∀ p, H p = none → Q (.ref p) (upd H p (DicO w p []))
theorem pe_mnew : PE X (.Dict [] [] pos) (tMNew X.w) := fun pins s σ H Q I h =>
  wpAny_Dict_empty ⟨.ref s.heap.objs.size, _, I.laid (a := s.heap.objs.size) (o := DicO X.w s.heap.objs.size []) (t' := s.toks) (fun _ _ q => Heap.get?_push_of_some _ q) (Nat.le_refl _)
    (dicO_ok (beq_eq_false_iff_ne.mpr (Ne.symm (Nat.ne_of_lt I.big))) ⟨_, #[], 0, Heap.get?_push_size _ rfl, ⟨rfl, rfl, rfl⟩, rfl, .nil⟩), rfl, h _ (I.hok.fresh (Nat.le_refl _))⟩
def sMNew (i : Nat) : Sg → R Fw := fun ρ => .ok (.nx (ρ.set i (some (.m []))))
theorem ps_mnew {i : Nat} {w : World} (hW : w = c.w) (h : PS X st (tAsg (tMNew w) (gName i))) : PSf X c E st (sMNew i) := PS.imp h fun D σ H ⟨ρ, F, ab, k⟩ => fun p hp => by
  subst hW
  exact Rk.ok k _ F _ (same_refl F) (ab.setM (Ext.own ab.fh hp) hp upd_same (same_none ab.fh hp) ⟨rfl, .nil, .nil, List.nodup_nil⟩)
/-- k in d, k not in d -/
noncomputable def eMIn (neg : Bool) (i : Nat) (f : Sg → R PyData) : Sg → R PyData := fun ρ => (f ρ).bind fun k => match ρ[i]? with
  | some (some (.m kvs)) => if sameK k (kvs.map (·.1)) = true then .ok (.bool (if neg = true then !hasM kvs k else hasM kvs k)) else .bad
  | _ => .bad
def rMIn (X : Cx) (neg : Bool) : R2 := fun y x H Q => ∃ p es k, x = .ref p ∧ DicAt X H p es k y ∧ Q (.bl (if neg = true then !(atE es k).isSome else (atE es k).isSome)) H
theorem opr_min (hu : X.A.units + 64 < cLine) : OpR X (compareOp .In) (rMIn X false) := by
  intro pins s σ H y x v u Q I ry rx h
  obtain ⟨p, es, k, rfl, D, q⟩ := h
  cases (show u = Value.ref p from rx)
  exact dic_in hu D I ry fun s' I' => ⟨.bl _, H, I', rfl, q⟩
theorem opr_mnin (hu : X.A.units + 64 < cLine) : OpR X (compareOp .NotIn) (rMIn X true) := by
  intro pins s σ H y x v u Q I ry rx h
  obtain ⟨p, es, k, rfl, D, q⟩ := h
  cases (show u = Value.ref p from rx)
  exact dic_nin hu D I ry fun s' I' => ⟨.bl _, H, I', rfl, q⟩
theorem min_read {i : Nat} {neg : Bool} {f : Sg → R PyData} (hK : X.K = c.K) (hW : X.w = c.w) {σ : L2.St} {H : Hp} {Q : VK} (h : tV (relD c) c E (eMIn neg i f) σ H Q) : tOp (rMIn X neg) (tV (relD c) c E f) (tVar i) σ H Q := by
  obtain ⟨ρ, F, ab, k⟩ := h
  refine ⟨ρ, F, ab, (Rk.bind k).imp fun d _ q v F1 H1 s1 r1 => ?_⟩
  split at q
  · rename_i kvs hi
    split at q
    · rename_i hs
      obtain ⟨p, es, hp, D, m⟩ := dicAt hK hW (ab.ext s1) hi r1 hs
      refine ⟨_, hp, p, es, d, rfl, D, ?_⟩
      rw [m.has]
      exact Rk.ok q _ F1 H1 s1 (.bl _)
    · exact q.elim
  · exact q.elim
theorem pt_min {i : Nat} {neg : Bool} {f : Sg → R PyData} (hK : X.K = c.K) (hW : X.w = c.w) (h : PT X e (tTest (tOp (rMIn X neg) (tV (relD c) c E f) (tVar i)))) : PTf X c E e (e1 asB (eMIn neg i f)) := PT.imp h fun σ H Q q => min_read hK hW (test_of q)
/-- d[k] -/
noncomputable def eMGet (i : Nat) (f : Sg → R PyData) : Sg → R PyData := fun ρ => match ρ[i]? with
  | some (some (.m kvs)) => (f ρ).bind fun k => if sameK k (kvs.map (·.1)) = true then match getM kvs k with
    | some v => .ok v
    | none => .bad else .bad
  | _ => .bad
def tMGet (X : Cx) (td ty : TE) : TE := fun σ H Q => td σ H fun x H1 => ty σ H1 fun y H2 => ∃ p es k v, x = .ref p ∧ DicAt X H2 p es k y ∧ atE es k = some v ∧ Q v H2
theorem pe_mget {o i : Expr} {td ty : TE} (hu : X.A.units + 64 < cLine) (ho : PE X o td) (hi : PE X i ty) (hs : NoSl i) : PE X (.Subscript o i pos) (tMGet X td ty) := by
  intro pins s σ H Q I h
  refine subD_of PySem.F.slot_dict_getitem.lookup hs (thn (ho pins s σ H _ I h) fun u s1 ⟨x, H1, I1, rx, q1⟩ => thn (hi pins s1 σ H1 _ I1 q1) fun iv s2 ⟨y, H2, I2, ry, p, es, k, v, ex, D, hv, q2⟩ => ?_)
  subst ex
  obtain rfl : u = Value.ref p := rx
  obtain ⟨⟨_, o', ar, ep, h1, h2, _⟩, _, _⟩ := (show ObjOk X.prog X.w H2 s2.heap p (DicO X.w p es) from I2.hok p _ D.o)
  exact ⟨⟨o', h1, h2.1⟩, dic_get hu D I2 ry hv fun w' s3 I3 rw' => ⟨v, H2, I3, rw', q2⟩⟩
theorem pd_mget {i : Nat} {f : Sg → R PyData} (hK : X.K = c.K) (hW : X.w = c.w) (h : PE X e (tMGet X (tVar i) (tV (relD c) c E f))) : PD X c E e (eMGet i f) := PE.imp h fun σ H Q ⟨ρ, F, ab, k⟩ => by
  unfold eMGet at k
  split at k
  · rename_i kvs hi
    obtain ⟨_, hp, p, es, rfl, _⟩ := ab.slot i _ hi
    refine ⟨_, hp, ρ, F, ab, (Rk.bind k).imp fun d _ q v F1 H1 s1 r1 => ?_⟩
    split at q
    · rename_i hs
      obtain ⟨p', es', hp', D, m⟩ := dicAt hK hW (ab.ext s1) hi r1 hs
      rw [hp] at hp'
      cases hp'
      split at q
      · rename_i w hw
        rcases m.get d with ⟨_, z⟩ | ⟨v', d', h1, h2, h3⟩
        · rw [hw] at z; cases z
        · rw [hw] at h2
          cases h2
          exact ⟨p, es', d, v', rfl, D, h1, Rk.ok q v' F1 H1 s1 h3⟩
      · exact q.elim
    · exact q.elim
  · exact k.elim
/-- d[k] = v -/
noncomputable def sMPut (i : Nat) (f g : Sg → R PyData) : Sg → R Fw := fun ρ => (g ρ).bind fun v => match ρ[i]? with
  | some (some (.m kvs)) => (f ρ).bind fun k => if sameK k (kvs.map (·.1)) = true ∧ kvs.length ≤ 16777216 then .ok (.nx (ρ.set i (some (.m (putM kvs k v))))) else .bad
  | _ => .bad
def rMPut (X : Cx) : TSet := fun o i v H Q => ∃ p es k, o = .ref p ∧ DicAt X H p es k i ∧ es.length ≤ sizeLine ∧ Q (upd H p (DicO X.w p (putE es k i v)))
theorem set_mput (hu : X.A.units + 64 < cLine) : PSet X (rMPut X) := by
  intro pins s σ H o i v ov iv u Q I ro ri rv h
  obtain ⟨p, es, k, rfl, D, hz, q⟩ := h
  cases (show ov = Value.ref p from ro)
  exact dic_put hu D I ri rv hz fun s' I' => ⟨_, I', q⟩
theorem ps_mput {i : Nat} {f g : Sg → R PyData} (hK : X.K = c.K) (hW : X.w = c.w) (h : PS X st (tAsg (tV (relD c) c E g) (gSub (tVar i) (tV (relD c) c E f) (rMPut X)))) : PSf X c E st (sMPut i f g) := PS.imp h fun D σ H ⟨ρ, F, ab, k⟩ => by
  refine ⟨ρ, F, ab, (Rk.bind k).imp fun x _ q v F1 H1 s1 r1 => ?_⟩
  split at q
  · rename_i kvs hi
    have ab1 := ab.ext s1
    obtain ⟨_, hp, p, es, rfl, _⟩ := ab1.slot i _ hi
    refine ⟨_, hp, ρ, F1, ab1, ((Rk.bind q).ext s1).imp fun d _ q u F2 H2 s2 r2 => ?_⟩
    have ab2 := ab1.ext s2
    split at q
    · rename_i hs
      obtain ⟨p', es', hp', D', m⟩ := dicAt hK hW ab2 hi r2 hs.1
      rw [hp] at hp'
      cases hp'
      refine ⟨p, es', d, rfl, D', ?_, ?_⟩
      · have : es'.length = kvs.length := by have := congrArg List.length m.k1; simpa using this
        rw [this, line_eq]; exact hs.2
      · rw [hW]
        exact Rk.ok q σ F2 _ (s1.trans s2).ff (ab2.putM hi hp (m.put r2 (DatV.same s2.ff r1)))
    · exact q.elim
  · exact q.elim
end
end Fl
namespace Fl
open PySem L2 PyProof.Rows
section
variable {X : Cx} {c : Ct} {E : XK} {e a b : Expr} {st : Stmt} {pos p2 : Pos}
/-! ### a, b = e -/
def sTup (fs : PyData → Sg → Option Sg) (f : Sg → R PyData) : Sg → R Fw := fun ρ => (f ρ).bind fun x => (optR (fs x ρ)).bind fun ρ' => .ok (.nx ρ')
theorem ps_tup {g : TG} {fs : PyData → Sg → Option Sg} {is : List Nat} {f : Sg → R PyData} (hg : Tg c g fs is) (h : PS X st (tAsg (tV (relD c) c E f) g)) : PSf X c E st (sTup fs f) := PS.imp h fun D σ H ⟨ρ, F, ab, k⟩ => by
  refine ⟨ρ, F, ab, (Rk.bind k).imp fun x _ q v F1 H1 s1 r1 => ?_⟩
  cases h1 : fs x ρ with
  | none => rw [h1] at q; exact q.elim
  | some ρ' =>
    rw [h1] at q
    exact hg v x ρ ρ' σ F1 H1 _ (ab.ext s1) r1 h1 fun σ' _ _ ab' => Rk.ok q σ' F1 H1 s1.ff ab'
/-! ### z[::-1] -/
def dRev : PyData → R PyData
  | .str z => if z.length ≤ 16777216 then .ok (.str ⟨z.cps.toList.reverse.toArray⟩) else .bad
  | _ => .bad
def eRev (f : Sg → R PyData) (g : Sg → R (Option Int)) : Sg → R PyData := fun ρ => (f ρ).bind fun x => (g ρ).bind fun o => if o = some (-1) then dRev x else .bad
end
end Fl
namespace Fl
open PySem L2 PyProof.Rows
/-! ### the law itself -/
theorem fun_ok {P : Program} {w : World} {K : PySem.W.Frag} {mg : Str → Option Value} {base : Heap} {T : Hp} {x : Str} {st : Stmt} {N ps : List Str} {k : Nat} {f : Addr} {fd : FuncData} {fb : Sg → R Fw} (FL : Fun K x x st f fd) (S : FnScope N ps (defScope st))
    (hbody : ∀ (cdv : Value) (A : Around) (outer : List Env) (s : Shared) (H F : Hp) (E : XK), Room k (A.deeper (envOfC x (defScope st) s.heap.objs.size f cdv)) →
      PSSf ((cxOf (CXe P w) P w K mg base N x (defScope st) f cdv A outer s H E).fly E) ⟨K, mg, w, F, H, gOf P w K mg base T, (envOfC x (defScope st) s.heap.objs.size f cdv).cells, fun _ => none⟩ E (defBody st) fb) : FnOk P w K mg base (CXe P w) (k + 1) f fd ps (spF (gOf P w K mg base T) K mg ps.length (fnF N.length fb)) := by
  refine FL.okX S (fun vs H Q E h => ?_) (fun cdv A outer s H vs Q E hr h => ?_)
  · obtain ⟨F, as, _, _, h2, h3, _⟩ := h
    rw [h2.len, h3]
  · obtain ⟨F, as, h0, h1, h2, h3, h4⟩ := h
    exact ⟨_, hbody cdv A outer s H F E hr, fn_read h0 h1 h2 h4⟩
def spLaw (K : PySem.W.Frag) (T : Hp) : Sp := fun vs H Q _ => ∃ (a : Addr) (ns : List Int), vs = [.ref a] ∧ ns.length ≤ 63 ∧ Same T H ∧ SqL K H a (ns.map V.int) ∧ ∀ H', Q (.bl true) H'
theorem ints_dat {K : PySem.W.Frag} {H : Hp} : ∀ (ns : List Int), DatVs K H (ns.map V.int) (ns.map PyData.int)
  | [] => .nil
  | n :: t => .cons (.int n) (ints_dat t)
theorem law_ok {P : Program} {w : World} {K : PySem.W.Frag} {mg : Str → Option Value} {base : Heap} {T : Hp} {k : Nat} {f : Addr} {fd : FuncData} {x : Str} {G : List A → R A} (h : FnOk P w K mg base (CXe P w) k f fd [x] (spF (gOf P w K mg base T) K mg 1 G))
    (hl : ∀ ns : List Int, ns.length ≤ 63 → G [.d (.list (ns.map .int))] = .ok (.d (.bool true))) : FnOk P w K mg base (CXe P w) k f fd [x] (spLaw K T) := h.imp fun vs H Q E => by
  rintro ⟨a, ns, rfl, hn, ht, hs, q⟩
  refine ⟨H, [.d (.list (ns.map .int))], ht, same_refl H, ⟨.lst hs (ints_dat ns), trivial⟩, rfl, ?_⟩
  rw [hl ns hn]
  intro v F' H' _ r
  obtain rfl := DatV.bl_of r
  exact q H'
theorem cx_no (P : Program) (w : World) (H : Hp) (s : Shared) (e : Value) (s' : Shared) (h : CXe P w [] H s (fun _ _ _ => False) e s') : False := by
  obtain ⟨_, _, _, _, _, _, _, _, _, _, _, q⟩ := h
  exact q
theorem walk_X {l : PySem.W.OpenLaw} {k : Nat} {q : Program} {loose : List Str} {XP : (Str → Option Value) → Heap → Prop} {YP : World → Heap → Prop} {d : DefRec} {K : Params → PySem.W.Frag} {x : Str}
    (hn : l.most = some 63) (hdf : d.params.defaults = []) (hr : Room k callerA)
    (hY : ∀ (w : World) (h : Heap), YP w h → (K w.params).In h)
    (F : ∀ (w : World) (mg : Str → Option Value) (fa : Addr) (h : Heap), (K w.params).In h → h.Ns mainGlobals mg → mg d.name = some (.ref fa) →
      ∃ fd : FuncData, (∀ (s : Shared) (u : Value), BindsTo s fd ⟨[u], []⟩ [(x, u)]) ∧
        ∀ base : Heap, (K w.params).In base → base.Ns mainGlobals mg → FnOk l.prog w (K w.params) mg base (CXe l.prog w) k fa fd [x] (spLaw (K w.params) fun _ => none)) :
    PySem.W.WalkO q loose XP YP l.row.toRowW d [] (fun f vs => PySem.call f vs) :=
  walk_of (K := K) (CX := fun w => CXe l.prog w) (sp := fun w => spLaw (K w.params) fun _ => none) hn (by decide) hdf hr hY F (fun w H a ns hl hO hS => ⟨a, ns, rfl, hl, fun _ _ z => (nomatch z), hS, fun _ => rfl⟩) fun w H s e s' z => cx_no _ w H s e s' z
end Fl
namespace Fl
open PySem L2 PyProof.Rows
variable {X : Cx} {c : Ct} {E : XK} {e : Expr}
def d2 (G : Int → Int → Int) : PyData → PyData → R PyData
  | .int i, .int j => .ok (.int (G i j))
  | _, _ => .bad
def d1 (G : Int → Int) : PyData → R PyData
  | .int i => .ok (.int (G i))
  | _ => .bad
def iMax (i j : Int) : Int := if j > i then j else i
def iMin (i j : Int) : Int := if j < i then j else i
theorem pd_two {G : Int → Int → Int} {f g : Sg → R PyData} (h0 : PE X e (tCB (fun xs H Q => ∃ i j, xs = [.int i, .int j] ∧ Q (.int (G i j)) H) (tCons (tV (relR c) c E f) (tCons (tV (relR c) c E g) tNil)))) : PD X c E e (e2 (d2 G) f g) := PE.imp h0 fun σ H Q ⟨ρ, F, ab, k⟩ => by
  refine ⟨ρ, F, ab, (Rk.bind k).imp fun x ex q v F1 H1 s1 r1 => ?_⟩
  refine ⟨ρ, F1, ab.ext s1, ((Rk.bind q).ext s1).imp fun y _ q u F2 H2 s2 r2 => ?_⟩
  cases x with
  | int i =>
    cases y with
    | int j =>
      obtain rfl := DatR.int_of r1
      obtain rfl := DatR.int_of r2
      exact ⟨i, j, rfl, Rk.ok q _ F2 H2 (s1.trans s2) (.int _)⟩
    | _ => exact q.elim
  | _ => exact q.elim
end Fl
namespace L2
open PySem PyProof.Rows
variable {X : Cx}
end L2
namespace Fl
open PySem L2 PyProof.Rows
variable {X : Cx} {c : Ct} {E : XK} {e : Expr}
end Fl
namespace Fl
open PySem L2 PyProof.Rows
variable {X : Cx} {c : Ct} {E : XK} {e : Expr} {st : Stmt}
end Fl
namespace Fl
open PySem L2 PyProof.Rows
theorem upd_upd {H : Hp} {p : Addr} {a b : HO} : upd (upd H p a) p b = upd H p b := by
  funext x
  by_cases q : x = p
  · subst q; rw [upd_same, upd_same]
  · rw [upd_ne q, upd_ne q, upd_ne q]
section
variable {X : Cx} {pins : List (Addr × Obj)} {σ : L2.St} {H : Hp} {s : Shared} {a : Addr} {es : List Ent} {k : PyData} {kv v : V} {ku u : Value} {A : Around} {E : Value → Shared → Prop}
theorem room_nest0 {A : Around} (hu : A.units + 64 < cLine) : (nestKind X.prog X.w).room A := by show A.units + 9 < cLine; omega
theorem dic_set {Q : Unit → Shared → Prop} (hu : A.units + 64 < cLine) (D : DicAt X H a es k kv) (I : Inv X pins σ H s) (rk : RelV kv ku) (rv : RelV v u) (hz : es.length ≤ sizeLine) (h : ∀ s', Inv X pins σ (upd H a (DicO X.w a (putE es k kv v))) s' → Q () s') :
    wpAny (model X.prog X.w) A (dictSet a ku u) Q E s := by
  obtain ⟨hd, ⟨b, xs, rfl, rfl, hx, hk, dd⟩ | ⟨kk, xs, rfl, rfl, hx, hk, dd⟩⟩ := D.cases I rk
  · have hl : xs.length ≤ sizeLine := by rw [← Paired.length hx]; exact hz
    refine wpAny_dictSet_heap (a := b) (room_nest0 hu) hk dd (fun h' dd' hs => h _ ?_) hl
    obtain ⟨q', ar, ep, hq, h2, h3, h4, _, h5⟩ := dd'
    refine d_write I (by rw [D.o]; exact True.intro) hs ⟨q', hq⟩ (dicO_ok hd ⟨q', ar, ep, hq, h2, h3, ?_⟩)
    rw [h4]
    exact ents_ofH (put_H rv hx)
  · have hl : xs.length ≤ sizeLine := by rw [← Paired.length hx]; exact hz
    refine wpAny_dictSet_pairs hk dd (fun h' dd' hs => h _ ?_) hl
    obtain ⟨q', ar, ep, hq, h2, h3, h4, h5, _⟩ := dd'
    refine d_write I (by rw [D.o]; exact True.intro) hs ⟨q', hq⟩ (dicO_ok hd ⟨q', ar, ep, hq, h2, h3, ?_⟩)
    exact ents_ofV (put_V rv hx) h5 fun en hen => h4 en (by simpa using hen)
end
/-! ### a written dict -/
abbrev TP := L2.St → Hp → (List (V × V) → Hp → Prop) → Prop
def RelP (p : V × V) (u : Value × Value) : Prop := RelV p.1 u.1 ∧ RelV p.2 u.2
def PPr (X : Cx) (keys : List (Option Expr)) (vals : List Expr) (t : TP) : Prop := ∀ (pos : Pos) (pins : List (Addr × Obj)) (s : Shared) (σ : L2.St) (H : Hp) (Q : List (V × V) → Hp → Prop), Inv X pins σ H s → t σ H Q →
  wpAny (model X.prog X.w) X.A (evalPairs (pairTrees keys vals X.env pos)) (fun vs s' => ∃ ps H', Inv X pins σ H' s' ∧ Paired RelP ps vs ∧ Q ps H') X.xe s
def tPNil : TP := fun _ H Q => Q [] H
def tPCons (tk tv : TE) (t : TP) : TP := fun σ H Q => tk σ H fun x H1 => tv σ H1 fun y H2 => t σ H2 fun ps H3 => Q ((x, y) :: ps) H3
section
variable {X : Cx} {c : Ct} {E : XK} {e a b : Expr} {st : Stmt} {pos : Pos}
theorem pp_nil : PPr X [] [] tPNil := fun pos pins s σ H Q I h => evalPairs_nil ⟨[], H, I, .nil, h⟩
theorem pp_cons {k v : Expr} {ks : List (Option Expr)} {vs : List Expr} {tk tv : TE} {t : TP} (hk : PE X k tk) (hv : PE X v tv) (hr : PPr X ks vs t) : PPr X (some k :: ks) (v :: vs) (tPCons tk tv t) := by
  intro pos pins s σ H Q I h
  rw [pairTrees.eq_1]
  refine evalPairs_cons (thn (hk pins s σ H _ I h) fun ku s1 ⟨x, H1, I1, r1, q1⟩ => ?_)
  refine wpAny_bind (thn (hv pins s1 σ H1 _ I1 q1) fun vu s2 ⟨y, H2, I2, r2, q2⟩ => ?_)
  refine wpAny_bind (wpAny_standAt (wpAny_pure ?_))
  exact thn (hr pos pins s2 σ H2 _ I2 q2) fun vs s3 ⟨ps, H3, I3, r3, q3⟩ => ⟨(x, y) :: ps, H3, I3, .cons ⟨r1, r2⟩ r3, q3⟩
/-- all stored, one behind the other -/
noncomputable def putAll : List (PyData × PyData) → List (PyData × PyData) → R (List (PyData × PyData))
  | acc, [] => .ok acc
  | acc, (k, v) :: t => if sameK k (acc.map (·.1)) = true ∧ acc.length ≤ 16777216 then putAll (putM acc k v) t else .bad
def DatP (K : PySem.W.Frag) (F : Hp) (p : V × V) (d : PyData × PyData) : Prop := DatV K F p.1 d.1 ∧ DatV K F p.2 d.2
theorem dstore_ok {pins : List (Addr × Obj)} {σ : L2.St} {p : Addr} {F : Hp} (hu : X.A.units + 64 < cLine) (kvs : List (PyData × PyData)) : ∀ (ps : List (V × V)) (vs : List (Value × Value)) (acc res : List (PyData × PyData)) (es : List Ent) (H : Hp) (s : Shared) (Q : Shared → Prop),
    Inv X pins σ H s → Same F H → F p = none → H p = some (DicO X.w p es) → MapRel X.K F es acc → Paired (DatP X.K F) ps kvs → Paired RelP ps vs → putAll acc kvs = .ok res →
    (∀ es' s', Inv X pins σ (upd H p (DicO X.w p es')) s' → MapRel X.K F es' res → Q s') → wpAny (model X.prog X.w) X.A (storeAll p vs) (fun _ s => Q s) X.xe s := by
  induction kvs with
  | nil =>
    intro ps vs acc res es H s Q I sf hf hp m d r e q
    cases d
    cases r
    cases e
    have hs : storeAll p [] = pure PUnit.unit := by unfold storeAll; rw [List.forIn_nil]
    rw [hs]
    refine wpAny_pure (q es s ?_ m)
    have : upd H p (DicO X.w p es) = H := by
      funext x
      by_cases z : x = p
      · subst z; rw [upd_same, hp]
      · rw [upd_ne z]
    rw [this]; exact I
  | cons kv t ih =>
    obtain ⟨k, v⟩ := kv
    intro ps vs acc res es H s Q I sf hf hp m d r e q
    cases d with
    | @cons x _ ps _ d ds =>
      cases r with
      | @cons _ u _ vs r rs =>
        unfold putAll at e
        split at e
        · rename_i hs
          have D : DicAt X H p es k x.1 := ⟨hp, fun e he => (datVs_mem m.k1 m.k2 e he).same sf, by rw [m.k1]; exact m.nd, d.1.same sf, by rw [m.k1]; exact hs.1⟩
          have hl : es.length ≤ sizeLine := by
            have : es.length = acc.length := by simpa using congrArg List.length m.k1
            rw [this, line_eq]; exact hs.2
          have hst : storeAll p (u :: vs) = (do dictSet p u.1 u.2; storeAll p vs) := by
            unfold storeAll
            rw [List.forIn_cons]
            simp
          rw [hst]
          refine wpAny_bind (dic_set hu D I r.1 r.2 hl fun s' I' => ?_)
          have m' := m.put d.1 d.2
          have sf' : Same F (upd H p (DicO X.w p (putE es k x.1 x.2))) := fun a o z => by rw [upd_ne (ne_of_none z hf)]; exact sf a o z
          refine ih ps vs _ res _ _ s' Q I' sf' hf upd_same m' ds rs e fun es' s'' I'' m'' => ?_
          rw [upd_upd] at I''
          exact q es' s'' I'' m''
        · cases e
def tMLit (X : Cx) (tp : TP) : TE := fun σ H Q => ∀ p, H p = none → tp σ (upd H p (DicO X.w p [])) fun ps H2 => ∃ (F : Hp) (kvs res : List (PyData × PyData)), Same F H2 ∧ F p = none ∧ H2 p = some (DicO X.w p []) ∧ Paired (DatP X.K F) ps kvs ∧ putAll [] kvs = .ok res ∧
  ∀ es', MapRel X.K F es' res → Q (.ref p) (upd H2 p (DicO X.w p es'))
theorem pe_mlit {keys : List (Option Expr)} {vals : List Expr} {tp : TP} (hu : X.A.units + 64 < cLine) (h : PPr X keys vals tp) (h1 : (keys.all fun x => x.isSome) = true := by rfl) (h2 : keys.length = vals.length := by rfl) (h3 : keys ≠ [] := by exact fun z => nomatch z) (h4 : keys.length ≤ 15 := by decide) : PE X (.Dict keys vals pos) (tMLit X tp) := by
  intro pins s σ H Q I q
  have I1 := I.laid (a := s.heap.objs.size) (o := DicO X.w s.heap.objs.size []) (t' := s.toks) (fun _ _ q => Heap.get?_push_of_some { cls := .type "dict", data := .dict #[] } q) (Nat.le_refl _)
    (dicO_ok (beq_eq_false_iff_ne.mpr (Ne.symm (Nat.ne_of_lt I.big))) ⟨_, #[], 0, Heap.get?_push_size _ rfl, ⟨rfl, rfl, rfl⟩, rfl, .nil⟩)
  have q1 := q _ (I.hok.fresh (Nat.le_refl _))
  refine wpAny_Dict_any h1 h2 h3 h4 (thn (h pos pins _ σ _ _ I1 q1) fun vs s2 ⟨ps, H2, I2, r, F, kvs, res, sf, hf, hp, d, e, z⟩ => ?_)
  exact dstore_ok hu kvs ps vs [] res [] H2 s2 _ I2 sf hf hp ⟨rfl, .nil, .nil, List.nodup_nil⟩ d r e fun es' s' I' m => ⟨.ref s.heap.objs.size, _, I', rfl, z es' m⟩
def tPpf (c : Ct) (E : XK) (f : Sg → R (List (PyData × PyData))) : TP := fun σ H Q => ∃ ρ F, Ab c ρ σ F H ∧ Rk c E F H (f ρ) fun kvs => ∀ ps F' H', Ext F H F' H' → Paired (DatP c.K F') ps kvs → Q ps H'
abbrev PPf (X : Cx) (c : Ct) (E : XK) (keys : List (Option Expr)) (vals : List Expr) (f : Sg → R (List (PyData × PyData))) : Prop := PPr X keys vals (tPpf c E f)
theorem PPr.imp {X : Cx} {ks : List (Option Expr)} {vs : List Expr} {t t' : TP} (h : PPr X ks vs t) (i : ∀ σ H Q, t' σ H Q → t σ H Q) : PPr X ks vs t' := fun pos pins s σ H Q I q => h pos pins s σ H Q I (i σ H Q q)
def pNil : Sg → R (List (PyData × PyData)) := fun _ => .ok []
def pCons (f g : Sg → R PyData) (r : Sg → R (List (PyData × PyData))) : Sg → R (List (PyData × PyData)) := fun ρ => (f ρ).bind fun x => (g ρ).bind fun y => (r ρ).bind fun t => .ok ((x, y) :: t)
theorem ppf_nil : PPf X c E [] [] pNil := PPr.imp pp_nil fun σ H Q ⟨ρ, F, ab, k⟩ => Rk.ok k [] F H (Ext.refl ab.fh) .nil
theorem ppf_cons {k v : Expr} {ks : List (Option Expr)} {vs : List Expr} {f g : Sg → R PyData} {r : Sg → R (List (PyData × PyData))} (hk : PD X c E k f) (hv : PD X c E v g) (hr : PPf X c E ks vs r) : PPf X c E (some k :: ks) (v :: vs) (pCons f g r) := PPr.imp (pp_cons hk hv hr) fun σ H Q ⟨ρ, F, ab, k⟩ => by
  refine ⟨ρ, F, ab, (Rk.bind k).imp fun x _ q v F1 H1 s1 r1 => ?_⟩
  refine ⟨ρ, F1, ab.ext s1, ((Rk.bind q).ext s1).imp fun y _ q u F2 H2 s2 r2 => ?_⟩
  refine ⟨ρ, F2, ab.ext (s1.trans s2), ((Rk.bind q).ext (s1.trans s2)).imp fun t _ q ps F3 H3 s3 r3 => ?_⟩
  exact Rk.ok q _ F3 H3 ((s1.trans s2).trans s3) (.cons ⟨DatV.same (s2.trans s3).ff r1, DatV.same s3.ff r2⟩ r3)
noncomputable def sMLit (i : Nat) (f : Sg → R (List (PyData × PyData))) : Sg → R Fw := fun ρ => (f ρ).bind fun kvs => (putAll [] kvs).bind fun res => .ok (.nx (ρ.set i (some (.m res))))
theorem putAll_ex : ∀ (kvs acc : List (PyData × PyData)) (x : Er), putAll acc kvs ≠ .ex x
  | [], acc, x, h => by cases h
  | (k, v) :: t, acc, x, h => by
    unfold putAll at h
    split at h
    · exact putAll_ex t _ x h
    · cases h
theorem ps_mlit {i : Nat} {f : Sg → R (List (PyData × PyData))} (hK : X.K = c.K) (hW : X.w = c.w) (h : PS X st (tAsg (tMLit X (tPpf c E f)) (gName i))) : PSf X c E st (sMLit i f) := PS.imp h fun D σ H ⟨ρ, F, ab, k⟩ => fun p hp => by
  have e1 := Ext.own (F := F) (o := DicO X.w p []) ab.fh hp
  refine ⟨ρ, F, ab.ext e1, ((Rk.bind k).ext e1).imp fun kvs _ q ps F2 H2 s2 r2 => ?_⟩
  have hf : F2 p = none := s2.stay (same_none ab.fh hp) upd_same (fun _ z => dicO_cod z)
  have h2 : H2 p = some (DicO X.w p []) := s2.hh _ _ upd_same
  cases e : putAll [] kvs with
  | bad => rw [e] at q; exact q.elim
  | ex x => exact absurd e (putAll_ex _ _ _)
  | ok res =>
    rw [e] at q
    refine ⟨F2, kvs, res, s2.fh, hf, h2, by rw [hK]; exact r2, e, fun es' m => ?_⟩
    have e3 : Ext F H F2 (upd H2 p (DicO X.w p es')) := by
      refine ⟨fun a o z => ?_, s2.ff, fun a o z => ?_, fun a z n => ?_⟩
      · have ne : a ≠ p := ne_of_none z hp
        rw [upd_ne ne]
        exact s2.hh a o (by rw [upd_ne ne]; exact z)
      · rw [upd_ne (ne_of_none z hf)]; exact s2.fh a o z
      · have := s2.nw a z n
        by_cases w : a = p
        · subst w; exact .inl hp
        · unfold NewIn at this; rw [upd_ne w] at this; exact this
    rw [hW] at e3 ⊢
    rw [hK] at m
    exact Rk.ok q _ F2 _ s2.ff (ab.setM e3 hp upd_same hf m)
end
end Fl
namespace Fl
open PySem L2 PyProof.Rows
/-! ### d.get(k, y): of a dict of one's own, of the module's -/
section
variable {X : Cx} {c : Ct} {E : XK} {e a b : Expr} {st : Stmt} {pos : Pos}
noncomputable def eMGet2 (i : Nat) (f g : Sg → R PyData) : Sg → R PyData := fun ρ => match ρ[i]? with
  | some (some (.m kvs)) => (f ρ).bind fun k => (g ρ).bind fun y => if sameK k (kvs.map (·.1)) = true then .ok ((getM kvs k).getD y) else .bad
  | _ => .bad
end
end Fl
namespace L2
open PySem PySem.Spec PyProof.Rows
/-- an error leaves with the names as they were -/
def FlyS (X : Cx) (σ0 : St) (E : XK) (ev : Value) (s' : Shared) : Prop := ∃ e C od H', ev = .ref e ∧ Inv X [] σ0 H' s' ∧ FlyAt X H' s'.heap e C od false ∧ E (.ref C) (some e) H'
abbrev Cx.flyS (X : Cx) (σ0 : St) (E : XK) : Cx := X.wish (FlyS X σ0 E)
section
variable {X : Cx}
theorem passS {E : XK} {σ : St} {pins : List (Addr × Obj)} {H : Hp} {s : Shared} {ev : Value} {s' : Shared} (I : Inv (X.flyS σ E) pins σ H s) (h : CXe X.prog X.w X.stack H s E ev s') : FlyS X σ E ev s' := by
  obtain ⟨e, C, od, H', rfl, os, bare, un, hok, he, ⟨vs, T, q1, q2, q3⟩, q⟩ := h
  have I0 : Inv X pins σ H s := I.unwish
  have I1 : Inv X [] σ H s := I0.pins_of fun p hp => absurd hp (by simp)
  have I2 : Inv X [] σ H' s' := I1.call' os un hok bare (fun b hb => absurd hb (by simp))
  refine ⟨e, C, od, H', rfl, I2, ⟨he, vs, T, q1, q2, fun t e1 => ?_, fun z => nomatch z⟩, q⟩
  obtain ⟨t1, t2⟩ := q3 t e1
  refine ⟨t1, Nat.le_trans I0.sz t2, fun p hp z => ?_⟩
  have := Heap.lt_size (I0.pin p (List.mem_append_left _ hp)).1
  rw [z] at this
  exact absurd (Nat.lt_of_lt_of_le this t2) (Nat.lt_irrefl _)
theorem run_fnS {CX : CXT} {k : Nat} {f : Addr} {fd : FuncData} {ps : List Str} {sp : Sp} {E : XK} {pins : List (Addr × Obj)} {σ : St} {H : Hp} {s : Shared} {Q : VK} {us : List Value} {vs : List V} {W : Value → Shared → Prop} (F : FnOk X.prog X.w X.K X.mg X.base CX k f fd ps sp) (hr : Room k X.A) (hb : Binds X.K fd ps [])
    (hx : ∀ e s', CX X.stack H s E e s' → W e s') (I : Inv X pins σ H s) (r : Vals vs us) (h : sp (vs ++ []) H Q E) : wpAny (model X.prog X.w) X.A (call (.ref f) us) (EP X pins σ Q) W s := by
  have r2 : Vals (vs ++ []) (us ++ []) := r.append .nil
  have hl : (us ++ []).length = ps.length := by rw [← r2.length]; exact F.len _ _ _ _ h
  refine wpAny_call (codeAny_mono (F.run X.A X.stack s H ⟨us, []⟩ (us ++ []) (vs ++ []) Q E hr I.env0 (hb s us I.kIn hl) r2 h) fun r s' hq => ?_)
  cases r with
  | error e => exact hx e s' hq
  | ok fl =>
    cases fl with
    | ret u => exact I.after hq
    | next => exact False.elim hq
    | brk => exact False.elim hq
    | cont => exact False.elim hq
/-- a call, asked at the names' state σ alone -/
def PCl (X : Cx) (σ : St) (E : XK) (e : Expr) (t : TE) : Prop := ∀ (pins : List (Addr × Obj)) (s : Shared) (H : Hp) (Q : VK), Inv (X.flyS σ E) pins σ H s → t σ H Q → wpAny (model X.prog X.w) X.A (eval e X.env) (EP (X.flyS σ E) pins σ Q) (FlyS X σ E) s
theorem pcl_fn {k : Nat} {x : Str} {ps : List Str} {sp : Sp} {E : XK} {σ : St} {e : Expr} {es : List Expr} {t : TA} {p pos : Pos} (C : Calls X.prog X.w X.K X.mg X.base (CXe X.prog X.w) k x ps sp) (hr : Room k X.A) (hg : Gl X x) (ha : PA (X.flyS σ E) (e :: es) t) (hdb : (x == ("__debug__" : Str)) = false := by decide)
    (he : starEach (e :: es) X.env = (false, eval e X.env) :: starEach es X.env := by rfl) (hpl : (backTo pos (starEach es X.env)).any (·.1) = false := by rfl) : PCl X σ E (.Call (.Name x p) (e :: es) [] pos) (tCall sp [] E t) := by
  obtain ⟨f, fd, F, b, m, kp⟩ := C
  intro pins s H Q I h
  refine wpAny_Call_Name_kw (ld_glob (X := X.flyS σ E) I hg m ?_ hdb)
  refine PySem.W.callWith_K (h₀ := X.base) I.ok.mod.kin kp (thn (ha pos pins s σ H _ I h) fun us s1 ⟨vs, H1, I1, r, q⟩ => ⟨I1.kIn, ?_⟩) he hpl
  exact run_fnS (X := X.flyS σ E) F hr b (fun e s' z => passS I1 z) I1 r q
/-- the body is one call, into a name -/
theorem body_set {e : Expr} {t : TE} {E : XK} {σ : St} {pos pos' : Pos} {j : Nat} {y : Str} {pins : List (Addr × Obj)} {s : Shared} {H : Hp} {D : Ends} (hc : PCl (X.pnw (X.pn ++ pins)) σ E e t) (hN : X.N.Nodup) (hj : X.N[j]? = some y) (hx : Loc X.env.scope y) (I : Inv X pins σ H s) (h : t σ H fun v H1 => D.nx (σ.set j (some v)) H1) (hs : swapsWith e (some (.Name y pos')) pos.line X.env = pure false := by rfl) (hf : X.fn y = true ∨ X.env.scope.names.lookup y = some .local := by first | exact .inl rfl | exact .inr rfl | assumption) :
    wpAny (model X.prog X.w) X.A (execs [.Assign [.Name y pos'] e pos] X.env) (fun f s1 => SP X pins D f s1) (FlyS (X.pnw (X.pn ++ pins)) σ E) s := by
  have I1 := I.toPn
  have I1' : Inv ((X.pnw (X.pn ++ pins)).flyS σ E) [] σ H s := I1.wish _
  refine wpAny_execs_cons (thn (Q := fun f s1 => SP ((X.pnw (X.pn ++ pins)).flyS σ E) [] D f s1) (wpAny_Assign_Name (thn (hc [] s H _ I1' h) fun v s1 ⟨x, H1, I1, r1, q1⟩ => store_ok (X := (X.pnw (X.pn ++ pins)).flyS σ E) I1 hN hj hx r1 (fun s2 I2 => ⟨_, H1, I2, q1⟩) hf) hs) fun f s1 q => ?_)
  have q' := SP.ofPn q
  cases f with
  | next => exact wpAny_execs_nil q'
  | ret v => exact q'
  | brk => exact q'
  | cont => exact q'
end
end L2
namespace Fl
open PySem L2 PyProof.Rows
def putO (j : Option Nat) (a : A) (ρ : Sg) : Sg := match j with
  | none => ρ
  | some j => ρ.set j (some a)
def Catches (K : PySem.W.Frag) (mg : Str → Option Value) (Wc : Addr) (cl : List Str) : Prop := ∀ nm ∈ cl, ∃ C bm, mg nm = some (.ref C) ∧ SX.ExcAny K C bm ∧ (Value.ref C :: bm).contains (.ref Wc) = true
section
variable {X : Cx} {c : Ct} {E : XK}
end
end Fl
namespace Fl
open PySem L2 PyProof.Rows
/-! ### list(range(n)) -/
def dLR : PyData → R (List PyData)
  | .int n => if 0 ≤ n ∧ n ≤ 1000000 then .ok ((List.range n.toNat).map fun i : Nat => .int (i : Int)) else .bad
  | _ => .bad
section
variable {X : Cx} {c : Ct} {E : XK} {e : Expr}
theorem datVs_ints {K : PySem.W.Frag} {F : Hp} : ∀ (xs : List Nat), DatVs K F (xs.map fun i : Nat => V.int (i : Int)) (xs.map fun i : Nat => PyData.int (i : Int))
  | [] => .nil
  | x :: xs => .cons (.int _) (datVs_ints xs)
theorem pn_listR {f : Sg → R PyData} (h : PE X e (tCB (fun xs H Q => ∃ (p : Addr) (n : Nat), xs = [.ref p] ∧ H p = some (.rng 0 n) ∧ n ≤ 1000000 ∧ ∀ l, H l = none → Q (.ref l) (upd H l (.lst ((List.range n).map fun i : Nat => V.int (i : Int)))))
    (tCons (tCB (fun xs H Q => ∃ n : Nat, xs = [.int n] ∧ n ≤ 1000000 ∧ ∀ p, H p = none → Q (.ref p) (upd H p (.rng 0 n))) (tCons (tV (relR c) c E f) tNil)) tNil))) : PN X c E e (e1 dLR f) := PE.imp h fun σ H Q ⟨ρ, F, ab, k⟩ => by
  refine ⟨ρ, F, ab, (Rk.bind k).imp fun d hd q v F1 H1 s1 r1 => ?_⟩
  clear hd
  unfold dLR at q
  split at q
  · rename_i n
    split at q
    · rename_i hn
      obtain rfl := DatR.int_of r1
      refine ⟨n.toNat, by rw [show ((n.toNat : Nat) : Int) = n by omega], by omega, fun p hp => ?_⟩
      refine ⟨p, n.toNat, rfl, upd_same, by omega, fun l hl => ?_⟩
      have e1 : Ext F1 H1 F1 (upd H1 p (.rng 0 (n.toNat : Int))) := Ext.own s1.fh hp
      have e2 : Ext F1 _ F1 (upd (upd H1 p (.rng 0 (n.toNat : Int))) l (.lst ((List.range n.toNat).map fun i : Nat => V.int (i : Int)))) := Ext.own e1.fh hl
      exact Rk.ok q _ F1 _ ((s1.trans e1).trans e2) ⟨l, _, rfl, same_none s1.hh (same_none e1.hh hl), upd_same, same_none e1.fh hl, datVs_ints _⟩
    · exact q.elim
  · exact q.elim
end
end Fl
namespace Fl
open PySem L2 PyProof.Rows
/-! ### isinstance of an error -/
section
variable {X : Cx} {c : Ct} {E : XK} {e : Expr} {P : Program} {w : World} {base : Heap}
end
end Fl
namespace L2
open PySem PySem.Spec PyProof.Rows
/-! ### raise of an error class without an __init__ of its own -/
theorem ObjOk.got {P : Program} {w : World} {H : Hp} {h : Heap} {a : Addr} {o : HO} (x : ObjOk P w H h a o) : ∃ u, h.get? a = some u := by
  cases o with
  | lst xs => obtain ⟨_, _, _, _, e⟩ := x; exact ⟨_, e⟩
  | tup xs => obtain ⟨_, _, _, ⟨o, e, _⟩⟩ := x; exact ⟨_, e⟩
  | dK kvs => obtain ⟨_, _, _, _, o, _, _, e, _⟩ := x; exact ⟨_, e⟩
  | dT kvs => obtain ⟨_, _, _, _, o, _, _, e, _⟩ := x; exact ⟨_, e⟩
  | set S n => obtain ⟨o, _, _, _, e, _⟩ := x; exact ⟨_, e⟩
  | ins C dx fs => obtain ⟨_, _, _, e, _⟩ := x; exact ⟨_, e⟩
  | own y => exact x
  | xd fs => obtain ⟨_, ⟨_, _, _, e, _⟩, _⟩ := x; exact ⟨_, e⟩
  | rng lo hi => obtain ⟨_, _, _, e⟩ := x; exact ⟨_, e⟩
  | frz ob u => exact ⟨_, x.1⟩
  | tbl ps => obtain ⟨_, e, _⟩ := x; exact ⟨_, e⟩
  | cod q => obtain ⟨c, o, vs, t, e, ho, _⟩ := x; cases e; exact ⟨_, ho⟩
  | met f y => exact ⟨_, x⟩
  | ext φ => exact x.2.1
theorem HOk.free {P : Program} {w : World} {H : Hp} {h : Heap} {a : Addr} (x : HOk P w H h) (e : h.get? a = none) : H a = none := by
  cases q : H a with
  | none => rfl
  | some u =>
    obtain ⟨o, z⟩ := (x a u q).got
    rw [e] at z; cases z
theorem Inv.laidN {X : Cx} {pins : List (Addr × Obj)} {σ : St} {H : Hp} {s : Shared} {h' : Heap} {a : Addr} {o : HO} {t' : Nat} (I : Inv X pins σ H s) (k : ∀ b u, s.heap.get? b = some u → h'.get? b = some u) (hp : s.heap.get? a = none) (new : ObjOk X.prog X.w (upd H a o) h' a o) :
    Inv X pins σ (upd H a o) { s with heap := h', toks := t' } := by
  have hn : H a = none := I.hok.free hp
  refine I.un ⟨fun b u q _ _ _ => k b u q, fun b u q _ _ _ => ⟨u.slots, k b u q⟩, fun b u q n _ => ?_, fun b u q _ => ⟨u, k b u q⟩, fun b xs q => by rw [upd_ne (ne_of_none q hn)]; exact q, fun b u xs q => by rw [upd_ne (ne_of_none q hn)]; exact q, fun b ps q => by rw [upd_ne (ne_of_none q hn)]; exact q⟩ fun b u e => ?_
  · rw [upd_ne (fun z => by rw [z, hp] at q; cases q)]; exact n
  · by_cases hb : b = a
    · subst hb; rw [upd_same] at e; cases e; exact new
    · rw [upd_ne hb] at e
      exact (I.hok b u e).stay (fun c v _ q => k c v q) (fun c q => by rw [upd_ne (ne_of_none q hn)]; exact q) (fun c xs q => by rw [upd_ne (ne_of_none q hn)]; exact q) fun c xs q => by rw [upd_ne (ne_of_none q hn)]; exact q
structure ErrP (K : PySem.W.Frag) (mg : Str → Option Value) (x : Str) (W C : Addr) : Prop where
  c : SX.ExcC K W C
  m : mg x = some (.ref C)
  lk : ∃ nm q N bs sn sub ab col dd k0 k1 k2 k3 k5, K.lookup C = some (excClassObj nm q C N bs (.ref W :: SX.vmro) true sn sub ab col dd k0 k1 k2 k3 k5 "ValueError.__new__") ∧ PySem.W.nsOkIn K N = true ∧ PySem.W.nsIn K N "__init__" = some none
  lw : ∃ c0 dd cd sl, K.lookup W = some ⟨c0, dd, .cls cd, sl⟩ ∧ PySem.W.nsOkIn K cd.ns = true ∧ PySem.W.nsIn K cd.ns "__init__" = some none
def tRaiseP (C : Addr) (E : XK) (ta : TA) : TS := fun _ σ H => ta σ H fun vs H1 => vs.length ≤ 1000 ∧ ∀ e, H1 e = none → E (.ref C) (some e) (upd H1 e (ExO e C none))
theorem ns_in {K : PySem.W.Frag} {h : Heap} {N : Addr} {n : Str} (X : K.In h) (a : PySem.W.nsOkIn K N = true) (b : PySem.W.nsIn K N n = some none) : ∃ m, h.Ns N m ∧ m n = none := by
  have := Heap.Ns.of_isNs (PySem.W.isNs_of_in X a)
  exact ⟨_, this, PySem.W.ns_none_of X this b⟩
section
variable {X : Cx} {E : XK} {W C : Addr} {x : Str} {np cpos pos : Pos} {e0 : Expr} {rest : List Expr} {ta : TA}
theorem ps_raiseP (hc : X.calm = true) (er : ErrP X.K X.mg x W C) (hg : Gl X x) (ha : PA (X.fly E) (e0 :: rest) ta) (hdb : (x == ("__debug__" : Str)) = false := by decide)
    (he : starEach (e0 :: rest) X.env = (false, eval e0 X.env) :: starEach rest X.env := by rfl) (hpl : (backTo cpos (starEach rest X.env)).any (·.1) = false := by rfl) :
    PS (X.fly E) (.Raise (some (.Call (.Name x np) (e0 :: rest) [] cpos)) none pos) (tRaiseP C E ta) := by
  intro pins s σ H D I h
  obtain ⟨nm, q, N, bs, sn, sub, ab, col, dd, k0, k1, k2, k3, k5, lk, nok, nno⟩ := er.lk
  obtain ⟨c0, dw, cd, sl, lw, wok, wno⟩ := er.lw
  have core : wpAny (model X.prog X.w) X.A (eval (.Call (.Name x np) (e0 :: rest) [] cpos) X.env) (fun v s1 => ∃ e od vs, v = .ref e ∧ s1.heap.get? C = some (excClassObj nm q C N bs (.ref W :: SX.vmro) true sn sub ab col dd k0 k1 k2 k3 k5 "ValueError.__new__") ∧
      s1.heap.get? e = some { cls := .ref C, dict := od, data := .fields vs } ∧ vs[1]? = some .none ∧ Fly X E (.ref e) s1) (Fly X E) s := by
    refine wpAny_Call_Name_kw (ld_glob (X := X) I.unwish hg er.m ?_ hdb)
    refine PySem.W.callWith_K (h₀ := X.base) I.ok.mod.kin er.c.kp (thn (ha cpos pins s σ H _ I h) fun us s1 ⟨vs, H1, I1', r, hz, q1⟩ => ⟨I1'.kIn, ?_⟩) he hpl
    have I1 : Inv X pins σ H1 s1 := I1'.unwish
    obtain ⟨hp, g, d, tk, os⟩ := s1
    have hz' : us.length ≤ sizeLine := by rw [← r.length, sizeLine_eq]; omega
    have kin : X.K.In hp := I1.kIn
    obtain ⟨mN, hN, hN0⟩ := ns_in kin nok nno
    obtain ⟨mW, hW, hW0⟩ := ns_in kin wok wno
    refine wpAny_call_exc_subT PySem.F.excBase_ValueError (.own (kin _ _ lw) hW hW0 .base) (kin _ _ lk) hN hN0 (fun h' e hm' => ?_) hz'
    obtain ⟨t, het, _, _⟩ := hm'.there
    have I2 : Inv X pins σ (upd H1 e (ExO e C none)) ⟨h', g, d, tk, os⟩ := I1.laidN (t' := tk) hm'.keeps hm'.new (exO_ok het)
    have q2 := q1 e (I1.hok.free hm'.new)
    have I5 : Inv X [] σ (upd H1 e (ExO e C none)) ⟨h', g, d, tk, os⟩ := I2.pins_of fun p hp => absurd hp (by simp)
    exact ⟨e, none, _, rfl, I2.kIn _ _ lk, het, rfl, e, C, none, σ, _, rfl, I5, ⟨upd_same, _, none, het, rfl, (fun t z => nomatch z), (fun z => nomatch z)⟩, q2⟩
  show wpAny (model X.prog X.w) X.A (exec (.Raise (some (.Call (.Name x np) (e0 :: rest) [] cpos)) none pos) X.env) _ (Fly X E) s
  rw [arm_exec_Raise]
  first
    | refine wpAny_bind (wpAny_standAt (SX.raise_made (SX.bmOk W) (I.ok.hd hc) (wpAny_bind (wpAny_mono core (fun v s1 h1 => wpAny_bind (wpAny_standAt (wpAny_pure h1))) fun _ _ z => z))))
    | (simp only [evalOpt, Option.map]; refine wpAny_bind (wpAny_standAt (SX.raise_made (SX.bmOk W) (I.ok.hd hc) (wpAny_bind (wpAny_mono core (fun v s1 h1 => wpAny_bind (wpAny_standAt (wpAny_pure h1))) fun _ _ z => z)))))
end
/-! ### f'..{i}..', i one of few -/
def few (i : Int) : Prop := i = 40 ∨ i = 60 ∨ i = 200 ∨ i = 300
theorem few_len {i : Int} (h : few i) : (Str.ofString (toString i)).length ≤ 10 ∧ i.natAbs.log2 < 1920 := by
  rcases h with rfl | rfl | rfl | rfl <;> decide +kernel
theorem len_app (x y : Str) : (x ++ y).length = x.length + y.length := by
  show (x.cps ++ y.cps).size = x.cps.size + y.cps.size
  simp
def tFmt (ta : TE) : TE := fun σ H Q => ta σ H fun x H1 => ∃ i : Int, x = .int i ∧ few i ∧ ∀ z : Str, Q (.str z) H1
theorem pe_fmt {X : Cx} {v : Expr} {ta : TE} {a b : Str} {k1 k2 : Nat} {p1 p2 p3 pos : Pos} (hv : PE X v ta) (ha : a.length ≤ 1000 := by decide) (hb : b.length ≤ 1000 := by decide) :
    PE X (.JoinedStr [.Constant (.str a) k1 p1, .FormattedValue v (-1) none p2, .Constant (.str b) k2 p3] pos) (tFmt ta) := by
  intro pins s σ H Q I h
  have hsz : sizeLine = 16777216 := rfl
  have h0 : (Str.empty).length = 0 := rfl
  refine wpAny_JoinedStr (Joins_cons (thn (pe_str (X := X) pins s σ H (fun y H1 => y = .str a ∧ H1 = H) I ⟨rfl, rfl⟩) fun u s1 ⟨y, H1, I1, r1, e1, e2⟩ => ?_))
  subst e1 e2
  obtain ⟨t1, rfl⟩ := r1
  refine ⟨a, t1, rfl, by rw [len_app, h0]; omega, Joins_cons (wpAny_FormattedValue_plain (thn (hv pins s1 σ _ _ I1 h) fun u s2 ⟨y, H2, I2, r2, i, e, hf, q⟩ => ?_))⟩
  subst e
  obtain ⟨t2, rfl⟩ := r2
  obtain ⟨f1, f2⟩ := few_len hf
  refine wpAny_formatField_int f2 ⟨_, _, rfl, by rw [len_app, len_app, h0]; omega, Joins_cons (thn (pe_str (X := X) pins _ σ H2 (fun y H1 => y = .str b ∧ H1 = H2) (I2.tok _) ⟨rfl, rfl⟩) fun u s3 ⟨y, H3, I3, r3, e1, e2⟩ => ?_)⟩
  subst e1 e2
  obtain ⟨t3, rfl⟩ := r3
  refine ⟨b, t3, rfl, by rw [len_app, len_app, len_app, h0]; omega, Joins_nil ⟨by rw [len_app, len_app, len_app, h0]; omega, ?_⟩⟩
  exact ⟨.str _, _, I3.tok _, ⟨_, rfl⟩, q _⟩
end L2
namespace L2
open PySem PySem.Spec PyProof.Rows
section
variable {X : Cx}
/-- except W: without a name -/
theorem try_S0 {x : Str} {Wc : Addr} {bmW : List Value} {body suite : List Stmt} {b0 : Stmt} {np hpos pos : Pos} (hO : OwnFr X)
    (hg : Gl X x) (hm : X.mg x = some (.ref Wc)) (hw : SX.ExcAny X.K Wc bmW) (hdb : (x == ("__debug__" : Str)) = false) {pins : List (Addr × Obj)} {s : Shared} {σ : St} {H : Hp} {D : Ends} {E : XK} (I : Inv X pins σ H s)
    (hb : wpAny (model X.prog X.w) X.A (execs body X.env) (fun f s1 => SP X pins D f s1) (FlyS (X.pnw (X.pn ++ pins)) σ E) s)
    (hh : ∀ (C e : Addr) (H' : Hp), (∃ od, H' e = some (ExO e C od)) → E (.ref C) (some e) H' → ∃ bm, SX.ExcAny X.K C bm ∧ (Value.ref C :: bm).contains (.ref Wc) = true ∧ ∃ ts, PSs (X.inH e) (b0 :: suite) ts ∧ ts D σ H') :
    wpAny (model X.prog X.w) X.A (exec (.Try body [.ExceptHandler (some (.Name x np)) none (b0 :: suite) hpos] [] [] pos) X.env) (SP X pins D) X.xe s := by
  refine wpAny_Try_except (wpAny_mono hb (fun f s1 q' => ?_) fun ev s1 q => ?_)
  · cases f with
    | next => exact wpAny_execs_nil q'
    | brk => exact q'
    | cont => exact q'
    | ret u => exact q'
  · obtain ⟨e, C, od, H1, rfl, I2, f2, q⟩ := q
    have hO' : OwnFr (X.pnw (X.pn ++ pins)) := hO
    refine fly_note (X := X.pnw (X.pn ++ pins)) hO' I2 f2 fun s3 I3 f3 => fly_set (X := X.pnw (X.pn ++ pins)) I3 f3 fun s4 I4 f4 => ?_
    have I4' : Inv X pins σ H1 s4 := I4.ofPn
    obtain ⟨bm, cA, hcon, ts, pts, qts⟩ := hh C e H1 ⟨od, f4.tr⟩ q
    refine wpAny_handleBy_cons (codeAny_handlers_test ?_) (by intro z; cases z)
    have IH : Inv (X.inH e) pins σ H1 s4 := I4'.inH e
    refine ld_glob (X := X.inH e) IH hg hm ?_ hdb
    obtain ⟨vs, hx⟩ := exO_at I4'.hok f4.tr
    refine SX.matches_any I4'.kIn cA hw hx rfl ?_
    rw [hcon]
    refine codeAny_handlers_suite ?_
    refine fly_set (X := X.pnw (X.pn ++ pins)) I4 f4 fun s5 I5 f5 => ?_
    have I5' : Inv X pins σ H1 s5 := I5.ofPn
    refine wpAny_mono (pts pins s5 σ H1 D (I5'.inH e) qts) (fun f s7 q7 => ?_) fun _ _ z => z.elim
    cases f with
    | next =>
      obtain ⟨σ7, H7, I7, q7⟩ := q7
      exact ⟨σ7, H7, I7.ofH I.ok, q7⟩
    | brk =>
      obtain ⟨σ7, H7, I7, q7⟩ := q7
      exact ⟨σ7, H7, I7.ofH I.ok, q7⟩
    | cont =>
      obtain ⟨σ7, H7, I7, q7⟩ := q7
      exact ⟨σ7, H7, I7.ofH I.ok, q7⟩
    | ret u =>
      obtain ⟨v, σ7, H7, I7, r7, q7⟩ := q7
      exact ⟨v, σ7, H7, I7.ofH I.ok, r7, q7⟩
end
end L2
namespace Fl
open PySem L2 PyProof.Rows
/-! ### raise of a plain class -/
instance (i : Int) : Decidable (few i) := by unfold few; infer_instance
def sRaiseP (cn : Str) (f : Sg → R (List PyData)) : Sg → R Fw := fun ρ => (f ρ).bind fun xs => if xs.length ≤ 1000 then .ex ⟨cn, []⟩ else .bad
def sRaiseF (cn : Str) (g : Sg → R PyData) : Sg → R Fw := fun ρ => (g ρ).bind fun x => match x with
  | .int i => if few i then .ex ⟨cn, []⟩ else .bad
  | _ => .bad
section
variable {X : Cx} {c : Ct} {E : XK} {st : Stmt} {cn : Str} {C : Addr}
theorem ps_raiseP {f : Sg → R (List PyData)} (hm : c.mg cn = some (.ref C)) (h : PS X st (tRaiseP C E (tAd c E f))) : PSf X c E st (sRaiseP cn f) := PS.imp h fun D σ H ⟨ρ, F, ab, k⟩ => by
  refine ⟨ρ, F, ab, (Rk.bind k).imp fun xs _ q vs F1 H1 s1 r1 => ?_⟩
  by_cases hn : xs.length ≤ 1000
  · rw [if_pos hn] at q
    exact ⟨by rw [r1.length]; exact hn, fun e he => q e C _ _ ((ab.all.trans s1).trans (Ext.new s1.fh he)) ⟨hm, none, upd_same, .inl ⟨rfl, rfl⟩⟩⟩
  · rw [if_neg hn] at q; exact q.elim
theorem ps_raiseF {g : Sg → R PyData} (hm : c.mg cn = some (.ref C)) (h : PS X st (tRaiseP C E (tCons (tFmt (tV (relR c) c E g)) tNil))) : PSf X c E st (sRaiseF cn g) := PS.imp h fun D σ H ⟨ρ, F, ab, k⟩ => by
  refine ⟨ρ, F, ab, (Rk.bind k).imp fun x hx q v F1 H1 s1 r1 => ?_⟩
  clear hx
  split at q
  · rename_i i
    split at q
    · rename_i hf
      obtain rfl := DatR.int_of r1
      exact ⟨i, rfl, hf, fun z => ⟨by show 1 ≤ 1000; decide, fun e he => q e C _ _ ((ab.all.trans s1).trans (Ext.new s1.fh he)) ⟨hm, none, upd_same, .inl ⟨rfl, rfl⟩⟩⟩⟩
    · exact q.elim
  · exact q.elim
/-! ### except W: -/
def sTry0 (j : Option Nat) (n : Nat) (G : List A → R A) (f : Sg → R (List A)) (cl : List Str) (fs : Sg → R Fw) : Sg → R Fw := fun ρ => match f ρ with
  | .ok as => if as.length = n then (match G as with
    | .bad => .bad
    | .ok a => .ok (.nx (putO j a ρ))
    | .ex e => if cl.contains e.c = true then fs ρ else .bad) else .bad
  | _ => .bad
theorem try_read0 {n : Nat} {j : Option Nat} {x : Str} {Wc : Addr} {bmW : List Value} {body suite : List Stmt} {b0 : Stmt} {np hpos pos : Pos} {G : List A → R A} {f : Sg → R (List A)} {cl : List Str} {fs : Sg → R Fw} (hK : X.K = c.K) (hM : X.mg = c.mg)
    (hO : OwnFr X) (hg : Gl X x) (hm : X.mg x = some (.ref Wc)) (hw : SX.ExcAny X.K Wc bmW) (hdb : (x == ("__debug__" : Str)) = false)
    (hcl : Catches X.K X.mg Wc cl)
    (hb : ∀ (pins : List (Addr × Obj)) (s : Shared) (σ : L2.St) (H : Hp) (D : Ends) (E' : XK), Inv X pins σ H s → tCall (spF c.g X.K X.mg n G) [] E' (tAv c E f) σ H (fun v H1 => D.nx (match j with | none => σ | some j => σ.set j (some v)) H1) → wpAny (model X.prog X.w) X.A (execs body X.env) (fun f s1 => SP X pins D f s1) (FlyS (X.pnw (X.pn ++ pins)) σ E') s)
    (hs : ∀ e, PSSf (X.inH e) c E (b0 :: suite) fs) : PSf X c E (.Try body [.ExceptHandler (some (.Name x np)) none (b0 :: suite) hpos] [] [] pos) (sTry0 j n G f cl fs) := by
  intro pins s σ H D I h
  obtain ⟨ρ, F, ab, k⟩ := h
  unfold sTry0 at k
  cases hf : f ρ with
  | bad => rw [hf] at k; exact k.elim
  | ex z => rw [hf] at k; exact k.elim
  | ok as =>
    rw [hf] at k
    simp only at k
    by_cases hn : as.length = n
    · rw [if_pos hn] at k
      let E' : XK := fun cv oa H' => ∃ C a e F', cv = .ref C ∧ oa = some a ∧ Ext F H F' H' ∧ XRel c.K c.mg F' e a C ∧ G as = .ex e
      refine try_S0 (E := E') hO hg hm hw hdb I (hb pins s σ H D E' I ?_) ?_
      · refine ⟨ρ, F, ab, ?_⟩
        rw [hf]
        intro vs F1 H1 s1 r1
        refine ⟨F1, as, fun a o z => s1.ff a o (ab.f0 a o (ab.t0 a o z)), s1.fh, by rw [List.append_nil, hK, hM]; exact r1, hn, ?_⟩
        cases hG : G as with
        | bad => rw [hG] at k; exact k
        | ok a =>
          rw [hG] at k
          intro v F' H' s' r'
          rw [hK, hM] at r'
          have ab' := (ab.ext (s1.trans s'))
          refine Rk.ok k _ F' H' (s1.trans s').ff ?_
          cases j with
          | none => exact ab'
          | some j => exact ab'.setA r'
        | ex e =>
          intro a C F' H' s' r'
          rw [hK, hM] at r'
          exact ⟨C, a, e, F', rfl, rfl, s1.trans s', r', hG⟩
      · rintro C e H' ⟨od, _⟩ ⟨C', a, er, F', h1, h2, s', r', hG⟩
        cases h1
        cases h2
        rw [hG] at k
        simp only at k
        by_cases hc : cl.contains er.c = true
        · rw [if_pos hc] at k
          obtain ⟨C2, bm, m2, ca, co⟩ := hcl er.c (by simpa using hc)
          obtain ⟨m1, _⟩ := id r'
          rw [hM, m1] at m2
          cases m2
          exact ⟨bm, ca, co, _, hs e, ρ, F', ab.ext s', (k.ext s').imp fun w _ q => FwOk.same s'.ff q⟩
        · rw [if_neg hc] at k; exact k.elim
    · rw [if_neg hn] at k; exact k.elim
theorem ps_tryA0 {n j : Nat} {x y : Str} {Wc : Addr} {bmW : List Value} {suite : List Stmt} {b0 : Stmt} {call : Expr} {np hpos pos epos pos' : Pos} {G : List A → R A} {f : Sg → R (List A)} {cl : List Str} {fs : Sg → R Fw} (hK : X.K = c.K) (hM : X.mg = c.mg)
    (hO : OwnFr X) (hN : X.N.Nodup) (hj : X.N[j]? = some y) (hy : Loc X.env.scope y) (hg : Gl X x) (hm : X.mg x = some (.ref Wc)) (hw : SX.ExcAny X.K Wc bmW) (hcl : Catches X.K X.mg Wc cl)
    (hc : ∀ pn σ E', PCl (X.pnw pn) σ E' call (tCall (spF c.g X.K X.mg n G) [] E' (tAv c E f)))
    (hs : ∀ e, PSSf (X.inH e) c E (b0 :: suite) fs) (hdb : (x == ("__debug__" : Str)) = false := by decide) (hsw : swapsWith call (some (.Name y pos')) epos.line X.env = pure false := by rfl) (hf : X.fn y = true ∨ X.env.scope.names.lookup y = some .local := by first | exact .inl rfl | exact .inr rfl | assumption) :
    PSf X c E (.Try [.Assign [.Name y pos'] call epos] [.ExceptHandler (some (.Name x np)) none (b0 :: suite) hpos] [] [] pos) (sTry0 (some j) n G f cl fs) :=
  try_read0 (j := some j) hK hM hO hg hm hw hdb hcl (fun pins s σ H D E' I h => body_set (hc _ _ _) hN hj hy I h hsw hf) hs
/-! ### isinstance of a plain error -/
theorem catches_selfP {K : PySem.W.Frag} {mg : Str → Option Value} {x : Str} {W C : Addr} (er : ErrP K mg x W C) : Catches K mg C [x] := fun nm h => by
  rw [List.mem_singleton.mp h]
  exact ⟨C, _, er.m, er.c.any, by simp⟩
end
end Fl
namespace L2
open PySem
def keyStr (e : DictEntry) : Bool := match e.key with
  | .str _ _ => true
  | _ => false
theorem nsOk_mk {K : PySem.W.Frag} {N : Addr} {cl : Value} {d : Option Addr} {es : Array DictEntry} {ep : Nat} {sl : Array (Option Value)} (l : K.lookup N = some ⟨cl, d, .dict es ep, sl⟩) (h : es.toList.all keyStr = true) : PySem.W.nsOkIn K N = true := by
  unfold PySem.W.nsOkIn
  rw [show List.lookup N K = some ⟨cl, d, .dict es ep, sl⟩ from l]
  show es.all _ = true
  rw [← Array.all_toList]
  exact h
end L2
namespace Fl
open PySem L2 PyProof.Rows
/-! ### xs.extend([..]) -/
def sExt (i : Nat) (f : Sg → R (List PyData)) : Sg → R Fw := fun ρ => match ρ[i]? with
  | some (some (.l xs)) => (f ρ).bind fun ys => if xs.length + ys.length ≤ 16777216 then .ok (.nx (ρ.set i (some (.l (xs ++ ys))))) else .bad
  | _ => .bad
section
variable {X : Cx} {c : Ct} {E : XK} {st : Stmt}
theorem ps_ext {i : Nat} {f : Sg → R (List PyData)} (h : PS X st (tDrop (tBM X.K "list" rExtend (tVar i) (tCons (tV (relN c) c E f) tNil)))) : PSf X c E st (sExt i f) := PS.imp h fun D σ H ⟨ρ, F, ab, k⟩ => by
  unfold sExt at k
  split at k
  · rename_i xs hi
    obtain ⟨v, hp, p, vs, rfl, h2, h3, h4, h5⟩ := ab.slot i _ hi
    refine ⟨_, hp, .inl ⟨rfl, vs, SqL.of h2⟩, ρ, F, ab, (Rk.bind k).imp fun ys _ q u F1 H1 s1 r1 => ?_⟩
    by_cases hz : xs.length + ys.length ≤ 16777216
    · rw [if_pos hz] at q
      obtain ⟨b, us, rfl, n1, n2, n3, n4⟩ := r1
      refine ⟨p, b, vs, us, rfl, rfl, s1.hh _ _ h2, n2, by rw [h5.length, n4.length, line_eq]; exact hz, ?_⟩
      exact Rk.ok q σ F1 _ s1.ff ((ab.ext s1).putL hi hp ((h5.same s1.ff).append n4))
    · rw [if_neg hz] at q; exact q.elim
  · exact k.elim
end
end Fl
namespace HT
open PySem PySem.Spec PyProof.Rows L2
/-! ### (i, z) > (j, y) -/
def gt2 (i j : Int) (x y : Str) : Bool := if i = j then (if x = y then false else decide (y.cps.toList < x.cps.toList)) else decide (j < i)
section
open PySem.SeqAt
open PySem.AutoSeq1 (wpAny_loadPart')
open PySem.MeetsSeq PySem.MeetsSeq2 PySem.MeetsSeq3
theorem rcGt_int (A : Around) (s : Shared) (a : Int) (t : Tok) (c : Int) (u : Tok) (prog : Program) (w : World) (E : Value → Shared → Prop) (Q : Value → Shared → Prop) (h : Q (.bool (decide (c < a))) s) :
    wpAny (model prog w) A (richCompare .Gt (.int a t) (.int c u)) Q E s :=
  (PyProof.Rows.gt_int h : wpAny (model prog w) A (compareOp .Gt (.int a t) (.int c u)) Q E s)
theorem rcGt_str (A : Around) (s : Shared) (a : Str) (t : Tok) (c : Str) (u : Tok) (prog : Program) (w : World) (E : Value → Shared → Prop) (Q : Value → Shared → Prop) (h : Q (.bool (decide (c.cps.toList < a.cps.toList))) s) :
    wpAny (model prog w) A (richCompare .Gt (.str a t) (.str c u)) Q E s :=
  (PySem.P.gt_str h : wpAny (model prog w) A (compareOp .Gt (.str a t) (.str c u)) Q E s)
theorem tuple_gt_pair (l b : Addr) (n n2 : Nat) (dd dd2 : Option Addr) (sl sl2 : Array (Option Value)) (i j : Int) (x y : Str) (t1 t2 t3 t4 : Tok) :
    Meets (Builtin.«tuple.__gt__» ⟨[.ref l, .ref b], []⟩)
      (fun _ R s => s.heap.get? l = some { cls := .type "tuple", dict := dd, data := .seq #[.int i t1, .str x t2] n, slots := sl } ∧ s.heap.get? b = some { cls := .type "tuple", dict := dd2, data := .seq #[.int j t3, .str y t4] n2, slots := sl2 } ∧
        R (.ok (.ret (.bool (gt2 i j x y)))) s) :=
  .of_wp fun prog w A R s h => by
    obtain ⟨hp, g, d, tk, os⟩ := s; obtain ⟨hl, hb, h⟩ := h
    have f2 := AutoSeq1.sub_tuple_tuple
    wp_walk using wpAny_loadPart' hl, wpAny_loadPart' hb, wpAny_forIn_list _ (fun rest b s' => b.1 = none ∧ s' = (⟨hp, g, d, tk, os⟩ : Shared) ∧ (rest = [((Value.int i t1, Value.int j t3) : Value × Value), (Value.str x t2, Value.str y t4)] ∨ (rest = [((Value.str x t2, Value.str y t4) : Value × Value)] ∧ i = j) ∨ (rest = [] ∧ i = j ∧ x = y))) _
    case turn =>
      rintro ⟨u, v⟩ rest b s' ⟨hb', rfl, hr⟩
      rcases hr with hr | ⟨hr, hij⟩ | ⟨hr, _⟩
      · injection hr with h1 h2
        injection h1 with h3 h4
        subst h3 h4 h2
        obtain ⟨e, he, hiff⟩ := eqAt_int A.in1 ⟨hp, g, d, tk, os⟩ i t1 j t3
        refine wpAny_bind (he prog w _ _ ?_)
        cases e with
        | true =>
          have hij := hiff.mp rfl
          wp_walk
          exact ⟨rfl, rfl, .inr (.inl ⟨rfl, hij⟩)⟩
        | false =>
          have hij : ¬ i = j := fun q => absurd (hiff.mpr q) Bool.false_ne_true
          have hri := rcGt_int A.in1 ⟨hp, g, d, tk, os⟩ i t1 j t3 prog w
          wp_walk using hri
          exact ⟨_, rfl, by simpa [gt2, hij] using h⟩
      · injection hr with h1 h2
        injection h1 with h3 h4
        subst h3 h4 h2
        have he : SeqAt.EqAt A.in1 (⟨hp, g, d, tk, os⟩ : Shared) (.str x t2) (.str y t4) (x == y) := SeqAt.EqAt.str_str x t2 y t4
        refine wpAny_bind (he prog w _ _ ?_)
        cases hxy : (x == y) with
        | true =>
          have hxy' : x = y := by simpa using hxy
          wp_walk
          exact ⟨rfl, rfl, .inr (.inr ⟨rfl, hij, hxy'⟩)⟩
        | false =>
          have hxy' : ¬ x = y := by simpa using hxy
          have hri := rcGt_str A.in1 ⟨hp, g, d, tk, os⟩ x t2 y t4 prog w
          wp_walk using hri
          exact ⟨_, rfl, by simpa [gt2, hij, hxy'] using h⟩
      · cases hr
    case fin =>
      rintro ⟨b1, b2⟩ s' ⟨hb', rfl, hr⟩
      simp only at hb'
      subst hb'
      rcases hr with hr | ⟨hr, _⟩ | ⟨_, hij, hxy⟩
      · cases hr
      · cases hr
      · wp_walk
        exact ⟨_, rfl, by simpa [Builtin.Tuple.tupleCompareSizes, gt2, hij, hxy] using h⟩
    case h => exact ⟨rfl, rfl, .inl rfl⟩
end
theorem gt_tupPair {prog : Program} {w : World} {A : Around} {E : Value → Shared → Prop} {s : Shared} {l b : Addr} {i j : Int} {x y : Str} {t1 t2 t3 t4 : Tok} {Q : Value → Shared → Prop} (hl : IsTup s.heap l #[.int i t1, .str x t2]) (hb : IsTup s.heap b #[.int j t3, .str y t4])
    (hu : A.units < cLine) (h : Q (.bool (gt2 i j x y)) s) : wpAny (model prog w) A (compareOp .Gt (.ref l) (.ref b)) Q E s := by
  obtain ⟨⟨cls, dd, data, sl⟩, ho, hc, n, hd⟩ := id hl
  obtain ⟨⟨cls2, dd2, data2, sl2⟩, ho2, hc2, n2, hd2⟩ := id hb
  simp only at hc hd hc2 hd2
  subst hc hd hc2 hd2
  exact richCompare_meets_room (op := .Gt) ⟨_, ho, rfl⟩ ⟨_, ho2, rfl⟩ PySem.F.slot_tuple_gt PySem.F.entry_tuple_gt (PySem.F.args_tuple_gt_2 _ _) (tuple_gt_pair l b n n2 dd dd2 sl sl2 i j x y t1 t2 t3 t4)
    ⟨ho, ho2, show Value.bool (gt2 i j x y) ≠ Value.notImplemented ∧ Q (.bool (gt2 i j x y)) s from ⟨(fun x => nomatch x), h⟩⟩ hu
end HT
namespace Fl
open PySem L2 PyProof.Rows
def dGtT : PyData → PyData → R PyData
  | .tuple [.int i, .str x], .tuple [.int j, .str y] => .ok (.bool (HT.gt2 i j x y))
  | _, _ => .bad
theorem plain_gtT : Plain2 dGtT := by
  intro a b e h
  unfold dGtT at h
  split at h <;> cases h
theorem pair_of {K : PySem.W.Frag} {F : Hp} {vs : List V} {i : Int} {x : Str} (h : DatVs K F vs [.int i, .str x]) : vs = [.int i, .str x] := by
  obtain ⟨v, t, rfl, h1, h2⟩ := h.cons_of
  obtain ⟨u, t', rfl, h3, h4⟩ := h2.cons_of
  obtain rfl := h1.int_of
  obtain rfl := h3.str_of
  cases h4
  rfl
theorem opr_gtT {X : Cx} {c : Ct} (hK : X.K = c.K) (hu : X.A.units + 64 < cLine) : OpR X (compareOp .Gt) (r2D (relR c) (relR c) (relD c) dGtT) := by
  intro pins s σ H v u x y Q I rx ry h
  obtain ⟨H0, H1, F, a, b, d, sf, ra, rb, eg, q⟩ := h
  unfold dGtT at eg
  split at eg
  · rename_i i z j w
    cases eg
    obtain ⟨pa, vs, rfl, fa, ha, da⟩ := DatR.tup_of sf ra
    obtain ⟨pb, us, rfl, fb, hb, db⟩ := DatR.tup_of sf rb
    rw [← hK] at ha hb
    obtain rfl := pair_of da
    obtain rfl := pair_of db
    cases rx
    cases ry
    obtain ⟨its, r1, p1, _⟩ := I.tuple ha
    obtain ⟨its2, r2, p2, _⟩ := I.tuple hb
    cases r1 with
    | cons k1 r1 => cases r1 with
      | cons k2 r1 => cases r1 with
        | nil =>
          cases r2 with
          | cons k3 r2 => cases r2 with
            | cons k4 r2 => cases r2 with
              | nil =>
                obtain ⟨t1, rfl⟩ := k1
                obtain ⟨t2, rfl⟩ := k2
                obtain ⟨t3, rfl⟩ := k3
                obtain ⟨t4, rfl⟩ := k4
                exact HT.gt_tupPair p1 p2 (by omega) ⟨.bl _, H, I, rfl, q _ F H (Ext.refl sf) (.bl _)⟩
  · cases eg
end Fl
namespace Fl
open PySem L2 PyProof.Rows
/-- x(..) of a name that holds a function from data to data -/
def eClo (m i : Nat) (f : Sg → R (List PyData)) : Sg → R PyData := fun ρ => match ρ[i]? with
  | some (some (.g k n G)) => (f ρ).bind fun ds => if k ≤ m ∧ ds.length = n then G ds else .bad
  | _ => .bad
/-! .. with lists of one's own lent to it; what it tells is flat -/
def flatD : PyData → Bool
  | .none => true
  | .bool _ => true
  | .int _ => true
  | .str _ => true
  | _ => false
/-- data to be read on the spot, in a row -/
def DatRs (K : PySem.W.Frag) (F H : Hp) : List V → List PyData → Prop
  | [], [] => True
  | v :: vs, d :: ds => DatR K F H v d ∧ DatRs K F H vs ds
  | _, _ => False
/-- what is lent stays meanwhile -/
theorem lent {K : PySem.W.Frag} {F H : Hp} (s : Same F H) : ∀ {vs : List V} {ds : List PyData}, DatRs K F H vs ds → ∃ FL, Same F FL ∧ Same FL H ∧ DatVs K FL vs ds
  | [], [], _ => ⟨F, same_refl F, s, .nil⟩
  | v :: vs, d :: ds, h => by
    obtain ⟨FL, a, b, r⟩ := lent s h.2
    rcases h.1 with q | ⟨p, us, xs, rfl, rfl, h1, h2⟩
    · exact ⟨FL, a, b, .cons (q.same a) r⟩
    · refine ⟨fun x => if x = p then some (.lst us) else FL x, fun x o z => ?_, fun x o z => ?_, ?_⟩
      · by_cases hx : x = p
        · subst hx
          have := s x o z
          rw [h1] at this; cases this
          exact if_pos rfl
        · exact (if_neg hx).trans (a x o z)
      · by_cases hx : x = p
        · subst hx
          have z' := (if_pos rfl).symm.trans z
          rw [h1]; exact z'
        · exact b x o ((if_neg hx).symm.trans z)
      · have sm : Same FL (fun x => if x = p then some (.lst us) else FL x) := fun x o z => by
          by_cases hx : x = p
          · subst hx
            have := b x o z
            rw [h1] at this; cases this
            exact if_pos rfl
          · exact (if_neg hx).trans z
        exact .cons (.lst (SqL.of (if_pos rfl)) (h2.same fun x o z => sm x o (a x o z))) (r.same sm)
def eCloR (m i : Nat) (f : Sg → R (List PyData)) : Sg → R PyData := fun ρ => match ρ[i]? with
  | some (some (.g k n G)) => (f ρ).bind fun ds => if k ≤ m ∧ ds.length = n then (match G ds with | .ok d => if flatD d = true then .ok d else .bad | _ => .bad) else .bad
  | _ => .bad
end Fl
namespace Fl
open PySem L2 PyProof.Rows
end Fl
namespace Fl
open PySem L2 PyProof.Rows
end Fl
namespace Fl
open PySem L2 PyProof.Rows
/-! ### a def of the text as a value -/
section
variable {P : Program} {w : World} {K : PySem.W.Frag} {mg : Str → Option Value} {base : Heap} {T : Hp}
/-! ### defs that make closures -/
structure DefAtT (K : PySem.W.Frag) (mg : Str → Option Value) (base : Heap) (T : Hp) (qs : List (Pos × Str)) (x : Str) (st : Stmt) (ps : List Str) : Prop where
  ex : ∃ f oc od kV doc pm an c0 ct osl P0, K.lookup f = some ⟨oc, od, .func (PySem.W.fnOf x x (defArgs st) (defBody st) (defScope st) .none kV doc pm an (.ref c0) ct), osl⟩ ∧ PySem.W.codeIn K (.ref c0) x = true ∧ PySem.W.keepIn K (.ref f) = true ∧
    Binds K (PySem.W.fnOf x x (defArgs st) (defBody st) (defScope st) .none kV doc pm an (.ref c0) ct) ps [] ∧ mg x = some (.ref f) ∧ Tb mg base c0 P0 ∧ T P0 = some (.tbl qs)
end
end Fl
namespace Fl
open PySem L2 PyProof.Rows
end Fl
namespace Zp
open PySem
/-- what stands apart -/
structure Apart (z TI TO i1 i2 : Addr) (f1 f2 : List Addr) : Prop where
  TIz : TI ≠ z
  TOz : TO ≠ z
  i1z : i1 ≠ z
  i2z : i2 ≠ z
  TITO : TI ≠ TO
  TIi1 : TI ≠ i1
  TIi2 : TI ≠ i2
  TOi1 : TO ≠ i1
  TOi2 : TO ≠ i2
  i12 : i1 ≠ i2
  z1 : z ∉ f1
  z2 : z ∉ f2
  t1 : TO ∉ f1
  t2 : TO ∉ f2
  i1f2 : i1 ∉ f2
  i2f1 : i2 ∉ f1
abbrev H2 (h : Heap) (o1 o2 : Obj) : Heap := (h.push o1).push o2
abbrev H3 (h : Heap) (o1 o2 : Obj) : Heap := (H2 h o1 o2).push { cls := .type "tuple", data := .seq #[.ref h.objs.size, .ref (h.push o1).objs.size] }
abbrev H4 (h : Heap) (o1 o2 : Obj) : Heap := (H3 h o1 o2).push { cls := .type "tuple", data := .seq #[.none, .none] }
abbrev H5 (h : Heap) (o1 o2 : Obj) : Heap := (H4 h o1 o2).push { cls := .type "zip", data := .fields #[.none, .bool false, .bool false, .ref (H2 h o1 o2).objs.size, .ref (H3 h o1 o2).objs.size] }
end Zp
namespace L2
open PySem PySem.Spec PyProof.Rows
/-- an item of a column: by the value, the heap -/
abbrev Col := Hp → List V → Prop
/-- a column's iterator at it; tn: its turn -/
structure ColOk (P : Program) (w : World) (K : PySem.W.Frag) (C : Col) (it : Addr) (tn : Nat → Heap → Prop) : Prop where
  obj : ∀ i h, tn i h → ∃ o, h.get? it = some o ∧ ∀ v, o.data ≠ .cell v
  keep : ∀ i h h', tn i h → (∀ o, h.get? it = some o → h'.get? it = some o) → tn i h'
  one : ∀ (X : Cx), X.prog = P → X.w = w → X.K = K → ∀ pins s σ H xs ys, Inv X pins σ H s → C H xs → C H ys → xs = ys
  draw : ∀ (X : Cx), X.prog = P → X.w = w → X.K = K → ∀ (i : Nat) (pins : List (Addr × Obj)) (s : Shared) (σ : St) (H : Hp) (xs : List V) (A : Around), Inv X pins σ H s → FpOk X pins H it → tn i s.heap → C H xs → A.handled = none →
    ∃ fp Pv St, Draws P w A it fp xs.length Pv St ∧ St i s.heap ∧ (∀ j h, St j h → tn j h) ∧ (∀ j v, Pv j v → ∃ x, xs[j]? = some x ∧ RelV x v) ∧ ∀ b, FpOk X pins H b → b ≠ it → b ∉ fp
end L2
namespace Mc
open PySem L2 PyProof.Rows Fl
noncomputable def B_signs_of : Sg → R Fw := (sRet (vD (e1 dLen (e2 dIx (e2 dIx (rV 0) (eC (.int 0))) (eC (.int 1))))))
noncomputable def F_signs_of : List A → R A := fnF 1 B_signs_of
noncomputable def B_cells_of : Sg → R Fw := (sRet (vD (eL (nComp [none, some 1] (e1 dItems (rV 0)) (stN 0) bYes (e2 dIx (e2 dIx (rV 0) (eC (.int 1))) (rV 1))))))
noncomputable def F_cells_of : List A → R A := fnF 2 B_cells_of
noncomputable def B_checked_by : Sg → R Fw := (sSeq (sSet 2 (vD (eSl dSl (eC (.str "abc")) oNo (oSo (rV 0)))))
  (sSeq (sFor (e1 dNums (eV 1)) (stT [(stN 3), (stN 4)]) (sIf (e1 asB (e2 dNin (rV 4) (rV 2))) (sRaise "NoStrip" ["at"] (aCons (eV 3) aNil)) sNx))
  (sRet (vV 1))))
noncomputable def F_checked_by : List A → R A := fnF 5 B_checked_by
noncomputable def B_checked : Sg → R Fw := (sRet (vCall 2 F_checked_by (aCons (vCall 1 F_signs_of (aCons (vV 0) aNil)) (aCons (vV 1) aNil))))
noncomputable def F_checked : List A → R A := fnF 2 B_checked
noncomputable def B_is_word : Sg → R Fw := (sRet (vD (e1 (dIsT "str") (rV 0))))
noncomputable def F_is_word : List A → R A := fnF 1 B_is_word
noncomputable def B_still : Sg → R Fw := (sSeq (sSet 1 (vD (e1 dTup (eL (nComp [none] (iRange1 (rV 0)) (stN 0) bYes (eTup (aCons (eC (.int 1)) (aCons (eV 0) aNil))))))))
  (sSeq (sSet 2 (vD (e1 dTup (eL (nComp [none] (iRange1 (rV 0)) (stN 0) bYes (eTup (aCons (e1 dNeg (eC (.int 1))) (aCons (eV 0) aNil))))))))
  (sRet (vD (eTup (aCons (eV 1) (aCons (eV 2) aNil)))))))
noncomputable def F_still : List A → R A := fnF 3 B_still
noncomputable def B_sign_table : Sg → R Fw := (sSeq (sExpr (vCall 2 F_checked (aCons (vV 0) (aCons (vV 1) aNil))))
  (sSeq (sSet 2 (vD (e1 dTup (eL (nComp [none] (e1 dItems (eA (vCall 2 F_cells_of (aCons (vV 0) (aCons (vD (e2 dIndex (eC (.str "abc")) (rV 1))) aNil))))) (stN 0) bYes (eTup (aCons (e2 dIx (rV 0) (eC (.int 1))) (aCons (e2 dIx (rV 0) (eC (.int 0))) aNil))))))))
  (sRet (vD (eTup (aCons (eV 2) (aCons (eV 2) aNil)))))))
noncomputable def F_sign_table : List A → R A := fnF 3 B_sign_table
noncomputable def B_gone_out : Sg → R Fw := (sSeq (sMNew 4)
  (sSeq (sWhile (bAnd (e1 asB (e2 dIsnt (rV 2) (eC .none))) (e1 asB (e2 dEq (e2 dIx (rV 2) (eC (.int 0))) (rV 3)))) (sSeq (sIf (e1 asB (eMIn false 4 (eV 2))) (sRet (vD (eC .none))) sNx)
  (sSeq (sMPut 4 (eV 2) (eC (.bool true)))
  (sSeq (sSet 2 (vD (eIf (e1 asB (e2 dEq (rV 3) (eC (.int 1)))) (e2 dIx (e2 dIx (rV 1) (eC (.int 0))) (e2 dIx (rV 2) (eC (.int 1)))) (e2 dIx (e2 dIx (rV 0) (eC (.int 1))) (e2 dIx (rV 2) (eC (.int 1)))))))
  (sSet 3 (vD (e1 dNeg (rV 3))))))))
  (sRet (vV 2))))
noncomputable def F_gone_out : List A → R A := fnF 5 B_gone_out
noncomputable def B_behind : Sg → R Fw := (sSeq (sSet 2 (vD (e1 dTup (eL (nComp [none, some 0, some 1] (e1 dItems (e2 dIx (rV 0) (eC (.int 0)))) (stN 0) bYes (eA (vCall 4 F_gone_out (aCons (vV 1) (aCons (vV 2) (aCons (vV 0) (aCons (vD (eC (.int 1))) aNil)))))))))))
  (sSeq (sSet 3 (vD (e1 dTup (eL (nComp [none, some 0, some 1] (e1 dItems (e2 dIx (rV 1) (eC (.int 1)))) (stN 0) bYes (eA (vCall 4 F_gone_out (aCons (vV 1) (aCons (vV 2) (aCons (vV 0) (aCons (vD (e1 dNeg (eC (.int 1)))) aNil)))))))))))
  (sRet (vD (eTup (aCons (eV 2) (aCons (eV 3) aNil)))))))
noncomputable def F_behind : List A → R A := fnF 4 B_behind
noncomputable def B_gathered : Sg → R Fw := (sSeq (sSetN 2 (nComp [none, some 0] (e1 dItems (eSl dSl (eC (.str "abc")) oNo (oSo (eA (vCall 1 F_signs_of (aCons (vV 0) aNil)))))) (stN 0) bYes (eTup (aCons (eV 0) (aCons (eA (vCall 2 F_sign_table (aCons (vV 1) (aCons (vV 0) aNil)))) aNil)))))
  (sSeq (sSetN 3 (nLst (aCons (eTup (aCons (eC (.str "")) (aCons (eA (vCall 1 F_still (aCons (vD (e1 dLen (rV 0))) aNil))) aNil))) aNil)))
  (sSeq (sMLit 4 (pCons (e2 dIx (e2 dIx (rV 3) (eC (.int 0))) (eC (.int 1))) (eC (.bool true)) pNil))
  (sSeq (sSet 5 (vD (eC (.int 0))))
  (sSeq (sWhile (e1 asB (e2 dLt (rV 5) (e1 dLen (rV 3)))) (sSeq (sFz 2 (sFor (e1 dItems (eV 2)) (stT [(stN 6), (stN 7)]) (sSeq (sSet 8 (vCall 2 F_behind (aCons (vD (e2 dIx (e2 dIx (rV 3) (rV 5)) (eC (.int 1)))) (aCons (vV 7) aNil))))
  (sIf (e1 asB (eMIn true 4 (eV 8))) (sSeq (sMPut 4 (eV 8) (eC (.bool true)))
  (sApp 3 (eTup (aCons (e2 dAdd (e2 dIx (e2 dIx (rV 3) (rV 5)) (eC (.int 0))) (rV 6)) (aCons (eV 8) aNil))))) sNx))))
  (sSeq (sIf (e1 asB (e2 dGt (e1 dLen (rV 3)) (rV 1))) (sRaiseF "TooMany" (rV 1)) sNx)
  (sAug 5 dAddI (eC (.int 1))))))
  (sFz 3 (sRet (vV 3))))))))
noncomputable def F_gathered : List A → R A := fnF 9 B_gathered
noncomputable def B_all_tables : Sg → R Fw := (sRet (vCall 2 F_gathered (aCons (vV 0) (aCons (vD (eC (.int 300))) aNil))))
noncomputable def F_all_tables : List A → R A := fnF 1 B_all_tables
end Mc
namespace Mc
open PySem L2 PyProof.Rows
/-! ### the table of a strip -/
def signTb (k : Nat) (rs : List Rw) : Tb := ⟨rs.map fun r => some ((r.c.getD k (0, 0)).2, (r.c.getD k (0, 0)).1), rs.map fun r => some ((r.c.getD k (0, 0)).2, (r.c.getD k (0, 0)).1)⟩
theorem signTb_D (k : Nat) (rs : List Rw) : tbD (signTb k rs) = tabD (signT k rs) (signT k rs) := by
  unfold tbD signTb signT
  rw [List.map_map]; rfl
theorem cell_ok {rs : List Rw} {sg : Nat} {r : Rw} {k : Nat} (M : Mach rs sg) (hr : r ∈ rs) (hk : k < sg) : r.c[k]? = some (r.c.getD k (0, 0)) ∧ cellGood rs.length (r.c.getD k (0, 0)) := by
  have h := M.row r hr
  have hl : k < r.c.length := by rw [h.2]; exact hk
  have e : r.c[k]? = some (r.c.getD k (0, 0)) := by rw [List.getD_eq_getElem?_getD, List.getElem?_eq_getElem hl]; rfl
  exact ⟨e, h.1.2.2 _ (List.mem_of_getElem? e)⟩
theorem signTb_good {rs : List Rw} {sg k : Nat} (M : Mach rs sg) (hk : k < sg) : (signTb k rs).good rs.length := by
  have key : ∀ x ∈ rs.map fun r => some ((r.c.getD k (0, 0)).2, (r.c.getD k (0, 0)).1), thGood rs.length x := fun x hx => by
    obtain ⟨r, hr, rfl⟩ := List.mem_map.mp hx
    obtain ⟨_, g1, g2, g3⟩ := cell_ok M hr hk
    exact ⟨g3, g1, g2⟩
  exact ⟨by unfold signTb; simp, by unfold signTb; simp, key, key⟩
theorem signTb_at {rs : List Rw} {k : Nat} {w q : Int} (h0 : 0 ≤ q) (h1 : q < (rs.length : Int)) : (signTb k rs).at w q = some (((rowAt rs q).c.getD k (0, 0)).2, ((rowAt rs q).c.getD k (0, 0)).1) := by
  unfold Tb.at signTb
  have e := rowAt_mem h0 h1
  rw [ite_self, List.getD_eq_getElem?_getD, List.getElem?_map, e]; rfl
def signsOf (rs : List Rw) (z : List Nat) : List Tb := z.map fun c => signTb (c - 97) rs
theorem signsOf_good {rs : List Rw} {sg : Nat} {z : List Nat} (M : Mach rs sg) (S : Strip sg z) : ∀ t ∈ signsOf rs z, t.good rs.length := fun t ht => by
  obtain ⟨c, hc, rfl⟩ := List.mem_map.mp ht
  have := of_decide_eq_true (S.2 c hc)
  exact signTb_good M (by omega)
noncomputable def stripT (rs : List Rw) (z : List Nat) : Tb := if z = [] then stillT rs.length else boxTab rs.length (signsOf rs z)
theorem stripT_good {rs : List Rw} {sg : Nat} {z : List Nat} (M : Mach rs sg) (S : Strip sg z) : (stripT rs z).good rs.length := by
  unfold stripT
  by_cases h : z = []
  · rw [if_pos h]; exact still_good _
  · rw [if_neg h]
    refine boxTab_good (signsOf_good M S) ?_
    unfold signsOf
    rw [List.length_map]
    exact List.length_pos_iff.mpr h
theorem Strip.take {sg : Nat} {z : List Nat} (S : Strip sg z) (i : Nat) : Strip sg (z.take i) := ⟨by rw [List.length_take]; have := S.1; omega, fun c hc => S.2 c (List.mem_of_mem_take hc)⟩
theorem stripT_snoc {rs : List Rw} {sg : Nat} {z : List Nat} {c : Nat} (M : Mach rs sg) (S : Strip sg z) (hc : isSign sg c = true) : boxTab rs.length [stripT rs z, signTb (c - 97) rs] = stripT rs (z ++ [c]) := by
  have hc' := of_decide_eq_true hc
  have gs : (signTb (c - 97) rs).good rs.length := signTb_good M (by omega)
  have e2 : stripT rs (z ++ [c]) = boxTab rs.length (signsOf rs z ++ [signTb (c - 97) rs]) := by
    unfold stripT
    rw [if_neg (by simp)]
    unfold signsOf
    rw [List.map_append]; rfl
  rw [e2]
  unfold stripT
  by_cases h : z = []
  · rw [if_pos h, still_left gs, h]
    show _ = boxTab rs.length [signTb (c - 97) rs]
    rw [one_box gs]
  · rw [if_neg h]
    have := box_comp (m := rs.length) (l1 := []) (mid := signsOf rs z) (l2 := [signTb (c - 97) rs]) (fun t ht => by simp at ht) (signsOf_good M S) (fun t ht => by rw [List.mem_singleton.mp ht]; exact gs) (by unfold signsOf; rw [List.length_map]; exact List.length_pos_iff.mpr h)
    simpa using this
/-! ### walking within a strip -/
def withSt (rs : List Rw) (z : List Nat) (s : Int × Int) : Option ((Int × Int) ⊕ (Int × Int)) :=
  let c := (rowAt rs s.2).c.getD (z.getD (s.1.toNat - 1) 97 - 97) (0, 0)
  if 0 < s.1 + c.2 ∧ s.1 + c.2 ≤ (z.length : Int) then some (.inl (s.1 + c.2, c.1)) else some (.inr ((if 0 < s.1 + c.2 then 1 else -1), c.1))
def WithV (rs : List Rw) (z : List Nat) (s : Int × Int) : Prop := 1 ≤ s.1 ∧ s.1 ≤ (z.length : Int) ∧ 0 ≤ s.2 ∧ s.2 < (rs.length : Int)
theorem WithV.valid {rs : List Rw} {z : List Nat} {s : Int × Int} (h : WithV rs z s) : Valid rs z s := ⟨by have := h.1; omega, by have := h.2.1; omega, h.2.2⟩
theorem with_cell {rs : List Rw} {sg : Nat} {z : List Nat} {s : Int × Int} (M : Mach rs sg) (S : Strip sg z) (V : WithV rs z s) : ∃ ch cc, z[s.1.toNat - 1]? = some ch ∧ isSign sg ch = true ∧ z.getD (s.1.toNat - 1) 97 = ch ∧ (rowAt rs s.2).c[ch - 97]? = some cc ∧ (rowAt rs s.2).c.getD (ch - 97) (0, 0) = cc ∧ cellGood rs.length cc := by
  have h0 : s.1 ≠ 0 := by have := V.1; omega
  have h1 : s.1 ≠ (z.length : Int) + 1 := by have := V.2.1; omega
  obtain ⟨ch, a1, a2, a3⟩ := sign_ix S V.valid h0 h1
  obtain ⟨cc, b1, b2, b3⟩ := cell_get M S V.valid h0 h1
  rw [a3] at b1 b2
  exact ⟨ch, cc, a1, a2, a3, b1, b2, b3⟩
theorem with_step {rs : List Rw} {sg : Nat} {z : List Nat} {s : Int × Int} (M : Mach rs sg) (S : Strip sg z) (V : WithV rs z s) (w : Int) :
    (∃ s', withSt rs z s = some (.inl s') ∧ WithV rs z s' ∧ ∃ w', boxSt (signsOf rs z) (s.1 - 1, w, s.2) = some (.inl (s'.1 - 1, w', s'.2))) ∨ ∃ o, withSt rs z s = some (.inr o) ∧ boxSt (signsOf rs z) (s.1 - 1, w, s.2) = some (.inr o) := by
  obtain ⟨ch, cc, a1, a2, a3, b1, b2, g1, g2, g3⟩ := with_cell M S V
  have hl : ((signsOf rs z).length : Int) = (z.length : Int) := by unfold signsOf; simp
  have hx : (s.1 - 1).toNat = s.1.toNat - 1 := by have := V.1; omega
  have hb : boxSt (signsOf rs z) (s.1 - 1, w, s.2) = if 0 ≤ s.1 - 1 + cc.2 ∧ s.1 - 1 + cc.2 < (z.length : Int) then some (.inl (s.1 - 1 + cc.2, cc.2, cc.1)) else some (.inr (cc.2, cc.1)) := by
    have e : (signsOf rs z).getD (s.1 - 1).toNat ⟨[], []⟩ = signTb (ch - 97) rs := by
      rw [List.getD_eq_getElem?_getD, hx]
      unfold signsOf
      rw [List.getElem?_map, a1]; rfl
    unfold boxSt
    dsimp only
    rw [e, signTb_at V.2.2.1 V.2.2.2, b2, hl]
  have hw : withSt rs z s = if 0 < s.1 + cc.2 ∧ s.1 + cc.2 ≤ (z.length : Int) then some (.inl (s.1 + cc.2, cc.1)) else some (.inr ((if 0 < s.1 + cc.2 then 1 else -1), cc.1)) := by
    unfold withSt
    rw [a3, b2]
  by_cases hin : 0 < s.1 + cc.2 ∧ s.1 + cc.2 ≤ (z.length : Int)
  · rw [if_pos hin] at hw
    rw [if_pos (by omega)] at hb
    refine .inl ⟨_, hw, ⟨by show 1 ≤ s.1 + cc.2; omega, hin.2, g1, g2⟩, cc.2, ?_⟩
    rw [hb, show s.1 - 1 + cc.2 = s.1 + cc.2 - 1 by omega]
  · rw [if_neg hin] at hw
    rw [if_neg (by omega)] at hb
    refine .inr ⟨_, hw, ?_⟩
    rw [hb]
    have v1 := V.1
    have v2 := V.2.1
    rcases g3 with g3 | g3
    · rw [if_pos (by omega), g3]
    · rw [if_neg (by omega), g3]
theorem with_res {rs : List Rw} {sg : Nat} {z : List Nat} {s : Int × Int} (M : Mach rs sg) (S : Strip sg z) (V : WithV rs z s) (w : Int) : resOf (withSt rs z) s = resOf (boxSt (signsOf rs z)) (s.1 - 1, w, s.2) := by
  refine resOf_congr fun o => ⟨?_, ?_⟩
  · rintro ⟨n, h⟩
    refine ⟨n, ?_⟩
    induction h generalizing w with
    | out h =>
      rcases with_step M S V w with ⟨s', e, _⟩ | ⟨o', e, g⟩
      · rw [h] at e; cases e
      · rw [h] at e; cases e; exact .out g
    | go h t ih =>
      rcases with_step M S V w with ⟨s', e, V', w', g⟩ | ⟨o', e, g⟩
      · rw [h] at e; cases e; exact .go g (ih V' w')
      · rw [h] at e; cases e
  · rintro ⟨n, h⟩
    refine ⟨n, ?_⟩
    generalize hs : (s.1 - 1, w, s.2) = p at h
    induction h generalizing s w with
    | out h =>
      subst hs
      rcases with_step M S V w with ⟨s', _, _, w', e⟩ | ⟨o', g, e⟩
      · rw [h] at e; cases e
      · rw [h] at e; cases e; exact .out g
    | go h t ih =>
      subst hs
      rcases with_step M S V w with ⟨s', g, V', w', e⟩ | ⟨o', g, e⟩
      · rw [h] at e; cases e; exact .go g (ih V' w' rfl)
      · rw [h] at e; cases e
noncomputable def withR (rs : List Rw) (z : List Nat) (p q : Int) : Th := if 1 ≤ p ∧ p ≤ (z.length : Int) then resOf (withSt rs z) (p, q) else some ((if 0 < p then 1 else -1), q)
theorem within_tab {rs : List Rw} {sg : Nat} {z : List Nat} (M : Mach rs sg) (S : Strip sg z) : (stripT rs z).f = (List.range rs.length).map (fun q : Nat => withR rs z 1 (q : Int)) ∧ (stripT rs z).a = (List.range rs.length).map (fun q : Nat => withR rs z (z.length : Int) (q : Int)) := by
  unfold stripT
  by_cases h : z = []
  · rw [if_pos h]
    subst h
    refine ⟨?_, ?_⟩
    · show (List.range rs.length).map _ = _
      refine List.map_congr_left fun q hq => ?_
      unfold withR
      rw [if_neg (by simp), if_pos (by decide)]
    · show (List.range rs.length).map _ = _
      refine List.map_congr_left fun q hq => ?_
      unfold withR
      rw [if_neg (by simp), if_neg (by simp)]
  · have hl : 1 ≤ z.length := List.length_pos_iff.mpr h
    have hsl : ((signsOf rs z).length : Int) = (z.length : Int) := by unfold signsOf; simp
    rw [if_neg h]
    refine ⟨?_, ?_⟩
    · show (List.range rs.length).map _ = _
      refine List.map_congr_left fun q hq => ?_
      have hq := List.mem_range.mp hq
      unfold withR
      rw [if_pos (by omega), with_res M S ⟨by show (1 : Int) ≤ 1; decide, by show (1 : Int) ≤ _; omega, by show (0 : Int) ≤ (q : Int); omega, by show (q : Int) < _; omega⟩ 1]
      rfl
    · show (List.range rs.length).map _ = _
      refine List.map_congr_left fun q hq => ?_
      have hq := List.mem_range.mp hq
      unfold withR
      rw [if_pos (by omega), with_res M S ⟨by show (1 : Int) ≤ (z.length : Int); omega, by show (z.length : Int) ≤ _; omega, by show (0 : Int) ≤ (q : Int); omega, by show (q : Int) < _; omega⟩ (-1), hsl]
/-! ### pieces of a text -/
theorem pick_range (l : List Nat) (a : Nat) : ∀ n : Nat, a + n ≤ l.length → ((List.range n).map fun k => a + k).filterMap (fun i => l[i]?) = (l.drop a).take n
  | 0, _ => rfl
  | n + 1, h => by
    rw [List.range_succ, List.map_append, List.filterMap_append, pick_range l a n (by omega), List.take_add_one, List.getElem?_drop]
    have hl : a + n < l.length := by omega
    rw [List.getElem?_eq_getElem hl]
    show _ ++ List.filterMap (fun i => l[i]?) [a + n] = _
    rw [List.filterMap_cons, List.getElem?_eq_getElem hl]; rfl
theorem slice_mid {z : Str} {a b : Nat} (h1 : a ≤ b) (h2 : b ≤ z.cps.toList.length) : Txt.slice z (some (a : Int)) (some (b : Int)) = ⟨((z.cps.toList.drop a).take (b - a)).toArray⟩ := by
  have hl : z.length = z.cps.toList.length := by rw [Array.length_toList]; rfl
  unfold Txt.slice
  rw [StrLaws.strSliceIndices_plain h1 (by rw [hl]; exact h2)]
  have e : ((List.range (b - a)).map fun k => a + k).filterMap (fun i => z.cps[i]?) = (z.cps.toList.drop a).take (b - a) := by
    rw [← pick_range z.cps.toList a (b - a) (by omega)]
    congr 1
    funext i
    rw [Array.getElem?_toList]
  rw [e]
  by_cases hc : (1 == 1 && (((List.range (b - a)).map fun k => a + k).length == z.length)) = true
  · have hn : b - a = z.length := by
      rw [Bool.and_eq_true] at hc
      simpa using hc.2
    have ha : a = 0 := by omega
    have hb : b = z.cps.toList.length := by omega
    have e2 : (z.cps.toList.drop a).take (b - a) = z.cps.toList := by rw [ha, hb, List.drop_zero, Nat.sub_zero, List.take_of_length_le (Nat.le_refl _)]
    rw [e2]
    split
    · exact str_ext (by simp)
    · rfl
  · split
    · rename_i hc'
      exact absurd hc' hc
    · rfl
theorem slice_take {z : Str} {i : Nat} (h : i ≤ z.cps.toList.length) : Txt.slice z none (some (i : Int)) = ⟨(z.cps.toList.take i).toArray⟩ := by
  have e : Txt.slice z none (some (i : Int)) = Txt.slice z (some ((0 : Nat) : Int)) (some (i : Int)) := by unfold Txt.slice; rw [StrLaws.sliceIdx_none_lo]; rfl
  rw [e, slice_mid (Nat.zero_le _) h]; simp
end Mc
namespace Fl
open PySem L2 PyProof.Rows
/-! ### evaluation, step by step -/
@[simp] theorem eC_ap (d : PyData) (ρ : Sg) : eC d ρ = .ok d := id rfl
@[simp] theorem e1_ap {α β : Type} (g : α → R β) (f : Sg → R α) (ρ : Sg) : e1 g f ρ = (f ρ).bind g := id rfl
@[simp] theorem e2_ap {α β γ : Type} (g : α → β → R γ) (f : Sg → R α) (f' : Sg → R β) (ρ : Sg) : e2 g f f' ρ = (f ρ).bind fun x => (f' ρ).bind fun y => g x y := id rfl
@[simp] theorem eV_ap (i : Nat) (ρ : Sg) : eV i ρ = match ρ[i]? with | some (some (.d x)) => .ok x | _ => .bad := id rfl
@[simp] theorem rV_ap (i : Nat) (ρ : Sg) : rV i ρ = match ρ[i]? with | some (some (.d x)) => .ok x | some (some (.l xs)) => .ok (.list xs) | _ => .bad := id rfl
@[simp] theorem vV_ap (i : Nat) (ρ : Sg) : vV i ρ = match ρ[i]? with | some (some (.d x)) => .ok (.d x) | some (some (.x e)) => .ok (.x e) | some (some (.g k n f)) => .ok (.g k n f) | _ => .bad := id rfl
@[simp] theorem vD_ap (f : Sg → R PyData) (ρ : Sg) : vD f ρ = (f ρ).bind fun x => .ok (.d x) := id rfl
@[simp] theorem getD_d (x : PyData) : getD (.d x) = .ok x := id rfl
@[simp] theorem eA_ap (f : Sg → R A) (ρ : Sg) : eA f ρ = (f ρ).bind getD := id rfl
@[simp] theorem eL_ap (f : Sg → R (List PyData)) (ρ : Sg) : eL f ρ = (f ρ).bind fun xs => .ok (.list xs) := id rfl
@[simp] theorem aNil_ap {α : Type} (ρ : Sg) : (aNil (α := α)) ρ = .ok [] := id rfl
@[simp] theorem aCons_ap {α : Type} (f : Sg → R α) (g : Sg → R (List α)) (ρ : Sg) : aCons f g ρ = (f ρ).bind fun x => (g ρ).bind fun xs => .ok (x :: xs) := id rfl
@[simp] theorem eTup_ap (f : Sg → R (List PyData)) (ρ : Sg) : eTup f ρ = (f ρ).bind fun xs => if xs.length ≤ 16777216 then .ok (.tuple xs) else .bad := id rfl
@[simp] theorem nLst_ap (f : Sg → R (List PyData)) (ρ : Sg) : nLst f ρ = (f ρ).bind fun xs => if xs.length ≤ 16777216 then .ok xs else .bad := id rfl
@[simp] theorem vCall_ap (n : Nat) (G : List A → R A) (f : Sg → R (List A)) (ρ : Sg) : vCall n G f ρ = (f ρ).bind fun as => if as.length = n then G as else .bad := id rfl
@[simp] theorem fnF_ap (n : Nat) (fb : Sg → R Fw) (as : List A) : fnF n fb as = (fb (as.map some ++ List.replicate (n - as.length) none)).bind fun w => match w with | .rt a => .ok a | .nx _ => .ok (.d .none) | _ => .bad := id rfl
@[simp] theorem sNx_ap (ρ : Sg) : sNx ρ = .ok (.nx ρ) := id rfl
@[simp] theorem sSeq_ap (f g : Sg → R Fw) (ρ : Sg) : sSeq f g ρ = (f ρ).bind fun w => match w with | .nx ρ' => g ρ' | w => .ok w := id rfl
@[simp] theorem sRet_ap (f : Sg → R A) (ρ : Sg) : sRet f ρ = (f ρ).bind fun a => .ok (.rt a) := id rfl
@[simp] theorem sRetN_ap (ρ : Sg) : sRetN ρ = .ok (.rt (.d .none)) := id rfl
@[simp] theorem sIf_ap (t : Sg → R Bool) (f g : Sg → R Fw) (ρ : Sg) : sIf t f g ρ = (t ρ).bind fun b => if b = true then f ρ else g ρ := id rfl
@[simp] theorem eIf_ap {α : Type} (t : Sg → R Bool) (f g : Sg → R α) (ρ : Sg) : eIf t f g ρ = (t ρ).bind fun b => if b = true then f ρ else g ρ := id rfl
@[simp] theorem sSet_ap (i : Nat) (f : Sg → R A) (ρ : Sg) : sSet i f ρ = (f ρ).bind fun a => .ok (.nx (ρ.set i (some a))) := id rfl
@[simp] theorem sSetN_ap (i : Nat) (f : Sg → R (List PyData)) (ρ : Sg) : sSetN i f ρ = (f ρ).bind fun xs => .ok (.nx (ρ.set i (some (.l xs)))) := id rfl
@[simp] theorem sExpr_ap (f : Sg → R A) (ρ : Sg) : sExpr f ρ = (f ρ).bind fun _ => .ok (.nx ρ) := id rfl
@[simp] theorem sFz_ap (i : Nat) (f : Sg → R Fw) (ρ : Sg) : sFz i f ρ = f (fz i ρ) := id rfl
@[simp] theorem fz_ap (i : Nat) (ρ : Sg) : fz i ρ = match ρ[i]? with | some (some (.l xs)) => ρ.set i (some (.d (.list xs))) | _ => ρ := id rfl
@[simp] theorem sApp_ap (i : Nat) (f : Sg → R PyData) (ρ : Sg) : sApp i f ρ = match ρ[i]? with | some (some (.l xs)) => (f ρ).bind fun x => if xs.length < 16777216 then .ok (.nx (ρ.set i (some (.l (xs ++ [x]))))) else .bad | _ => .bad := id rfl
@[simp] theorem sTup_ap (fs : PyData → Sg → Option Sg) (f : Sg → R PyData) (ρ : Sg) : sTup fs f ρ = (f ρ).bind fun x => (optR (fs x ρ)).bind fun ρ' => .ok (.nx ρ') := id rfl
@[simp] theorem sFor_ap (fi : Sg → R (List PyData)) (fs : PyData → Sg → Option Sg) (fb : Sg → R Fw) (ρ : Sg) : sFor fi fs fb ρ = (fi ρ).bind fun xs => forF fs fb xs ρ := id rfl
@[simp] theorem nComp_ap (js : List (Option Nat)) (fi : Sg → R (List PyData)) (fs : PyData → Sg → Option Sg) (ft : Sg → R Bool) (fe : Sg → R PyData) (ρ : Sg) : nComp js fi fs ft fe ρ = (fi ρ).bind fun xs => compL fs ft fe (capA js ρ) xs := id rfl
@[simp] theorem sRaise_ap (cn : Str) (fs : List Str) (f : Sg → R (List PyData)) (ρ : Sg) : sRaise cn fs f ρ = (f ρ).bind fun xs => if xs.length = fs.length then .ex ⟨cn, fs.zip xs⟩ else .bad := id rfl
@[simp] theorem stN_ap (i : Nat) (x : PyData) (ρ : Sg) : stN i x ρ = some (ρ.set i (some (.d x))) := id rfl
@[simp] theorem stT_ap (fs : List (PyData → Sg → Option Sg)) (xs : List PyData) (ρ : Sg) : stT fs (.tuple xs) ρ = stL fs xs ρ := id rfl
@[simp] theorem stL_nil (ρ : Sg) : stL [] [] ρ = some ρ := id rfl
@[simp] theorem stL_cons (f : PyData → Sg → Option Sg) (fs : List (PyData → Sg → Option Sg)) (x : PyData) (xs : List PyData) (ρ : Sg) : stL (f :: fs) (x :: xs) ρ = (f x ρ).bind (stL fs xs) := id rfl
@[simp] theorem bYes_ap (ρ : Sg) : bYes ρ = .ok true := id rfl
@[simp] theorem asB_ap (b : Bool) : asB (.bool b) = .ok b := id rfl
@[simp] theorem bNot_ap (f : Sg → R Bool) (ρ : Sg) : bNot f ρ = (f ρ).bind fun b => .ok (!b) := id rfl
@[simp] theorem bAnd_ap (f g : Sg → R Bool) (ρ : Sg) : bAnd f g ρ = (f ρ).bind fun b => if b = true then g ρ else .ok false := id rfl
@[simp] theorem bOr_ap (f g : Sg → R Bool) (ρ : Sg) : bOr f g ρ = (f ρ).bind fun b => if b = true then .ok true else g ρ := id rfl
@[simp] theorem eNot_ap (f : Sg → R PyData) (ρ : Sg) : eNot f ρ = (f ρ).bind fun x => (asB x).bind fun b => .ok (.bool (!b)) := id rfl
@[simp] theorem eAnd_ap (f g : Sg → R PyData) (ρ : Sg) : eAnd f g ρ = (f ρ).bind fun x => (asB x).bind fun b => if b = true then g ρ else .ok (.bool false) := id rfl
@[simp] theorem eOr_ap (f g : Sg → R PyData) (ρ : Sg) : eOr f g ρ = (f ρ).bind fun x => (asB x).bind fun b => if b = true then .ok (.bool true) else g ρ := id rfl
@[simp] theorem eCh_ap (g g' : PyData → PyData → R PyData) (fa fb fc : Sg → R PyData) (ρ : Sg) : eCh g g' fa fb fc ρ = (fa ρ).bind fun x => (fb ρ).bind fun y => (g x y).bind fun z => (asB z).bind fun k => if k = true then (fc ρ).bind fun w => g' y w else .ok (.bool false) := id rfl
@[simp] theorem eSl_ap {α : Type} (g : PyData → Option Int → Option Int → R α) (f : Sg → R PyData) (lo hi : Sg → R (Option Int)) (ρ : Sg) : eSl g f lo hi ρ = (f ρ).bind fun x => (lo ρ).bind fun l => (hi ρ).bind fun h => g x l h := id rfl
@[simp] theorem oNo_ap (ρ : Sg) : oNo ρ = .ok none := id rfl
@[simp] theorem oSo_ap (f : Sg → R PyData) (ρ : Sg) : oSo f ρ = (f ρ).bind fun x => match x with | .int i => .ok (some i) | _ => .bad := id rfl
@[simp] theorem iRange1_ap (f : Sg → R PyData) (ρ : Sg) : iRange1 f ρ = (f ρ).bind fun x => match x with | .int j => dRange 0 j | _ => .bad := id rfl
@[simp] theorem iRange2_ap (f g : Sg → R PyData) (ρ : Sg) : iRange2 f g ρ = (f ρ).bind fun x => (g ρ).bind fun y => match x, y with | .int i, .int j => dRange i j | _, _ => .bad := id rfl
@[simp] theorem eRev_ap (f : Sg → R PyData) (g : Sg → R (Option Int)) (ρ : Sg) : eRev f g ρ = (f ρ).bind fun x => (g ρ).bind fun o => if o = some (-1) then dRev x else .bad := id rfl
@[simp] theorem sAug_ap (i : Nat) (g : PyData → PyData → R PyData) (f : Sg → R PyData) (ρ : Sg) : sAug i g f ρ = (eV i ρ).bind fun x => (f ρ).bind fun y => (g x y).bind fun z => .ok (.nx (ρ.set i (some (.d z)))) := id rfl
@[simp] theorem sMNew_ap (i : Nat) (ρ : Sg) : sMNew i ρ = .ok (.nx (ρ.set i (some (.m [])))) := id rfl
@[simp] theorem eMIn_ap (neg : Bool) (i : Nat) (f : Sg → R PyData) (ρ : Sg) : eMIn neg i f ρ = (f ρ).bind fun k => match ρ[i]? with | some (some (.m kvs)) => if sameK k (kvs.map (·.1)) = true then .ok (.bool (if neg = true then !hasM kvs k else hasM kvs k)) else .bad | _ => .bad := id rfl
@[simp] theorem eMGet_ap (i : Nat) (f : Sg → R PyData) (ρ : Sg) : eMGet i f ρ = match ρ[i]? with | some (some (.m kvs)) => (f ρ).bind fun k => if sameK k (kvs.map (·.1)) = true then match getM kvs k with | some v => .ok v | none => .bad else .bad | _ => .bad := id rfl
@[simp] theorem sMPut_ap (i : Nat) (f g : Sg → R PyData) (ρ : Sg) : sMPut i f g ρ = (g ρ).bind fun v => match ρ[i]? with | some (some (.m kvs)) => (f ρ).bind fun k => if sameK k (kvs.map (·.1)) = true ∧ kvs.length ≤ 16777216 then .ok (.nx (ρ.set i (some (.m (putM kvs k v))))) else .bad | _ => .bad := id rfl
/-! ### data -/
@[simp] theorem dAdd_i (i j : Int) : dAdd (.int i) (.int j) = .ok (.int (i + j)) := id rfl
@[simp] theorem dSub_i (i j : Int) : dSub (.int i) (.int j) = .ok (.int (i - j)) := id rfl
@[simp] theorem dAddI_i (i j : Int) : dAddI (.int i) (.int j) = .ok (.int (i + j)) := id rfl
@[simp] theorem dNeg_i (i : Int) : dNeg (.int i) = .ok (.int (-i)) := id rfl
@[simp] theorem dLt_i (i j : Int) : dLt (.int i) (.int j) = .ok (.bool (decide (i < j))) := id rfl
@[simp] theorem dLe_i (i j : Int) : dLe (.int i) (.int j) = .ok (.bool (decide (i ≤ j))) := id rfl
@[simp] theorem dGt_i (i j : Int) : dGt (.int i) (.int j) = .ok (.bool (decide (j < i))) := id rfl
@[simp] theorem dGe_i (i j : Int) : dGe (.int i) (.int j) = .ok (.bool (decide (j ≤ i))) := id rfl
theorem dMod_i {i j : Int} (h : 0 < j) : dMod (.int i) (.int j) = .ok (.int (i % j)) := if_pos h
theorem dDiv_i {i j : Int} (h : 0 < j) (h2 : j < 18446744073709551616) : dDiv (.int i) (.int j) = .ok (.int (i / j)) := if_pos ⟨h, h2⟩
theorem dMul_r {i j : Int} (h : -18446744073709551616 < j) (h2 : j < 18446744073709551616) : dMul (.int i) (.int j) = .ok (.int (i * j)) := if_pos (.inr ⟨h, h2⟩)
theorem dMul_l {i j : Int} (h : -18446744073709551616 < i) (h2 : i < 18446744073709551616) : dMul (.int i) (.int j) = .ok (.int (i * j)) := if_pos (.inl ⟨h, h2⟩)
@[simp] theorem dLen_l (xs : List PyData) : dLen (.list xs) = .ok (.int xs.length) := id rfl
@[simp] theorem dLen_t (xs : List PyData) : dLen (.tuple xs) = .ok (.int xs.length) := id rfl
theorem dLen_s {z : Str} (h : z.length ≤ 16777216) : dLen (.str z) = .ok (.int z.length) := if_pos h
@[simp] theorem dTup_l (xs : List PyData) : dTup (.list xs) = .ok (.tuple xs) := id rfl
@[simp] theorem dTup_t (xs : List PyData) : dTup (.tuple xs) = .ok (.tuple xs) := id rfl
@[simp] theorem dLst_l (xs : List PyData) : dLst (.list xs) = .ok xs := id rfl
@[simp] theorem dLst_t (xs : List PyData) : dLst (.tuple xs) = .ok xs := id rfl
@[simp] theorem dInt_i (i : Int) : dInt (.int i) = .ok (.int i) := id rfl
@[simp] theorem dInt_b (b : Bool) : dInt (.bool b) = .ok (.int (if b = true then 1 else 0)) := id rfl
@[simp] theorem dIs_n (x : PyData) : dIs x .none = .ok (.bool (isNon x)) := id rfl
@[simp] theorem dIsnt_n (x : PyData) : dIsnt x .none = .ok (.bool (!isNon x)) := id rfl
@[simp] theorem isNon_n : isNon .none = true := id rfl
@[simp] theorem isNon_t (xs : List PyData) : isNon (.tuple xs) = false := id rfl
@[simp] theorem isNon_i (i : Int) : isNon (.int i) = false := id rfl
@[simp] theorem isNon_s (i : Str) : isNon (.str i) = false := id rfl
theorem atI_int {α : Type} {xs : List α} {i : Int} {v : α} (h0 : 0 ≤ i) (h : xs[i.toNat]? = some v) : atI xs i = some v := by
  obtain ⟨j, rfl⟩ : ∃ j : Nat, i = j := ⟨i.toNat, by omega⟩
  exact atI_nat (j := j) h
theorem atI_zero {α : Type} (x : α) (t : List α) : atI (x :: t) 0 = some x := atI_nat (j := 0) rfl
theorem atI_one {α : Type} (x y : α) (t : List α) : atI (x :: y :: t) 1 = some y := atI_nat (j := 1) rfl
theorem atI_two {α : Type} (x y z : α) (t : List α) : atI (x :: y :: z :: t) 2 = some z := atI_nat (j := 2) rfl
theorem dIx_t {xs : List PyData} {i : Int} {v : PyData} (h : atI xs i = some v) : dIx (.tuple xs) (.int i) = .ok v := by show (match atI xs i with | some v => R.ok v | none => .bad) = _; rw [h]
theorem dIx_l {xs : List PyData} {i : Int} {v : PyData} (h : atI xs i = some v) : dIx (.list xs) (.int i) = .ok v := by show (match atI xs i with | some v => R.ok v | none => .bad) = _; rw [h]
theorem dIx_s {z : Str} {i : Int} {u : Nat} (hz : z.length ≤ 16777216) (h : atI z.cps.toList i = some u) : dIx (.str z) (.int i) = .ok (.str ⟨#[u]⟩) := by
  show (if z.length ≤ sizeLine then match atI z.cps.toList i with | some u => R.ok (PyData.str ⟨#[u]⟩) | none => .bad else .bad) = _
  rw [line_eq, if_pos hz, h]
@[simp] theorem dIx_t0 (x : PyData) (t : List PyData) : dIx (.tuple (x :: t)) (.int 0) = .ok x := dIx_t (atI_zero x t)
@[simp] theorem dIx_t1 (x y : PyData) (t : List PyData) : dIx (.tuple (x :: y :: t)) (.int 1) = .ok y := dIx_t (atI_one x y t)
@[simp] theorem dIx_t2 (x y z : PyData) (t : List PyData) : dIx (.tuple (x :: y :: z :: t)) (.int 2) = .ok z := dIx_t (atI_two x y z t)
@[simp] theorem dIx_l0 (x : PyData) (t : List PyData) : dIx (.list (x :: t)) (.int 0) = .ok x := dIx_l (atI_zero x t)
@[simp] theorem dIx_l1 (x y : PyData) (t : List PyData) : dIx (.list (x :: y :: t)) (.int 1) = .ok y := dIx_l (atI_one x y t)
theorem dItems_t {xs : List PyData} (h : xs.length ≤ 16777216) : dItems (.tuple xs) = .ok xs := if_pos h
theorem dItems_l {xs : List PyData} (h : xs.length ≤ 16777216) : dItems (.list xs) = .ok xs := if_pos h
theorem dItems_s {z : Str} (h : z.cps.toList.length ≤ 16777216) : dItems (.str z) = .ok (z.cps.toList.map fun u => .str ⟨#[u]⟩) := if_pos h
theorem dEq_ok {x y : PyData} (hx : SeqAt.shaped x = true) (hy : SeqAt.shaped y = true) : dEq x y = .ok (.bool (PyData.eqv x y)) := if_pos ⟨hx, hy⟩
theorem dNe_ok {x y : PyData} (hx : SeqAt.shaped x = true) (hy : SeqAt.shaped y = true) : dNe x y = .ok (.bool (!PyData.eqv x y)) := if_pos ⟨hx, hy⟩
@[simp] theorem dIsT_i (T : String) (i : Int) : dIsT T (.int i) = .ok (.bool (isTn "int" T)) := id rfl
@[simp] theorem dIsT_s (T : String) (i : Str) : dIsT T (.str i) = .ok (.bool (isTn "str" T)) := id rfl
@[simp] theorem dIsT_t (T : String) (i : List PyData) : dIsT T (.tuple i) = .ok (.bool (isTn "tuple" T)) := id rfl
@[simp] theorem dIsT_l (T : String) (i : List PyData) : dIsT T (.list i) = .ok (.bool (isTn "list" T)) := id rfl
@[simp] theorem dIsT_b (T : String) (i : Bool) : dIsT T (.bool i) = .ok (.bool (isTn "bool" T)) := id rfl
@[simp] theorem dIsT_n (T : String) : dIsT T .none = .ok (.bool (isTn "NoneType" T)) := id rfl
theorem dSl_t {xs : List PyData} {lo hi : Option Int} (h : ¬ (HT.sIx xs.length 0 lo = 0 ∧ HT.sIx xs.length xs.length hi = xs.length)) : dSl (.tuple xs) lo hi = .ok (.tuple (cutL xs lo hi)) := by
  unfold dSl; exact if_pos h
theorem dSl_s {z : Str} {lo hi : Option Int} (h : z.length ≤ 16777216) : dSl (.str z) lo hi = .ok (.str (Txt.slice z lo hi)) := by
  unfold dSl; exact if_pos h
theorem dAdd_t {xs ys : List PyData} (h : xs.isEmpty = false) (h2 : xs.length + ys.length ≤ 16777216) : dAdd (.tuple xs) (.tuple ys) = .ok (.tuple (xs ++ ys)) := by
  unfold dAdd; exact if_pos ⟨h, by rw [line_eq]; exact h2⟩
theorem dAdd_s {x y : Str} (h : x.length + y.length ≤ 16777216) : dAdd (.str x) (.str y) = .ok (.str (x ++ y)) := by
  unfold dAdd; exact if_pos (by rw [line_eq]; exact h)
/-- over things of one's own -/
theorem compL_of {α : Type} {fs : PyData → Sg → Option Sg} {fe : Sg → R PyData} {ρ0 : Sg} {d : α → PyData} {g : α → PyData} : ∀ {xs : List α}, (∀ x ∈ xs, ∃ ρ1, fs (d x) ρ0 = some ρ1 ∧ fe ρ1 = .ok (g x)) → compL fs bYes fe ρ0 (xs.map d) = .ok (xs.map g)
  | [], _ => rfl
  | x :: t, h => by
    obtain ⟨ρ1, h1, h2⟩ := h x List.mem_cons_self
    rw [List.map_cons]
    unfold compL
    rw [h1, compL_of fun y hy => h y (List.mem_cons_of_mem _ hy), optR_some, R.bind_ok, bYes_ap, R.noEx_ok, R.bind_ok, if_pos rfl, h2]; rfl
/-- a loop that keeps an invariant, over things of one's own -/
theorem forF_inv {α : Type} {fs : PyData → Sg → Option Sg} {fb : Sg → R Fw} {d : α → PyData} {xs : List α} {ρ : Sg} (J : Nat → Sg → Prop) (h0 : J 0 ρ) (hs : ∀ (i : Nat) (x : α) (ρ : Sg), xs[i]? = some x → J i ρ → ∃ ρ1 ρ2, fs (d x) ρ = some ρ1 ∧ (fb ρ1 = .ok (.nx ρ2) ∨ fb ρ1 = .ok (.ct ρ2)) ∧ J (i + 1) ρ2) :
    ∃ ρ', forF fs fb (xs.map d) ρ = .ok (.nx ρ') ∧ J xs.length ρ' := by
  induction xs generalizing ρ J with
  | nil => exact ⟨ρ, rfl, h0⟩
  | cons x t ih =>
    obtain ⟨ρ1, ρ2, h1, h2, h3⟩ := hs 0 x ρ rfl h0
    obtain ⟨ρ', q1, q2⟩ := ih (ρ := ρ2) (fun i => J (i + 1)) h3 (fun i y ρ hy hj => hs (i + 1) y ρ (by simpa using hy) hj)
    refine ⟨ρ', ?_, q2⟩
    rw [List.map_cons]
    unfold forF
    rw [h1, optR_some, R.bind_ok]
    rcases h2 with h2 | h2 <;> rw [h2] <;> exact q1
end Fl
namespace Fl
open PySem L2 PyProof.Rows
theorem sWhile_nx {t : Sg → R Bool} {b : Sg → R Fw} {ρ ρ' : Sg} (h1 : t ρ = .ok true) (h2 : b ρ = .ok (.nx ρ')) : sWhile t b ρ = sWhile t b ρ' := by
  rw [sWhile_eq, h1, R.bind_ok, if_pos rfl, h2]; rfl
theorem sWhile_rt {t : Sg → R Bool} {b : Sg → R Fw} {ρ : Sg} {a : A} (h1 : t ρ = .ok true) (h2 : b ρ = .ok (.rt a)) : sWhile t b ρ = .ok (.rt a) := by
  rw [sWhile_eq, h1, R.bind_ok, if_pos rfl, h2]; rfl
theorem sWhile_ff {t : Sg → R Bool} {b : Sg → R Fw} {ρ : Sg} (h1 : t ρ = .ok false) : sWhile t b ρ = .ok (.nx ρ) := by
  rw [sWhile_eq, h1, R.bind_ok, if_neg (by decide)]
/-! ### a dict of truths -/
def been {α : Type} (d : α → PyData) (ps : List α) : List (PyData × PyData) := ps.map fun p => (d p, .bool true)
theorem been_keys {α : Type} (d : α → PyData) (ps : List α) : (been d ps).map (·.1) = ps.map d := by unfold been; rw [List.map_map]; rfl
theorem been_has {α : Type} {d : α → PyData} (hd : ∀ a b, d a = d b → a = b) {ps : List α} {p : α} : hasM (been d ps) (d p) = true ↔ p ∈ ps := by
  rw [hasM_iff, been_keys, List.mem_map]
  exact ⟨fun ⟨q, h1, h2⟩ => hd q p h2 ▸ h1, fun h => ⟨p, h, rfl⟩⟩
theorem been_hasF {α : Type} {d : α → PyData} (hd : ∀ a b, d a = d b → a = b) {ps : List α} {p : α} (h : p ∉ ps) : hasM (been d ps) (d p) = false := by
  cases q : hasM (been d ps) (d p) with
  | false => rfl
  | true => exact absurd ((been_has hd).mp q) h
theorem been_put {α : Type} {d : α → PyData} (hd : ∀ a b, d a = d b → a = b) {ps : List α} {p : α} (h : p ∉ ps) : putM (been d ps) (d p) (.bool true) = been d (ps ++ [p]) := by
  unfold putM
  rw [been_hasF hd h, if_neg (by decide)]
  unfold been
  rw [List.map_append]; rfl
theorem been_same {α : Type} {d : α → PyData} (hk : ∀ a, tupK (d a) = true) (ps : List α) (p : α) : sameK (d p) ((been d ps).map (·.1)) = true := by
  unfold sameK
  rw [been_keys, hk, Bool.true_and, Bool.or_eq_true, List.all_eq_true]
  refine .inl fun x hx => ?_
  obtain ⟨q, _, rfl⟩ := List.mem_map.mp hx
  exact hk q
theorem been_len {α : Type} (d : α → PyData) (ps : List α) : (been d ps).length = ps.length := by unfold been; rw [List.length_map]
def prD (p : Int × Int) : PyData := .tuple [.int p.1, .int p.2]
theorem prD_inj (a b : Int × Int) (h : prD a = prD b) : a = b := by
  unfold prD at h
  injection h with h
  injection h with h1 h2
  injection h2 with h2 _
  injection h1 with h1
  injection h2 with h2
  exact Prod.ext h1 h2
theorem prD_tup (a : Int × Int) : tupK (prD a) = true := rfl
end Fl
namespace Mc
open PySem L2 PyProof.Rows Fl
theorem F_signs {r : Rw} {rs : List Rw} : F_signs_of [.d (machD (r :: rs))] = .ok (.d (.int r.c.length)) := by
  simp [F_signs_of, B_signs_of, machD, rowD]
/-! ### what is another sign -/
theorem chk_loop {n : Nat} (h1 : 1 ≤ n) (h3 : n ≤ 3) (z : Str) : ∀ (cs : List Nat) (k : Nat) (u3 u4 : Option A),
    forF (stT [stN 3, stN 4]) (sIf (e1 asB (e2 dNin (rV 4) (rV 2))) (sRaise "NoStrip" ["at"] (aCons (eV 3) aNil)) sNx) (numL k (cs.map fun u => .str ⟨#[u]⟩)) [some (.d (.int n)), some (.d (.str z)), some (.d (.str (Txt.slice "abc" none (some (n : Int))))), u3, u4] =
    match badAt n k cs with
    | some i => .ex ⟨"NoStrip", [("at", .int i)]⟩
    | none => .ok (.nx [some (.d (.int n)), some (.d (.str z)), some (.d (.str (Txt.slice "abc" none (some (n : Int))))), if cs = [] then u3 else some (.d (.int ((k + cs.length - 1 : Nat) : Int))), if cs = [] then u4 else (cs.getLast?.map fun u => A.d (.str ⟨#[u]⟩))]) := by
  intro cs
  induction cs with
  | nil => intro k u3 u4; rfl
  | cons c t ih =>
    intro k u3 u4
    have hin : dNin (.str ⟨#[c]⟩) (.str (Txt.slice "abc" none (some (n : Int)))) = .ok (.bool (!isSign n c)) := by
      show R.ok (PyData.bool (!_)) = _
      rw [in_known h1 h3]
    rw [List.map_cons, numL]
    unfold forF
    rw [badAt_cons]
    cases hs : isSign n c with
    | false => simp [hin, hs]
    | true =>
      simp [hin, hs, ih]
      cases badAt n (k + 1) t with
      | some i => rfl
      | none =>
        simp
        cases t with
        | nil => simp
        | cons c' t' => simp <;> try omega
theorem F_chk {n : Nat} (h1 : 1 ≤ n) (h3 : n ≤ 3) {z : Str} (hz : z.cps.toList.length ≤ 16777216) : F_checked_by [.d (.int n), .d (.str z)] = match badAt n 0 z.cps.toList with
    | some i => .ex ⟨"NoStrip", [("at", .int i)]⟩
    | none => .ok (.d (.str z)) := by
  have hs : dSl (.str "abc") none (some (n : Int)) = .ok (.str (Txt.slice "abc" none (some (n : Int)))) := by
    show (if ("abc" : Str).length ≤ 16777216 then R.ok _ else .bad) = _
    exact if_pos (by decide)
  have hn : dNums (.str z) = .ok (numL 0 (z.cps.toList.map fun u => .str ⟨#[u]⟩)) := by
    show (if z.cps.toList.length ≤ 16777216 then R.ok _ else .bad) = _
    exact if_pos hz
  simp only [F_checked_by, B_checked_by, fnF_ap, sSeq_ap, sSet_ap, vD_ap, eSl_ap, eC_ap, oNo_ap, oSo_ap, R.bind_ok, rV_ap, sFor_ap, e1_ap, eV_ap, List.map_cons, List.map_nil, List.cons_append, List.nil_append, List.length_cons, List.length_nil]
  simp only [List.replicate, List.getElem?_cons_zero, List.getElem?_cons_succ, hs, R.bind_ok, List.set_cons_succ, List.set_cons_zero, hn, chk_loop h1 h3]
  cases badAt n 0 z.cps.toList with
  | some i => rfl
  | none => rfl
theorem Mach.cons {rs : List Rw} {sg : Nat} (M : Mach rs sg) : ∃ r t, rs = r :: t ∧ r.c.length = sg := by
  cases rs with
  | nil => have := M.len; simp at this
  | cons r t => exact ⟨r, t, rfl, (M.row r List.mem_cons_self).2⟩
theorem F_chkd {rs : List Rw} {sg : Nat} (M : Mach rs sg) {z : Str} (hz : z.cps.toList.length ≤ 16777216) : F_checked [.d (machD rs), .d (.str z)] = match badAt sg 0 z.cps.toList with
    | some i => .ex ⟨"NoStrip", [("at", .int i)]⟩
    | none => .ok (.d (.str z)) := by
  obtain ⟨r, t, rfl, hr⟩ := M.cons
  simp [F_checked, B_checked, F_signs, hr, F_chk M.sg1 M.sg3 hz]
  cases badAt sg 0 z.cps.toList <;> rfl
theorem F_chk_ok {rs : List Rw} {sg : Nat} (M : Mach rs sg) {z : Str} (S : Strip sg z.cps.toList) : F_checked [.d (machD rs), .d (.str z)] = .ok (.d (.str z)) := by
  rw [F_chkd M (by have := S.1; omega), badAt_ok S.2]
/-- a row's cell -/
def ck (k : Nat) (r : Rw) : Int × Int := r.c.getD k (0, 0)
theorem F_cells {rs : List Rw} {sg k : Nat} (M : Mach rs sg) (hk : k < sg) : F_cells_of [.d (machD rs), .d (.int k)] = .ok (.d (.list (rs.map fun r => cellD (ck k r)))) := by
  have h := compL_of (fs := stN 0) (fe := e2 dIx (e2 dIx (rV 0) (eC (.int 1))) (rV 1)) (ρ0 := [none, some (.d (.int k))]) (d := rowD) (g := fun r => cellD (ck k r)) (xs := rs) fun r hr => by
    refine ⟨_, rfl, ?_⟩
    have e : dIx (.tuple (r.c.map cellD)) (.int (k : Int)) = .ok (cellD (ck k r)) := dIx_t (atI_nat (j := k) (by rw [List.getElem?_map, (cell_ok M hr hk).1]; rfl))
    simp [rowD, e]
  have hl : (rs.map rowD).length ≤ 16777216 := by have := M.len2; rw [List.length_map]; omega
  simp [F_cells_of, B_cells_of, machD, dItems_t hl, capA, h]
theorem range_dat {n : Nat} (h : n ≤ 16777216) : dRange 0 (n : Int) = .ok ((List.range n).map fun i : Nat => .int (i : Int)) := by
  unfold dRange
  rw [if_pos (by omega)]
  unfold rangeL
  simp
theorem F_stl {n : Nat} (h : n ≤ 1000) : F_still [.d (.int n)] = .ok (.d (tbD (stillT n))) := by
  have h1 := compL_of (fs := stN 0) (fe := eTup (aCons (eC (.int 1)) (aCons (eV 0) aNil))) (ρ0 := [none]) (d := fun i : Nat => .int (i : Int)) (g := fun i : Nat => thingD 1 (i : Int)) (xs := List.range n) fun i _ => ⟨_, rfl, by simp [thingD]⟩
  have h2 := compL_of (fs := stN 0) (fe := eTup (aCons (e1 dNeg (eC (.int 1))) (aCons (eV 0) aNil))) (ρ0 := [none]) (d := fun i : Nat => .int (i : Int)) (g := fun i : Nat => thingD (-1) (i : Int)) (xs := List.range n) fun i _ => ⟨_, rfl, by simp [thingD]⟩
  have hr := range_dat (n := n) (by omega)
  rw [still_D]
  simp only [F_still, B_still, fnF_ap, sSeq_ap, sSet_ap, vD_ap, e1_ap, eL_ap, nComp_ap, iRange1_ap, rV_ap, R.bind_ok, List.map_cons, List.map_nil, List.cons_append, List.nil_append, List.length_cons, List.length_nil, List.replicate, List.getElem?_cons_zero, hr, capA, Option.bind_none, h1, h2, dTup_l, List.set_cons_succ, List.set_cons_zero, sRet_ap, eTup_ap, aCons_ap, aNil_ap, eV_ap, List.getElem?_cons_succ]
  rw [if_pos (by decide)]
  rfl
theorem dIndex_ss (z y : Str) : dIndex (.str z) (.str y) = match Builtin.Str.occurrences z y 0 z.length 1 with | i :: _ => R.ok (PyData.int i) | [] => .bad := rfl
theorem idx_abc {c : Nat} (h : isSign 3 c = true) : dIndex (.str "abc") (.str ⟨#[c]⟩) = .ok (.int ((c - 97 : Nat) : Int)) := by
  obtain ⟨r, e⟩ := index_abc h
  rw [dIndex_ss, e]
theorem isSign_3 {n c : Nat} (hn : n ≤ 3) (h : isSign n c = true) : isSign 3 c = true := decide_eq_true (by have := of_decide_eq_true h; omega)
theorem one_strip {sg c : Nat} (hc : isSign sg c = true) : Strip sg (⟨#[c]⟩ : Str).cps.toList := ⟨by simp, fun x hx => by
  have : x = c := by simpa using hx
  rw [this]; exact hc⟩
theorem F_sgn {rs : List Rw} {sg c : Nat} (M : Mach rs sg) (hc : isSign sg c = true) : F_sign_table [.d (machD rs), .d (.str ⟨#[c]⟩)] = .ok (.d (tbD (signTb (c - 97) rs))) := by
  have hk : c - 97 < sg := by have := of_decide_eq_true hc; omega
  have h1 := compL_of (fs := stN 0) (fe := eTup (aCons (e2 dIx (rV 0) (eC (.int 1))) (aCons (e2 dIx (rV 0) (eC (.int 0))) aNil))) (ρ0 := [none]) (d := fun r : Rw => cellD (ck (c - 97) r)) (g := fun r : Rw => thingD (ck (c - 97) r).2 (ck (c - 97) r).1) (xs := rs) fun r _ => ⟨_, rfl, by simp [thingD, cellD]⟩
  have hl : (rs.map fun r : Rw => cellD (ck (c - 97) r)).length ≤ 16777216 := by have := M.len2; rw [List.length_map]; omega
  rw [signTb_D]
  simp [F_sign_table, B_sign_table, F_chk_ok M (one_strip hc), idx_abc (isSign_3 M.sg3 hc), F_cells M hk, dItems_l hl, capA, h1, tabD]
  unfold signT ck
  simp
end Mc
namespace Mc
open PySem L2 PyProof.Rows Fl
theorem thD_some (s : Int × Int) : thD (some s) = prD s := id rfl
theorem shaped_int (i : Int) : SeqAt.shaped (.int i) = true := id rfl
theorem eqv_ii (i j : Int) : PyData.eqv (.int i) (.int j) = decide (i = j) := by
  rw [PyData.eqv.eq_5]
  by_cases h : i = j
  · simp [h]
  · simp [h]
theorem dEq_ii (i j : Int) : dEq (.int i) (.int j) = .ok (.bool (decide (i = j))) := by rw [dEq_ok (shaped_int i) (shaped_int j), eqv_ii]
theorem dIx_p0 (s : Int × Int) : dIx (prD s) (.int 0) = .ok (.int s.1) := dIx_t0 _ _
theorem dIx_p1 (s : Int × Int) : dIx (prD s) (.int 1) = .ok (.int s.2) := dIx_t1 _ _ _
theorem isNon_p (s : Int × Int) : isNon (prD s) = false := id rfl
/-! ### gone_out -/
noncomputable def gT : Sg → R Bool := (bAnd (e1 asB (e2 dIsnt (rV 2) (eC .none))) (e1 asB (e2 dEq (e2 dIx (rV 2) (eC (.int 0))) (rV 3))))
noncomputable def gB : Sg → R Fw := (sSeq (sIf (e1 asB (eMIn false 4 (eV 2))) (sRet (vD (eC .none))) sNx)
  (sSeq (sMPut 4 (eV 2) (eC (.bool true)))
  (sSeq (sSet 2 (vD (eIf (e1 asB (e2 dEq (rV 3) (eC (.int 1)))) (e2 dIx (e2 dIx (rV 1) (eC (.int 0))) (e2 dIx (rV 2) (eC (.int 1)))) (e2 dIx (e2 dIx (rV 0) (eC (.int 1))) (e2 dIx (rV 2) (eC (.int 1)))))))
  (sSet 3 (vD (e1 dNeg (rV 3)))))))
theorem gone_def : B_gone_out = sSeq (sMNew 4) (sSeq (sWhile gT gB) (sRet (vV 2))) := id rfl
noncomputable def gρ (a b : Tb) (th : Th) (w : Int) (ps : List (Int × Int)) : Sg := [some (.d (tbD a)), some (.d (tbD b)), some (.d (thD th)), some (.d (.int w)), some (.m (been prD ps))]
theorem gT_none (a b : Tb) (w : Int) (ps : List (Int × Int)) : gT (gρ a b none w ps) = .ok false := by simp [gT, gρ, thD]
theorem gT_some (a b : Tb) (s : Int × Int) (w : Int) (ps : List (Int × Int)) : gT (gρ a b (some s) w ps) = .ok (decide (s.1 = w)) := by simp [gT, gρ, thD_some, isNon_p, dIx_p0, dEq_ii]
theorem ix_fore {t : Tb} {m : Nat} (h : t.good m) {q : Int} (h0 : 0 ≤ q) (h1 : q < m) : dIx (.tuple (t.f.map thD)) (.int q) = .ok (thD (t.at 1 q)) := by
  refine dIx_t (atI_int h0 ?_)
  rw [List.getElem?_map]
  have := (h.at (w := 1) h0 h1).1
  rw [if_pos rfl] at this
  rw [this]; rfl
theorem ix_aft {t : Tb} {m : Nat} (h : t.good m) {q : Int} (h0 : 0 ≤ q) (h1 : q < m) : dIx (.tuple (t.a.map thD)) (.int q) = .ok (thD (t.at (-1) q)) := by
  refine dIx_t (atI_int h0 ?_)
  rw [List.getElem?_map]
  have := (h.at (w := -1) h0 h1).1
  rw [if_neg (by decide)] at this
  rw [this]; rfl
theorem tbD_0 (t : Tb) : dIx (tbD t) (.int 0) = .ok (.tuple (t.f.map thD)) := dIx_t0 _ _
theorem tbD_1 (t : Tb) : dIx (tbD t) (.int 1) = .ok (.tuple (t.a.map thD)) := dIx_t1 _ _ _
theorem gB_met {a b : Tb} {s : Int × Int} {w : Int} {ps : List (Int × Int)} (h : s ∈ ps) : gB (gρ a b (some s) w ps) = .ok (.rt (.d .none)) := by
  have h1 := been_same prD_tup ps s
  have h2 := (been_has prD_inj).mpr h
  simp [gB, gρ, thD_some, h1, h2]
theorem gB_on {a b : Tb} {m : Nat} (ha : a.good m) (hb : b.good m) {s : Int × Int} {ps : List (Int × Int)} (h : s ∉ ps) (V : PairV m s) (hp : ps.length ≤ 16777216) :
    gB (gρ a b (some s) s.1 ps) = .ok (.nx (gρ a b (if s.1 = 1 then b.at 1 s.2 else a.at (-1) s.2) (-s.1) (ps ++ [s]))) := by
  have h1 := been_same prD_tup ps s
  have h2 := been_hasF prD_inj h
  have h3 := been_put prD_inj h
  have h4 : (been prD ps).length ≤ 16777216 := by rw [been_len]; exact hp
  have i1 := ix_fore hb V.2.1 V.2.2
  have i2 := ix_aft ha V.2.1 V.2.2
  simp only [gB, gρ, thD_some, sSeq_ap, sIf_ap, e1_ap, eMIn_ap, eV_ap, List.getElem?_cons_zero, List.getElem?_cons_succ, R.bind_ok, h1, if_true, h2, asB_ap, Bool.false_eq_true, if_false, sNx_ap, sMPut_ap, eC_ap, h4, and_self, h3, List.set_cons_zero, List.set_cons_succ, sSet_ap, vD_ap, eIf_ap, e2_ap, rV_ap, dEq_ii, dIx_p1, tbD_0, tbD_1, i1, i2, dNeg_i, decide_eq_true_eq]
  by_cases q : s.1 = 1
  · simp [q, i1]
  · simp [q, i2]
theorem gone_loop {a b : Tb} {m : Nat} (ha : a.good m) (hb : b.good m) (hm : m ≤ 1000) {s0 : Int × Int} : ∀ (n : Nat) (ps : List (Int × Int)) (s : Int × Int), Und2 (goneSt a b) s0 ps s → (∀ p ∈ ps, PairV m p) → PairV m s → 2 * m + 1 ≤ ps.length + n →
    sSeq (sWhile gT gB) (sRet (vV 2)) (gρ a b (some s) s.1 ps) = .ok (.rt (.d (thD (resOf (goneSt a b) s0)))) := by
  intro n
  induction n with
  | zero =>
    intro ps s U hv V hn
    have := pair_few U.nd hv
    omega
  | succ n ih =>
    intro ps s U hv V hn
    have hT : gT (gρ a b (some s) s.1 ps) = .ok true := by rw [gT_some, decide_eq_true rfl]
    rw [sSeq_ap]
    by_cases hs : s ∈ ps
    · rw [sWhile_rt hT (gB_met hs), U.met hs]; rfl
    · have hl : ps.length ≤ 2 * m := pair_few U.nd hv
      rw [sWhile_nx hT (gB_on ha hb hs V (by omega))]
      have st : goneSt a b s = match (if s.1 = 1 then b.at 1 s.2 else a.at (-1) s.2) with
        | none => none
        | some (w, q) => if w = -s.1 then some (.inl (w, q)) else some (.inr (w, q)) := rfl
      rcases gone_box ha hb V with ⟨g, _⟩ | ⟨s', g, _, V'⟩ | ⟨o, g, _⟩
      · cases hx : (if s.1 = 1 then b.at 1 s.2 else a.at (-1) s.2) with
        | none =>
          rw [sWhile_ff (gT_none _ _ _ _), U.sticks g]
          simp [gρ]
        | some x =>
          rw [st, hx] at g
          obtain ⟨w, q⟩ := x
          simp only at g
          split at g <;> cases g
      · cases hx : (if s.1 = 1 then b.at 1 s.2 else a.at (-1) s.2) with
        | none => rw [st, hx] at g; cases g
        | some x =>
          obtain ⟨w, q⟩ := x
          rw [st, hx] at g
          simp only at g
          split at g
          · rename_i hw
            cases g
            have := ih (ps ++ [s]) (w, q) (U.next hs (by rw [st, hx]; simp only; rw [if_pos hw])) (fun p hp => by
              rcases List.mem_append.mp hp with z | z
              · exact hv p z
              · rw [List.mem_singleton.mp z]; exact V) V' (by rw [List.length_append, List.length_singleton]; omega)
            rw [sSeq_ap] at this
            rw [← hw]
            exact this
          · cases g
      · cases hx : (if s.1 = 1 then b.at 1 s.2 else a.at (-1) s.2) with
        | none => rw [st, hx] at g; cases g
        | some x =>
          obtain ⟨w, q⟩ := x
          rw [U.outs g]
          rw [st, hx] at g
          simp only at g
          split at g
          · cases g
          · rename_i hw
            cases g
            rw [sWhile_ff (by rw [gT_some, decide_eq_false hw])]
            simp [gρ]
theorem F_gone {a b : Tb} {m : Nat} (ha : a.good m) (hb : b.good m) (hm : m ≤ 1000) {th : Th} {w : Int} (ht : thGood m th) (hw : w = 1 ∨ w = -1) : F_gone_out [.d (tbD a), .d (tbD b), .d (thD th), .d (.int w)] = .ok (.d (thD (goneR a b th w))) := by
  have h0 : F_gone_out [.d (tbD a), .d (tbD b), .d (thD th), .d (.int w)] = (sSeq (sWhile gT gB) (sRet (vV 2)) (gρ a b th w [])).bind fun w => match w with | .rt a => .ok a | .nx _ => .ok (.d .none) | _ => .bad := by
    unfold F_gone_out
    rw [fnF_ap, gone_def, sSeq_ap]
    simp only [sMNew_ap, R.bind_ok, List.map_cons, List.map_nil, List.cons_append, List.nil_append, List.length_cons, List.length_nil, List.replicate, List.set_cons_succ, List.set_cons_zero, gρ, been]
    try rfl
  rw [h0]
  cases th with
  | none =>
    rw [sSeq_ap, sWhile_ff (gT_none _ _ _ _)]
    simp [gρ, goneR]
  | some s =>
    by_cases q : s.1 = w
    · subst q
      rw [gone_loop ha hb hm (2 * m + 1) [] s .start (fun p hp => by simp at hp) ht (by simp)]
      obtain ⟨d, q⟩ := s
      simp [goneR]
    · rw [sSeq_ap, sWhile_ff (by rw [gT_some, decide_eq_false q])]
      obtain ⟨d, qq⟩ := s
      simp [gρ, goneR, show ¬ d = w from q]
theorem F_beh {a b : Tb} {m : Nat} (ha : a.good m) (hb : b.good m) (hm : m ≤ 1000) : F_behind [.d (tbD a), .d (tbD b)] = .ok (.d (tbD (boxTab m [a, b]))) := by
  have h1 := compL_of (fs := stN 0) (fe := eA (vCall 4 F_gone_out (aCons (vV 1) (aCons (vV 2) (aCons (vV 0) (aCons (vD (eC (.int 1))) aNil)))))) (ρ0 := [none, some (.d (tbD a)), some (.d (tbD b))]) (d := thD) (g := fun th => thD (goneR a b th 1)) (xs := a.f) fun th hth => ⟨_, rfl, by simp [F_gone ha hb hm (ha.gf th hth) (.inl rfl)]⟩
  have h2 := compL_of (fs := stN 0) (fe := eA (vCall 4 F_gone_out (aCons (vV 1) (aCons (vV 2) (aCons (vV 0) (aCons (vD (e1 dNeg (eC (.int 1)))) aNil)))))) (ρ0 := [none, some (.d (tbD a)), some (.d (tbD b))]) (d := thD) (g := fun th => thD (goneR a b th (-1))) (xs := b.a) fun th hth => ⟨_, rfl, by simp [F_gone ha hb hm (hb.ga th hth) (.inr rfl)]⟩
  have l1 : (a.f.map thD).length ≤ 16777216 := by rw [List.length_map, ha.lf]; omega
  have l2 : (b.a.map thD).length ≤ 16777216 := by rw [List.length_map, hb.la]; omega
  simp [F_behind, B_behind, tbD_0, tbD_1, dItems_t l1, dItems_t l2, capA, h1, h2]
  unfold tbD tabD
  rw [← behind_f ha hb, ← behind_a ha hb, List.map_map, List.map_map]
  rfl
end Mc
namespace Mc
open PySem L2 PyProof.Rows Fl
end Mc
namespace Mc
open PySem L2 PyProof.Rows Fl
noncomputable def B__law_cell : Sg → R Fw := (sSeq (sSet 2 (vD (eC (.int 0))))
  (sSeq (sIf (e1 asB (e2 dGt (e1 dLen (rV 0)) (eC (.int 0)))) (sSet 2 (vD (e2 dIx (rV 0) (e2 dMod (rV 1) (e1 dLen (rV 0)))))) sNx)
  (sSeq (sSet 3 (vD (e2 dMod (e2 dMul (e2 dAdd (e2 dAdd (e2 dMod (rV 2) (eC (.int 2147483647))) (e2 dMul (eC (.int 7919)) (rV 1))) (eC (.int 1))) (eC (.int 48271))) (eC (.int 2147483647)))))
  (sRet (vD (e2 dAdd (e2 dMul (e2 dDiv (rV 2) (eC (.int 2147483647))) (eC (.int 2147483659))) (e2 dMod (e2 dAdd (e2 dMul (rV 3) (eC (.int 69621))) (e2 dMul (eC (.int 104729)) (rV 1))) (eC (.int 2147483659)))))))))
noncomputable def F__law_cell : List A → R A := fnF 4 B__law_cell
noncomputable def B__law_end : Sg → R Fw := (sSeq (sIf (e1 asB (e2 dEq (e2 dMod (rV 0) (eC (.int 3))) (eC (.int 0)))) (sRet (vD (e2 dIx (eL (nLst (aCons (eC (.str "by")) (aCons (eC (.str "out")) aNil)))) (e2 dMod (e2 dDiv (rV 0) (eC (.int 3))) (eC (.int 2)))))) sNx)
  (sRet (vD (e2 dMod (e2 dDiv (rV 0) (eC (.int 3))) (rV 1)))))
noncomputable def F__law_end : List A → R A := fnF 2 B__law_end
noncomputable def B__law_digit_row : Sg → R Fw := (sSeq (sSet 3 (vD (e2 dMod (rV 0) (e2 dAdd (rV 1) (eC (.int 2))))))
  (sSeq (sSet 0 (vD (e2 dDiv (rV 0) (e2 dAdd (rV 1) (eC (.int 2))))))
  (sSeq (sSetN 4 (nLst aNil))
  (sSeq (sFor (iRange1 (rV 2)) (stN 5) (sSeq (sApp 4 (eTup (aCons (e2 dMod (e2 dDiv (rV 0) (eC (.int 2))) (rV 1)) (aCons (e2 dSub (eC (.int 1)) (e2 dMul (e2 dMod (rV 0) (eC (.int 2))) (eC (.int 2)))) aNil))))
  (sSet 0 (vD (e2 dDiv (rV 0) (e2 dMul (eC (.int 2)) (rV 1)))))))
  (sSeq (sSetN 6 (nLst (aCons (eV 3) (aCons (e2 dMod (rV 0) (e2 dAdd (rV 1) (eC (.int 2)))) aNil))))
  (sSeq (sSetN 6 (nComp [none, some 1] (e1 dItems (rV 6)) (stN 0) bYes (eIf (e1 asB (e2 dGe (rV 0) (rV 1))) (e2 dIx (eL (nLst (aCons (eC (.str "by")) (aCons (eC (.str "out")) aNil)))) (e2 dSub (rV 0) (rV 1))) (eV 0))))
  (sRet (vD (eTup (aCons (e2 dIx (rV 6) (eC (.int 0))) (aCons (e1 dTup (rV 4)) (aCons (e2 dIx (rV 6) (eC (.int 1))) aNil))))))))))))
noncomputable def F__law_digit_row : List A → R A := fnF 7 B__law_digit_row
noncomputable def B__law_mixed_row : Sg → R Fw := (sSeq (sSetN 3 (nLst aNil))
  (sSeq (sFor (iRange1 (e2 dAdd (rV 2) (eC (.int 2)))) (stN 4) (sSeq (sSet 0 (vD (e2 dMod (e2 dAdd (e2 dMul (rV 0) (eC (.int 48271))) (eC (.int 7919))) (eC (.int 2147483647)))))
  (sApp 3 (e2 dDiv (rV 0) (eC (.int 64))))))
  (sSeq (sSet 5 (vD (e1 dTup (eL (nComp [none, some 1] (e1 dItems (eSl dSl (rV 3) (oSo (eC (.int 2))) oNo)) (stN 0) bYes (eTup (aCons (e2 dMod (rV 0) (rV 1)) (aCons (e2 dSub (eC (.int 1)) (e2 dMul (e2 dDiv (e2 dMod (e2 dDiv (rV 0) (eC (.int 64))) (eC (.int 3))) (eC (.int 2))) (eC (.int 2)))) aNil))))))))
  (sRet (vD (eTup (aCons (eA (vCall 2 F__law_end (aCons (vD (e2 dIx (rV 3) (eC (.int 0)))) (aCons (vV 1) aNil)))) (aCons (eV 5) (aCons (eA (vCall 2 F__law_end (aCons (vD (e2 dIx (rV 3) (eC (.int 1)))) (aCons (vV 1) aNil)))) aNil)))))))))
noncomputable def F__law_mixed_row : List A → R A := fnF 6 B__law_mixed_row
noncomputable def B__law_machine : Sg → R Fw := (sSeq (sSetN 4 (nLst aNil))
  (sSeq (sFor (iRange1 (rV 2)) (stN 5) (sIf (bAnd (e1 asB (e2 dLt (e2 dAdd (rV 1) (rV 5)) (e1 dLen (rV 0)))) (e1 asB (e2 dEq (e2 dMod (e2 dIx (rV 0) (eC (.int 0))) (eC (.int 2))) (eC (.int 1))))) (sApp 4 (eA (vCall 3 F__law_digit_row (aCons (vD (e2 dIx (rV 0) (e2 dAdd (rV 1) (rV 5)))) (aCons (vV 2) (aCons (vV 3) aNil)))))) (sSeq (sSet 6 (vCall 3 F__law_mixed_row (aCons (vD (e2 dMod (eA (vCall 2 F__law_cell (aCons (vV 0) (aCons (vD (e2 dAdd (rV 1) (rV 5))) aNil)))) (eC (.int 2147483647)))) (aCons (vV 2) (aCons (vV 3) aNil)))))
  (sSeq (sIf (bAnd (e1 asB (e2 dEq (rV 5) (eC (.int 0)))) (bAnd (e1 asB (e1 (dIsT "str") (e2 dIx (rV 6) (eC (.int 0))))) (e1 asB (e2 dGt (e2 dMod (e2 dDiv (eA (vCall 2 F__law_cell (aCons (vV 0) (aCons (vV 1) aNil)))) (eC (.int 8))) (eC (.int 8))) (eC (.int 0)))))) (sSet 6 (vD (e2 dAdd (eTup (aCons (e2 dMod (e2 dDiv (eA (vCall 2 F__law_cell (aCons (vV 0) (aCons (vV 1) aNil)))) (eC (.int 64))) (rV 2)) aNil)) (eSl dSl (rV 6) (oSo (eC (.int 1))) oNo)))) sNx)
  (sApp 4 (eV 6))))))
  (sRet (vD (e1 dTup (rV 4))))))
noncomputable def F__law_machine : List A → R A := fnF 7 B__law_machine
noncomputable def B__law_strip : Sg → R Fw := (sSeq (sIf (bAnd (e1 asB (e2 dLt (rV 1) (e1 dLen (rV 0)))) (e1 asB (e2 dEq (e2 dMod (e2 dIx (rV 0) (eC (.int 0))) (eC (.int 2))) (eC (.int 1))))) (sSeq (sSet 4 (vD (e2 dIx (rV 0) (rV 1))))
  (sSeq (sSet 5 (vD (eC (.str ""))))
  (sSeq (sFor (iRange1 (rV 2)) (stN 6) (sSeq (sSet 5 (vD (e2 dAdd (rV 5) (e2 dIx (eC (.str "abc")) (e2 dMod (rV 4) (rV 3))))))
  (sSet 4 (vD (e2 dDiv (rV 4) (rV 3))))))
  (sRet (vV 5))))) sNx)
  (sRet (vD (e2 dJoin (eC (.str "")) (eL (nComp [none, some 0, some 1, some 3] (iRange1 (rV 2)) (stN 0) bYes (e2 dIx (eC (.str "abc")) (e2 dMod (eA (vCall 2 F__law_cell (aCons (vV 1) (aCons (vD (e2 dAdd (rV 2) (rV 0))) aNil)))) (rV 3)))))))))
noncomputable def F__law_strip : List A → R A := fnF 7 B__law_strip
noncomputable def B__law_within : Sg → R Fw := (sSeq (sMNew 4)
  (sSeq (sWhile (e1 asB (eCh dLt dLe (eC (.int 0)) (rV 2) (e1 dLen (rV 1)))) (sSeq (sIf (e1 asB (eMIn false 4 (eTup (aCons (eV 2) (aCons (eV 3) aNil))))) (sRet (vD (eC .none))) sNx)
  (sSeq (sMPut 4 (eTup (aCons (eV 2) (aCons (eV 3) aNil))) (eC (.bool true)))
  (sSeq (sTup (stT [(stN 3), (stN 5)]) (e2 dIx (e2 dIx (e2 dIx (rV 0) (rV 3)) (eC (.int 1))) (e2 dIndex (eC (.str "abc")) (e2 dIx (rV 1) (e2 dSub (rV 2) (eC (.int 1)))))))
  (sSet 2 (vD (e2 dAdd (rV 2) (rV 5))))))))
  (sRet (vD (eTup (aCons (e2 dIx (eL (nLst (aCons (e1 dNeg (eC (.int 1))) (aCons (eC (.int 1)) aNil)))) (e1 dInt (e2 dGt (rV 2) (eC (.int 0))))) (aCons (eV 3) aNil)))))))
noncomputable def F__law_within : List A → R A := fnF 6 B__law_within
noncomputable def B__law_table : Sg → R Fw := (sSeq (sSetN 2 (e1 dLR (e1 dLen (rV 0))))
  (sSeq (sSetN 3 (nComp [none, some 0, some 1] (e1 dItems (rV 2)) (stN 0) bYes (eA (vCall 4 F__law_within (aCons (vV 1) (aCons (vV 2) (aCons (vD (eC (.int 1))) (aCons (vV 0) aNil))))))))
  (sSeq (sSetN 4 (nComp [none, some 0, some 1] (e1 dItems (rV 2)) (stN 0) bYes (eA (vCall 4 F__law_within (aCons (vV 1) (aCons (vV 2) (aCons (vD (e1 dLen (rV 2))) (aCons (vV 0) aNil))))))))
  (sRet (vD (eTup (aCons (e1 dTup (rV 3)) (aCons (e1 dTup (rV 4)) aNil))))))))
noncomputable def F__law_table : List A → R A := fnF 5 B__law_table
end Mc
namespace Mc
open PySem L2 PyProof.Rows Fl
/-! ### what the laws draw -/
def scrD (ns : List Int) : PyData := .list (ns.map .int)
theorem scr_len (ns : List Int) : dLen (scrD ns) = .ok (.int ns.length) := by unfold scrD; rw [dLen_l, List.length_map]
theorem scr_ix {ns : List Int} {i : Int} (h0 : 0 ≤ i) (h1 : i < ns.length) : ∃ v, dIx (scrD ns) (.int i) = .ok (.int v) := by
  refine ⟨ns[i.toNat]'(by omega), dIx_l (atI_int h0 ?_)⟩
  rw [List.getElem?_map, List.getElem?_eq_getElem (by omega)]; rfl
theorem F_cell (ns : List Int) (k : Int) : ∃ v, F__law_cell [.d (scrD ns), .d (.int k)] = .ok (.d (.int v)) := by
  by_cases h : (0 : Int) < ns.length
  · obtain ⟨v, hv⟩ := scr_ix (ns := ns) (i := k % (ns.length : Int)) (Int.emod_nonneg _ (by omega)) (Int.emod_lt_of_pos _ h)
    have hm : dMod (.int k) (.int (ns.length : Int)) = .ok (.int (k % (ns.length : Int))) := dMod_i h
    have hd : 0 < ns.length := by omega
    refine ⟨v / 2147483647 * 2147483659 + ((v % 2147483647 + 7919 * k + 1) * 48271 % 2147483647 * 69621 + 104729 * k) % 2147483659, ?_⟩
    unfold F__law_cell B__law_cell
    simp [scr_len, hd, hm, hv, dMod_i, dMul_r, dMul_l, dDiv_i]
  · have hd : ¬ 0 < ns.length := by omega
    refine ⟨((7919 * k + 1) * 48271 % 2147483647 * 69621 + 104729 * k) % 2147483659, ?_⟩
    unfold F__law_cell B__law_cell
    simp [scr_len, hd, dMod_i, dMul_r, dMul_l, dDiv_i]
theorem two_ix (x y : PyData) (i : Int) : ∃ z, dIx (.list [x, y]) (.int (i % 2)) = .ok z ∧ (z = x ∨ z = y) := by
  rcases Int.emod_two_eq i with h | h
  · rw [h]; exact ⟨x, dIx_l0 _ _, .inl rfl⟩
  · rw [h]; exact ⟨y, dIx_l1 _ _ _, .inr rfl⟩
theorem F_end (x : Int) {n : Int} (hn : 0 < n) : ∃ t : Tn, F__law_end [.d (.int x), .d (.int n)] = .ok (.d t.d) ∧ t.good n := by
  by_cases h : x % 3 = 0
  · obtain ⟨z, hz, hzz⟩ := two_ix (.str "by") (.str "out") (x / 3)
    have hd : decide (x % 3 = 0) = true := decide_eq_true h
    have e : F__law_end [.d (.int x), .d (.int n)] = .ok (.d z) := by
      unfold F__law_end B__law_end
      simp [dMod_i, dDiv_i, dEq_ii, hd, hz]
    rcases hzz with rfl | rfl
    · exact ⟨.w "by", e, .inl rfl⟩
    · exact ⟨.w "out", e, .inr rfl⟩
  · have hd : decide (x % 3 = 0) = false := decide_eq_false h
    refine ⟨.n (x / 3 % n), ?_, Int.emod_nonneg _ (by omega), Int.emod_lt_of_pos _ hn⟩
    unfold F__law_end B__law_end
    simp [dMod_i, dDiv_i, dEq_ii, hd, hn]
    rfl
theorem F_mixed (x : Int) {n : Int} {sg : Nat} (hn : 0 < n) (hs : sg ≤ 1000) : ∃ r : Rw, F__law_mixed_row [.d (.int x), .d (.int n), .d (.int sg)] = .ok (.d (rowD r)) ∧ r.good n ∧ r.c.length = sg := by
  have hr : dRange 0 ((sg : Int) + 2) = .ok ((List.range (sg + 2)).map fun i : Nat => .int (i : Int)) := by
    have := range_dat (n := sg + 2) (by omega)
    rw [show (((sg + 2 : Nat)) : Int) = (sg : Int) + 2 by omega] at this
    exact this
  obtain ⟨ρ', hf, y, ps, u4, hp, rfl⟩ := forF_inv (fs := stN 4) (fb := sSeq (sSet 0 (vD (e2 dMod (e2 dAdd (e2 dMul (rV 0) (eC (.int 48271))) (eC (.int 7919))) (eC (.int 2147483647))))) (sApp 3 (e2 dDiv (rV 0) (eC (.int 64)))))
    (d := fun i : Nat => .int (i : Int)) (xs := List.range (sg + 2)) (ρ := [some (.d (.int x)), some (.d (.int n)), some (.d (.int sg)), some (.l []), none, none])
    (fun i ρ => ∃ (y : Int) (ps : List Int) (u4 : Option A), ps.length = i ∧ ρ = [some (.d (.int y)), some (.d (.int n)), some (.d (.int sg)), some (.l (ps.map .int)), u4, none]) ⟨x, [], none, rfl, rfl⟩
    (fun i k ρ hk hρ => by
      obtain ⟨y, ps, u4, hp, rfl⟩ := hρ
      have hi : i < sg + 2 := by have := (List.getElem?_eq_some_iff.mp hk).1; simpa using this
      refine ⟨_, _, rfl, .inl ?_, (y * 48271 + 7919) % 2147483647, ps ++ [(y * 48271 + 7919) % 2147483647 / 64], some (.d (.int k)), by simp [hp], rfl⟩
      have hl : (ps.map PyData.int).length < 16777216 := by rw [List.length_map, hp]; omega
      simp [dMul_r, dMul_l, dMod_i, dDiv_i, hl]
      omega)
  rw [List.length_range] at hp
  obtain ⟨p0, p1, qs, rfl, hq⟩ : ∃ p0 p1 qs, ps = p0 :: p1 :: qs ∧ qs.length = sg := by
    match ps, hp with
    | p0 :: p1 :: qs, hp => exact ⟨p0, p1, qs, rfl, by simpa using hp⟩
  have hcut : dSl (.list ((p0 :: p1 :: qs).map .int)) (some 2) none = .ok (.list (qs.map .int)) := by
    show R.ok (PyData.list (cutL _ _ _)) = _
    unfold cutL HT.sIx
    simp
    rw [List.take_of_length_le (by simp)]
  obtain ⟨t0, e0, g0⟩ := F_end p0 hn
  obtain ⟨t1, e1', g1⟩ := F_end p1 hn
  have hc := compL_of (fs := stN 0) (fe := eTup (aCons (e2 dMod (rV 0) (rV 1)) (aCons (e2 dSub (eC (.int 1)) (e2 dMul (e2 dDiv (e2 dMod (e2 dDiv (rV 0) (eC (.int 64))) (eC (.int 3))) (eC (.int 2))) (eC (.int 2)))) aNil))) (ρ0 := [none, some (.d (.int n))]) (d := PyData.int) (g := fun q => cellD (q % n, 1 - q / 64 % 3 / 2 * 2)) (xs := qs) fun q _ => ⟨_, rfl, by simp [dMod_i, dDiv_i, dMul_r, hn, cellD]⟩
  have hi : dItems (.list (qs.map .int)) = .ok (qs.map .int) := dItems_l (by rw [List.length_map]; omega)
  refine ⟨⟨t0, qs.map fun q => (q % n, 1 - q / 64 % 3 / 2 * 2), t1⟩, ?_, ⟨g0, g1, fun c hc => ?_⟩, by simpa using hq⟩
  · unfold F__law_mixed_row B__law_mixed_row
    simp only [fnF_ap, List.map_cons, List.map_nil, List.cons_append, List.nil_append, List.length_cons, List.length_nil, List.replicate, sSeq_ap, sSetN_ap, nLst_ap, aNil_ap, R.bind_ok]
    simp [hr]
    rw [hf]
    simp at hcut hi hc
    simp [hcut, hi, capA, hc, e0, e1', rowD]
  · obtain ⟨q, _, rfl⟩ := List.mem_map.mp hc
    refine ⟨Int.emod_nonneg _ (by omega), Int.emod_lt_of_pos _ hn, ?_⟩
    simp only
    omega
end Mc
namespace Mc
open PySem L2 PyProof.Rows Fl
theorem F_digit (x : Int) {n : Int} {sg : Nat} (hn : 0 < n) (hn2 : n ≤ 1000) (hs : sg ≤ 1000) : ∃ r : Rw, F__law_digit_row [.d (.int x), .d (.int n), .d (.int sg)] = .ok (.d (rowD r)) ∧ r.good n ∧ r.c.length = sg := by
  have hr := range_dat (n := sg) (by omega)
  have hn3 : (0 : Int) < n + 2 := by omega
  have hn4 : n + 2 < 18446744073709551616 := by omega
  have h2n : (0 : Int) < 2 * n := by omega
  have h2n' : 2 * n < 18446744073709551616 := by omega
  obtain ⟨ρ', hf, y, cs, u5, hp, hg, rfl⟩ := forF_inv (fs := stN 5) (fb := sSeq (sApp 4 (eTup (aCons (e2 dMod (e2 dDiv (rV 0) (eC (.int 2))) (rV 1)) (aCons (e2 dSub (eC (.int 1)) (e2 dMul (e2 dMod (rV 0) (eC (.int 2))) (eC (.int 2)))) aNil)))) (sSet 0 (vD (e2 dDiv (rV 0) (e2 dMul (eC (.int 2)) (rV 1))))))
    (d := fun i : Nat => .int (i : Int)) (xs := List.range sg) (ρ := [some (.d (.int (x / (n + 2)))), some (.d (.int n)), some (.d (.int sg)), some (.d (.int (x % (n + 2)))), some (.l []), none, none])
    (fun i ρ => ∃ (y : Int) (cs : List (Int × Int)) (u5 : Option A), cs.length = i ∧ (∀ c ∈ cs, cellGood n c) ∧ ρ = [some (.d (.int y)), some (.d (.int n)), some (.d (.int sg)), some (.d (.int (x % (n + 2)))), some (.l (cs.map cellD)), u5, none]) ⟨x / (n + 2), [], none, rfl, fun c hc => by simp at hc, rfl⟩
    (fun i k ρ hk hρ => by
      obtain ⟨y, cs, u5, hp, hg, rfl⟩ := hρ
      have hi : i < sg := by have := (List.getElem?_eq_some_iff.mp hk).1; simpa using this
      have hl : (cs.map cellD).length < 16777216 := by rw [List.length_map, hp]; omega
      refine ⟨_, _, rfl, .inl ?_, y / (2 * n), cs ++ [(y / 2 % n, 1 - y % 2 * 2)], some (.d (.int k)), by simp [hp], fun c hc => ?_, rfl⟩
      · have hl' : cs.length < 16777216 := by omega
        simp [dMul_r, dMul_l, dMod_i, dDiv_i, hn, h2n, h2n', cellD, hl']
      · rcases List.mem_append.mp hc with z | z
        · exact hg c z
        · rw [List.mem_singleton.mp z]
          refine ⟨Int.emod_nonneg _ (by omega), Int.emod_lt_of_pos _ hn, ?_⟩
          simp only; omega)
  rw [List.length_range] at hp
  have key : ∀ e : Int, 0 ≤ e → e < n + 2 → ∃ t : Tn, (eIf (e1 asB (e2 dGe (rV 0) (rV 1))) (e2 dIx (eL (nLst (aCons (eC (.str "by")) (aCons (eC (.str "out")) aNil)))) (e2 dSub (rV 0) (rV 1))) (eV 0)) [some (.d (.int e)), some (.d (.int n))] = .ok t.d ∧ t.good n := fun e h0 h1 => by
    by_cases h : n ≤ e
    · obtain rfl | rfl : e = n ∨ e = n + 1 := by omega
      · exact ⟨.w "by", by simp [Tn.d], .inl rfl⟩
      · exact ⟨.w "out", by simp [Tn.d, show n + 1 - n = 1 by omega, show n ≤ n + 1 by omega], .inr rfl⟩
    · exact ⟨.n e, by simp [Tn.d, h], h0, by omega⟩
  obtain ⟨t0, e0, g0⟩ := key (x % (n + 2)) (Int.emod_nonneg _ (by omega)) (Int.emod_lt_of_pos _ hn3)
  obtain ⟨t1, e1', g1⟩ := key (y % (n + 2)) (Int.emod_nonneg _ (by omega)) (Int.emod_lt_of_pos _ hn3)
  have hc : compL (stN 0) bYes (eIf (e1 asB (e2 dGe (rV 0) (rV 1))) (e2 dIx (eL (nLst (aCons (eC (.str "by")) (aCons (eC (.str "out")) aNil)))) (e2 dSub (rV 0) (rV 1))) (eV 0)) [none, some (.d (.int n))] [.int (x % (n + 2)), .int (y % (n + 2))] = .ok [t0.d, t1.d] := by
    simp only [compL, stN_ap, List.set_cons_zero, optR_some, R.bind_ok, bYes_ap, R.noEx_ok, if_true, e0, e1']
  have hi : ∀ a b : PyData, dItems (.list [a, b]) = .ok [a, b] := fun a b => dItems_l (by simp)
  refine ⟨⟨t0, cs, t1⟩, ?_, ⟨g0, g1, hg⟩, hp⟩
  unfold F__law_digit_row B__law_digit_row
  simp only [fnF_ap, List.map_cons, List.map_nil, List.cons_append, List.nil_append, List.length_cons, List.length_nil, List.replicate, sSeq_ap, sSet_ap, vD_ap, e2_ap, rV_ap, eC_ap, List.getElem?_cons_zero, List.getElem?_cons_succ, R.bind_ok, dAdd_i, dMod_i hn3, dDiv_i hn3 hn4, List.set_cons_zero, List.set_cons_succ, sSetN_ap, nLst_ap, aNil_ap, sFor_ap, iRange1_ap, hr]
  simp only [Nat.zero_le, if_true, R.bind_ok, List.set_cons_zero, List.set_cons_succ, List.getElem?_cons_zero, List.getElem?_cons_succ, hr, hf]
  simp only [aCons_ap, eV_ap, aNil_ap, e2_ap, rV_ap, eC_ap, List.getElem?_cons_zero, List.getElem?_cons_succ, R.bind_ok, dAdd_i, dMod_i hn3, nComp_ap, e1_ap, List.set_cons_zero, List.set_cons_succ]
  simp [hi, capA, hc, rowD, dMod_i hn3]
theorem F_mach {ns : List Int} {at' : Int} {n sg : Nat} (hat : 0 ≤ at') (h1 : 1 ≤ n) (h2 : n ≤ 1000) (s1 : 1 ≤ sg) (s3 : sg ≤ 3) : ∃ rs : List Rw, F__law_machine [.d (scrD ns), .d (.int at'), .d (.int n), .d (.int sg)] = .ok (.d (machD rs)) ∧ Mach rs sg ∧ rs.length = n := by
  have hr := range_dat (n := n) (by omega)
  have hn : (0 : Int) < (n : Int) := by omega
  obtain ⟨ρ', hf, rs, u5, u6, hp, hg, rfl⟩ := forF_inv (fs := stN 5) (fb := (sIf (bAnd (e1 asB (e2 dLt (e2 dAdd (rV 1) (rV 5)) (e1 dLen (rV 0)))) (e1 asB (e2 dEq (e2 dMod (e2 dIx (rV 0) (eC (.int 0))) (eC (.int 2))) (eC (.int 1))))) (sApp 4 (eA (vCall 3 F__law_digit_row (aCons (vD (e2 dIx (rV 0) (e2 dAdd (rV 1) (rV 5)))) (aCons (vV 2) (aCons (vV 3) aNil)))))) (sSeq (sSet 6 (vCall 3 F__law_mixed_row (aCons (vD (e2 dMod (eA (vCall 2 F__law_cell (aCons (vV 0) (aCons (vD (e2 dAdd (rV 1) (rV 5))) aNil)))) (eC (.int 2147483647)))) (aCons (vV 2) (aCons (vV 3) aNil)))))
  (sSeq (sIf (bAnd (e1 asB (e2 dEq (rV 5) (eC (.int 0)))) (bAnd (e1 asB (e1 (dIsT "str") (e2 dIx (rV 6) (eC (.int 0))))) (e1 asB (e2 dGt (e2 dMod (e2 dDiv (eA (vCall 2 F__law_cell (aCons (vV 0) (aCons (vV 1) aNil)))) (eC (.int 8))) (eC (.int 8))) (eC (.int 0)))))) (sSet 6 (vD (e2 dAdd (eTup (aCons (e2 dMod (e2 dDiv (eA (vCall 2 F__law_cell (aCons (vV 0) (aCons (vV 1) aNil)))) (eC (.int 64))) (rV 2)) aNil)) (eSl dSl (rV 6) (oSo (eC (.int 1))) oNo)))) sNx)
  (sApp 4 (eV 6))))))
    (d := fun i : Nat => .int (i : Int)) (xs := List.range n) (ρ := [some (.d (scrD ns)), some (.d (.int at')), some (.d (.int n)), some (.d (.int sg)), some (.l []), none, none])
    (fun i ρ => ∃ (rs : List Rw) (u5 u6 : Option A), rs.length = i ∧ (∀ r ∈ rs, r.good n ∧ r.c.length = sg) ∧ ρ = [some (.d (scrD ns)), some (.d (.int at')), some (.d (.int n)), some (.d (.int sg)), some (.l (rs.map rowD)), u5, u6]) ⟨[], none, none, rfl, fun c hc => by simp at hc, rfl⟩
    (fun i k ρ hk hρ => by
      obtain ⟨rs, u5, u6, hp, hg, rfl⟩ := hρ
      have hi : i < n := by have := (List.getElem?_eq_some_iff.mp hk).1; simpa using this
      have hl : rs.length < 16777216 := by omega
      have snoc : ∀ r : Rw, r.good n ∧ r.c.length = sg → ∀ x ∈ rs ++ [r], x.good n ∧ x.c.length = sg := fun r hr x hx => by
        rcases List.mem_append.mp hx with z | z
        · exact hg x z
        · rw [List.mem_singleton.mp z]; exact hr
      obtain ⟨v, hv⟩ := F_cell ns (at' + k)
      obtain ⟨r, hr, gr⟩ := F_mixed (v % 2147483647) (n := (n : Int)) (sg := sg) hn (by omega)
      obtain ⟨v2, hv2⟩ := F_cell ns at'
      have hsl : ∀ r : Rw, dSl (rowD r) (some 1) none = .ok (.tuple [.tuple (r.c.map cellD), r.r.d]) := fun r => by
        unfold rowD
        rw [dSl_t (by unfold HT.sIx; simp)]
        unfold cutL HT.sIx
        simp
      have put : ∀ (u5 u6 : Option A) (r : Rw), (sApp 4 (eV 6)) [some (.d (scrD ns)), some (.d (.int at')), some (.d (.int n)), some (.d (.int sg)), some (.l (rs.map rowD)), u5, some (.d (rowD r))] = .ok (.nx [some (.d (scrD ns)), some (.d (.int at')), some (.d (.int n)), some (.d (.int sg)), some (.l ((rs ++ [r]).map rowD)), u5, some (.d (rowD r))]) := fun u5 u6 r => by simp [hl]
      have mixed : ∀ ρ2, ρ2 = [some (.d (scrD ns)), some (.d (.int at')), some (.d (.int n)), some (.d (.int sg)), some (.l (rs.map rowD)), some (.d (.int k)), u6] → ∃ r2 : Rw, (r2.good n ∧ r2.c.length = sg) ∧ ∃ u6', (sSeq (sSet 6 (vCall 3 F__law_mixed_row (aCons (vD (e2 dMod (eA (vCall 2 F__law_cell (aCons (vV 0) (aCons (vD (e2 dAdd (rV 1) (rV 5))) aNil)))) (eC (.int 2147483647)))) (aCons (vV 2) (aCons (vV 3) aNil)))))
          (sSeq (sIf (bAnd (e1 asB (e2 dEq (rV 5) (eC (.int 0)))) (bAnd (e1 asB (e1 (dIsT "str") (e2 dIx (rV 6) (eC (.int 0))))) (e1 asB (e2 dGt (e2 dMod (e2 dDiv (eA (vCall 2 F__law_cell (aCons (vV 0) (aCons (vV 1) aNil)))) (eC (.int 8))) (eC (.int 8))) (eC (.int 0)))))) (sSet 6 (vD (e2 dAdd (eTup (aCons (e2 dMod (e2 dDiv (eA (vCall 2 F__law_cell (aCons (vV 0) (aCons (vV 1) aNil)))) (eC (.int 64))) (rV 2)) aNil)) (eSl dSl (rV 6) (oSo (eC (.int 1))) oNo)))) sNx)
          (sApp 4 (eV 6)))) ρ2 = .ok (.nx [some (.d (scrD ns)), some (.d (.int at')), some (.d (.int n)), some (.d (.int sg)), some (.l ((rs ++ [r2]).map rowD)), some (.d (.int k)), u6']) := by
        rintro ρ2 rfl
        by_cases c1 : k = 0
        case neg =>
          exact ⟨r, gr, some (.d (rowD r)), by simp [hv, dMod_i, hr, c1, dEq_ii, hl]⟩
        subst c1
        obtain ⟨r, hr, gr⟩ := F_mixed (v2 % 2147483647) (n := (n : Int)) (sg := sg) hn (by omega)
        have hix : dIx (rowD r) (.int 0) = .ok r.l.d := dIx_t0 _ _
        have hty : ∃ b, dIsT "str" r.l.d = .ok (.bool b) := by cases r.l <;> exact ⟨_, rfl⟩
        obtain ⟨b, hb⟩ := hty
        have hadd : dAdd (.tuple [.int (v2 / 64 % (n : Int))]) (.tuple [.tuple (r.c.map cellD), r.r.d]) = .ok (rowD ⟨.n (v2 / 64 % (n : Int)), r.c, r.r⟩) := by
          rw [dAdd_t rfl (by simp)]; rfl
        have good2 : (⟨.n (v2 / 64 % (n : Int)), r.c, r.r⟩ : Rw).good n ∧ r.c.length = sg := ⟨⟨⟨Int.emod_nonneg _ (by omega), Int.emod_lt_of_pos _ hn⟩, gr.1.2.1, gr.1.2.2⟩, gr.2⟩
        cases hbb : b with
        | false =>
          subst hbb
          exact ⟨r, gr, some (.d (rowD r)), by simp [hv2, dMod_i, hr, dEq_ii, hix, hb, hl]⟩
        | true =>
          subst hbb
          by_cases c3 : 0 < v2 / 8 % 8
          · refine ⟨⟨.n (v2 / 64 % (n : Int)), r.c, r.r⟩, good2, some (.d (rowD ⟨.n (v2 / 64 % (n : Int)), r.c, r.r⟩)), ?_⟩
            simp [hv2, dMod_i, dMod_i hn, hr, dEq_ii, hix, hb, hl, dDiv_i, c3, hsl, hadd]
          · exact ⟨r, gr, some (.d (rowD r)), by simp [hv2, dMod_i, hr, dEq_ii, hix, hb, hl, dDiv_i, c3]⟩
      obtain ⟨r2, g2, u6', hm⟩ := mixed _ rfl
      by_cases c1 : at' + (k : Int) < (ns.length : Int)
      · obtain ⟨w0, hw0⟩ := scr_ix (ns := ns) (i := 0) (Int.le_refl _) (by omega)
        by_cases c2 : w0 % 2 = 1
        · obtain ⟨w1, hw1⟩ := scr_ix (ns := ns) (i := at' + k) (by omega) c1
          obtain ⟨r3, hr3, g3⟩ := F_digit w1 (n := (n : Int)) (sg := sg) hn (by omega) (by omega)
          refine ⟨_, _, rfl, .inl ?_, rs ++ [r3], some (.d (.int k)), u6, by simp [hp], snoc r3 g3, rfl⟩
          simp [scr_len, c1, hw0, dMod_i, c2, dEq_ii, hw1, hr3, hl]
        · refine ⟨_, _, rfl, .inl ?_, rs ++ [r2], some (.d (.int k)), u6', by simp [hp], snoc r2 g2, rfl⟩
          rw [← hm]
          simp only [stN_ap, List.set_cons_succ, List.set_cons_zero]
          rw [sIf_ap]
          simp only [bAnd_ap, e1_ap, e2_ap, rV_ap, eC_ap, List.getElem?_cons_zero, List.getElem?_cons_succ, R.bind_ok, dAdd_i, scr_len, dLt_i, asB_ap, c1, decide_true, if_true, hw0, dMod_i (show (0 : Int) < 2 by decide), dEq_ii, c2, decide_false, Bool.false_eq_true, if_false]
      · refine ⟨_, _, rfl, .inl ?_, rs ++ [r2], some (.d (.int k)), u6', by simp [hp], snoc r2 g2, rfl⟩
        rw [← hm]
        simp only [stN_ap, List.set_cons_succ, List.set_cons_zero]
        rw [sIf_ap]
        simp only [bAnd_ap, e1_ap, e2_ap, rV_ap, eC_ap, List.getElem?_cons_zero, List.getElem?_cons_succ, R.bind_ok, dAdd_i, scr_len, dLt_i, asB_ap, c1, decide_false, Bool.false_eq_true, if_false])
  rw [List.length_range] at hp
  refine ⟨rs, ?_, ⟨by omega, by omega, s1, s3, fun r hr => by rw [hp]; exact hg r hr⟩, hp⟩
  unfold F__law_machine B__law_machine
  simp only [fnF_ap, List.map_cons, List.map_nil, List.cons_append, List.nil_append, List.length_cons, List.length_nil, List.replicate, sSeq_ap, sSetN_ap, nLst_ap, aNil_ap, R.bind_ok, Nat.zero_le, if_true, List.set_cons_zero, List.set_cons_succ, sFor_ap, iRange1_ap, rV_ap, List.getElem?_cons_zero, List.getElem?_cons_succ, hr, hf]
  simp [machD]
theorem str_app_len (x y : Str) : (x ++ y).cps.toList = x.cps.toList ++ y.cps.toList := by
  show (x.cps ++ y.cps).toList = _
  rw [Array.toList_append]
theorem F_strip {ns : List Int} {at' : Int} {m sg : Nat} (hat : 0 ≤ at') (hm : m ≤ 1000) (s1 : 1 ≤ sg) (s3 : sg ≤ 3) : ∃ z : Str, F__law_strip [.d (scrD ns), .d (.int at'), .d (.int m), .d (.int sg)] = .ok (.d (.str z)) ∧ Strip sg z.cps.toList ∧ z.cps.toList.length = m := by
  have hr := range_dat (n := m) (by omega)
  have hn : (0 : Int) < (sg : Int) := by omega
  have abc : ∀ y : Int, ∃ c, dIx (.str "abc") (.int (y % (sg : Int))) = .ok (.str ⟨#[c]⟩) ∧ isSign sg c = true := fun y => by
    obtain ⟨c, h1, h2⟩ := abc_mod (k := y) s1 s3
    exact ⟨c, dIx_s (by decide) h1, h2⟩
  -- by the cells
  have two : ∃ z : Str, (sRet (vD (e2 dJoin (eC (.str "")) (eL (nComp [none, some 0, some 1, some 3] (iRange1 (rV 2)) (stN 0) bYes (e2 dIx (eC (.str "abc")) (e2 dMod (eA (vCall 2 F__law_cell (aCons (vV 1) (aCons (vD (e2 dAdd (rV 2) (rV 0))) aNil)))) (rV 3)))))))) [some (.d (scrD ns)), some (.d (.int at')), some (.d (.int m)), some (.d (.int sg)), none, none, none] = .ok (.rt (.d (.str z))) ∧ Strip sg z.cps.toList ∧ z.cps.toList.length = m := by
    have hc : ∀ i : Nat, ∃ c, (e2 dIx (eC (.str "abc")) (e2 dMod (eA (vCall 2 F__law_cell (aCons (vV 1) (aCons (vD (e2 dAdd (rV 2) (rV 0))) aNil)))) (rV 3))) [some (.d (.int i)), some (.d (scrD ns)), some (.d (.int at')), some (.d (.int sg))] = .ok (.str ⟨#[c]⟩) ∧ isSign sg c = true := fun i => by
      obtain ⟨v, hv⟩ := F_cell ns (at' + i)
      obtain ⟨c, h1, h2⟩ := abc v
      exact ⟨c, by simp [hv, dMod_i hn, h1], h2⟩
    have hx := Classical.skolem.mp hc
    obtain ⟨f, hf⟩ := hx
    have h1 := compL_of (fs := stN 0) (fe := e2 dIx (eC (.str "abc")) (e2 dMod (eA (vCall 2 F__law_cell (aCons (vV 1) (aCons (vD (e2 dAdd (rV 2) (rV 0))) aNil)))) (rV 3))) (ρ0 := [none, some (.d (scrD ns)), some (.d (.int at')), some (.d (.int sg))]) (d := fun i : Nat => .int (i : Int)) (g := fun i : Nat => .str ⟨#[f i]⟩) (xs := List.range m) fun i _ => ⟨_, rfl, (hf i).1⟩
    have hst : strL ((List.range m).map fun i : Nat => PyData.str ⟨#[f i]⟩) = some (((List.range m).map f).map one) := by
      rw [List.map_map]
      generalize List.range m = l
      induction l with
      | nil => rfl
      | cons a t ih => simp only [List.map_cons, strL, ih]; rfl
    have hj : dJoin (.str "") (.list ((List.range m).map fun i : Nat => .str ⟨#[f i]⟩)) = .ok (.str ⟨((List.range m).map f).toArray⟩) := by
      show (match strL ((List.range m).map fun i : Nat => PyData.str ⟨#[f i]⟩) with | some ys => if _ then R.ok _ else .bad | none => .bad) = _
      rw [hst]
      simp only
      rw [if_pos (by rw [sum_one, List.length_map, List.length_map, List.length_range]; show m + m * 0 ≤ _; omega), join_eq]
    refine ⟨⟨((List.range m).map f).toArray⟩, ?_, ⟨by simp; omega, fun c hc => ?_⟩, by simp⟩
    · simp [hr, capA, h1, hj]
    · simp at hc
      obtain ⟨i, _, rfl⟩ := hc
      exact (hf i).2
  obtain ⟨z2, hz2, S2, l2⟩ := two
  by_cases c1 : at' < (ns.length : Int)
  · obtain ⟨w0, hw0⟩ := scr_ix (ns := ns) (i := 0) (Int.le_refl _) (by omega)
    by_cases c2 : w0 % 2 = 1
    · obtain ⟨w1, hw1⟩ := scr_ix (ns := ns) (i := at') hat c1
      obtain ⟨ρ', hf, y, z, u6, hp, hg, rfl⟩ := forF_inv (fs := stN 6) (fb := sSeq (sSet 5 (vD (e2 dAdd (rV 5) (e2 dIx (eC (.str "abc")) (e2 dMod (rV 4) (rV 3)))))) (sSet 4 (vD (e2 dDiv (rV 4) (rV 3)))))
        (d := fun i : Nat => .int (i : Int)) (xs := List.range m) (ρ := [some (.d (scrD ns)), some (.d (.int at')), some (.d (.int m)), some (.d (.int sg)), some (.d (.int w1)), some (.d (.str "")), none])
        (fun i ρ => ∃ (y : Int) (z : Str) (u6 : Option A), z.cps.toList.length = i ∧ (∀ c ∈ z.cps.toList, isSign sg c = true) ∧ ρ = [some (.d (scrD ns)), some (.d (.int at')), some (.d (.int m)), some (.d (.int sg)), some (.d (.int y)), some (.d (.str z)), u6]) ⟨w1, "", none, rfl, fun c hc => (nomatch (show c ∈ ([] : List Nat) from hc)), rfl⟩
        (fun i k ρ hk hρ => by
          obtain ⟨y, z, u6, hp, hg, rfl⟩ := hρ
          have hi : i < m := by have := (List.getElem?_eq_some_iff.mp hk).1; simpa using this
          obtain ⟨c, h1, h2⟩ := abc y
          have hadd : dAdd (.str z) (.str ⟨#[c]⟩) = .ok (.str (z ++ ⟨#[c]⟩)) := dAdd_s (by
            have : z.length = z.cps.toList.length := by simp [Str.length]
            show z.length + 1 ≤ _
            omega)
          refine ⟨_, _, rfl, .inl ?_, y / sg, z ++ ⟨#[c]⟩, some (.d (.int k)), by rw [str_app_len, List.length_append, hp]; rfl, fun x hx => ?_, rfl⟩
          · simp [dMod_i hn, h1, hadd, dDiv_i hn (show (sg : Int) < 18446744073709551616 by omega)]
          · rw [str_app_len] at hx
            rcases List.mem_append.mp hx with q | q
            · exact hg x q
            · have : x = c := by simpa using q
              rw [this]; exact h2)
      rw [List.length_range] at hp
      refine ⟨z, ?_, ⟨by omega, hg⟩, hp⟩
      unfold F__law_strip B__law_strip
      simp only [fnF_ap, List.map_cons, List.map_nil, List.cons_append, List.nil_append, List.length_cons, List.length_nil, List.replicate, sSeq_ap, sIf_ap, bAnd_ap, e1_ap, e2_ap, rV_ap, eC_ap, List.getElem?_cons_zero, List.getElem?_cons_succ, R.bind_ok, scr_len, dLt_i, asB_ap, c1, decide_true, if_true, hw0, dMod_i (show (0 : Int) < 2 by decide), dEq_ii, c2, sSet_ap, vD_ap, hw1, List.set_cons_zero, List.set_cons_succ, sFor_ap, iRange1_ap, hr, hf, sRet_ap, vV_ap]
    · refine ⟨z2, ?_, S2, l2⟩
      unfold F__law_strip B__law_strip
      simp only [fnF_ap, List.map_cons, List.map_nil, List.cons_append, List.nil_append, List.length_cons, List.length_nil, List.replicate]
      rw [sSeq_ap, sIf_ap]
      simp only [bAnd_ap, e1_ap, e2_ap, rV_ap, eC_ap, List.getElem?_cons_zero, List.getElem?_cons_succ, R.bind_ok, scr_len, dLt_i, asB_ap, c1, decide_true, if_true, hw0, dMod_i (show (0 : Int) < 2 by decide), dEq_ii, c2, decide_false, Bool.false_eq_true, if_false, sNx_ap]
      rw [hz2]; rfl
  · refine ⟨z2, ?_, S2, l2⟩
    unfold F__law_strip B__law_strip
    simp only [fnF_ap, List.map_cons, List.map_nil, List.cons_append, List.nil_append, List.length_cons, List.length_nil, List.replicate]
    rw [sSeq_ap, sIf_ap]
    simp only [bAnd_ap, e1_ap, e2_ap, rV_ap, eC_ap, List.getElem?_cons_zero, List.getElem?_cons_succ, R.bind_ok, scr_len, dLt_i, asB_ap, c1, decide_false, Bool.false_eq_true, if_false, sNx_ap]
    rw [hz2]; rfl
end Mc
namespace Mc
open PySem L2 PyProof.Rows Fl
end Mc
namespace Mc
open PySem L2 PyProof.Rows Fl
theorem eqv_tb (t : Tb) : (tbD t).eqv (tbD t) = true := eqv_tab (tb_things _) (tb_things _)
end Mc
namespace Mc
open PySem L2 PyProof.Rows
/-! ### the word of a walk, and by a table -/
def walkSt (rs : List Rw) (z : List Nat) (s : Int × Int) : Option ((Int × Int) ⊕ Str) :=
  match (cellAt rs z s).1 with
  | .w x => some (.inr x)
  | .n q => some (.inl (s.1 + (cellAt rs z s).2, q))
end Mc
namespace Mc
open PySem L2 PyProof.Rows Fl
/-! ### one step, as the laws take it -/
theorem row_ix {rs : List Rw} {q : Int} (h0 : 0 ≤ q) (h1 : q < (rs.length : Int)) : dIx (machD rs) (.int q) = .ok (rowD (rowAt rs q)) := dIx_t (atI_int h0 (by rw [List.getElem?_map, rowAt_mem h0 h1]; rfl))
theorem str_len (z : Str) : z.length = z.cps.toList.length := by simp [Str.length]
/-- how a walk ends -/
def Ends (rs : List Rw) (z : List Nat) (s : Int × Int) : Prop := Valid rs z s ∧ ((stepM rs z s = none ∧ ∃ x, (cellAt rs z s).1 = .w x ∧ resOf (walkSt rs z) (0, 0) = some x) ∨ ((∃ s', stepM rs z s = some s') ∧ resOf (walkSt rs z) (0, 0) = none))
end Mc
namespace Mc
open PySem L2 PyProof.Rows Fl
end Mc
namespace Mc
open PySem L2 PyProof.Rows
/-! ### goings by gates: what is between two gates is gone through by a going of its own -/
section
variable {S T O Q : Type}
structure Gates (st : S → Option (S ⊕ O)) (sub : S → Option (S ⊕ Q)) (ext : Q → T ⊕ O) (g : T → S) (ent : T → S ⊕ O) (Dom : S → Prop) (TV : T → Prop) : Prop where
  step : ∀ s, Dom s → (∃ s', sub s = some (.inl s') ∧ st s = some (.inl s') ∧ Dom s') ∨ (∃ e t, sub s = some (.inr e) ∧ ext e = .inl t ∧ st s = some (.inl (g t)) ∧ TV t) ∨ ∃ e o, sub s = some (.inr e) ∧ ext e = .inr o ∧ st s = some (.inr o)
  gate : ∀ t, TV t → (∃ s, ent t = .inl s ∧ st (g t) = some (.inl s) ∧ Dom s) ∨ ∃ o, ent t = .inr o ∧ st (g t) = some (.inr o)
variable {st : S → Option (S ⊕ O)} {sub : S → Option (S ⊕ Q)} {ext : Q → T ⊕ O} {g : T → S} {ent : T → S ⊕ O} {Dom : S → Prop} {TV : T → Prop}
end
end Mc
namespace Mc
open PySem L2 PyProof.Rows Fl
/-! ### beginnings, as the program tells them -/
noncomputable def oT : Sg → R Bool := (bNot (e1 asB (eA (vCall 1 F_is_word (aCons (vV 2) aNil)))))
end Mc
namespace Mc
open PySem L2 PyProof.Rows Fl
end Mc
namespace Mc
open PySem L2 PyProof.Rows Fl
end Mc
namespace Mc
open PySem L2 PyProof.Rows Fl
end Mc
namespace Mc
open PySem L2 PyProof.Rows Fl
end Mc
namespace Fl
open PySem L2 PyProof.Rows
@[simp] theorem sMLit_ap (i : Nat) (f : Sg → R (List (PyData × PyData))) (ρ : Sg) : sMLit i f ρ = (f ρ).bind fun kvs => (putAll [] kvs).bind fun res => .ok (.nx (ρ.set i (some (.m res)))) := id rfl
@[simp] theorem pNil_ap (ρ : Sg) : pNil ρ = .ok [] := id rfl
@[simp] theorem pCons_ap (f g : Sg → R PyData) (r : Sg → R (List (PyData × PyData))) (ρ : Sg) : pCons f g r ρ = (f ρ).bind fun x => (g ρ).bind fun y => (r ρ).bind fun t => .ok ((x, y) :: t) := id rfl
@[simp] theorem eMGet2_ap (i : Nat) (f g : Sg → R PyData) (ρ : Sg) : eMGet2 i f g ρ = match ρ[i]? with | some (some (.m kvs)) => (f ρ).bind fun k => (g ρ).bind fun y => if sameK k (kvs.map (·.1)) = true then .ok ((getM kvs k).getD y) else .bad | _ => .bad := id rfl
end Fl
namespace Mc
open PySem L2 PyProof.Rows Fl
end Mc
namespace Mc
open PySem L2 PyProof.Rows Fl
/-! ### the laws' table, by walking within -/
noncomputable def wnT : Sg → R Bool := (e1 asB (eCh dLt dLe (eC (.int 0)) (rV 2) (e1 dLen (rV 1))))
noncomputable def wnB : Sg → R Fw := (sSeq (sIf (e1 asB (eMIn false 4 (eTup (aCons (eV 2) (aCons (eV 3) aNil))))) (sRet (vD (eC .none))) sNx)
  (sSeq (sMPut 4 (eTup (aCons (eV 2) (aCons (eV 3) aNil))) (eC (.bool true)))
  (sSeq (sTup (stT [(stN 3), (stN 5)]) (e2 dIx (e2 dIx (e2 dIx (rV 0) (rV 3)) (eC (.int 1))) (e2 dIndex (eC (.str "abc")) (e2 dIx (rV 1) (e2 dSub (rV 2) (eC (.int 1)))))))
  (sSet 2 (vD (e2 dAdd (rV 2) (rV 5)))))))
noncomputable def wnR : Sg → R Fw := (sRet (vD (eTup (aCons (e2 dIx (eL (nLst (aCons (e1 dNeg (eC (.int 1))) (aCons (eC (.int 1)) aNil)))) (e1 dInt (e2 dGt (rV 2) (eC (.int 0))))) (aCons (eV 3) aNil)))))
theorem within_def : B__law_within = sSeq (sMNew 4) (sSeq (sWhile wnT wnB) wnR) := id rfl
noncomputable def wnρ (rs : List Rw) (z : Str) (s : Int × Int) (ps : List (Int × Int)) (u : Option A) : Sg := [some (.d (machD rs)), some (.d (.str z)), some (.d (.int s.1)), some (.d (.int s.2)), some (.m (been prD ps)), u]
theorem prD_mk (p q : Int) : PyData.tuple [.int p, .int q] = prD (p, q) := rfl
section
variable {rs : List Rw} {sg : Nat} {z : Str} {s : Int × Int} {ps : List (Int × Int)} {u : Option A}
theorem wnT_in (hz : z.length ≤ 16777216) (V : WithV rs z.cps.toList s) : wnT (wnρ rs z s ps u) = .ok true := by
  have hl := dLen_s hz
  rw [str_len] at hl
  have h1 : (0 : Int) < s.1 := by have := V.1; omega
  have h2 := V.2.1
  simp [wnT, wnρ, hl, h1]
  simpa using h2
theorem wnT_out (hz : z.length ≤ 16777216) (h : ¬ (0 < s.1 ∧ s.1 ≤ (z.cps.toList.length : Int))) : wnT (wnρ rs z s ps u) = .ok false := by
  have hl := dLen_s hz
  rw [str_len] at hl
  by_cases h1 : 0 < s.1
  · have h2 : ¬ s.1 ≤ (z.cps.toList.length : Int) := fun q => h ⟨h1, q⟩
    simp [wnT, wnρ, hl, h1]
    simpa using h2
  · simp [wnT, wnρ, hl, h1]
theorem wnB_met (h : s ∈ ps) : wnB (wnρ rs z s ps u) = .ok (.rt (.d .none)) := by
  have h1 := been_same prD_tup ps s
  have h2 := (been_has prD_inj).mpr h
  rw [← prD_mk] at h1 h2
  simp [wnB, wnρ, h1, h2]
theorem wnB_go (M : Mach rs sg) (S : Strip sg z.cps.toList) (V : WithV rs z.cps.toList s) (h : s ∉ ps) (hp : ps.length ≤ 2000000) : ∃ cc : Int × Int, (rowAt rs s.2).c.getD (z.cps.toList.getD (s.1.toNat - 1) 97 - 97) (0, 0) = cc ∧ wnB (wnρ rs z s ps u) = .ok (.nx (wnρ rs z (s.1 + cc.2, cc.1) (ps ++ [s]) (some (.d (.int cc.2))))) := by
  obtain ⟨ch, cc, a1, a2, a3, b1, b2, b3⟩ := with_cell M S V
  refine ⟨cc, by rw [a3]; exact b2, ?_⟩
  have h1 := been_same prD_tup ps s
  have h2 := been_hasF prD_inj h
  have h3 := been_put prD_inj h
  have h4 : (been prD ps).length ≤ 16777216 := by rw [been_len]; omega
  rw [← prD_mk] at h1 h2 h3
  have hr := row_ix V.2.2.1 V.2.2.2
  have hz : z.length ≤ 16777216 := by rw [str_len]; have := S.1; omega
  have ix : dIx (.str z) (.int (s.1 - 1)) = .ok (.str ⟨#[ch]⟩) := dIx_s hz (atI_int (by have := V.1; omega) (by rw [← a1]; congr 1; have := V.1; omega))
  have id := idx_abc (isSign_3 M.sg3 a2)
  have ic : dIx (.tuple ((rowAt rs s.2).c.map cellD)) (.int ((ch - 97 : Nat) : Int)) = .ok (cellD cc) := dIx_t (atI_nat (by rw [List.getElem?_map, b1]; rfl))
  simp [wnB, wnρ, h1, h2, h3, h4, hr, rowD, ix, id, ic, cellD]
theorem wnR_ok : wnR (wnρ rs z s ps u) = .ok (.rt (.d (thD (some ((if 0 < s.1 then 1 else -1), s.2))))) := by
  by_cases h : 0 < s.1
  · simp [wnR, wnρ, h, thD, thingD]
  · simp [wnR, wnρ, h, thD, thingD]
theorem within_loop (M : Mach rs sg) (S : Strip sg z.cps.toList) (s0 : Int × Int) : ∀ (k : Nat) (ps : List (Int × Int)) (s : Int × Int) (u : Option A), Und2 (withSt rs z.cps.toList) s0 ps s → (∀ p ∈ ps, WithV rs z.cps.toList p) → WithV rs z.cps.toList s → (z.cps.toList.length + 2) * rs.length + 1 ≤ ps.length + k →
    sSeq (sWhile wnT wnB) wnR (wnρ rs z s ps u) = .ok (.rt (.d (thD (resOf (withSt rs z.cps.toList) s0)))) := by
  have hz : z.length ≤ 16777216 := by rw [str_len]; have := S.1; omega
  have hB : (z.cps.toList.length + 2) * rs.length ≤ 1002 * 1000 := Nat.mul_le_mul (by have := S.1; omega) M.len2
  intro k
  induction k with
  | zero =>
    intro ps s u U hv V hk
    have := stands_few U.nd fun p hp => (hv p hp).valid
    omega
  | succ k ih =>
    intro ps s u U hv V hk
    have hp : ps.length ≤ 2000000 := by
      have := stands_few U.nd fun p hp => (hv p hp).valid
      omega
    by_cases hs : s ∈ ps
    · rw [sSeq_ap, sWhile_rt (wnT_in hz V) (wnB_met hs), U.met hs]; rfl
    · obtain ⟨cc, hc, hb⟩ := wnB_go (u := u) M S V hs hp
      rw [sSeq_ap, sWhile_nx (wnT_in hz V) hb]
      have hw : withSt rs z.cps.toList s = if 0 < s.1 + cc.2 ∧ s.1 + cc.2 ≤ (z.cps.toList.length : Int) then some (.inl (s.1 + cc.2, cc.1)) else some (.inr ((if 0 < s.1 + cc.2 then 1 else -1), cc.1)) := by
        unfold withSt
        rw [hc]
      by_cases hin : 0 < s.1 + cc.2 ∧ s.1 + cc.2 ≤ (z.cps.toList.length : Int)
      · rw [if_pos hin] at hw
        rcases with_step M S V 1 with ⟨s', e, V', _⟩ | ⟨o, e, _⟩
        · rw [hw] at e
          cases e
          have := ih (ps ++ [s]) (s.1 + cc.2, cc.1) (some (.d (.int cc.2))) (U.next hs hw) (fun p hp => by
            rcases List.mem_append.mp hp with q | q
            · exact hv p q
            · rw [List.mem_singleton.mp q]; exact V) V' (by rw [List.length_append, List.length_singleton]; omega)
          rw [sSeq_ap] at this
          exact this
        · rw [hw] at e; cases e
      · rw [if_neg hin] at hw
        rw [sWhile_ff (wnT_out hz hin), U.outs hw, R.bind_ok]
        simp only [wnR_ok]
theorem F_within (M : Mach rs sg) (S : Strip sg z.cps.toList) {p q : Int} (hp0 : 0 ≤ p) (hp1 : p ≤ (z.cps.toList.length : Int) + 1) (hq0 : 0 ≤ q) (hq1 : q < (rs.length : Int)) : F__law_within [.d (machD rs), .d (.str z), .d (.int p), .d (.int q)] = .ok (.d (thD (withR rs z.cps.toList p q))) := by
  have hz : z.length ≤ 16777216 := by rw [str_len]; have := S.1; omega
  have h : sSeq (sWhile wnT wnB) wnR (wnρ rs z (p, q) [] none) = .ok (.rt (.d (thD (withR rs z.cps.toList p q)))) := by
    unfold withR
    by_cases hin : 1 ≤ p ∧ p ≤ (z.cps.toList.length : Int)
    · rw [if_pos hin]
      exact within_loop M S (p, q) ((z.cps.toList.length + 2) * rs.length + 1) [] (p, q) none Und2.start (fun p hp => by simp at hp) ⟨hin.1, hin.2, hq0, hq1⟩ (by simp)
    · rw [if_neg hin, sSeq_ap, sWhile_ff (wnT_out hz (by show ¬ (0 < p ∧ p ≤ _); omega)), R.bind_ok]
      simp only [wnR_ok]
  unfold F__law_within
  rw [within_def]
  simp only [fnF_ap, sSeq_ap, sMNew_ap, R.bind_ok, List.map_cons, List.map_nil, List.cons_append, List.nil_append, List.length_cons, List.length_nil, List.replicate, Nat.reduceAdd, Nat.reduceSub, List.set_cons_zero, List.set_cons_succ]
  rw [sSeq_ap] at h
  simp only [wnρ, been, List.map_nil] at h
  rw [h]; rfl
theorem F_ltab (M : Mach rs sg) (S : Strip sg z.cps.toList) : F__law_table [.d (machD rs), .d (.str z)] = .ok (.d (tbD (stripT rs z.cps.toList))) := by
  have hz : z.length ≤ 16777216 := by rw [str_len]; have := S.1; omega
  have hlz := dLen_s hz
  rw [str_len] at hlz
  have hlen : dLen (machD rs) = .ok (.int rs.length) := by unfold machD; rw [dLen_t, List.length_map]
  have hl2 := M.len2
  have hLR : dLR (.int (rs.length : Int)) = .ok ((List.range rs.length).map fun i : Nat => .int (i : Int)) := by
    unfold dLR
    simp only
    rw [if_pos (by omega), Int.toNat_natCast]
  have hit : dItems (.list ((List.range rs.length).map fun i : Nat => PyData.int (i : Int))) = .ok ((List.range rs.length).map fun i : Nat => .int (i : Int)) := dItems_l (by simp; omega)
  have hc1 := compL_of (fs := stN 0) (fe := (eA (vCall 4 F__law_within (aCons (vV 1) (aCons (vV 2) (aCons (vD (eC (.int 1))) (aCons (vV 0) aNil))))))) (ρ0 := [none, some (.d (machD rs)), some (.d (.str z))]) (d := fun i : Nat => PyData.int (i : Int)) (g := fun q : Nat => thD (withR rs z.cps.toList 1 (q : Int))) (xs := List.range rs.length) fun q hq => ⟨_, rfl, by
    have hq := List.mem_range.mp hq
    have f := F_within (p := 1) (q := (q : Int)) M S (by omega) (by omega) (by omega) (by omega)
    simp [f]⟩
  have hc2 := compL_of (fs := stN 0) (fe := (eA (vCall 4 F__law_within (aCons (vV 1) (aCons (vV 2) (aCons (vD (e1 dLen (rV 2))) (aCons (vV 0) aNil))))))) (ρ0 := [none, some (.d (machD rs)), some (.d (.str z))]) (d := fun i : Nat => PyData.int (i : Int)) (g := fun q : Nat => thD (withR rs z.cps.toList (z.cps.toList.length : Int) (q : Int))) (xs := List.range rs.length) fun q hq => ⟨_, rfl, by
    have hq := List.mem_range.mp hq
    have f := F_within (p := (z.cps.toList.length : Int)) (q := (q : Int)) M S (by omega) (by omega) (by omega) (by omega)
    simp only [Array.length_toList] at f hlz
    simp [hlz, f]⟩
  obtain ⟨t1, t2⟩ := within_tab M S
  have e1 : (stripT rs z.cps.toList).f.map thD = (List.range rs.length).map fun q : Nat => thD (withR rs z.cps.toList 1 (q : Int)) := by rw [t1, List.map_map]; rfl
  have e2 : (stripT rs z.cps.toList).a.map thD = (List.range rs.length).map fun q : Nat => thD (withR rs z.cps.toList (z.cps.toList.length : Int) (q : Int)) := by rw [t2, List.map_map]; rfl
  unfold F__law_table B__law_table tbD tabD
  rw [e1, e2]
  simp only [fnF_ap, sSeq_ap, sSetN_ap, e1_ap, rV_ap, R.bind_ok, List.map_cons, List.map_nil, List.cons_append, List.nil_append, List.length_cons, List.length_nil, List.replicate, Nat.reduceAdd, Nat.reduceSub, List.set_cons_zero, List.set_cons_succ, List.getElem?_cons_zero, List.getElem?_cons_succ, hlen, hLR, nComp_ap, hit, capA, Option.bind, Option.join_some, hc1, hc2]
  simp
end
end Mc
namespace L2
open PySem PySem.Spec PyProof.Rows
end L2
namespace Mc
open PySem L2 PyProof.Rows Fl
/-! ### what a search reaches -/
@[simp] theorem eClo_ap (m i : Nat) (f : Sg → R (List PyData)) (ρ : Sg) : eClo m i f ρ = match ρ[i]? with | some (some (.g k n G)) => (f ρ).bind fun ds => if k ≤ m ∧ ds.length = n then G ds else .bad | _ => .bad := id rfl
@[simp] theorem eCloR_ap (m i : Nat) (f : Sg → R (List PyData)) (ρ : Sg) : eCloR m i f ρ = match ρ[i]? with | some (some (.g k n G)) => (f ρ).bind fun ds => if k ≤ m ∧ ds.length = n then (match G ds with | .ok d => if flatD d = true then .ok d else .bad | _ => .bad) else .bad | _ => .bad := id rfl
structure Srch where
  after : PyData → List PyData
  x0 : PyData
  good : Nat → PyData → Prop
  lim : Nat
  k1 : Nat
  k2 : Nat
  G : List PyData → R PyData
  D : List PyData → R PyData
structure Srch.ok (S : Srch) : Prop where
  g0 : S.good 0 S.x0
  gs : ∀ i x, S.good i x → i ≤ S.lim → ∀ y ∈ S.after x, S.good (i + 1) y
  up : ∀ i j x, i ≤ j → S.good i x → S.good j x
  few : ∀ xs : List PyData, xs.Nodup → (∀ x ∈ xs, ∃ i, S.good i x) → xs.length ≤ S.lim
  key : ∀ i x, S.good i x → tupK x = true
  hk1 : S.k1 ≤ 12
  hk2 : S.k2 ≤ 12
  hG : ∀ i x, i ≤ S.lim → S.good i x → S.G [x] = .ok (.list (S.after x)) ∧ (S.after x).length ≤ 16777216
  hD : ∀ (fs : List PyData) (i : Int), fs.length ≤ S.lim → S.D [.list fs, .int i] = .ok (.bool false)
  hl : S.lim ≤ 16000000
/-- a row of numbers tells what is after x -/
def RowOf (fs : List PyData) (js : List Nat) (ys : List PyData) : Prop := js.length = ys.length ∧ ∀ (c : Nat) (y : PyData), ys[c]? = some y → ∃ j, js[c]? = some j ∧ fs[j]? = some y
structure Fnd (S : Srch) (fs : List PyData) : Prop where
  nd : fs.Nodup
  gd : ∀ (i : Nat) (x : PyData), fs[i]? = some x → S.good i x
/-- all that is reached -/
structure Rchd (S : Srch) (fs : List PyData) (gs : List (List Nat)) : Prop where
  fnd : Fnd S fs
  len : gs.length = fs.length
  zer : fs[0]? = some S.x0
  row : ∀ (i : Nat) (js : List Nat) (x : PyData), gs[i]? = some js → fs[i]? = some x → RowOf fs js (S.after x)
end Mc
namespace Mc
open PySem L2 PyProof.Rows Fl
end Mc
namespace Mc
open PySem L2 PyProof.Rows Fl
theorem keys_all : ∀ {xs : List PyData}, (∀ x ∈ xs, keyD x = true) → keysD xs = true
  | [], _ => rfl
  | x :: t, h => by
    show (keyD x && keysD t) = true
    rw [h x (List.mem_cons_self ..), keys_all fun y hy => h y (List.mem_cons_of_mem _ hy)]; rfl
end Mc
namespace Mc
open PySem L2 PyProof.Rows Fl
/-! ### few beginnings -/
def tc (m : Nat) : Tn → Nat
  | .n i => i.toNat
  | .w x => if x = "by" then m else if x = "out" then m + 1 else m + 2
/-- counters of the first and the last sign: rooms below p count, room p goes back, those behind count on a second way -/
structure Ctr (rs : List Rw) (sg p q : Nat) : Prop where
  len : rs.length = p + 1 + q
  p1 : 1 ≤ p
  p5 : p ≤ 5
  q1 : 1 ≤ q
  q5 : q ≤ 5
  lef : (rowAt rs 0).l = .n 0
  mid : (rowAt rs (p : Int)).l = .n ((p : Int) + 1)
  a : ∀ i : Nat, i < p → ∀ k, k < sg → ck k (rowAt rs (i : Int)) = ((((i + (if k = 0 then 1 else 0)) % p : Nat) : Int), 1)
  b : ∀ k, k < sg → ck k (rowAt rs (p : Int)) = ((p : Int), -1)
  c : ∀ j : Nat, j < q → ∀ k, k < sg → ck k (rowAt rs ((p + 1 + j : Nat) : Int)) = (((p + 1 + (j + (if k = sg - 1 then 1 else 0)) % q : Nat) : Int), 1)
theorem snoc_ind {P : List Nat → Prop} (h0 : P []) (hs : ∀ z c, P z → P (z ++ [c])) (z : List Nat) : P z := by
  rw [← List.reverse_reverse z]
  induction z.reverse with
  | nil => exact h0
  | cons c t ih => rw [List.reverse_cons]; exact hs _ _ ih
theorem strip_init {sg c : Nat} {z : List Nat} (S : Strip sg (z ++ [c])) : Strip sg z ∧ isSign sg c = true := ⟨⟨by have := S.1; simp at this; omega, fun c hc => S.2 c (List.mem_append_left _ hc)⟩, S.2 c (by simp)⟩
end Mc
namespace Mb
/-! ### breadth first: the first strips of all values of a fold -/
open Classical
section
variable {τ : Type} (g : τ → Nat → τ) (t0 : τ) (cs : List Nat)
def Tt (z : List Nat) : τ := z.foldl g t0
noncomputable def addF (f : List (List Nat)) (z : List Nat) : List (List Nat) := if Tt g t0 z ∈ f.map (Tt g t0) then f else f ++ [z]
noncomputable def addAll (f l : List (List Nat)) : List (List Nat) := l.foldl (addF g t0) f
def kids (l : List (List Nat)) : List (List Nat) := l.flatMap fun z => cs.map fun c => z ++ [c]
def lev : Nat → List (List Nat)
  | 0 => [[]]
  | n + 1 => kids cs (lev n)
noncomputable def fsts : Nat → List (List Nat)
  | 0 => [[]]
  | n + 1 => addAll g t0 (fsts n) (lev cs (n + 1))
variable {g t0 cs}
theorem Tt_snoc (z : List Nat) (c : Nat) : Tt g t0 (z ++ [c]) = g (Tt g t0 z) c := by unfold Tt; rw [List.foldl_append]; rfl
theorem Tt_cong {y z : List Nat} (h : Tt g t0 y = Tt g t0 z) (c : Nat) : Tt g t0 (y ++ [c]) = Tt g t0 (z ++ [c]) := by rw [Tt_snoc, Tt_snoc, h]
theorem addAll_nil (f : List (List Nat)) : addAll g t0 f [] = f := rfl
theorem addAll_cons (f : List (List Nat)) (z : List Nat) (l : List (List Nat)) : addAll g t0 f (z :: l) = addAll g t0 (addF g t0 f z) l := rfl
theorem addAll_app (f l l2 : List (List Nat)) : addAll g t0 f (l ++ l2) = addAll g t0 (addAll g t0 f l) l2 := by unfold addAll; rw [List.foldl_append]
theorem addF_mono {f : List (List Nat)} {z : List Nat} {t : τ} (h : t ∈ f.map (Tt g t0)) : t ∈ (addF g t0 f z).map (Tt g t0) := by
  unfold addF
  split
  · exact h
  · rw [List.map_append]; exact List.mem_append_left _ h
theorem addF_has (f : List (List Nat)) (z : List Nat) : Tt g t0 z ∈ (addF g t0 f z).map (Tt g t0) := by
  unfold addF
  split
  · assumption
  · rw [List.map_append]; exact List.mem_append_right _ (by simp)
theorem addAll_mono {l : List (List Nat)} : ∀ {f : List (List Nat)} {t : τ}, t ∈ f.map (Tt g t0) → t ∈ (addAll g t0 f l).map (Tt g t0) := by
  induction l with
  | nil => intro f t h; exact h
  | cons z l ih => intro f t h; rw [addAll_cons]; exact ih (addF_mono h)
theorem addAll_has {l : List (List Nat)} : ∀ {f : List (List Nat)} {z : List Nat}, z ∈ l → Tt g t0 z ∈ (addAll g t0 f l).map (Tt g t0) := by
  induction l with
  | nil => intro f z h; cases h
  | cons y l ih =>
    intro f z h
    rw [addAll_cons]
    rcases List.mem_cons.mp h with rfl | h
    · exact addAll_mono (addF_has f z)
    · exact ih h
/-- what is known already changes nothing -/
theorem addAll_known {l : List (List Nat)} : ∀ {f : List (List Nat)}, (∀ z ∈ l, Tt g t0 z ∈ f.map (Tt g t0)) → addAll g t0 f l = f := by
  induction l with
  | nil => intro f _; rfl
  | cons z l ih =>
    intro f h
    rw [addAll_cons]
    have : addF g t0 f z = f := by unfold addF; rw [if_pos (h z List.mem_cons_self)]
    rw [this]
    exact ih fun y hy => h y (List.mem_cons_of_mem _ hy)
theorem kids_app (a b : List (List Nat)) : kids cs (a ++ b) = kids cs a ++ kids cs b := by unfold kids; rw [List.flatMap_append]
theorem kids_mem {l : List (List Nat)} {x : List Nat} : x ∈ kids cs l ↔ ∃ z ∈ l, ∃ c ∈ cs, x = z ++ [c] := by
  unfold kids
  rw [List.mem_flatMap]
  constructor
  · rintro ⟨z, hz, h⟩
    obtain ⟨c, hc, e⟩ := List.mem_map.mp h
    exact ⟨z, hz, c, hc, e.symm⟩
  · rintro ⟨z, hz, c, hc, e⟩
    exact ⟨z, hz, List.mem_map.mpr ⟨c, hc, e.symm⟩⟩
/-- the children of what is not kept bring nothing new -/
theorem skip {f : List (List Nat)} {keep : List Nat → Prop} (r : List (List Nat)) : (∀ P1 z P2, r.reverse = P1 ++ z :: P2 → ¬ keep z → ∃ y, Tt g t0 y = Tt g t0 z ∧ ((∀ c ∈ cs, Tt g t0 (y ++ [c]) ∈ f.map (Tt g t0)) ∨ y ∈ P1)) →
    addAll g t0 f (kids cs r.reverse) = addAll g t0 f (kids cs (r.reverse.filter fun z => decide (keep z))) := by
  induction r with
  | nil => intro _; rfl
  | cons z r ih =>
    intro h
    rw [List.reverse_cons] at h ⊢
    have ih' := ih fun P1 y P2 e hk => h P1 y (P2 ++ [z]) (by rw [e, List.append_assoc]; rfl) hk
    rw [kids_app, addAll_app, List.filter_append]
    by_cases hk : keep z
    · have : [z].filter (fun z => decide (keep z)) = [z] := by simp [hk]
      rw [this, kids_app, addAll_app, ih']
    · have : [z].filter (fun z => decide (keep z)) = [] := by simp [hk]
      rw [this, List.append_nil, ← ih']
      obtain ⟨y, hy, hc⟩ := h r.reverse z [] rfl hk
      refine addAll_known fun x hx => ?_
      obtain ⟨z', hz', c, hcc, rfl⟩ := kids_mem.mp hx
      rw [List.mem_singleton.mp hz', ← Tt_cong hy c]
      rcases hc with hc | hc
      · exact addAll_mono (hc c hcc)
      · exact addAll_has (kids_mem.mpr ⟨y, hc, c, hcc, rfl⟩)
variable (g t0) in
noncomputable def newL : List (List Nat) → List (List Nat) → List (List Nat)
  | _, [] => []
  | f, z :: l => if Tt g t0 z ∈ f.map (Tt g t0) then newL f l else z :: newL (f ++ [z]) l
theorem addAll_new : ∀ {l f : List (List Nat)}, addAll g t0 f l = f ++ newL g t0 f l
  | [], f => by rw [addAll_nil, newL, List.append_nil]
  | z :: l, f => by
    rw [addAll_cons, newL]
    unfold addF
    split
    · exact addAll_new
    · rw [addAll_new, List.append_assoc]; rfl
theorem newL_sub : ∀ {l f : List (List Nat)}, (newL g t0 f l).Sublist l
  | [], f => by rw [newL]; exact List.Sublist.refl _
  | z :: l, f => by
    rw [newL]
    split
    · exact newL_sub.cons z
    · exact newL_sub.cons_cons z
theorem newL_not : ∀ {P1 : List (List Nat)} {f : List (List Nat)} {z : List Nat} {P2 : List (List Nat)}, z ∉ newL g t0 f (P1 ++ z :: P2) → ∃ y, Tt g t0 y = Tt g t0 z ∧ (y ∈ f ∨ (y ∈ P1 ∧ y ∈ newL g t0 f (P1 ++ z :: P2)))
  | [], f, z, P2, h => by
    rw [List.nil_append, newL] at h
    by_cases hk : Tt g t0 z ∈ f.map (Tt g t0)
    · obtain ⟨y, hy, e⟩ := List.mem_map.mp hk
      exact ⟨y, e, .inl hy⟩
    · rw [if_neg hk] at h
      exact absurd List.mem_cons_self h
  | p :: P1, f, z, P2, h => by
    rw [List.cons_append, newL] at h ⊢
    by_cases hk : Tt g t0 p ∈ f.map (Tt g t0)
    · rw [if_pos hk] at h ⊢
      obtain ⟨y, e, q⟩ := newL_not h
      exact ⟨y, e, q.imp id fun q => ⟨List.mem_cons_of_mem _ q.1, q.2⟩⟩
    · rw [if_neg hk] at h ⊢
      obtain ⟨y, e, q⟩ := newL_not (fun z => h (List.mem_cons_of_mem _ z))
      rcases q with q | q
      · rcases List.mem_append.mp q with q | q
        · exact ⟨y, e, .inl q⟩
        · obtain rfl := List.mem_singleton.mp q
          exact ⟨y, e, .inr ⟨List.mem_cons_self, List.mem_cons_self⟩⟩
      · exact ⟨y, e, .inr ⟨List.mem_cons_of_mem _ q.1, List.mem_cons_of_mem _ q.2⟩⟩
/-- values that differ -/
theorem addF_nd {f : List (List Nat)} {z : List Nat} (h : (f.map (Tt g t0)).Nodup) : ((addF g t0 f z).map (Tt g t0)).Nodup := by
  unfold addF
  split
  · exact h
  · rename_i hn
    rw [List.map_append, List.nodup_append]
    refine ⟨h, by simp, fun a ha b hb e => ?_⟩
    rw [List.map_cons, List.map_nil, List.mem_singleton] at hb
    subst hb e
    exact hn ha
theorem addAll_nd : ∀ {l f : List (List Nat)}, (f.map (Tt g t0)).Nodup → ((addAll g t0 f l).map (Tt g t0)).Nodup
  | [], _, h => h
  | z :: l, f, h => by rw [addAll_cons]; exact addAll_nd (addF_nd h)
/-! ### in order -/
theorem lex_app (z : List Nat) {c d : Nat} (h : c < d) : List.Lex (· < ·) (z ++ [c]) (z ++ [d]) := by
  induction z with
  | nil => exact .rel h
  | cons a z ih => exact .cons ih
theorem lex_snoc {y z : List Nat} (h : List.Lex (· < ·) y z) : y.length = z.length → ∀ c d : Nat, List.Lex (· < ·) (y ++ [c]) (z ++ [d]) := by
  induction h with
  | nil => intro e; simp at e
  | rel h => intro _ c d; exact .rel h
  | cons h ih => intro e c d; exact .cons (ih (by simpa using e) c d)
theorem lex_irr : ∀ (z : List Nat), ¬ List.Lex (· < ·) z z
  | [], h => by cases h
  | a :: z, h => by
    cases h with
    | rel h => exact Nat.lt_irrefl _ h
    | cons h => exact lex_irr z h
theorem lev_len {n : Nat} : ∀ {z : List Nat}, z ∈ lev cs n → z.length = n := by
  induction n with
  | zero => intro z h; rw [List.mem_singleton.mp h]; rfl
  | succ n ih =>
    intro z h
    obtain ⟨y, hy, c, _, rfl⟩ := kids_mem.mp h
    rw [List.length_append, ih hy]; rfl
theorem lev_sorted (hcs : cs.Pairwise (· < ·)) (n : Nat) : (lev cs n).Pairwise (List.Lex (· < ·)) := by
  induction n with
  | zero => exact List.pairwise_singleton _ _
  | succ n ih =>
    show (kids cs (lev cs n)).Pairwise _
    unfold kids
    rw [List.pairwise_flatMap]
    refine ⟨fun z _ => ?_, ?_⟩
    · rw [List.pairwise_map]
      exact hcs.imp fun h => lex_app z h
    · refine List.Pairwise.imp_of_mem (fun {y z} hy hz h => ?_) ih
      intro a ha b hb
      obtain ⟨c, _, rfl⟩ := List.mem_map.mp ha
      obtain ⟨d, _, rfl⟩ := List.mem_map.mp hb
      exact lex_snoc h (by rw [lev_len hy, lev_len hz]) c d
theorem lev_nd (hcs : cs.Pairwise (· < ·)) (n : Nat) : (lev cs n).Nodup := (lev_sorted hcs n).imp fun h e => by subst e; exact lex_irr _ h
theorem filter_sub {s l : List (List Nat)} (h : s.Sublist l) : l.Nodup → ∀ d : List Nat → Bool, (∀ z, d z = true ↔ z ∈ s) → l.filter d = s := by
  induction h with
  | slnil => intro _ _ _; rfl
  | @cons s l a h ih =>
    intro nd d hd
    rw [List.nodup_cons] at nd
    have : ¬ d a = true := fun z => nd.1 (h.subset ((hd a).mp z))
    rw [List.filter_cons, if_neg this]
    exact ih nd.2 d hd
  | @cons_cons s l a h ih =>
    intro nd d hd
    rw [List.nodup_cons] at nd
    rw [List.filter_cons, if_pos ((hd a).mpr List.mem_cons_self)]
    congr 1
    refine (List.filter_congr fun z hz => ?_).trans (ih nd.2 (fun z => decide (z ∈ s)) fun z => by simp)
    have hne : z ≠ a := fun q => nd.1 (q ▸ hz)
    have h1 := hd z
    rw [List.mem_cons] at h1
    cases hq : d z with
    | true => rw [hq] at h1; have := (h1.mp rfl).resolve_left hne; simp [this]
    | false =>
      rw [hq] at h1
      have : ¬ z ∈ s := fun q => nomatch (h1.mpr (.inr q))
      simp [this]
/-! ### the firsts, level by level -/
variable (g t0 cs) in
noncomputable def mins : Nat → List (List Nat)
  | 0 => [[]]
  | n + 1 => newL g t0 (fsts g t0 cs n) (lev cs (n + 1))
theorem fsts_succ (n : Nat) : fsts g t0 cs (n + 1) = fsts g t0 cs n ++ mins g t0 cs (n + 1) := by
  show addAll g t0 _ _ = _
  rw [addAll_new]; rfl
theorem mins_sub (n : Nat) : (mins g t0 cs n).Sublist (lev cs n) := by
  cases n with
  | zero => exact List.Sublist.refl _
  | succ n => exact newL_sub
theorem fsts_lev {n : Nat} : ∀ {z : List Nat}, z ∈ fsts g t0 cs n → ∃ k, k ≤ n ∧ z ∈ lev cs k := by
  induction n with
  | zero => intro z h; exact ⟨0, Nat.le_refl _, h⟩
  | succ n ih =>
    intro z h
    rw [fsts_succ] at h
    rcases List.mem_append.mp h with h | h
    · obtain ⟨k, hk, q⟩ := ih h
      exact ⟨k, by omega, q⟩
    · exact ⟨n + 1, Nat.le_refl _, (mins_sub (n + 1)).subset h⟩
theorem fsts_mono {n : Nat} {t : τ} (h : t ∈ (fsts g t0 cs n).map (Tt g t0)) : ∀ k, t ∈ (fsts g t0 cs (n + k)).map (Tt g t0)
  | 0 => h
  | k + 1 => by
    rw [← Nat.add_assoc, fsts_succ, List.map_append]
    exact List.mem_append_left _ (fsts_mono h k)
theorem fsts_has {n k : Nat} {z : List Nat} (h : z ∈ lev cs k) (hk : k ≤ n) : Tt g t0 z ∈ (fsts g t0 cs n).map (Tt g t0) := by
  have : Tt g t0 z ∈ (fsts g t0 cs k).map (Tt g t0) := by
    cases k with
    | zero => exact List.mem_map_of_mem h
    | succ k => exact addAll_has h
  have := fsts_mono this (n - k)
  rwa [show k + (n - k) = n by omega] at this
theorem fsts_kids (hcs : cs.Pairwise (· < ·)) (n : Nat) : addAll g t0 (fsts g t0 cs n) (kids cs (mins g t0 cs n)) = fsts g t0 cs (n + 1) := by
  have sk := skip (g := g) (t0 := t0) (cs := cs) (f := fsts g t0 cs n) (keep := fun z => z ∈ mins g t0 cs n) (lev cs n).reverse fun P1 z P2 e hk => by
    rw [List.reverse_reverse] at e
    cases n with
    | zero => exact absurd (show z ∈ [[]] by have : z ∈ lev cs 0 := by rw [e]; simp
                                             exact this) hk
    | succ m =>
      have hk' : z ∉ newL g t0 (fsts g t0 cs m) (P1 ++ z :: P2) := by rw [← e]; exact hk
      obtain ⟨y, hy, q⟩ := newL_not hk'
      refine ⟨y, hy, q.imp (fun q c hc => ?_) fun q => q.1⟩
      obtain ⟨k, hkm, hl⟩ := fsts_lev q
      exact fsts_has (k := k + 1) (kids_mem.mpr ⟨y, hl, c, hc, rfl⟩) (by omega)
  rw [List.reverse_reverse, filter_sub (mins_sub (g := g) (t0 := t0) (cs := cs) n) (lev_nd hcs n) _ (fun z => by simp)] at sk
  rw [← sk]; rfl
theorem fsts_all (hcs : cs.Pairwise (· < ·)) (n : Nat) : addAll g t0 [[]] (kids cs (fsts g t0 cs n)) = fsts g t0 cs (n + 1) := by
  induction n with
  | zero => rfl
  | succ n ih => rw [fsts_succ n, kids_app, addAll_app, ih, fsts_kids hcs]
/-- a list that is closed: the firsts, then longer ones -/
theorem closed_fsts (hcs : cs.Pairwise (· < ·)) {C : List (List Nat)} (h : C = addAll g t0 [[]] (kids cs C)) (n : Nat) : ∃ e, C = fsts g t0 cs n ++ e ∧ ∀ x ∈ e, n < x.length := by
  induction n with
  | zero =>
    rw [addAll_new] at h
    refine ⟨_, h, fun x hx => ?_⟩
    obtain ⟨z, _, c, _, rfl⟩ := kids_mem.mp (newL_sub.subset hx)
    simp
  | succ n ih =>
    obtain ⟨e, h1, h2⟩ := ih
    rw [h1, kids_app, addAll_app, fsts_all hcs, addAll_new, ← h1] at h
    refine ⟨_, h, fun x hx => ?_⟩
    obtain ⟨z, hz, c, _, rfl⟩ := kids_mem.mp (newL_sub.subset hx)
    have := h2 z hz
    simp; omega
theorem fsts_le {n : Nat} {z : List Nat} (h : z ∈ fsts g t0 cs n) : z.length ≤ n := by
  obtain ⟨k, hk, q⟩ := fsts_lev h
  rw [lev_len q]; exact hk
theorem closed_filter (hcs : cs.Pairwise (· < ·)) {C : List (List Nat)} (h : C = addAll g t0 [[]] (kids cs C)) (n : Nat) : C.filter (fun x => decide (x.length ≤ n)) = fsts g t0 cs n := by
  obtain ⟨e, h1, h2⟩ := closed_fsts hcs h n
  rw [h1, List.filter_append, List.filter_eq_self.mpr (fun x hx => decide_eq_true (fsts_le hx)), List.filter_eq_nil_iff.mpr (fun x hx => by have := h2 x hx; simp; omega), List.append_nil]
theorem closed_nd {C : List (List Nat)} (h : C = addAll g t0 [[]] (kids cs C)) : (C.map (Tt g t0)).Nodup := by
  rw [h]; exact addAll_nd (by simp)
theorem nd_inj {f : List Nat → τ} : ∀ {C : List (List Nat)} {x y : List Nat}, (C.map f).Nodup → x ∈ C → y ∈ C → f x = f y → x = y
  | a :: C, x, y, nd, hx, hy, e => by
    rw [List.map_cons, List.nodup_cons] at nd
    rcases List.mem_cons.mp hx with h1 | h1 <;> rcases List.mem_cons.mp hy with h2 | h2
    · rw [h1, h2]
    · exact absurd (by rw [← h1, e]; exact List.mem_map_of_mem h2) nd.1
    · exact absurd (by rw [← h2, ← e]; exact List.mem_map_of_mem h1) nd.1
    · exact nd_inj nd.2 h1 h2 e
/-- the first one of a value -/
theorem closed_min (hcs : cs.Pairwise (· < ·)) {C : List (List Nat)} (h : C = addAll g t0 [[]] (kids cs C)) {z y : List Nat} {n : Nat} (hz : z ∈ lev cs n) (hy : y ∈ C) (e : Tt g t0 y = Tt g t0 z) : y.length < n ∨ (y.length = n ∧ (y = z ∨ List.Lex (· < ·) y z)) := by
  have nd := closed_nd h
  have uni : ∀ x, x ∈ C → Tt g t0 x = Tt g t0 z → x = y := fun x hx ex => by
    exact nd_inj nd hx hy (ex.trans e.symm)
  obtain ⟨ee, h1, h2⟩ := closed_fsts hcs h n
  have hin : ∀ x, x ∈ fsts g t0 cs n → x ∈ C := fun x hx => by rw [h1]; exact List.mem_append_left _ hx
  have hlen : y.length ≤ n := by
    obtain ⟨x, hx, ex⟩ := List.mem_map.mp (fsts_has (g := g) (t0 := t0) hz (Nat.le_refl n))
    rw [← uni x (hin x hx) ex]
    exact fsts_le hx
  by_cases hl : y.length < n
  · exact .inl hl
  · refine .inr ⟨by omega, ?_⟩
    by_cases hm : z ∈ mins g t0 cs n
    · have hzf : z ∈ fsts g t0 cs n := by
        cases n with
        | zero => exact hz
        | succ n => rw [fsts_succ]; exact List.mem_append_right _ hm
      exact .inl (uni z (hin z hzf) rfl).symm
    · cases n with
      | zero => exact absurd hz hm
      | succ m =>
        obtain ⟨P1, P2, ep⟩ := List.append_of_mem hz
        have hm' : z ∉ newL g t0 (fsts g t0 cs m) (P1 ++ z :: P2) := by rw [← ep]; exact hm
        obtain ⟨x, ex, q⟩ := newL_not hm'
        rcases q with q | ⟨q1, q2⟩
        · have := uni x (hin x (by rw [fsts_succ]; exact List.mem_append_left _ q)) ex
          subst this
          have := fsts_le q
          omega
        · rw [← ep] at q2
          have := uni x (hin x (by rw [fsts_succ]; exact List.mem_append_right _ q2)) ex
          subst this
          have hs := lev_sorted hcs (m + 1)
          rw [ep, List.pairwise_append] at hs
          exact .inr (hs.2.2 x q1 z List.mem_cons_self)
theorem closed_has (hcs : cs.Pairwise (· < ·)) {C : List (List Nat)} (h : C = addAll g t0 [[]] (kids cs C)) {z : List Nat} {n : Nat} (hz : z ∈ lev cs n) : Tt g t0 z ∈ C.map (Tt g t0) := by
  obtain ⟨e, h1, _⟩ := closed_fsts hcs h n
  rw [h1, List.map_append]
  exact List.mem_append_left _ (fsts_has hz (Nat.le_refl _))
end
end Mb
namespace Mc
open PySem L2 PyProof.Rows Fl
/-! ### all tables, with their first strips -/
theorem key_th (x : Th) : keyD (thD x) = true := by cases x <;> rfl
theorem tupK_tb (t : Tb) : tupK (tbD t) = true := by
  have h1 : keyD (tbD t) = true := by
    show keysD [.tuple (t.f.map thD), .tuple (t.a.map thD)] = true
    have k : ∀ l : List Th, keyD (.tuple (l.map thD)) = true := fun l => by
      show keysD (l.map thD) = true
      exact keys_all fun x hx => by
        obtain ⟨y, _, rfl⟩ := List.mem_map.mp hx
        exact key_th y
    show (keyD _ && (keyD _ && true)) = true
    rw [k, k]; rfl
  have h2 : Sh 4 (tbD t) := by
    have k : ∀ l : List Th, ∀ x ∈ l.map thD, Sh 2 x := fun l x hx => by
      obtain ⟨y, _, rfl⟩ := List.mem_map.mp hx
      cases y with
      | none => exact ⟨rfl, Nat.zero_le _⟩
      | some s =>
        refine sh_tup fun z hz => ?_
        rcases List.mem_cons.mp hz with q | q
        · rw [q]; exact sh_int _ _
        · rw [List.mem_singleton.mp q]; exact sh_int _ _
    refine sh_tup fun x hx => ?_
    rcases List.mem_cons.mp hx with q | q
    · rw [q]; exact sh_tup (k _)
    · rw [List.mem_singleton.mp q]; exact sh_tup (k _)
  show (keyD (tbD t) && decide ((tbD t).depth ≤ 8)) = true
  rw [h1, decide_eq_true (Nat.le_trans h2.2 (by decide))]; rfl
noncomputable def bhB (rs : List Rw) (x : PyData) (c : Nat) : PyData := match F_behind [.d x, .d (tbD (signTb (c - 97) rs))] with
  | .ok (.d y) => y
  | _ => .none
noncomputable def tE (rs : List Rw) (z : List Nat) : PyData := Mb.Tt (bhB rs) (tbD (stillT rs.length)) z
theorem bhB_strip {rs : List Rw} {sg c : Nat} {z : List Nat} (M : Mach rs sg) (S : Strip sg z) (hc : isSign sg c = true) : F_behind [.d (tbD (stripT rs z)), .d (tbD (signTb (c - 97) rs))] = .ok (.d (tbD (stripT rs (z ++ [c])))) := by
  have := F_beh (stripT_good M S) (signTb_good M (show c - 97 < sg by have := of_decide_eq_true hc; omega)) M.len2
  rw [stripT_snoc M S hc] at this
  exact this
theorem tE_strip {rs : List Rw} {sg : Nat} (M : Mach rs sg) (z : List Nat) : Strip sg z → tE rs z = tbD (stripT rs z) := by
  refine snoc_ind (P := fun z => Strip sg z → tE rs z = tbD (stripT rs z)) (fun S => ?_) (fun z c ih S => ?_) z
  · unfold stripT; rw [if_pos rfl]; rfl
  · obtain ⟨Sz, hc⟩ := strip_init S
    unfold tE
    rw [Mb.Tt_snoc]
    show bhB rs (tE rs z) c = _
    rw [ih Sz]
    unfold bhB
    rw [bhB_strip M Sz hc]
theorem tE_snoc {rs : List Rw} {sg c : Nat} {z : List Nat} (M : Mach rs sg) (S : Strip sg (z ++ [c])) : F_behind [.d (tE rs z), .d (tbD (signTb (c - 97) rs))] = .ok (.d (tE rs (z ++ [c]))) := by
  obtain ⟨Sz, hc⟩ := strip_init S
  rw [tE_strip M z Sz, tE_strip M _ S, bhB_strip M Sz hc]
theorem tE_key {rs : List Rw} {sg : Nat} {z : List Nat} (M : Mach rs sg) (S : Strip sg z) : tupK (tE rs z) = true := by rw [tE_strip M z S]; exact tupK_tb _
def stD (z : List Nat) : PyData := .str ⟨z.toArray⟩
noncomputable def enD (rs : List Rw) (z : List Nat) : PyData := .tuple [stD z, tE rs z]
noncomputable def addR (rs : List Rw) (f : List (List Nat)) (z : List Nat) : List (List Nat) := Mb.addF (bhB rs) (tbD (stillT rs.length)) f z
noncomputable def addRs (rs : List Rw) (f l : List (List Nat)) : List (List Nat) := Mb.addAll (bhB rs) (tbD (stillT rs.length)) f l
theorem bn_same {ps : List PyData} {x : PyData} (hx : tupK x = true) (h : ∀ y ∈ ps, tupK y = true) : sameK x ((been id ps).map (·.1)) = true := by
  unfold sameK
  rw [been_keys, hx, Bool.true_and, Bool.or_eq_true, List.all_eq_true, List.map_id]
  exact .inl h
theorem bn_len (ps : List PyData) : (been id ps).length = ps.length := been_len id ps
theorem bn_has {ps : List PyData} {x : PyData} (h : x ∈ ps) : hasM (been id ps) x = true := (been_has (d := id) (fun _ _ h => h)).mpr h
theorem bn_hasF {ps : List PyData} {x : PyData} (h : x ∉ ps) : hasM (been id ps) x = false := been_hasF (d := id) (fun _ _ h => h) h
theorem bn_put {ps : List PyData} {x : PyData} (h : x ∉ ps) : putM (been id ps) x (.bool true) = been id (ps ++ [x]) := been_put (d := id) (fun _ _ h => h) h
noncomputable def gaF : Sg → R Fw := (sSeq (sSet 8 (vCall 2 F_behind (aCons (vD (e2 dIx (e2 dIx (rV 3) (rV 5)) (eC (.int 1)))) (aCons (vV 7) aNil))))
  (sIf (e1 asB (eMIn true 4 (eV 8))) (sSeq (sMPut 4 (eV 8) (eC (.bool true)))
  (sApp 3 (eTup (aCons (e2 dAdd (e2 dIx (e2 dIx (rV 3) (rV 5)) (eC (.int 0))) (rV 6)) (aCons (eV 8) aNil))))) sNx))
noncomputable def gaT : Sg → R Bool := (e1 asB (e2 dLt (rV 5) (e1 dLen (rV 3))))
noncomputable def gaB : Sg → R Fw := (sSeq (sFz 2 (sFor (e1 dItems (eV 2)) (stT [(stN 6), (stN 7)]) gaF))
  (sSeq (sIf (e1 asB (e2 dGt (e1 dLen (rV 3)) (rV 1))) (sRaiseF "TooMany" (rV 1)) sNx)
  (sAug 5 dAddI (eC (.int 1)))))
theorem ga_def : B_gathered = (sSeq (sSetN 2 (nComp [none, some 0] (e1 dItems (eSl dSl (eC (.str "abc")) oNo (oSo (eA (vCall 1 F_signs_of (aCons (vV 0) aNil)))))) (stN 0) bYes (eTup (aCons (eV 0) (aCons (eA (vCall 2 F_sign_table (aCons (vV 1) (aCons (vV 0) aNil)))) aNil)))))
  (sSeq (sSetN 3 (nLst (aCons (eTup (aCons (eC (.str "")) (aCons (eA (vCall 1 F_still (aCons (vD (e1 dLen (rV 0))) aNil))) aNil))) aNil)))
  (sSeq (sMLit 4 (pCons (e2 dIx (e2 dIx (rV 3) (eC (.int 0))) (eC (.int 1))) (eC (.bool true)) pNil))
  (sSeq (sSet 5 (vD (eC (.int 0))))
  (sSeq (sWhile gaT gaB) (sFz 3 (sRet (vV 3)))))))) := id rfl
def endD (rs : List Rw) (c : Nat) : PyData := .tuple [.str ⟨#[c]⟩, tbD (signTb (c - 97) rs)]
noncomputable def gaρ (rs : List Rw) (e2 : A) (f : List (List Nat)) (at' : Nat) (u v w : Option A) : Sg := [some (.d (machD rs)), some (.d (.int 300)), some e2, some (.l (f.map (enD rs))), some (.m (been id (f.map (tE rs)))), some (.d (.int (at' : Int))), u, v, w]
theorem stD_snoc (z : List Nat) (c : Nat) (h : z.length ≤ 1000) : dAdd (stD z) (.str ⟨#[c]⟩) = .ok (stD (z ++ [c])) := by
  unfold stD
  rw [dAdd_s (by show z.toArray.size + 1 ≤ 16777216; rw [List.size_toArray]; omega)]
  congr 2
  show (⟨z.toArray ++ #[c]⟩ : Str) = _
  simp
theorem map_keys {rs : List Rw} {sg : Nat} {f : List (List Nat)} (M : Mach rs sg) (hS : ∀ z ∈ f, Strip sg z) : ∀ y ∈ f.map (tE rs), tupK y = true := fun y hy => by
  obtain ⟨z, hz, rfl⟩ := List.mem_map.mp hy
  exact tE_key M (hS z hz)
theorem addR_in {rs : List Rw} {f : List (List Nat)} {z : List Nat} (h : tE rs z ∈ f.map (tE rs)) : addR rs f z = f := by
  unfold addR Mb.addF; exact if_pos h
theorem addR_out {rs : List Rw} {f : List (List Nat)} {z : List Nat} (h : tE rs z ∉ f.map (tE rs)) : addR rs f z = f ++ [z] := by
  unfold addR Mb.addF; exact if_neg h
theorem ga_step {rs : List Rw} {sg c at' : Nat} {f : List (List Nat)} {z : List Nat} {e2 : A} {v : Option A} (M : Mach rs sg) (hS : ∀ z ∈ f, Strip sg z) (hl : f.length ≤ 10000) (hz : f[at']? = some z) (Sz : Strip sg (z ++ [c])) {w : Option A} (hv : v = some (.d (tbD (signTb (c - 97) rs)))) :
    gaF (gaρ rs e2 f at' (some (.d (.str ⟨#[c]⟩))) v w) = .ok (.nx (gaρ rs e2 (addR rs f (z ++ [c])) at' (some (.d (.str ⟨#[c]⟩))) v (some (.d (tE rs (z ++ [c])))))) := by
  subst hv
  have ix : dIx (.list (f.map (enD rs))) (.int (at' : Int)) = .ok (enD rs z) := dIx_l (atI_nat (by rw [List.getElem?_map, hz]; rfl))
  have i0 : dIx (enD rs z) (.int 0) = .ok (stD z) := rfl
  have i1 : dIx (enD rs z) (.int 1) = .ok (tE rs z) := rfl
  have hb := tE_snoc M Sz
  have hk := bn_same (tE_key M Sz) (map_keys M hS)
  have hzl : z.length ≤ 1000 := by have := Sz.1; simp at this; omega
  by_cases h : tE rs (z ++ [c]) ∈ f.map (tE rs)
  · rw [addR_in h]
    have h1 := bn_has h
    simp [gaF, gaρ, ix, i0, i1, hb, hk, h1]
  · rw [addR_out h]
    have h1 := bn_hasF h
    have h2 := bn_put h
    have h3 : (been id (f.map (tE rs))).length ≤ 16777216 := by rw [bn_len, List.length_map]; omega
    have h4 : f.length < 16777216 := by omega
    have ad := stD_snoc z c hzl
    unfold gaρ
    rw [List.map_append, List.map_append, List.map_singleton, List.map_singleton, ← h2]
    simp [gaF, ix, i0, i1, hb, hk, h1, h3, h4, ad]
    rfl
/-- signs as texts -/
def sgT (sg : Nat) : Str := Txt.slice "abc" none (some (sg : Int))
theorem sgT_cps {sg : Nat} (s1 : 1 ≤ sg) (s3 : sg ≤ 3) : (sgT sg).cps.toList = [97, 98, 99].take sg := abc_cps s1 s3
theorem sgT_sign {sg c : Nat} (s1 : 1 ≤ sg) (s3 : sg ≤ 3) (h : c ∈ (sgT sg).cps.toList) : isSign sg c = true := by
  rw [sgT_cps s1 s3] at h
  obtain ⟨i, hi⟩ := List.getElem?_of_mem h
  exact (take_sign s1 s3).mpr ⟨i, hi⟩
theorem sgT_len {sg : Nat} (s1 : 1 ≤ sg) (s3 : sg ≤ 3) : (sgT sg).cps.toList.length ≤ 3 := by rw [sgT_cps s1 s3, List.length_take]; simp; omega
end Mc
namespace Mc
open PySem L2 PyProof.Rows Fl
theorem sWhile_ex {t : Sg → R Bool} {b : Sg → R Fw} {ρ : Sg} {e : Er} (h1 : t ρ = .ok true) (h2 : b ρ = .ex e) : sWhile t b ρ = .ex e := by
  rw [sWhile_eq, h1, R.bind_ok, if_pos rfl, h2]; rfl
theorem addR_mem {rs : List Rw} {f : List (List Nat)} {y x : List Nat} (h : x ∈ addR rs f y) : x ∈ f ∨ x = y := by
  by_cases q : tE rs y ∈ f.map (tE rs)
  · rw [addR_in q] at h; exact .inl h
  · rw [addR_out q] at h
    rcases List.mem_append.mp h with h | h
    · exact .inl h
    · exact .inr (List.mem_singleton.mp h)
theorem addR_len {rs : List Rw} {f : List (List Nat)} {y : List Nat} : (addR rs f y).length ≤ f.length + 1 := by
  by_cases q : tE rs y ∈ f.map (tE rs)
  · rw [addR_in q]; omega
  · rw [addR_out q, List.length_append, List.length_singleton]; omega
theorem addR_pre {rs : List Rw} {f : List (List Nat)} {y : List Nat} : f <+: addR rs f y := by
  by_cases q : tE rs y ∈ f.map (tE rs)
  · rw [addR_in q]; exact List.prefix_refl _
  · rw [addR_out q]; exact List.prefix_append ..
theorem addRs_snoc {rs : List Rw} {f l : List (List Nat)} {y : List Nat} : addRs rs f (l ++ [y]) = addR rs (addRs rs f l) y := by
  unfold addRs; rw [Mb.addAll_app]; rfl
theorem pre_get {α : Type} {f g : List α} {i : Nat} {x : α} (h : f <+: g) (e : f[i]? = some x) : g[i]? = some x := by
  obtain ⟨t, rfl⟩ := h
  rw [List.getElem?_append_left (by rcases Nat.lt_or_ge i f.length with h | h; exact h; rw [List.getElem?_eq_none h] at e; cases e)]
  exact e
structure GaV (sg : Nat) (at' : Nat) (f : List (List Nat)) : Prop where
  sgn : ∀ z ∈ f, ∀ c ∈ z, isSign sg c = true
  len : ∀ z ∈ f, z.length ≤ at'
theorem GaV.strip {sg at' : Nat} {f : List (List Nat)} (h : GaV sg at' f) (ha : at' ≤ 1000) : ∀ z ∈ f, Strip sg z := fun z hz => ⟨by have := h.len z hz; omega, h.sgn z hz⟩
theorem ga_row {rs : List Rw} {sg at' : Nat} {f : List (List Nat)} {z : List Nat} {e2 : A} {u v w : Option A} (M : Mach rs sg) (hV : GaV sg at' f) (ha : at' < 900) (hl : f.length ≤ 300) (hz : f[at']? = some z) :
    ∃ u' v' w', forF (stT [(stN 6), (stN 7)]) gaF ((sgT sg).cps.toList.map (endD rs)) (gaρ rs e2 f at' u v w) = .ok (.nx (gaρ rs e2 (addRs rs f ((sgT sg).cps.toList.map fun c => z ++ [c])) at' u' v' w')) ∧ GaV sg (at' + 1) (addRs rs f ((sgT sg).cps.toList.map fun c => z ++ [c])) ∧ f <+: addRs rs f ((sgT sg).cps.toList.map fun c => z ++ [c]) ∧ (addRs rs f ((sgT sg).cps.toList.map fun c => z ++ [c])).length ≤ f.length + 3 := by
  have s1 := M.sg1
  have s3 := M.sg3
  have hzm := List.mem_of_getElem? hz
  have hl3 := sgT_len s1 s3
  obtain ⟨ρ', q1, u', v', w', rfl, V, pr, ln⟩ := forF_inv (fs := stT [(stN 6), (stN 7)]) (fb := gaF) (d := endD rs) (xs := (sgT sg).cps.toList) (ρ := gaρ rs e2 f at' u v w)
    (fun i ρ => ∃ u v w, ρ = gaρ rs e2 (addRs rs f (((sgT sg).cps.toList.take i).map fun c => z ++ [c])) at' u v w ∧ GaV sg (at' + 1) (addRs rs f (((sgT sg).cps.toList.take i).map fun c => z ++ [c])) ∧ f <+: addRs rs f (((sgT sg).cps.toList.take i).map fun c => z ++ [c]) ∧ (addRs rs f (((sgT sg).cps.toList.take i).map fun c => z ++ [c])).length ≤ f.length + i)
    ⟨u, v, w, rfl, ⟨hV.sgn, fun z hz => by have := hV.len z hz; omega⟩, List.prefix_refl _, by show f.length ≤ _; omega⟩ fun i c ρ hc ⟨u, v, w, e, V, pr, ln⟩ => by
    have hcm := List.mem_of_getElem? hc
    have hs := sgT_sign s1 s3 hcm
    have hi : i < (sgT sg).cps.toList.length := by
      rcases Nat.lt_or_ge i (sgT sg).cps.toList.length with h | h
      · exact h
      · rw [List.getElem?_eq_none h] at hc; cases hc
    have ht : (sgT sg).cps.toList.take (i + 1) = (sgT sg).cps.toList.take i ++ [c] := by rw [List.take_succ, hc]; rfl
    have Sz : Strip sg (z ++ [c]) := ⟨by have := hV.len z hzm; rw [List.length_append, List.length_singleton]; omega, fun x hx => by
      rcases List.mem_append.mp hx with h | h
      · exact hV.sgn z hzm x h
      · rw [List.mem_singleton.mp h]; exact hs⟩
    have st := ga_step (e2 := e2) (w := w) (v := some (.d (tbD (signTb (c - 97) rs)))) M (V.strip (by omega)) (by omega) (pre_get pr hz) Sz rfl
    rw [ht, List.map_append, List.map_singleton, addRs_snoc]
    refine ⟨gaρ rs e2 (addRs rs f (((sgT sg).cps.toList.take i).map fun c => z ++ [c])) at' (some (.d (.str ⟨#[c]⟩))) (some (.d (tbD (signTb (c - 97) rs)))) w, _, by rw [e]; simp [gaρ, endD], .inl st, _, _, _, rfl, ⟨fun x hx => ?_, fun x hx => ?_⟩, pr.trans addR_pre, ?_⟩
    · rcases addR_mem hx with h | rfl
      · exact V.sgn x h
      · exact Sz.2
    · rcases addR_mem hx with h | rfl
      · exact V.len x h
      · have := hV.len z hzm; rw [List.length_append, List.length_singleton]; omega
    · have := addR_len (rs := rs) (f := addRs rs f (((sgT sg).cps.toList.take i).map fun c => z ++ [c])) (y := z ++ [c]); omega
  rw [List.take_length] at q1 V pr ln
  exact ⟨u', v', w', q1, V, pr, by omega⟩
theorem ga_loop {rs : List Rw} {sg : Nat} (M : Mach rs sg) : ∀ (n at' : Nat) (f : List (List Nat)) (e0 : A) (u v w : Option A), (e0 = .l ((sgT sg).cps.toList.map (endD rs)) ∨ e0 = .d (.list ((sgT sg).cps.toList.map (endD rs)))) → GaV sg at' f → at' ≤ f.length → f.length ≤ 300 → f = addRs rs [[]] (Mb.kids (sgT sg).cps.toList (f.take at')) → 301 ≤ at' + n →
    sSeq (sWhile gaT gaB) (sFz 3 (sRet (vV 3))) (gaρ rs e0 f at' u v w) = .ex ⟨"TooMany", []⟩ ∨ ∃ C, sSeq (sWhile gaT gaB) (sFz 3 (sRet (vV 3))) (gaρ rs e0 f at' u v w) = .ok (.rt (.d (.list (C.map (enD rs))))) ∧ C = addRs rs [[]] (Mb.kids (sgT sg).cps.toList C) ∧ (∀ z ∈ C, Strip sg z) ∧ C.length ≤ 300 := by
  intro n
  induction n with
  | zero => intro at' f e0 u v w he V h1 h2 h3 h4; omega
  | succ n ih =>
    intro at' f e0 u v w he V h1 h2 h3 h4
    have hT : gaT (gaρ rs e0 f at' u v w) = .ok (decide (at' < f.length)) := by simp [gaT, gaρ, dLen_l]
    by_cases hlt : at' < f.length
    · have hz : f[at']? = some f[at'] := List.getElem?_eq_getElem hlt
      obtain ⟨u', v', w', q, V', pr, ln⟩ := ga_row (e2 := .d (.list ((sgT sg).cps.toList.map (endD rs)))) (u := u) (v := v) (w := w) M V (by omega) h2 hz
      have hl3 := sgT_len M.sg1 M.sg3
      have hit := dItems_l (xs := (sgT sg).cps.toList.map (endD rs)) (by rw [List.length_map]; omega)
      have hf : fz 2 (gaρ rs e0 f at' u v w) = gaρ rs (.d (.list ((sgT sg).cps.toList.map (endD rs)))) f at' u v w := by
        rcases he with rfl | rfl <;> rfl
      have hE : (e1 dItems (eV 2)) (gaρ rs (.d (.list ((sgT sg).cps.toList.map (endD rs)))) f at' u v w) = .ok ((sgT sg).cps.toList.map (endD rs)) := by simp [gaρ, hit]
      generalize hf' : addRs rs f ((sgT sg).cps.toList.map fun c => f[at'] ++ [c]) = f' at q V' pr ln
      have hle := pr.length_le
      have hcl : f' = addRs rs [[]] (Mb.kids (sgT sg).cps.toList (f'.take (at' + 1))) := by
        have ht : f'.take (at' + 1) = f.take at' ++ [f[at']] := by
          obtain ⟨t, rfl⟩ := pr
          rw [List.take_append_of_le_length (by omega), List.take_succ, hz]; rfl
        rw [ht, Mb.kids_app]
        unfold addRs
        rw [Mb.addAll_app]
        show _ = addRs rs (addRs rs [[]] (Mb.kids (sgT sg).cps.toList (f.take at'))) _
        rw [← h3]
        unfold Mb.kids
        rw [List.flatMap_singleton, hf']
      have hgt : (e1 asB (e2 dGt (e1 dLen (rV 3)) (rV 1))) (gaρ rs (.d (.list ((sgT sg).cps.toList.map (endD rs)))) f' at' u' v' w') = .ok (decide (300 < f'.length)) := by
        simp [gaρ, dLen_l]
        omega
      by_cases hm : 300 < f'.length
      · have hB : gaB (gaρ rs e0 f at' u v w) = .ex ⟨"TooMany", []⟩ := by
          unfold gaB
          rw [sSeq_ap, sFz_ap, hf, sFor_ap, hE, R.bind_ok, q, R.bind_ok]
          simp only
          rw [sSeq_ap, sIf_ap, hgt, decide_eq_true hm]
          simp [gaρ, sRaiseF, few]
        refine .inl ?_
        rw [sSeq_ap, sWhile_ex (by rw [hT, decide_eq_true hlt]) hB]; rfl
      · have hB : gaB (gaρ rs e0 f at' u v w) = .ok (.nx (gaρ rs (.d (.list ((sgT sg).cps.toList.map (endD rs)))) f' (at' + 1) u' v' w')) := by
          unfold gaB
          rw [sSeq_ap, sFz_ap, hf, sFor_ap, hE, R.bind_ok, q, R.bind_ok]
          simp only
          rw [sSeq_ap, sIf_ap, hgt, decide_eq_false hm]
          simp [gaρ, dAddI]
        have := ih (at' + 1) f' _ u' v' w' (.inr rfl) V' (by omega) (by omega) hcl (by omega)
        rw [sSeq_ap] at this ⊢
        rw [sWhile_nx (by rw [hT, decide_eq_true hlt]) hB]
        exact this
    · refine .inr ⟨f, ?_, ?_, V.strip (by omega), h2⟩
      · rw [sSeq_ap, sWhile_ff (by rw [hT, decide_eq_false hlt])]
        simp [gaρ]
      · rwa [List.take_of_length_le (by omega)] at h3
theorem F_gath {rs : List Rw} {sg : Nat} (M : Mach rs sg) : F_gathered [.d (machD rs), .d (.int 300)] = .ex ⟨"TooMany", []⟩ ∨ ∃ C, F_gathered [.d (machD rs), .d (.int 300)] = .ok (.d (.list (C.map (enD rs)))) ∧ C = addRs rs [[]] (Mb.kids (sgT sg).cps.toList C) ∧ (∀ z ∈ C, Strip sg z) ∧ C.length ≤ 300 := by
  obtain ⟨r, t, hrs, hr⟩ := M.cons
  have hsg : F_signs_of [.d (machD rs)] = .ok (.d (.int sg)) := by rw [hrs, F_signs, hr]
  have hsl : dSl (.str "abc") none (some (sg : Int)) = .ok (.str (sgT sg)) := dSl_s (by decide)
  have hl3 := sgT_len M.sg1 M.sg3
  have hi : dItems (.str (sgT sg)) = .ok ((sgT sg).cps.toList.map fun u : Nat => PyData.str ⟨#[u]⟩) := dItems_s (by omega)
  have hc := compL_of (fs := stN 0) (fe := eTup (aCons (eV 0) (aCons (eA (vCall 2 F_sign_table (aCons (vV 1) (aCons (vV 0) aNil)))) aNil))) (ρ0 := [none, some (.d (machD rs))]) (d := fun u : Nat => PyData.str ⟨#[u]⟩) (g := endD rs) (xs := (sgT sg).cps.toList) fun u hu => ⟨_, rfl, by
    have := F_sgn M (sgT_sign M.sg1 M.sg3 hu)
    simp [this, endD]⟩
  have hlen : dLen (machD rs) = .ok (.int rs.length) := by unfold machD; rw [dLen_t, List.length_map]
  have hst := F_stl M.len2
  have hk : sameK (tbD (stillT rs.length)) [] = true := by unfold sameK; rw [tupK_tb]; rfl
  have hp : Fl.putAll [] [(tbD (stillT rs.length), .bool true)] = .ok [(tbD (stillT rs.length), .bool true)] := by simp [Fl.putAll, hk, putM, hasM, getM]
  have key := ga_loop M 301 0 [[]] (.l ((sgT sg).cps.toList.map (endD rs))) none none none (.inl rfl) ⟨fun z hz => by rw [List.mem_singleton.mp hz]; exact fun c hc => by simp at hc, fun z hz => by rw [List.mem_singleton.mp hz]; simp⟩ (by simp) (by simp) rfl (by omega)
  have e0 : ([[]] : List (List Nat)).map (enD rs) = [.tuple [.str "", tbD (stillT rs.length)]] := rfl
  have e1' : been id (([[]] : List (List Nat)).map (tE rs)) = [(tbD (stillT rs.length), .bool true)] := rfl
  unfold F_gathered
  rw [ga_def]
  simp only [gaρ, e0, e1', Int.natCast_zero] at key
  have run : ∀ r, sSeq (sWhile gaT gaB) (sFz 3 (sRet (vV 3))) [some (.d (machD rs)), some (.d (.int 300)), some (.l ((sgT sg).cps.toList.map (endD rs))), some (.l [.tuple [.str "", tbD (stillT rs.length)]]), some (.m [(tbD (stillT rs.length), .bool true)]), some (.d (.int 0)), none, none, none] = r → fnF 9 (sSeq (sSetN 2 (nComp [none, some 0] (e1 dItems (eSl dSl (eC (.str "abc")) oNo (oSo (eA (vCall 1 F_signs_of (aCons (vV 0) aNil)))))) (stN 0) bYes (eTup (aCons (eV 0) (aCons (eA (vCall 2 F_sign_table (aCons (vV 1) (aCons (vV 0) aNil)))) aNil)))))
  (sSeq (sSetN 3 (nLst (aCons (eTup (aCons (eC (.str "")) (aCons (eA (vCall 1 F_still (aCons (vD (e1 dLen (rV 0))) aNil))) aNil))) aNil)))
  (sSeq (sMLit 4 (pCons (e2 dIx (e2 dIx (rV 3) (eC (.int 0))) (eC (.int 1))) (eC (.bool true)) pNil))
  (sSeq (sSet 5 (vD (eC (.int 0))))
  (sSeq (sWhile gaT gaB) (sFz 3 (sRet (vV 3)))))))) [.d (machD rs), .d (.int 300)] = match r with | .bad => .bad | .ex e => .ex e | .ok (.rt a) => .ok a | .ok (.nx _) => .ok (.d .none) | .ok _ => .bad := fun r hr => by
    have i0 : dIx (.list [.tuple [.str "", tbD (stillT rs.length)]]) (.int 0) = .ok (.tuple [.str "", tbD (stillT rs.length)]) := rfl
    have i1 : dIx (.tuple [.str "", tbD (stillT rs.length)]) (.int 1) = .ok (tbD (stillT rs.length)) := rfl
    rw [sSeq_ap] at hr
    simp only [fnF_ap, sSeq_ap, sSetN_ap, nComp_ap, e1_ap, e2_ap, eSl_ap, eC_ap, oNo_ap, oSo_ap, eA_ap, vCall_ap, aCons_ap, aNil_ap, vV_ap, vD_ap, rV_ap, R.bind_ok, List.length_cons, List.length_nil, Nat.reduceAdd, List.map_cons, List.map_nil, List.cons_append, List.nil_append, List.replicate, Nat.reduceSub, List.getElem?_cons_zero, List.getElem?_cons_succ, if_true, hsg, getD_d, hsl, hi, capA, Option.bind_none, Option.bind_some, Option.join_some, hc, List.set_cons_zero, List.set_cons_succ, nLst_ap, eTup_ap, hlen, hst, Nat.reduceLeDiff, sMLit_ap, pCons_ap, pNil_ap, i0, i1, hp, sSet_ap, hr]
    cases r with
    | bad => rfl
    | ex e => rfl
    | ok w => cases w <;> rfl
  rcases key with key | ⟨C, key, h1, h2, h3⟩
  · exact .inl (run _ key)
  · exact .inr ⟨C, run _ key, h1, h2, h3⟩
theorem F_all {rs : List Rw} {sg : Nat} (M : Mach rs sg) : F_all_tables [.d (machD rs)] = .ex ⟨"TooMany", []⟩ ∨ ∃ C, F_all_tables [.d (machD rs)] = .ok (.d (.list (C.map (enD rs)))) ∧ C = addRs rs [[]] (Mb.kids (sgT sg).cps.toList C) ∧ (∀ z ∈ C, Strip sg z) ∧ C.length ≤ 300 := by
  rcases F_gath M with h | ⟨C, h, h1, h2, h3⟩
  · exact .inl (by unfold F_all_tables B_all_tables; simp [h])
  · exact .inr ⟨C, by unfold F_all_tables B_all_tables; simp [h], h1, h2, h3⟩
end Mc
namespace Mc
open PySem L2 PyProof.Rows Fl
noncomputable def B__law_listed_k17 : Sg → R Fw := (sSeq (sSet 1 (vD (eC .none)))
  (sSeq (sTry0 (some 1) 1 F_all_tables (aCons (vV 0) aNil) ["TooMany"] (sSet 1 (vD (eC .none))))
  (sRet (vV 1))))
noncomputable def F__law_listed_k17 : List A → R A := fnF 2 B__law_listed_k17
noncomputable def B__law_firsts_k17 : Sg → R Fw := (sSeq (sMNew 3)
  (sSeq (sSetN 4 (nLst aNil))
  (sSeq (sSetN 5 (nLst (aCons (eC (.str "")) aNil)))
  (sSeq (sFor (iRange1 (e2 dAdd (rV 2) (eC (.int 1)))) (stN 6) (sSeq (sFz 5 (sFor (e1 dItems (eV 5)) (stN 7) (sSeq (sSet 8 (vCall 2 F__law_table (aCons (vV 0) (aCons (vV 7) aNil))))
  (sIf (e1 asB (eMIn true 3 (eV 8))) (sSeq (sMPut 3 (eV 8) (eC (.bool true)))
  (sApp 4 (eTup (aCons (eV 7) (aCons (eV 8) aNil))))) sNx))))
  (sSeq (sSetN 9 (nLst aNil))
  (sSeq (sFz 5 (sFor (e1 dItems (eV 5)) (stN 7) (sExt 9 (nComp [none, some 7] (e1 dItems (eSl dSl (eC (.str "abc")) oNo (oSo (rV 1)))) (stN 0) bYes (e2 dAdd (rV 1) (rV 0))))))
  (sFz 9 (sSet 5 (vV 9)))))))
  (sFz 4 (sRet (vV 4)))))))
noncomputable def F__law_firsts_k17 : List A → R A := fnF 10 B__law_firsts_k17
noncomputable def B_law : Sg → R Fw := (sSeq (sSet 1 (vCall 2 F__law_cell (aCons (vV 0) (aCons (vD (eC (.int 0))) aNil))))
  (sSeq (sSet 2 (vD (e2 dAdd (eC (.int 1)) (e2 dMod (rV 1) (eC (.int 3))))))
  (sSeq (sSet 3 (vD (e2 dAdd (eC (.int 1)) (e2 dMod (e2 dDiv (rV 1) (eC (.int 3))) (eC (.int 3))))))
  (sSeq (sSet 4 (vCall 4 F__law_machine (aCons (vV 0) (aCons (vD (eC (.int 1))) (aCons (vV 2) (aCons (vV 3) aNil))))))
  (sSeq (sSet 5 (vCall 1 F__law_listed_k17 (aCons (vV 4) aNil)))
  (sSeq (sIf (e1 asB (e2 dIs (rV 5) (eC .none))) (sRet (vD (eC (.bool true)))) sNx)
  (sSeq (sSet 6 (vD (e2 dIx (eL (nLst (aCons (eC (.int 12)) (aCons (eC (.int 5)) (aCons (eC (.int 3)) aNil))))) (e2 dSub (rV 3) (eC (.int 1))))))
  (sSeq (sIf (e1 asB (e2 dNe (eL (nComp [none, some 6] (e1 dItems (rV 5)) (stN 0) (e1 asB (e2 dLe (e1 dLen (e2 dIx (rV 0) (eC (.int 0)))) (rV 1))) (eV 0))) (eA (vCall 3 F__law_firsts_k17 (aCons (vV 4) (aCons (vV 3) (aCons (vV 6) aNil))))))) (sRet (vD (eC (.bool false)))) sNx)
  (sSeq (sMNew 7)
  (sSeq (sFor (e1 dItems (eV 5)) (stT [(stN 8), (stN 9)]) (sMPut 7 (eV 9) (eV 8)))
  (sSeq (sSet 10 (vCall 4 F__law_strip (aCons (vV 0) (aCons (vD (eC (.int 5))) (aCons (vD (e2 (d2 iMax) (eC (.int 0)) (e2 (d2 iMin) (eC (.int 58)) (e2 dSub (e1 dLen (rV 0)) (eC (.int 5)))))) (aCons (vV 3) aNil))))))
  (sSeq (sFor (iRange1 (e2 dAdd (e1 dLen (rV 10)) (eC (.int 1)))) (stN 11) (sSeq (sSet 9 (vCall 2 F__law_table (aCons (vV 4) (aCons (vD (eSl dSl (rV 10) oNo (oSo (rV 11)))) aNil))))
  (sSeq (sIf (e1 asB (eMIn true 7 (eV 9))) (sRet (vD (eC (.bool false)))) sNx)
  (sIf (e1 asB (e2 dGtT (eTup (aCons (e1 dLen (eMGet 7 (eV 9))) (aCons (eMGet 7 (eV 9)) aNil))) (eTup (aCons (eV 11) (aCons (eSl dSl (rV 10) oNo (oSo (rV 11))) aNil))))) (sRet (vD (eC (.bool false)))) sNx))))
  (sRet (vD (eC (.bool true))))))))))))))))
noncomputable def F_law : List A → R A := fnF 12 B_law
end Mc
namespace Mc
open PySem L2 PyProof.Rows Fl
def top (i : Nat) : Stmt := PySem.Challenge.pw_striproam_k17_whole_first_strips.main.body.getD i (.Pass ⟨0, 0, 0, 0⟩)
structure Txt (w : World) (K : PySem.W.Frag) (mg : Str → Option Value) : Prop where
  b_enumerate : mg "enumerate" = none
  b_int : mg "int" = none
  b_isinstance : mg "isinstance" = none
  b_len : mg "len" = none
  b_list : mg "list" = none
  b_max : mg "max" = none
  b_min : mg "min" = none
  b_range : mg "range" = none
  b_str : mg "str" = none
  b_tuple : mg "tuple" = none
  g_MOST_TABLES : ∃ t, mg "MOST_TABLES" = some (.int 300 t)
  g_SIGNS : ∃ t, mg "SIGNS" = some (.str "abc" t)
section
variable {P : Program} {w : World} {K : PySem.W.Frag} {mg : Str → Option Value} {base : Heap} {TH : Hp}
theorem sc_signs_of : FnScope ["machine"] ["machine"] (defScope (top 6)) := ⟨rfl, rfl, rfl, by decide +kernel, rfl, by decide +kernel, by decide +kernel⟩
theorem ok_signs_of (T : Txt w K mg) (D : DefAt K mg "signs_of" (top 6) ["machine"]) : CallsF P w K mg base TH 1 "signs_of" ["machine"] F_signs_of :=
  @def_ok P w K mg base TH "signs_of" (top 6) ["machine"] ["machine"] 0 B_signs_of D sc_signs_of (fun f cdv A outer s H F E hr => by
    have nd := sc_signs_of.nd
    exact (Fl.pss_one (Fl.ps_ret (pv_of (pd_len rfl (pe_callB call_len rfl T.b_len PySem.boot_len (pa_cons (pr_of (pd_ix (ixr_d rfl) plain_ix (pr_of (pd_ix (ixr_d rfl) plain_ix (pr_var (pv 0)) (pr_of pd_int))) (pr_of pd_int))) pa_nil)))))))
theorem sc_cells_of : FnScope ["machine", "number"] ["machine", "number"] (defScope (top 7)) := ⟨rfl, rfl, rfl, by decide +kernel, rfl, by decide +kernel, by decide +kernel⟩
theorem ok_cells_of (T : Txt w K mg) (D : DefAt K mg "cells_of" (top 7) ["machine", "number"]) : CallsF P w K mg base TH 1 "cells_of" ["machine", "number"] F_cells_of :=
  @def_ok P w K mg base TH "cells_of" (top 7) ["machine", "number"] ["machine", "number"] 0 B_cells_of D sc_cells_of (fun f cdv A outer s H F E hr => by
    have nd := sc_cells_of.nd
    exact (Fl.pss_one (Fl.ps_ret (pv_of (pd_ofN (pn_comp (pe_comp (N := ["row", "number"]) (js := [none, some 1]) rfl (.own (.cap rfl (.inl rfl) (.inl rfl) .nil)) (by rfl) (pi_r rfl (pr_var (pv 0)))) (by decide) (by decide) (is := [0]) (fun cl C s0 H0 fp => ⟨_, (pg_name (i := 0) (show (["row", "number"] : List Str).Nodup by decide +kernel) rfl (Or.inl rfl)), (tg_name 0), Fl.pif_nil, (pd_ix (ixr_d rfl) plain_ix (pr_of (pd_ix (ixr_d rfl) plain_ix (pr_var (pv 0)) (pr_of pd_int))) (pr_var (pv 1)))⟩)))))))
theorem sc_checked_by : FnScope ["signs", "strip", "known", "at", "sign"] ["signs", "strip"] (defScope (top 8)) := ⟨rfl, rfl, rfl, by decide +kernel, rfl, by decide +kernel, by decide +kernel⟩
theorem ok_checked_by (T : Txt w K mg) (D : DefAt K mg "checked_by" (top 8) ["signs", "strip"]) {W_NoStrip C_NoStrip : Addr} (er_NoStrip : ErrAt P w K mg base "NoStrip" ["at"] W_NoStrip C_NoStrip) : CallsF P w K mg base TH 3 "checked_by" ["signs", "strip"] F_checked_by :=
  @def_ok P w K mg base TH "checked_by" (top 8) ["signs", "strip", "known", "at", "sign"] ["signs", "strip"] 2 B_checked_by D sc_checked_by (fun f cdv A outer s H F E hr => by
    have nd := sc_checked_by.nd
    exact (Fl.pss_cons (Fl.ps_set (L2.ps_set (i := 2) nd rfl (Or.inl rfl) (pv_of (pd_slice rfl (pr_of (pd_const (pe_glob (v := .str "abc") rfl T.g_SIGNS.choose_spec ⟨_, rfl⟩) fun _ => .str _)) po_no (po_so (pr_var (pv 0)))))))
      (Fl.pss_cons (Fl.ps_for (tg_tup rfl (tgs_cons (tg_name 3) (tgs_cons (tg_name 4) tgs_nil)) rfl) (L2.ps_for (own_fly ⟨rfl, rfl⟩) rfl (pi_enu rfl (pi_enum rfl T.b_enumerate (pa_cons (pd_var (pv 1)) pa_nil)) (pi_enumS rfl T.b_enumerate (pa_cons (pd_var (pv 1)) pa_nil))) (pg_tup rfl (pgs_cons (pg_name (i := 3) nd rfl (Or.inl rfl)) (pgs_cons (pg_name (i := 4) nd rfl (Or.inl rfl)) pgs_nil)))
      (Fl.pss_one (Fl.ps_if (Fl.pt_cmp (opr_nin rfl hr.units) plain_nin (pr_var (pv 4)) (pr_var (pv 2)) (by with_unfolding_all rfl)) (Fl.pss_one (Fl.ps_raise er_NoStrip.m (by decide) (ps_raiseX rfl er_NoStrip rfl (hr.mono (by decide)) (pad_cons (pd_var (pv 3)) pad_nil)))) Fl.pss_nil))))
      (Fl.pss_one (Fl.ps_ret (pv_var (pv 1)))))))
theorem sc_checked : FnScope ["machine", "strip"] ["machine", "strip"] (defScope (top 9)) := ⟨rfl, rfl, rfl, by decide +kernel, rfl, by decide +kernel, by decide +kernel⟩
theorem ok_checked (T : Txt w K mg) (D : DefAt K mg "checked" (top 9) ["machine", "strip"]) (c_checked_by : CallsF P w K mg base TH 3 "checked_by" ["signs", "strip"] F_checked_by) (c_signs_of : CallsF P w K mg base TH 1 "signs_of" ["machine"] F_signs_of) : CallsF P w K mg base TH 4 "checked" ["machine", "strip"] F_checked :=
  @def_ok P w K mg base TH "checked" (top 9) ["machine", "strip"] ["machine", "strip"] 3 B_checked D sc_checked (fun f cdv A outer s H F E hr => by
    have nd := sc_checked.nd
    exact (Fl.pss_one (Fl.ps_ret (pv_fn rfl rfl rfl (pe_fn c_checked_by (hr.mono (by decide)) rfl (passX fun _ _ _ h => h) (pav_cons (pv_fn rfl rfl rfl (pe_fn c_signs_of (hr.mono (by decide)) rfl (passX fun _ _ _ h => h) (pav_cons (pv_var (pv 0)) pav_nil))) (pav_cons (pv_var (pv 1)) pav_nil)))))))
theorem sc_still : FnScope ["rooms", "fore", "aft"] ["rooms"] (defScope (top 11)) := ⟨rfl, rfl, rfl, by decide +kernel, rfl, by decide +kernel, by decide +kernel⟩
theorem ok_still (T : Txt w K mg) (D : DefAt K mg "still" (top 11) ["rooms"]) : CallsF P w K mg base TH 1 "still" ["rooms"] F_still :=
  @def_ok P w K mg base TH "still" (top 11) ["rooms", "fore", "aft"] ["rooms"] 0 B_still D sc_still (fun f cdv A outer s H F E hr => by
    have nd := sc_still.nd
    exact (Fl.pss_cons (Fl.ps_set (L2.ps_set (i := 1) nd rfl (Or.inl rfl) (pv_of (pd_tuple rfl (pe_callTy call_tuple_of rfl T.b_tuple PyProof.Rows.boot_tuple (pa_cons (pr_of (pd_ofN (pn_comp (pe_comp (N := ["room"]) (js := [none]) rfl (.own .nil) (by rfl) (pi_of (pi_rng1 (pi_range1 rfl T.b_range (pa_cons (pr_var (pv 0)) pa_nil))))) (by decide) (by decide) (is := [0]) (fun cl C s0 H0 fp => ⟨_, (pg_name (i := 0) (show (["room"] : List Str).Nodup by decide +kernel) rfl (Or.inl rfl)), (tg_name 0), Fl.pif_nil, (pd_tup (pad_cons pd_int (pad_cons (pd_var (pv 0)) pad_nil)))⟩)))) pa_nil))))))
      (Fl.pss_cons (Fl.ps_set (L2.ps_set (i := 2) nd rfl (Or.inl rfl) (pv_of (pd_tuple rfl (pe_callTy call_tuple_of rfl T.b_tuple PyProof.Rows.boot_tuple (pa_cons (pr_of (pd_ofN (pn_comp (pe_comp (N := ["room"]) (js := [none]) rfl (.own .nil) (by rfl) (pi_of (pi_rng1 (pi_range1 rfl T.b_range (pa_cons (pr_var (pv 0)) pa_nil))))) (by decide) (by decide) (is := [0]) (fun cl C s0 H0 fp => ⟨_, (pg_name (i := 0) (show (["room"] : List Str).Nodup by decide +kernel) rfl (Or.inl rfl)), (tg_name 0), Fl.pif_nil, (pd_tup (pad_cons (pd_un unr_neg plain_neg (pr_of pd_int)) (pad_cons (pd_var (pv 0)) pad_nil)))⟩)))) pa_nil))))))
      (Fl.pss_one (Fl.ps_ret (pv_of (pd_tup (pad_cons (pd_var (pv 1)) (pad_cons (pd_var (pv 2)) pad_nil)))))))))
theorem sc_sign_table : FnScope ["machine", "sign", "things"] ["machine", "sign"] (defScope (top 12)) := ⟨rfl, rfl, rfl, by decide +kernel, rfl, by decide +kernel, by decide +kernel⟩
theorem ok_sign_table (T : Txt w K mg) (D : DefAt K mg "sign_table" (top 12) ["machine", "sign"]) (c_checked : CallsF P w K mg base TH 4 "checked" ["machine", "strip"] F_checked) (c_cells_of : CallsF P w K mg base TH 1 "cells_of" ["machine", "number"] F_cells_of) : CallsF P w K mg base TH 5 "sign_table" ["machine", "sign"] F_sign_table :=
  @def_ok P w K mg base TH "sign_table" (top 12) ["machine", "sign", "things"] ["machine", "sign"] 4 B_sign_table D sc_sign_table (fun f cdv A outer s H F E hr => by
    have nd := sc_sign_table.nd
    exact (Fl.pss_cons (Fl.ps_expr (L2.ps_expr (pv_fn rfl rfl rfl (pe_fn c_checked (hr.mono (by decide)) rfl (passX fun _ _ _ h => h) (pav_cons (pv_var (pv 0)) (pav_cons (pv_var (pv 1)) pav_nil))))))
      (Fl.pss_cons (Fl.ps_set (L2.ps_set (i := 2) nd rfl (Or.inl rfl) (pv_of (pd_tuple rfl (pe_callTy call_tuple_of rfl T.b_tuple PyProof.Rows.boot_tuple (pa_cons (pr_of (pd_ofN (pn_comp (pe_comp (N := ["cell"]) (js := [none]) rfl (.own .nil) (by rfl) (pi_r rfl (pr_of (pd_of (pv_fn rfl rfl rfl (pe_fn c_cells_of (hr.mono (by decide)) rfl (passX fun _ _ _ h => h) (pav_cons (pv_var (pv 0)) (pav_cons (pv_of (pd_index (pe_bm PySem.F.plainAttrs_str PySem.F.slot_str_index PySem.F.type_str_index mt_index (pr_of (pd_const (pe_glob (v := .str "abc") rfl T.g_SIGNS.choose_spec ⟨_, rfl⟩) fun _ => .str _)) (pa_cons (pr_var (pv 1)) pa_nil)) (by intro ρ x h; cases h; exact ⟨_, rfl⟩))) pav_nil)))))))) (by decide) (by decide) (is := [0]) (fun cl C s0 H0 fp => ⟨_, (pg_name (i := 0) (show (["cell"] : List Str).Nodup by decide +kernel) rfl (Or.inl rfl)), (tg_name 0), Fl.pif_nil, (pd_tup (pad_cons (pd_ix (ixr_d rfl) plain_ix (pr_var (pv 0)) (pr_of pd_int)) (pad_cons (pd_ix (ixr_d rfl) plain_ix (pr_var (pv 0)) (pr_of pd_int)) pad_nil)))⟩)))) pa_nil))))))
      (Fl.pss_one (Fl.ps_ret (pv_of (pd_tup (pad_cons (pd_var (pv 2)) (pad_cons (pd_var (pv 2)) pad_nil)))))))))
end
end Mc
namespace Mc
open PySem L2 PyProof.Rows Fl
section
variable {P : Program} {w : World} {K : PySem.W.Frag} {mg : Str → Option Value} {base : Heap} {TH : Hp}
theorem sc_gone_out : FnScope ["one", "other", "thing", "inward", "been"] ["one", "other", "thing", "inward"] (defScope (top 13)) := ⟨rfl, rfl, rfl, by decide +kernel, rfl, by decide +kernel, by decide +kernel⟩
theorem ok_gone_out (T : Txt w K mg) (D : DefAt K mg "gone_out" (top 13) ["one", "other", "thing", "inward"]) : CallsF P w K mg base TH 1 "gone_out" ["one", "other", "thing", "inward"] F_gone_out :=
  @def_ok P w K mg base TH "gone_out" (top 13) ["one", "other", "thing", "inward", "been"] ["one", "other", "thing", "inward"] 0 B_gone_out D sc_gone_out (fun f cdv A outer s H F E hr => by
    have nd := sc_gone_out.nd
    exact (Fl.pss_cons (ps_mnew rfl (L2.ps_set (i := 4) nd rfl (Or.inl rfl) pe_mnew))
      (Fl.pss_cons (Fl.ps_while (L2.ps_while (own_fly ⟨rfl, rfl⟩) (PW.pt (Fl.pw_and (Fl.pt_cmp opr_isnt plain_isnt (pr_var (pv 2)) (pr_of pd_non) (nomark _)) (Fl.pw_and1 (Fl.pt_cmp (opr_eq rfl hr.units) plain_eq (pr_of (pd_ix (ixr_d rfl) plain_ix (pr_var (pv 2)) (pr_of pd_int))) (pr_var (pv 3)) (nomark _)))))
      (Fl.pss_cons (Fl.ps_if (pt_min rfl rfl (pt_cmpR (opr_min hr.units) (pd_var (pv 2)) (pv 4) (by with_unfolding_all rfl))) (Fl.pss_one (Fl.ps_ret (pv_of pd_non))) Fl.pss_nil)
      (Fl.pss_cons (Fl.ps_mput rfl rfl (ps_asg pd_bl (pg_sub (pv 4) (pd_var (pv 2)) (set_mput hr.units))))
      (Fl.pss_cons (Fl.ps_set (L2.ps_set (i := 2) nd rfl (Or.inl rfl) (pv_of (pd_if (Fl.pt_cmp (opr_eq rfl hr.units) plain_eq (pr_var (pv 3)) (pr_of pd_int) (nomark _)) (pd_ix (ixr_d rfl) plain_ix (pr_of (pd_ix (ixr_d rfl) plain_ix (pr_var (pv 1)) (pr_of pd_int))) (pr_of (pd_ix (ixr_d rfl) plain_ix (pr_var (pv 2)) (pr_of pd_int)))) (pd_ix (ixr_d rfl) plain_ix (pr_of (pd_ix (ixr_d rfl) plain_ix (pr_var (pv 0)) (pr_of pd_int))) (pr_of (pd_ix (ixr_d rfl) plain_ix (pr_var (pv 2)) (pr_of pd_int))))))))
      (Fl.pss_one (Fl.ps_set (L2.ps_set (i := 3) nd rfl (Or.inl rfl) (pv_of (pd_un unr_neg plain_neg (pr_var (pv 3))))))))))))
      (Fl.pss_one (Fl.ps_ret (pv_var (pv 2)))))))
theorem sc_behind : FnScope ["one", "other", "fore", "aft"] ["one", "other"] (defScope (top 14)) := ⟨rfl, rfl, rfl, by decide +kernel, rfl, by decide +kernel, by decide +kernel⟩
theorem ok_behind (T : Txt w K mg) (D : DefAt K mg "behind" (top 14) ["one", "other"]) (c_gone_out : CallsF P w K mg base TH 1 "gone_out" ["one", "other", "thing", "inward"] F_gone_out) : CallsF P w K mg base TH 2 "behind" ["one", "other"] F_behind :=
  @def_ok P w K mg base TH "behind" (top 14) ["one", "other", "fore", "aft"] ["one", "other"] 1 B_behind D sc_behind (fun f cdv A outer s H F E hr => by
    have nd := sc_behind.nd
    exact (Fl.pss_cons (Fl.ps_set (L2.ps_set (i := 2) nd rfl (Or.inl rfl) (pv_of (pd_tuple rfl (pe_callTy call_tuple_of rfl T.b_tuple PyProof.Rows.boot_tuple (pa_cons (pr_of (pd_ofN (pn_comp (pe_comp (N := ["thing", "one", "other"]) (js := [none, some 0, some 1]) rfl (.own (.cap rfl (.inl rfl) (.inl rfl) (.cap rfl (.inl rfl) (.inl rfl) .nil))) (by rfl) (pi_r rfl (pr_of (pd_ix (ixr_d rfl) plain_ix (pr_var (pv 0)) (pr_of pd_int))))) (by decide) (by decide) (is := [0]) (fun cl C s0 H0 fp => ⟨_, (pg_name (i := 0) (show (["thing", "one", "other"] : List Str).Nodup by decide +kernel) rfl (Or.inl rfl)), (tg_name 0), Fl.pif_nil, (pd_of (pv_fn rfl rfl rfl (pe_fn c_gone_out (hr.mono (by decide)) rfl passN (pav_cons (pv_var (pv 1)) (pav_cons (pv_var (pv 2)) (pav_cons (pv_var (pv 0)) (pav_cons (pv_of pd_int) pav_nil)))))))⟩)))) pa_nil))))))
      (Fl.pss_cons (Fl.ps_set (L2.ps_set (i := 3) nd rfl (Or.inl rfl) (pv_of (pd_tuple rfl (pe_callTy call_tuple_of rfl T.b_tuple PyProof.Rows.boot_tuple (pa_cons (pr_of (pd_ofN (pn_comp (pe_comp (N := ["thing", "one", "other"]) (js := [none, some 0, some 1]) rfl (.own (.cap rfl (.inl rfl) (.inl rfl) (.cap rfl (.inl rfl) (.inl rfl) .nil))) (by rfl) (pi_r rfl (pr_of (pd_ix (ixr_d rfl) plain_ix (pr_var (pv 1)) (pr_of pd_int))))) (by decide) (by decide) (is := [0]) (fun cl C s0 H0 fp => ⟨_, (pg_name (i := 0) (show (["thing", "one", "other"] : List Str).Nodup by decide +kernel) rfl (Or.inl rfl)), (tg_name 0), Fl.pif_nil, (pd_of (pv_fn rfl rfl rfl (pe_fn c_gone_out (hr.mono (by decide)) rfl passN (pav_cons (pv_var (pv 1)) (pav_cons (pv_var (pv 2)) (pav_cons (pv_var (pv 0)) (pav_cons (pv_of (pd_un unr_neg plain_neg (pr_of pd_int))) pav_nil)))))))⟩)))) pa_nil))))))
      (Fl.pss_one (Fl.ps_ret (pv_of (pd_tup (pad_cons (pd_var (pv 2)) (pad_cons (pd_var (pv 3)) pad_nil)))))))))
theorem sc_gathered : FnScope ["machine", "most", "ends", "found", "known", "at", "sign", "end", "table"] ["machine", "most"] (defScope (top 17)) := ⟨rfl, rfl, rfl, by decide +kernel, rfl, by decide +kernel, by decide +kernel⟩
theorem ok_gathered (T : Txt w K mg) (D : DefAt K mg "gathered" (top 17) ["machine", "most"]) (c_signs_of : CallsF P w K mg base TH 1 "signs_of" ["machine"] F_signs_of) (c_sign_table : CallsF P w K mg base TH 5 "sign_table" ["machine", "sign"] F_sign_table) (c_still : CallsF P w K mg base TH 1 "still" ["rooms"] F_still) (c_behind : CallsF P w K mg base TH 2 "behind" ["one", "other"] F_behind) {Wp_TooMany Cp_TooMany : Addr} (erp_TooMany : ErrP K mg "TooMany" Wp_TooMany Cp_TooMany) : CallsF P w K mg base TH 6 "gathered" ["machine", "most"] F_gathered :=
  @def_ok P w K mg base TH "gathered" (top 17) ["machine", "most", "ends", "found", "known", "at", "sign", "end", "table"] ["machine", "most"] 5 B_gathered D sc_gathered (fun f cdv A outer s H F E hr => by
    have nd := sc_gathered.nd
    exact (Fl.pss_cons (ps_setC (L2.ps_setComp (i := 2) nd rfl (Or.inl rfl) (by rfl) (N := ["sign", "machine"]) (js := [none, some 0]) rfl (.own (.cap rfl (.inl rfl) (.inl rfl) .nil)) (by rfl) (pi_r rfl (pr_of (pd_slice rfl (pr_of (pd_const (pe_glob (v := .str "abc") rfl T.g_SIGNS.choose_spec ⟨_, rfl⟩) fun _ => .str _)) po_no (po_so (pr_of (pd_of (pv_fn rfl rfl rfl (pe_fn c_signs_of (hr.mono (by decide)) rfl (passX fun _ _ _ h => h) (pav_cons (pv_var (pv 0)) pav_nil)))))))))) (by decide) (by decide) (is := [0]) (fun cl C s0 H0 fp => ⟨_, (pg_name (i := 0) (show (["sign", "machine"] : List Str).Nodup by decide +kernel) rfl (Or.inl rfl)), (tg_name 0), Fl.pif_nil, (pd_tup (pad_cons (pd_var (pv 0)) (pad_cons (pd_of (pv_fn rfl rfl rfl (pe_fn c_sign_table (hr.mono (by decide)) rfl passN (pav_cons (pv_var (pv 1)) (pav_cons (pv_var (pv 0)) pav_nil))))) pad_nil)))⟩))
      (Fl.pss_cons (ps_setN (L2.ps_set (i := 3) nd rfl (Or.inl rfl) (pn_lst (pad_cons (pd_tup (pad_cons pd_str (pad_cons (pd_of (pv_fn rfl rfl rfl (pe_fn c_still (hr.mono (by decide)) rfl (passX fun _ _ _ h => h) (pav_cons (pv_of (pd_len rfl (pe_callB call_len rfl T.b_len PySem.boot_len (pa_cons (pr_var (pv 0)) pa_nil)))) pav_nil)))) pad_nil))) pad_nil))))
      (Fl.pss_cons (ps_mlit rfl rfl (L2.ps_set (i := 4) nd rfl (Or.inl rfl) (pe_mlit hr.units (ppf_cons (pd_ix (ixr_d rfl) plain_ix (pr_of (pd_ix (ixr_d rfl) plain_ix (pr_var (pv 3)) (pr_of pd_int))) (pr_of pd_int)) pd_bl ppf_nil))))
      (Fl.pss_cons (Fl.ps_set (L2.ps_set (i := 5) nd rfl (Or.inl rfl) (pv_of pd_int)))
      (Fl.pss_cons (Fl.ps_while (L2.ps_while (own_fly ⟨rfl, rfl⟩) (Fl.pt_cmp opr_lt plain_lt (pr_var (pv 5)) (pr_of (pd_len rfl (pe_callB call_len rfl T.b_len PySem.boot_len (pa_cons (pr_var (pv 3)) pa_nil)))) (nomark _))
      (Fl.pss_cons (ps_fz 2 (Fl.ps_for (tg_tup rfl (tgs_cons (tg_name 6) (tgs_cons (tg_name 7) tgs_nil)) rfl) (L2.ps_for (own_fly ⟨rfl, rfl⟩) rfl (pi_d rfl (pd_var (pv 2))) (pg_tup rfl (pgs_cons (pg_name (i := 6) nd rfl (Or.inl rfl)) (pgs_cons (pg_name (i := 7) nd rfl (Or.inl rfl)) pgs_nil)))
      (Fl.pss_cons (Fl.ps_set (L2.ps_set (i := 8) nd rfl (Or.inl rfl) (pv_fn rfl rfl rfl (pe_fn c_behind (hr.mono (by decide)) rfl (passX fun _ _ _ h => h) (pav_cons (pv_of (pd_ix (ixr_d rfl) plain_ix (pr_of (pd_ix (ixr_d rfl) plain_ix (pr_var (pv 3)) (pr_var (pv 5)))) (pr_of pd_int))) (pav_cons (pv_var (pv 7)) pav_nil))))))
      (Fl.pss_one (Fl.ps_if (pt_min rfl rfl (pt_cmpR (opr_mnin hr.units) (pd_var (pv 8)) (pv 4) (by with_unfolding_all rfl))) (Fl.pss_cons (Fl.ps_mput rfl rfl (ps_asg pd_bl (pg_sub (pv 4) (pd_var (pv 8)) (set_mput hr.units))))
      (Fl.pss_one (ps_app rfl (L2.ps_expr (pe_bm PySem.F.plainAttrs_list PySem.F.slot_list_append PySem.F.type_list_append mt_append (pv 3) (pa_cons (pd_tup (pad_cons (pd_bin (opr_add rfl) plain_add (pr_of (pd_ix (ixr_d rfl) plain_ix (pr_of (pd_ix (ixr_d rfl) plain_ix (pr_var (pv 3)) (pr_var (pv 5)))) (pr_of pd_int))) (pr_var (pv 6))) (pad_cons (pd_var (pv 8)) pad_nil))) pa_nil)))))) Fl.pss_nil))))))
      (Fl.pss_cons (Fl.ps_if (Fl.pt_cmp opr_gt plain_gt (pr_of (pd_len rfl (pe_callB call_len rfl T.b_len PySem.boot_len (pa_cons (pr_var (pv 3)) pa_nil)))) (pr_var (pv 1)) (nomark _)) (Fl.pss_one (ps_raiseF erp_TooMany.m (L2.ps_raiseP rfl erp_TooMany rfl (pa_cons (pe_fmt (pr_var (pv 1))) pa_nil)))) Fl.pss_nil)
      (Fl.pss_one (Fl.ps_aug aug_add (L2.ps_aug (i := 5) nd rfl (Or.inl rfl) (pr_of pd_int) ip_add)))))))
      (Fl.pss_one (ps_fz 3 (Fl.ps_ret (pv_var (pv 3)))))))))))
theorem sc_all_tables : FnScope ["machine"] ["machine"] (defScope (top 18)) := ⟨rfl, rfl, rfl, by decide +kernel, rfl, by decide +kernel, by decide +kernel⟩
theorem ok_all_tables (T : Txt w K mg) (D : DefAt K mg "all_tables" (top 18) ["machine"]) (c_gathered : CallsF P w K mg base TH 6 "gathered" ["machine", "most"] F_gathered) : CallsF P w K mg base TH 7 "all_tables" ["machine"] F_all_tables :=
  @def_ok P w K mg base TH "all_tables" (top 18) ["machine"] ["machine"] 6 B_all_tables D sc_all_tables (fun f cdv A outer s H F E hr => by
    have nd := sc_all_tables.nd
    exact (Fl.pss_one (Fl.ps_ret (pv_fn rfl rfl rfl (pe_fn c_gathered (hr.mono (by decide)) rfl (passX fun _ _ _ h => h) (pav_cons (pv_var (pv 0)) (pav_cons (pv_of (pd_const (pe_glob (v := .int 300) rfl T.g_MOST_TABLES.choose_spec ⟨_, rfl⟩) fun _ => .int _)) pav_nil)))))))
theorem sc__law_cell : FnScope ["_law_script", "_law_k", "_law_cell_here", "_law_mixed"] ["_law_script", "_law_k"] (defScope (top 20)) := ⟨rfl, rfl, rfl, by decide +kernel, rfl, by decide +kernel, by decide +kernel⟩
theorem ok__law_cell (T : Txt w K mg) (D : DefAt K mg "_law_cell" (top 20) ["_law_script", "_law_k"]) : CallsF P w K mg base TH 1 "_law_cell" ["_law_script", "_law_k"] F__law_cell :=
  @def_ok P w K mg base TH "_law_cell" (top 20) ["_law_script", "_law_k", "_law_cell_here", "_law_mixed"] ["_law_script", "_law_k"] 0 B__law_cell D sc__law_cell (fun f cdv A outer s H F E hr => by
    have nd := sc__law_cell.nd
    exact (Fl.pss_cons (Fl.ps_set (L2.ps_set (i := 2) nd rfl (Or.inl rfl) (pv_of pd_int)))
      (Fl.pss_cons (Fl.ps_if (Fl.pt_cmp opr_gt plain_gt (pr_of (pd_len rfl (pe_callB call_len rfl T.b_len PySem.boot_len (pa_cons (pr_var (pv 0)) pa_nil)))) (pr_of pd_int) (nomark _)) (Fl.pss_one (Fl.ps_set (L2.ps_set (i := 2) nd rfl (Or.inl rfl) (pv_of (pd_ix (ixr_d rfl) plain_ix (pr_var (pv 0)) (pr_of (pd_bin opr_mod plain_mod (pr_var (pv 1)) (pr_of (pd_len rfl (pe_callB call_len rfl T.b_len PySem.boot_len (pa_cons (pr_var (pv 0)) pa_nil))))))))))) Fl.pss_nil)
      (Fl.pss_cons (Fl.ps_set (L2.ps_set (i := 3) nd rfl (Or.inl rfl) (pv_of (pd_bin opr_mod plain_mod (pr_of (pd_bin opr_mul plain_mul (pr_of (pd_bin (opr_add rfl) plain_add (pr_of (pd_bin (opr_add rfl) plain_add (pr_of (pd_bin opr_mod plain_mod (pr_var (pv 2)) (pr_of pd_int))) (pr_of (pd_bin opr_mul plain_mul (pr_of pd_int) (pr_var (pv 1)))))) (pr_of pd_int))) (pr_of pd_int))) (pr_of pd_int)))))
      (Fl.pss_one (Fl.ps_ret (pv_of (pd_bin (opr_add rfl) plain_add (pr_of (pd_bin opr_mul plain_mul (pr_of (pd_bin opr_div plain_div (pr_var (pv 2)) (pr_of pd_int))) (pr_of pd_int))) (pr_of (pd_bin opr_mod plain_mod (pr_of (pd_bin (opr_add rfl) plain_add (pr_of (pd_bin opr_mul plain_mul (pr_var (pv 3)) (pr_of pd_int))) (pr_of (pd_bin opr_mul plain_mul (pr_of pd_int) (pr_var (pv 1)))))) (pr_of pd_int)))))))))))
theorem sc__law_end : FnScope ["_law_number", "_law_rooms"] ["_law_number", "_law_rooms"] (defScope (top 21)) := ⟨rfl, rfl, rfl, by decide +kernel, rfl, by decide +kernel, by decide +kernel⟩
theorem ok__law_end (T : Txt w K mg) (D : DefAt K mg "_law_end" (top 21) ["_law_number", "_law_rooms"]) : CallsF P w K mg base TH 1 "_law_end" ["_law_number", "_law_rooms"] F__law_end :=
  @def_ok P w K mg base TH "_law_end" (top 21) ["_law_number", "_law_rooms"] ["_law_number", "_law_rooms"] 0 B__law_end D sc__law_end (fun f cdv A outer s H F E hr => by
    have nd := sc__law_end.nd
    exact (Fl.pss_cons (Fl.ps_if (Fl.pt_cmp (opr_eq rfl hr.units) plain_eq (pr_of (pd_bin opr_mod plain_mod (pr_var (pv 0)) (pr_of pd_int))) (pr_of pd_int) (nomark _)) (Fl.pss_one (Fl.ps_ret (pv_of (pd_ix (ixr_d rfl) plain_ix (pr_of (pd_ofN (pn_lst (pad_cons pd_str (pad_cons pd_str pad_nil))))) (pr_of (pd_bin opr_mod plain_mod (pr_of (pd_bin opr_div plain_div (pr_var (pv 0)) (pr_of pd_int))) (pr_of pd_int))))))) Fl.pss_nil)
      (Fl.pss_one (Fl.ps_ret (pv_of (pd_bin opr_mod plain_mod (pr_of (pd_bin opr_div plain_div (pr_var (pv 0)) (pr_of pd_int))) (pr_var (pv 1))))))))
end
end Mc
namespace Mc
open PySem L2 PyProof.Rows Fl
section
variable {P : Program} {w : World} {K : PySem.W.Frag} {mg : Str → Option Value} {base : Heap} {TH : Hp}
theorem sc__law_digit_row : FnScope ["_law_number", "_law_rooms", "_law_signs", "_law_left", "_law_cells", "_law_k", "_law_ends"] ["_law_number", "_law_rooms", "_law_signs"] (defScope (top 22)) := ⟨rfl, rfl, rfl, by decide +kernel, rfl, by decide +kernel, by decide +kernel⟩
theorem ok__law_digit_row (T : Txt w K mg) (D : DefAt K mg "_law_digit_row" (top 22) ["_law_number", "_law_rooms", "_law_signs"]) : CallsF P w K mg base TH 1 "_law_digit_row" ["_law_number", "_law_rooms", "_law_signs"] F__law_digit_row :=
  @def_ok P w K mg base TH "_law_digit_row" (top 22) ["_law_number", "_law_rooms", "_law_signs", "_law_left", "_law_cells", "_law_k", "_law_ends"] ["_law_number", "_law_rooms", "_law_signs"] 0 B__law_digit_row D sc__law_digit_row (fun f cdv A outer s H F E hr => by
    have nd := sc__law_digit_row.nd
    exact (Fl.pss_cons (Fl.ps_set (L2.ps_set (i := 3) nd rfl (Or.inl rfl) (pv_of (pd_bin opr_mod plain_mod (pr_var (pv 0)) (pr_of (pd_bin (opr_add rfl) plain_add (pr_var (pv 1)) (pr_of pd_int)))))))
      (Fl.pss_cons (Fl.ps_set (L2.ps_set (i := 0) nd rfl (Or.inl rfl) (pv_of (pd_bin opr_div plain_div (pr_var (pv 0)) (pr_of (pd_bin (opr_add rfl) plain_add (pr_var (pv 1)) (pr_of pd_int)))))))
      (Fl.pss_cons (ps_setN (L2.ps_set (i := 4) nd rfl (Or.inl rfl) (pn_lst pad_nil)))
      (Fl.pss_cons (Fl.ps_for (tg_name 5) (L2.ps_for (own_fly ⟨rfl, rfl⟩) rfl (pi_rng1 (pi_range1 rfl T.b_range (pa_cons (pr_var (pv 2)) pa_nil))) (pg_name (i := 5) nd rfl (Or.inl rfl))
      (Fl.pss_cons (ps_app rfl (L2.ps_expr (pe_bm PySem.F.plainAttrs_list PySem.F.slot_list_append PySem.F.type_list_append mt_append (pv 4) (pa_cons (pd_tup (pad_cons (pd_bin opr_mod plain_mod (pr_of (pd_bin opr_div plain_div (pr_var (pv 0)) (pr_of pd_int))) (pr_var (pv 1))) (pad_cons (pd_bin opr_sub plain_sub (pr_of pd_int) (pr_of (pd_bin opr_mul plain_mul (pr_of (pd_bin opr_mod plain_mod (pr_var (pv 0)) (pr_of pd_int))) (pr_of pd_int)))) pad_nil))) pa_nil))))
      (Fl.pss_one (Fl.ps_set (L2.ps_set (i := 0) nd rfl (Or.inl rfl) (pv_of (pd_bin opr_div plain_div (pr_var (pv 0)) (pr_of (pd_bin opr_mul plain_mul (pr_of pd_int) (pr_var (pv 1))))))))))))
      (Fl.pss_cons (ps_setN (L2.ps_set (i := 6) nd rfl (Or.inl rfl) (pn_lst (pad_cons (pd_var (pv 3)) (pad_cons (pd_bin opr_mod plain_mod (pr_var (pv 0)) (pr_of (pd_bin (opr_add rfl) plain_add (pr_var (pv 1)) (pr_of pd_int)))) pad_nil)))))
      (Fl.pss_cons (ps_setC (L2.ps_setComp (i := 6) nd rfl (Or.inl rfl) (by rfl) (N := ["_law_end_here", "_law_rooms"]) (js := [none, some 1]) rfl (.own (.cap rfl (.inl rfl) (.inl rfl) .nil)) (by rfl) (pi_r rfl (pr_var (pv 6)))) (by decide) (by decide) (is := [0]) (fun cl C s0 H0 fp => ⟨_, (pg_name (i := 0) (show (["_law_end_here", "_law_rooms"] : List Str).Nodup by decide +kernel) rfl (Or.inl rfl)), (tg_name 0), Fl.pif_nil, (pd_if (Fl.pt_cmp opr_ge plain_ge (pr_var (pv 0)) (pr_var (pv 1)) (nomark _)) (pd_ix (ixr_d rfl) plain_ix (pr_of (pd_ofN (pn_lst (pad_cons pd_str (pad_cons pd_str pad_nil))))) (pr_of (pd_bin opr_sub plain_sub (pr_var (pv 0)) (pr_var (pv 1))))) (pd_var (pv 0)))⟩))
      (Fl.pss_one (Fl.ps_ret (pv_of (pd_tup (pad_cons (pd_ix (ixr_d rfl) plain_ix (pr_var (pv 6)) (pr_of pd_int)) (pad_cons (pd_tuple rfl (pe_callTy call_tuple_of rfl T.b_tuple PyProof.Rows.boot_tuple (pa_cons (pr_var (pv 4)) pa_nil))) (pad_cons (pd_ix (ixr_d rfl) plain_ix (pr_var (pv 6)) (pr_of pd_int)) pad_nil))))))))))))))
theorem sc__law_mixed_row : FnScope ["_law_number", "_law_rooms", "_law_signs", "_law_pieces", "_law_k", "_law_cells"] ["_law_number", "_law_rooms", "_law_signs"] (defScope (top 23)) := ⟨rfl, rfl, rfl, by decide +kernel, rfl, by decide +kernel, by decide +kernel⟩
theorem ok__law_mixed_row (T : Txt w K mg) (D : DefAt K mg "_law_mixed_row" (top 23) ["_law_number", "_law_rooms", "_law_signs"]) (c__law_end : CallsF P w K mg base TH 1 "_law_end" ["_law_number", "_law_rooms"] F__law_end) : CallsF P w K mg base TH 2 "_law_mixed_row" ["_law_number", "_law_rooms", "_law_signs"] F__law_mixed_row :=
  @def_ok P w K mg base TH "_law_mixed_row" (top 23) ["_law_number", "_law_rooms", "_law_signs", "_law_pieces", "_law_k", "_law_cells"] ["_law_number", "_law_rooms", "_law_signs"] 1 B__law_mixed_row D sc__law_mixed_row (fun f cdv A outer s H F E hr => by
    have nd := sc__law_mixed_row.nd
    exact (Fl.pss_cons (ps_setN (L2.ps_set (i := 3) nd rfl (Or.inl rfl) (pn_lst pad_nil)))
      (Fl.pss_cons (Fl.ps_for (tg_name 4) (L2.ps_for (own_fly ⟨rfl, rfl⟩) rfl (pi_rng1 (pi_range1 rfl T.b_range (pa_cons (pr_of (pd_bin (opr_add rfl) plain_add (pr_var (pv 2)) (pr_of pd_int))) pa_nil))) (pg_name (i := 4) nd rfl (Or.inl rfl))
      (Fl.pss_cons (Fl.ps_set (L2.ps_set (i := 0) nd rfl (Or.inl rfl) (pv_of (pd_bin opr_mod plain_mod (pr_of (pd_bin (opr_add rfl) plain_add (pr_of (pd_bin opr_mul plain_mul (pr_var (pv 0)) (pr_of pd_int))) (pr_of pd_int))) (pr_of pd_int)))))
      (Fl.pss_one (ps_app rfl (L2.ps_expr (pe_bm PySem.F.plainAttrs_list PySem.F.slot_list_append PySem.F.type_list_append mt_append (pv 3) (pa_cons (pd_bin opr_div plain_div (pr_var (pv 0)) (pr_of pd_int)) pa_nil))))))))
      (Fl.pss_cons (Fl.ps_set (L2.ps_set (i := 5) nd rfl (Or.inl rfl) (pv_of (pd_tuple rfl (pe_callTy call_tuple_of rfl T.b_tuple PyProof.Rows.boot_tuple (pa_cons (pr_of (pd_ofN (pn_comp (pe_comp (N := ["_law_piece", "_law_rooms"]) (js := [none, some 1]) rfl (.own (.cap rfl (.inl rfl) (.inl rfl) .nil)) (by rfl) (pi_r rfl (pr_of (pd_slice rfl (pr_var (pv 3)) (po_so (pr_of pd_int)) po_no)))) (by decide) (by decide) (is := [0]) (fun cl C s0 H0 fp => ⟨_, (pg_name (i := 0) (show (["_law_piece", "_law_rooms"] : List Str).Nodup by decide +kernel) rfl (Or.inl rfl)), (tg_name 0), Fl.pif_nil, (pd_tup (pad_cons (pd_bin opr_mod plain_mod (pr_var (pv 0)) (pr_var (pv 1))) (pad_cons (pd_bin opr_sub plain_sub (pr_of pd_int) (pr_of (pd_bin opr_mul plain_mul (pr_of (pd_bin opr_div plain_div (pr_of (pd_bin opr_mod plain_mod (pr_of (pd_bin opr_div plain_div (pr_var (pv 0)) (pr_of pd_int))) (pr_of pd_int))) (pr_of pd_int))) (pr_of pd_int)))) pad_nil)))⟩)))) pa_nil))))))
      (Fl.pss_one (Fl.ps_ret (pv_of (pd_tup (pad_cons (pd_of (pv_fn rfl rfl rfl (pe_fn c__law_end (hr.mono (by decide)) rfl (passX fun _ _ _ h => h) (pav_cons (pv_of (pd_ix (ixr_d rfl) plain_ix (pr_var (pv 3)) (pr_of pd_int))) (pav_cons (pv_var (pv 1)) pav_nil))))) (pad_cons (pd_var (pv 5)) (pad_cons (pd_of (pv_fn rfl rfl rfl (pe_fn c__law_end (hr.mono (by decide)) rfl (passX fun _ _ _ h => h) (pav_cons (pv_of (pd_ix (ixr_d rfl) plain_ix (pr_var (pv 3)) (pr_of pd_int))) (pav_cons (pv_var (pv 1)) pav_nil))))) pad_nil)))))))))))
theorem sc__law_machine : FnScope ["_law_script", "_law_at", "_law_rooms", "_law_signs", "_law_rows", "_law_room", "_law_row"] ["_law_script", "_law_at", "_law_rooms", "_law_signs"] (defScope (top 24)) := ⟨rfl, rfl, rfl, by decide +kernel, rfl, by decide +kernel, by decide +kernel⟩
theorem ok__law_machine (T : Txt w K mg) (D : DefAt K mg "_law_machine" (top 24) ["_law_script", "_law_at", "_law_rooms", "_law_signs"]) (c__law_digit_row : CallsF P w K mg base TH 1 "_law_digit_row" ["_law_number", "_law_rooms", "_law_signs"] F__law_digit_row) (c__law_mixed_row : CallsF P w K mg base TH 2 "_law_mixed_row" ["_law_number", "_law_rooms", "_law_signs"] F__law_mixed_row) (c__law_cell : CallsF P w K mg base TH 1 "_law_cell" ["_law_script", "_law_k"] F__law_cell) : CallsF P w K mg base TH 3 "_law_machine" ["_law_script", "_law_at", "_law_rooms", "_law_signs"] F__law_machine :=
  @def_ok P w K mg base TH "_law_machine" (top 24) ["_law_script", "_law_at", "_law_rooms", "_law_signs", "_law_rows", "_law_room", "_law_row"] ["_law_script", "_law_at", "_law_rooms", "_law_signs"] 2 B__law_machine D sc__law_machine (fun f cdv A outer s H F E hr => by
    have nd := sc__law_machine.nd
    exact (Fl.pss_cons (ps_setN (L2.ps_set (i := 4) nd rfl (Or.inl rfl) (pn_lst pad_nil)))
      (Fl.pss_cons (Fl.ps_for (tg_name 5) (L2.ps_for (own_fly ⟨rfl, rfl⟩) rfl (pi_rng1 (pi_range1 rfl T.b_range (pa_cons (pr_var (pv 2)) pa_nil))) (pg_name (i := 5) nd rfl (Or.inl rfl))
      (Fl.pss_one (Fl.ps_if (PW.pt (Fl.pw_and (Fl.pt_cmp opr_lt plain_lt (pr_of (pd_bin (opr_add rfl) plain_add (pr_var (pv 1)) (pr_var (pv 5)))) (pr_of (pd_len rfl (pe_callB call_len rfl T.b_len PySem.boot_len (pa_cons (pr_var (pv 0)) pa_nil)))) (nomark _)) (Fl.pw_and1 (Fl.pt_cmp (opr_eq rfl hr.units) plain_eq (pr_of (pd_bin opr_mod plain_mod (pr_of (pd_ix (ixr_d rfl) plain_ix (pr_var (pv 0)) (pr_of pd_int))) (pr_of pd_int))) (pr_of pd_int) (nomark _))))) (Fl.pss_one (ps_app rfl (L2.ps_expr (pe_bm PySem.F.plainAttrs_list PySem.F.slot_list_append PySem.F.type_list_append mt_append (pv 4) (pa_cons (pd_of (pv_fn rfl rfl rfl (pe_fn c__law_digit_row (hr.mono (by decide)) rfl (passX fun _ _ _ h => h) (pav_cons (pv_of (pd_ix (ixr_d rfl) plain_ix (pr_var (pv 0)) (pr_of (pd_bin (opr_add rfl) plain_add (pr_var (pv 1)) (pr_var (pv 5)))))) (pav_cons (pv_var (pv 2)) (pav_cons (pv_var (pv 3)) pav_nil)))))) pa_nil))))) (Fl.pss_cons (Fl.ps_set (L2.ps_set (i := 6) nd rfl (Or.inl rfl) (pv_fn rfl rfl rfl (pe_fn c__law_mixed_row (hr.mono (by decide)) rfl (passX fun _ _ _ h => h) (pav_cons (pv_of (pd_bin opr_mod plain_mod (pr_of (pd_of (pv_fn rfl rfl rfl (pe_fn c__law_cell (hr.mono (by decide)) rfl (passX fun _ _ _ h => h) (pav_cons (pv_var (pv 0)) (pav_cons (pv_of (pd_bin (opr_add rfl) plain_add (pr_var (pv 1)) (pr_var (pv 5)))) pav_nil)))))) (pr_of pd_int))) (pav_cons (pv_var (pv 2)) (pav_cons (pv_var (pv 3)) pav_nil)))))))
      (Fl.pss_cons (Fl.ps_if (PW.pt (Fl.pw_and (Fl.pt_cmp (opr_eq rfl hr.units) plain_eq (pr_var (pv 5)) (pr_of pd_int) (nomark _)) (Fl.pw_and (Fl.pt_val (pd_isT (pe_callB (call_isD rfl (kit_str _)) rfl T.b_isinstance PyProof.Rows.boot_isinstance (pa_cons (pr_of (pd_ix (ixr_d rfl) plain_ix (pr_var (pv 6)) (pr_of pd_int))) (pa_cons (pe_bltn (v := .ty "str") rfl T.b_str PyProof.Rows.boot_str rfl) pa_nil))))) (Fl.pw_and1 (Fl.pt_cmp opr_gt plain_gt (pr_of (pd_bin opr_mod plain_mod (pr_of (pd_bin opr_div plain_div (pr_of (pd_of (pv_fn rfl rfl rfl (pe_fn c__law_cell (hr.mono (by decide)) rfl (passX fun _ _ _ h => h) (pav_cons (pv_var (pv 0)) (pav_cons (pv_var (pv 1)) pav_nil)))))) (pr_of pd_int))) (pr_of pd_int))) (pr_of pd_int) (nomark _)))))) (Fl.pss_one (Fl.ps_set (L2.ps_set (i := 6) nd rfl (Or.inl rfl) (pv_of (pd_bin (opr_add rfl) plain_add (pr_of (pd_tup (pad_cons (pd_bin opr_mod plain_mod (pr_of (pd_bin opr_div plain_div (pr_of (pd_of (pv_fn rfl rfl rfl (pe_fn c__law_cell (hr.mono (by decide)) rfl (passX fun _ _ _ h => h) (pav_cons (pv_var (pv 0)) (pav_cons (pv_var (pv 1)) pav_nil)))))) (pr_of pd_int))) (pr_var (pv 2))) pad_nil))) (pr_of (pd_slice rfl (pr_var (pv 6)) (po_so (pr_of pd_int)) po_no))))))) Fl.pss_nil)
      (Fl.pss_one (ps_app rfl (L2.ps_expr (pe_bm PySem.F.plainAttrs_list PySem.F.slot_list_append PySem.F.type_list_append mt_append (pv 4) (pa_cons (pd_var (pv 6)) pa_nil)))))))))))
      (Fl.pss_one (Fl.ps_ret (pv_of (pd_tuple rfl (pe_callTy call_tuple_of rfl T.b_tuple PyProof.Rows.boot_tuple (pa_cons (pr_var (pv 4)) pa_nil)))))))))
theorem sc__law_strip : FnScope ["_law_script", "_law_at", "_law_size", "_law_signs", "_law_number", "_law_strip_here", "_law_k"] ["_law_script", "_law_at", "_law_size", "_law_signs"] (defScope (top 25)) := ⟨rfl, rfl, rfl, by decide +kernel, rfl, by decide +kernel, by decide +kernel⟩
theorem ok__law_strip (T : Txt w K mg) (D : DefAt K mg "_law_strip" (top 25) ["_law_script", "_law_at", "_law_size", "_law_signs"]) (c__law_cell : CallsF P w K mg base TH 1 "_law_cell" ["_law_script", "_law_k"] F__law_cell) : CallsF P w K mg base TH 2 "_law_strip" ["_law_script", "_law_at", "_law_size", "_law_signs"] F__law_strip :=
  @def_ok P w K mg base TH "_law_strip" (top 25) ["_law_script", "_law_at", "_law_size", "_law_signs", "_law_number", "_law_strip_here", "_law_k"] ["_law_script", "_law_at", "_law_size", "_law_signs"] 1 B__law_strip D sc__law_strip (fun f cdv A outer s H F E hr => by
    have nd := sc__law_strip.nd
    exact (Fl.pss_cons (Fl.ps_if (PW.pt (Fl.pw_and (Fl.pt_cmp opr_lt plain_lt (pr_var (pv 1)) (pr_of (pd_len rfl (pe_callB call_len rfl T.b_len PySem.boot_len (pa_cons (pr_var (pv 0)) pa_nil)))) (nomark _)) (Fl.pw_and1 (Fl.pt_cmp (opr_eq rfl hr.units) plain_eq (pr_of (pd_bin opr_mod plain_mod (pr_of (pd_ix (ixr_d rfl) plain_ix (pr_var (pv 0)) (pr_of pd_int))) (pr_of pd_int))) (pr_of pd_int) (nomark _))))) (Fl.pss_cons (Fl.ps_set (L2.ps_set (i := 4) nd rfl (Or.inl rfl) (pv_of (pd_ix (ixr_d rfl) plain_ix (pr_var (pv 0)) (pr_var (pv 1))))))
      (Fl.pss_cons (Fl.ps_set (L2.ps_set (i := 5) nd rfl (Or.inl rfl) (pv_of pd_str)))
      (Fl.pss_cons (Fl.ps_for (tg_name 6) (L2.ps_for (own_fly ⟨rfl, rfl⟩) rfl (pi_rng1 (pi_range1 rfl T.b_range (pa_cons (pr_var (pv 2)) pa_nil))) (pg_name (i := 6) nd rfl (Or.inl rfl))
      (Fl.pss_cons (Fl.ps_set (L2.ps_set (i := 5) nd rfl (Or.inl rfl) (pv_of (pd_bin (opr_add rfl) plain_add (pr_var (pv 5)) (pr_of (pd_ix (ixr_d rfl) plain_ix (pr_of pd_str) (pr_of (pd_bin opr_mod plain_mod (pr_var (pv 4)) (pr_var (pv 3))))))))))
      (Fl.pss_one (Fl.ps_set (L2.ps_set (i := 4) nd rfl (Or.inl rfl) (pv_of (pd_bin opr_div plain_div (pr_var (pv 4)) (pr_var (pv 3))))))))))
      (Fl.pss_one (Fl.ps_ret (pv_var (pv 5))))))) Fl.pss_nil)
      (Fl.pss_one (Fl.ps_ret (pv_of (pd_join rfl (pe_bm PySem.F.plainAttrs_str PySem.F.slot_str_join PySem.F.type_str_join mt_join (pr_of pd_str) (pa_cons (pr_of (pd_ofN (pn_comp (pe_comp (N := ["_law_k", "_law_script", "_law_at", "_law_signs"]) (js := [none, some 0, some 1, some 3]) rfl (.own (.cap rfl (.inl rfl) (.inl rfl) (.cap rfl (.inl rfl) (.inl rfl) (.cap rfl (.inl rfl) (.inl rfl) .nil)))) (by rfl) (pi_of (pi_rng1 (pi_range1 rfl T.b_range (pa_cons (pr_var (pv 2)) pa_nil))))) (by decide) (by decide) (is := [0]) (fun cl C s0 H0 fp => ⟨_, (pg_name (i := 0) (show (["_law_k", "_law_script", "_law_at", "_law_signs"] : List Str).Nodup by decide +kernel) rfl (Or.inl rfl)), (tg_name 0), Fl.pif_nil, (pd_ix (ixr_d rfl) plain_ix (pr_of pd_str) (pr_of (pd_bin opr_mod plain_mod (pr_of (pd_of (pv_fn rfl rfl rfl (pe_fn c__law_cell (hr.mono (by decide)) rfl passN (pav_cons (pv_var (pv 1)) (pav_cons (pv_of (pd_bin (opr_add rfl) plain_add (pr_var (pv 2)) (pr_var (pv 0)))) pav_nil)))))) (pr_var (pv 3)))))⟩)))) pa_nil)) (by intro ρ x h; cases h; exact ⟨_, rfl⟩)))))))
theorem sc__law_within : FnScope ["_law_machine_here", "_law_strip_here", "_law_place", "_law_room", "_law_met", "_law_step"] ["_law_machine_here", "_law_strip_here", "_law_place", "_law_room"] (defScope (top 26)) := ⟨rfl, rfl, rfl, by decide +kernel, rfl, by decide +kernel, by decide +kernel⟩
theorem ok__law_within (T : Txt w K mg) (D : DefAt K mg "_law_within" (top 26) ["_law_machine_here", "_law_strip_here", "_law_place", "_law_room"]) : CallsF P w K mg base TH 1 "_law_within" ["_law_machine_here", "_law_strip_here", "_law_place", "_law_room"] F__law_within :=
  @def_ok P w K mg base TH "_law_within" (top 26) ["_law_machine_here", "_law_strip_here", "_law_place", "_law_room", "_law_met", "_law_step"] ["_law_machine_here", "_law_strip_here", "_law_place", "_law_room"] 0 B__law_within D sc__law_within (fun f cdv A outer s H F E hr => by
    have nd := sc__law_within.nd
    exact (Fl.pss_cons (ps_mnew rfl (L2.ps_set (i := 4) nd rfl (Or.inl rfl) pe_mnew))
      (Fl.pss_cons (Fl.ps_while (L2.ps_while (own_fly ⟨rfl, rfl⟩) (Fl.pt_chain opr_lt plain_lt opr_le plain_le (pr_of pd_int) (pr_var (pv 2)) (pr_of (pd_len rfl (pe_callB call_len rfl T.b_len PySem.boot_len (pa_cons (pr_var (pv 1)) pa_nil)))))
      (Fl.pss_cons (Fl.ps_if (pt_min rfl rfl (pt_cmpR (opr_min hr.units) (pd_tup (pad_cons (pd_var (pv 2)) (pad_cons (pd_var (pv 3)) pad_nil))) (pv 4) (by with_unfolding_all rfl))) (Fl.pss_one (Fl.ps_ret (pv_of pd_non))) Fl.pss_nil)
      (Fl.pss_cons (Fl.ps_mput rfl rfl (ps_asg pd_bl (pg_sub (pv 4) (pd_tup (pad_cons (pd_var (pv 2)) (pad_cons (pd_var (pv 3)) pad_nil))) (set_mput hr.units))))
      (Fl.pss_cons (ps_tup (tg_tup rfl (tgs_cons (tg_name 3) (tgs_cons (tg_name 5) tgs_nil)) rfl) (ps_asg (pd_ix (ixr_d rfl) plain_ix (pr_of (pd_ix (ixr_d rfl) plain_ix (pr_of (pd_ix (ixr_d rfl) plain_ix (pr_var (pv 0)) (pr_var (pv 3)))) (pr_of pd_int))) (pr_of (pd_index (pe_bm PySem.F.plainAttrs_str PySem.F.slot_str_index PySem.F.type_str_index mt_index (pr_of pd_str) (pa_cons (pr_of (pd_ix (ixr_d rfl) plain_ix (pr_var (pv 1)) (pr_of (pd_bin opr_sub plain_sub (pr_var (pv 2)) (pr_of pd_int))))) pa_nil)) (by intro ρ x h; cases h; exact ⟨_, rfl⟩)))) (pg_tup rfl (pgs_cons (pg_name (i := 3) nd rfl (Or.inl rfl)) (pgs_cons (pg_name (i := 5) nd rfl (Or.inl rfl)) pgs_nil)))))
      (Fl.pss_one (Fl.ps_set (L2.ps_set (i := 2) nd rfl (Or.inl rfl) (pv_of (pd_bin (opr_add rfl) plain_add (pr_var (pv 2)) (pr_var (pv 5))))))))))))
      (Fl.pss_one (Fl.ps_ret (pv_of (pd_tup (pad_cons (pd_ix (ixr_d rfl) plain_ix (pr_of (pd_ofN (pn_lst (pad_cons (pd_un unr_neg plain_neg (pr_of pd_int)) (pad_cons pd_int pad_nil))))) (pr_of (pd_intc (pe_callTy call_int1 rfl T.b_int PyProof.Rows.boot_int (pa_cons (pr_of (pd_cmp opr_gt plain_gt (pr_var (pv 2)) (pr_of pd_int) (nomark _))) pa_nil))))) (pad_cons (pd_var (pv 3)) pad_nil)))))))))
theorem sc__law_table : FnScope ["_law_machine_here", "_law_strip_here", "_law_rooms", "_law_fore", "_law_aft"] ["_law_machine_here", "_law_strip_here"] (defScope (top 27)) := ⟨rfl, rfl, rfl, by decide +kernel, rfl, by decide +kernel, by decide +kernel⟩
theorem ok__law_table (T : Txt w K mg) (D : DefAt K mg "_law_table" (top 27) ["_law_machine_here", "_law_strip_here"]) (c__law_within : CallsF P w K mg base TH 1 "_law_within" ["_law_machine_here", "_law_strip_here", "_law_place", "_law_room"] F__law_within) : CallsF P w K mg base TH 2 "_law_table" ["_law_machine_here", "_law_strip_here"] F__law_table :=
  @def_ok P w K mg base TH "_law_table" (top 27) ["_law_machine_here", "_law_strip_here", "_law_rooms", "_law_fore", "_law_aft"] ["_law_machine_here", "_law_strip_here"] 1 B__law_table D sc__law_table (fun f cdv A outer s H F E hr => by
    have nd := sc__law_table.nd
    exact (Fl.pss_cons (ps_setN (L2.ps_set (i := 2) nd rfl (Or.inl rfl) (pn_listR (pe_callTy (call_list_rng rfl) rfl T.b_list PyProof.Rows.boot_list (pa_cons (pe_callTy call_rangeO rfl T.b_range PyProof.Rows.boot_range (pa_cons (pr_of (pd_len rfl (pe_callB call_len rfl T.b_len PySem.boot_len (pa_cons (pr_var (pv 0)) pa_nil)))) pa_nil)) pa_nil)))))
      (Fl.pss_cons (ps_setC (L2.ps_setComp (i := 3) nd rfl (Or.inl rfl) (by rfl) (N := ["_law_room", "_law_machine_here", "_law_strip_here"]) (js := [none, some 0, some 1]) rfl (.own (.cap rfl (.inl rfl) (.inl rfl) (.cap rfl (.inl rfl) (.inl rfl) .nil))) (by rfl) (pi_r rfl (pr_var (pv 2)))) (by decide) (by decide) (is := [0]) (fun cl C s0 H0 fp => ⟨_, (pg_name (i := 0) (show (["_law_room", "_law_machine_here", "_law_strip_here"] : List Str).Nodup by decide +kernel) rfl (Or.inl rfl)), (tg_name 0), Fl.pif_nil, (pd_of (pv_fn rfl rfl rfl (pe_fn c__law_within (hr.mono (by decide)) rfl passN (pav_cons (pv_var (pv 1)) (pav_cons (pv_var (pv 2)) (pav_cons (pv_of pd_int) (pav_cons (pv_var (pv 0)) pav_nil)))))))⟩))
      (Fl.pss_cons (ps_setC (L2.ps_setComp (i := 4) nd rfl (Or.inl rfl) (by rfl) (N := ["_law_room", "_law_machine_here", "_law_strip_here"]) (js := [none, some 0, some 1]) rfl (.own (.cap rfl (.inl rfl) (.inl rfl) (.cap rfl (.inl rfl) (.inl rfl) .nil))) (by rfl) (pi_r rfl (pr_var (pv 2)))) (by decide) (by decide) (is := [0]) (fun cl C s0 H0 fp => ⟨_, (pg_name (i := 0) (show (["_law_room", "_law_machine_here", "_law_strip_here"] : List Str).Nodup by decide +kernel) rfl (Or.inl rfl)), (tg_name 0), Fl.pif_nil, (pd_of (pv_fn rfl rfl rfl (pe_fn c__law_within (hr.mono (by decide)) rfl passN (pav_cons (pv_var (pv 1)) (pav_cons (pv_var (pv 2)) (pav_cons (pv_of (pd_len rfl (pe_callB call_len rfl T.b_len PySem.boot_len (pa_cons (pr_var (pv 2)) pa_nil)))) (pav_cons (pv_var (pv 0)) pav_nil)))))))⟩))
      (Fl.pss_one (Fl.ps_ret (pv_of (pd_tup (pad_cons (pd_tuple rfl (pe_callTy call_tuple_of rfl T.b_tuple PyProof.Rows.boot_tuple (pa_cons (pr_var (pv 3)) pa_nil))) (pad_cons (pd_tuple rfl (pe_callTy call_tuple_of rfl T.b_tuple PyProof.Rows.boot_tuple (pa_cons (pr_var (pv 4)) pa_nil))) pad_nil))))))))))
end
end Mc
namespace Mc
open PySem L2 PyProof.Rows Fl
section
variable {P : Program} {w : World} {K : PySem.W.Frag} {mg : Str → Option Value} {base : Heap} {TH : Hp}
theorem sc__law_listed : FnScope ["_law_machine_here", "_law_found"] ["_law_machine_here"] (defScope (top 28)) := ⟨rfl, rfl, rfl, by decide +kernel, rfl, by decide +kernel, by decide +kernel⟩
theorem ok__law_listed (T : Txt w K mg) (D : DefAt K mg "_law_listed" (top 28) ["_law_machine_here"]) (c_all_tables : CallsF P w K mg base TH 7 "all_tables" ["machine"] F_all_tables) {Wp_TooMany Cp_TooMany : Addr} (erp_TooMany : ErrP K mg "TooMany" Wp_TooMany Cp_TooMany) : CallsF P w K mg base TH 8 "_law_listed" ["_law_machine_here"] F__law_listed_k17 :=
  @def_ok P w K mg base TH "_law_listed" (top 28) ["_law_machine_here", "_law_found"] ["_law_machine_here"] 7 B__law_listed_k17 D sc__law_listed (fun f cdv A outer s H F E hr => by
    have nd := sc__law_listed.nd
    exact (Fl.pss_cons (Fl.ps_set (L2.ps_set (i := 1) nd rfl (Or.inl rfl) (pv_of pd_non)))
      (Fl.pss_cons (ps_tryA0 (j := 1) rfl rfl ⟨rfl, rfl⟩ nd rfl (Or.inl rfl) rfl erp_TooMany.m erp_TooMany.c.any (catches_selfP erp_TooMany) (fun pn σ E1 => pcl_fn c_all_tables (hr.mono (by decide)) rfl (pav_cons (pv_var (pv 0)) pav_nil)) (fun e1 => (Fl.pss_one (Fl.ps_set (L2.ps_set (i := 1) nd rfl (Or.inl rfl) (pv_of pd_non))))))
      (Fl.pss_one (Fl.ps_ret (pv_var (pv 1)))))))
theorem sc__law_firsts : FnScope ["_law_machine_here", "_law_signs", "_law_most", "_law_met", "_law_found", "_law_strips", "_law_size", "_law_strip_here", "_law_table_here", "_law_longer"] ["_law_machine_here", "_law_signs", "_law_most"] (defScope (top 29)) := ⟨rfl, rfl, rfl, by decide +kernel, rfl, by decide +kernel, by decide +kernel⟩
theorem ok__law_firsts (T : Txt w K mg) (D : DefAt K mg "_law_firsts" (top 29) ["_law_machine_here", "_law_signs", "_law_most"]) (c__law_table : CallsF P w K mg base TH 2 "_law_table" ["_law_machine_here", "_law_strip_here"] F__law_table) : CallsF P w K mg base TH 3 "_law_firsts" ["_law_machine_here", "_law_signs", "_law_most"] F__law_firsts_k17 :=
  @def_ok P w K mg base TH "_law_firsts" (top 29) ["_law_machine_here", "_law_signs", "_law_most", "_law_met", "_law_found", "_law_strips", "_law_size", "_law_strip_here", "_law_table_here", "_law_longer"] ["_law_machine_here", "_law_signs", "_law_most"] 2 B__law_firsts_k17 D sc__law_firsts (fun f cdv A outer s H F E hr => by
    have nd := sc__law_firsts.nd
    exact (Fl.pss_cons (ps_mnew rfl (L2.ps_set (i := 3) nd rfl (Or.inl rfl) pe_mnew))
      (Fl.pss_cons (ps_setN (L2.ps_set (i := 4) nd rfl (Or.inl rfl) (pn_lst pad_nil)))
      (Fl.pss_cons (ps_setN (L2.ps_set (i := 5) nd rfl (Or.inl rfl) (pn_lst (pad_cons pd_str pad_nil))))
      (Fl.pss_cons (Fl.ps_for (tg_name 6) (L2.ps_for (own_fly ⟨rfl, rfl⟩) rfl (pi_rng1 (pi_range1 rfl T.b_range (pa_cons (pr_of (pd_bin (opr_add rfl) plain_add (pr_var (pv 2)) (pr_of pd_int))) pa_nil))) (pg_name (i := 6) nd rfl (Or.inl rfl))
      (Fl.pss_cons (ps_fz 5 (Fl.ps_for (tg_name 7) (L2.ps_for (own_fly ⟨rfl, rfl⟩) rfl (pi_d rfl (pd_var (pv 5))) (pg_name (i := 7) nd rfl (Or.inr rfl))
      (Fl.pss_cons (Fl.ps_set (L2.ps_set (i := 8) nd rfl (Or.inl rfl) (pv_fn rfl rfl rfl (pe_fn c__law_table (hr.mono (by decide)) rfl (passX fun _ _ _ h => h) (pav_cons (pv_var (pv 0)) (pav_cons (pv_var (pv 7)) pav_nil))))))
      (Fl.pss_one (Fl.ps_if (pt_min rfl rfl (pt_cmpR (opr_mnin hr.units) (pd_var (pv 8)) (pv 3) (by with_unfolding_all rfl))) (Fl.pss_cons (Fl.ps_mput rfl rfl (ps_asg pd_bl (pg_sub (pv 3) (pd_var (pv 8)) (set_mput hr.units))))
      (Fl.pss_one (ps_app rfl (L2.ps_expr (pe_bm PySem.F.plainAttrs_list PySem.F.slot_list_append PySem.F.type_list_append mt_append (pv 4) (pa_cons (pd_tup (pad_cons (pd_var (pv 7)) (pad_cons (pd_var (pv 8)) pad_nil))) pa_nil)))))) Fl.pss_nil))))))
      (Fl.pss_cons (ps_setN (L2.ps_set (i := 9) nd rfl (Or.inl rfl) (pn_lst pad_nil)))
      (Fl.pss_cons (ps_fz 5 (Fl.ps_for (tg_name 7) (L2.ps_for (own_fly ⟨rfl, rfl⟩) rfl (pi_d rfl (pd_var (pv 5))) (pg_name (i := 7) nd rfl (Or.inr rfl))
      (Fl.pss_one (ps_ext (L2.ps_expr (pe_bm PySem.F.plainAttrs_list PySem.F.slot_list_extend PySem.F.type_list_extend mt_extend (pv 9) (pa_cons (pn_comp (pe_comp (N := ["_law_sign", "_law_strip_here"]) (js := [none, some 7]) rfl (.own (.cap rfl (.inl rfl) (.inl rfl) .nil)) (by rfl) (pi_r rfl (pr_of (pd_slice rfl (pr_of pd_str) po_no (po_so (pr_var (pv 1))))))) (by decide) (by decide) (is := [0]) (fun cl C s0 H0 fp => ⟨_, (pg_name (i := 0) (show (["_law_sign", "_law_strip_here"] : List Str).Nodup by decide +kernel) rfl (Or.inl rfl)), (tg_name 0), Fl.pif_nil, (pd_bin (opr_add rfl) plain_add (pr_var (pv 1)) (pr_var (pv 0)))⟩)) pa_nil))))))))
      (Fl.pss_one (ps_fz 9 (Fl.ps_set (L2.ps_set (i := 5) nd rfl (Or.inl rfl) (pv_var (pv 9)))))))))))
      (Fl.pss_one (ps_fz 4 (Fl.ps_ret (pv_var (pv 4))))))))))
theorem sc_law : FnScope ["_law_script", "_law_first", "_law_rooms", "_law_signs", "_law_machine_here", "_law_found", "_law_most", "_law_strips", "_law_strip_here", "_law_table_here", "_law_drawn", "_law_size"] ["_law_script"] (defScope (top 30)) := ⟨rfl, rfl, rfl, by decide +kernel, rfl, by decide +kernel, by decide +kernel⟩
theorem ok_law (T : Txt w K mg) {fL : Addr} {fdL : FuncData} (FL : Fun K "law" "law" (top 30) fL fdL) (c__law_cell : CallsF P w K mg base TH 1 "_law_cell" ["_law_script", "_law_k"] F__law_cell) (c__law_machine : CallsF P w K mg base TH 3 "_law_machine" ["_law_script", "_law_at", "_law_rooms", "_law_signs"] F__law_machine) (c__law_listed : CallsF P w K mg base TH 8 "_law_listed" ["_law_machine_here"] F__law_listed_k17) (c__law_firsts : CallsF P w K mg base TH 3 "_law_firsts" ["_law_machine_here", "_law_signs", "_law_most"] F__law_firsts_k17) (c__law_strip : CallsF P w K mg base TH 2 "_law_strip" ["_law_script", "_law_at", "_law_size", "_law_signs"] F__law_strip) (c__law_table : CallsF P w K mg base TH 2 "_law_table" ["_law_machine_here", "_law_strip_here"] F__law_table) : FnOk P w K mg base (CXe P w) 9 fL fdL ["_law_script"] (spF (gOf P w K mg base TH) K mg 1 F_law) :=
  @fun_ok P w K mg base TH "law" (top 30) ["_law_script", "_law_first", "_law_rooms", "_law_signs", "_law_machine_here", "_law_found", "_law_most", "_law_strips", "_law_strip_here", "_law_table_here", "_law_drawn", "_law_size"] ["_law_script"] 8 fL fdL B_law FL sc_law (fun cdv A outer s H F E hr => by
    have nd := sc_law.nd
    exact (Fl.pss_cons (Fl.ps_set (L2.ps_set (i := 1) nd rfl (Or.inl rfl) (pv_fn rfl rfl rfl (pe_fn c__law_cell (hr.mono (by decide)) rfl (passX fun _ _ _ h => h) (pav_cons (pv_var (pv 0)) (pav_cons (pv_of pd_int) pav_nil))))))
      (Fl.pss_cons (Fl.ps_set (L2.ps_set (i := 2) nd rfl (Or.inl rfl) (pv_of (pd_bin (opr_add rfl) plain_add (pr_of pd_int) (pr_of (pd_bin opr_mod plain_mod (pr_var (pv 1)) (pr_of pd_int)))))))
      (Fl.pss_cons (Fl.ps_set (L2.ps_set (i := 3) nd rfl (Or.inl rfl) (pv_of (pd_bin (opr_add rfl) plain_add (pr_of pd_int) (pr_of (pd_bin opr_mod plain_mod (pr_of (pd_bin opr_div plain_div (pr_var (pv 1)) (pr_of pd_int))) (pr_of pd_int)))))))
      (Fl.pss_cons (Fl.ps_set (L2.ps_set (i := 4) nd rfl (Or.inl rfl) (pv_fn rfl rfl rfl (pe_fn c__law_machine (hr.mono (by decide)) rfl (passX fun _ _ _ h => h) (pav_cons (pv_var (pv 0)) (pav_cons (pv_of pd_int) (pav_cons (pv_var (pv 2)) (pav_cons (pv_var (pv 3)) pav_nil))))))))
      (Fl.pss_cons (Fl.ps_set (L2.ps_set (i := 5) nd rfl (Or.inl rfl) (pv_fn rfl rfl rfl (pe_fn c__law_listed (hr.mono (by decide)) rfl (passX fun _ _ _ h => h) (pav_cons (pv_var (pv 4)) pav_nil)))))
      (Fl.pss_cons (Fl.ps_if (Fl.pt_cmp opr_is plain_is (pr_var (pv 5)) (pr_of pd_non) (nomark _)) (Fl.pss_one (Fl.ps_ret (pv_of pd_bl))) Fl.pss_nil)
      (Fl.pss_cons (Fl.ps_set (L2.ps_set (i := 6) nd rfl (Or.inr rfl) (pv_of (pd_ix (ixr_d rfl) plain_ix (pr_of (pd_ofN (pn_lst (pad_cons pd_int (pad_cons pd_int (pad_cons pd_int pad_nil)))))) (pr_of (pd_bin opr_sub plain_sub (pr_var (pv 3)) (pr_of pd_int)))))))
      (Fl.pss_cons (Fl.ps_if (Fl.pt_cmp (opr_ne rfl hr.units) plain_ne (pr_of (pd_ofN (pn_comp (pe_comp (N := ["_law_one", "_law_most"]) (js := [none, some 6]) rfl (.own (.cap rfl (.inl rfl) (.inl rfl) .nil)) (by rfl) (pi_r rfl (pr_var (pv 5)))) (by decide) (by decide) (is := [0]) (fun cl C s0 H0 fp => ⟨_, (pg_name (i := 0) (show (["_law_one", "_law_most"] : List Str).Nodup by decide +kernel) rfl (Or.inl rfl)), (tg_name 0), (pif_one (Fl.pt_cmp opr_le plain_le (pr_of (pd_len rfl (pe_callB call_len rfl T.b_len PySem.boot_len (pa_cons (pr_of (pd_ix (ixr_d rfl) plain_ix (pr_var (pv 0)) (pr_of pd_int))) pa_nil)))) (pr_var (pv 1)) (nomark _))), (pd_var (pv 0))⟩)))) (pr_of (pd_of (pv_fn rfl rfl rfl (pe_fn c__law_firsts (hr.mono (by decide)) rfl (passX fun _ _ _ h => h) (pav_cons (pv_var (pv 4)) (pav_cons (pv_var (pv 3)) (pav_cons (pv_var (pv 6)) pav_nil))))))) (nomark _)) (Fl.pss_one (Fl.ps_ret (pv_of pd_bl))) Fl.pss_nil)
      (Fl.pss_cons (ps_mnew rfl (L2.ps_set (i := 7) nd rfl (Or.inl rfl) pe_mnew))
      (Fl.pss_cons (Fl.ps_for (tg_tup rfl (tgs_cons (tg_name 8) (tgs_cons (tg_name 9) tgs_nil)) rfl) (L2.ps_for (own_fly ⟨rfl, rfl⟩) rfl (pi_d rfl (pd_var (pv 5))) (pg_tup rfl (pgs_cons (pg_name (i := 8) nd rfl (Or.inl rfl)) (pgs_cons (pg_name (i := 9) nd rfl (Or.inl rfl)) pgs_nil)))
      (Fl.pss_one (Fl.ps_mput rfl rfl (ps_asg (pd_var (pv 8)) (pg_sub (pv 7) (pd_var (pv 9)) (set_mput hr.units)))))))
      (Fl.pss_cons (Fl.ps_set (L2.ps_set (i := 10) nd rfl (Or.inl rfl) (pv_fn rfl rfl rfl (pe_fn c__law_strip (hr.mono (by decide)) rfl (passX fun _ _ _ h => h) (pav_cons (pv_var (pv 0)) (pav_cons (pv_of pd_int) (pav_cons (pv_of (pd_two (G := iMax) (pe_callB (call_max2 rfl) rfl T.b_max PyProof.Rows.boot_max (pa_cons (pr_of pd_int) (pa_cons (pr_of (pd_two (G := iMin) (pe_callB (call_min2 rfl) rfl T.b_min PyProof.Rows.boot_min (pa_cons (pr_of pd_int) (pa_cons (pr_of (pd_bin opr_sub plain_sub (pr_of (pd_len rfl (pe_callB call_len rfl T.b_len PySem.boot_len (pa_cons (pr_var (pv 0)) pa_nil)))) (pr_of pd_int))) pa_nil))))) pa_nil))))) (pav_cons (pv_var (pv 3)) pav_nil))))))))
      (Fl.pss_cons (Fl.ps_for (tg_name 11) (L2.ps_for (own_fly ⟨rfl, rfl⟩) rfl (pi_rng1 (pi_range1 rfl T.b_range (pa_cons (pr_of (pd_bin (opr_add rfl) plain_add (pr_of (pd_len rfl (pe_callB call_len rfl T.b_len PySem.boot_len (pa_cons (pr_var (pv 10)) pa_nil)))) (pr_of pd_int))) pa_nil))) (pg_name (i := 11) nd rfl (Or.inl rfl))
      (Fl.pss_cons (Fl.ps_set (L2.ps_set (i := 9) nd rfl (Or.inl rfl) (pv_fn rfl rfl rfl (pe_fn c__law_table (hr.mono (by decide)) rfl (passX fun _ _ _ h => h) (pav_cons (pv_var (pv 4)) (pav_cons (pv_of (pd_slice rfl (pr_var (pv 10)) po_no (po_so (pr_var (pv 11))))) pav_nil))))))
      (Fl.pss_cons (Fl.ps_if (pt_min rfl rfl (pt_cmpR (opr_mnin hr.units) (pd_var (pv 9)) (pv 7) (by with_unfolding_all rfl))) (Fl.pss_one (Fl.ps_ret (pv_of pd_bl))) Fl.pss_nil)
      (Fl.pss_one (Fl.ps_if (Fl.pt_cmp (opr_gtT rfl hr.units) plain_gtT (pr_of (pd_tup (pad_cons (pd_len rfl (pe_callB call_len rfl T.b_len PySem.boot_len (pa_cons (pr_of (pd_mget rfl rfl (pe_mget hr.units (pv 7) (pd_var (pv 9)) (fun _ _ => rfl)))) pa_nil))) (pad_cons (pd_mget rfl rfl (pe_mget hr.units (pv 7) (pd_var (pv 9)) (fun _ _ => rfl))) pad_nil)))) (pr_of (pd_tup (pad_cons (pd_var (pv 11)) (pad_cons (pd_slice rfl (pr_var (pv 10)) po_no (po_so (pr_var (pv 11)))) pad_nil)))) (nomark _)) (Fl.pss_one (Fl.ps_ret (pv_of pd_bl))) Fl.pss_nil))))))
      (Fl.pss_one (Fl.ps_ret (pv_of pd_bl))))))))))))))))
end
end Mc
namespace Mc
open PySem L2 PyProof.Rows Fl
theorem sTry0_ap (j : Option Nat) (n : Nat) (G : List A → R A) (f : Sg → R (List A)) (cl : List Str) (fs : Sg → R Fw) (ρ : Sg) : sTry0 j n G f cl fs ρ = match f ρ with
  | .ok as => if as.length = n then (match G as with
    | .bad => .bad
    | .ok a => .ok (.nx (putO j a ρ))
    | .ex e => if cl.contains e.c = true then fs ρ else .bad) else .bad
  | _ => .bad := id rfl
@[simp] theorem sExt_ap (i : Nat) (f : Sg → R (List PyData)) (ρ : Sg) : sExt i f ρ = match ρ[i]? with
  | some (some (.l xs)) => (f ρ).bind fun ys => if xs.length + ys.length ≤ 16777216 then .ok (.nx (ρ.set i (some (.l (xs ++ ys))))) else .bad
  | _ => .bad := id rfl
theorem F_lst {rs : List Rw} {sg : Nat} (M : Mach rs sg) : F__law_listed_k17 [.d (machD rs)] = .ok (.d .none) ∨ ∃ C, F__law_listed_k17 [.d (machD rs)] = .ok (.d (.list (C.map (enD rs)))) ∧ C = addRs rs [[]] (Mb.kids (sgT sg).cps.toList C) ∧ (∀ z ∈ C, Strip sg z) ∧ C.length ≤ 300 := by
  rcases F_all M with h | ⟨C, h, h1, h2, h3⟩
  · refine .inl ?_
    unfold F__law_listed_k17 B__law_listed_k17
    simp [sTry0_ap, h]
  · refine .inr ⟨C, ?_, h1, h2, h3⟩
    unfold F__law_listed_k17 B__law_listed_k17
    simp [sTry0_ap, h, putO]
/-! ### level by level -/
noncomputable def ftA : Sg → R Fw := (sSeq (sSet 8 (vCall 2 F__law_table (aCons (vV 0) (aCons (vV 7) aNil))))
  (sIf (e1 asB (eMIn true 3 (eV 8))) (sSeq (sMPut 3 (eV 8) (eC (.bool true)))
  (sApp 4 (eTup (aCons (eV 7) (aCons (eV 8) aNil))))) sNx))
noncomputable def ftC : Sg → R Fw := (sExt 9 (nComp [none, some 7] (e1 dItems (eSl dSl (eC (.str "abc")) oNo (oSo (rV 1)))) (stN 0) bYes (e2 dAdd (rV 1) (rV 0))))
noncomputable def ftB : Sg → R Fw := (sSeq (sFz 5 (sFor (e1 dItems (eV 5)) (stN 7) ftA))
  (sSeq (sSetN 9 (nLst aNil))
  (sSeq (sFz 5 (sFor (e1 dItems (eV 5)) (stN 7) ftC))
  (sFz 9 (sSet 5 (vV 9))))))
theorem ft_def : B__law_firsts_k17 = (sSeq (sMNew 3)
  (sSeq (sSetN 4 (nLst aNil))
  (sSeq (sSetN 5 (nLst (aCons (eC (.str "")) aNil)))
  (sSeq (sFor (iRange1 (e2 dAdd (rV 2) (eC (.int 1)))) (stN 6) ftB)
  (sFz 4 (sRet (vV 4))))))) := id rfl
noncomputable def ftρ (rs : List Rw) (sg : Nat) (m : Int) (f : List (List Nat)) (a5 : A) (u6 u7 u8 u9 : Option A) : Sg := [some (.d (machD rs)), some (.d (.int (sg : Int))), some (.d (.int m)), some (.m (been id (f.map (tE rs)))), some (.l (f.map (enD rs))), some a5, u6, u7, u8, u9]
theorem stD_str (z : List Nat) : stD z = .str ⟨z.toArray⟩ := rfl
theorem F_tE {rs : List Rw} {sg : Nat} {z : List Nat} (M : Mach rs sg) (S : Strip sg z) : F__law_table [.d (machD rs), .d (stD z)] = .ok (.d (tE rs z)) := by
  have := F_ltab (z := ⟨z.toArray⟩) M (by simpa using S)
  rw [stD_str, this, tE_strip M z S]
theorem ftA_ok {rs : List Rw} {sg : Nat} {m : Int} {f : List (List Nat)} {z : List Nat} {a5 : A} {u6 u8 u9 : Option A} (M : Mach rs sg) (hS : ∀ z ∈ f, Strip sg z) (hl : f.length ≤ 10000) (Sz : Strip sg z) : ftA (ftρ rs sg m f a5 u6 (some (.d (stD z))) u8 u9) = .ok (.nx (ftρ rs sg m (addR rs f z) a5 u6 (some (.d (stD z))) (some (.d (tE rs z))) u9)) := by
  have ht := F_tE M Sz
  have hk := bn_same (tE_key M Sz) (map_keys M hS)
  by_cases h : tE rs z ∈ f.map (tE rs)
  · rw [addR_in h]
    have h1 := bn_has h
    simp [ftA, ftρ, ht, hk, h1]
  · rw [addR_out h]
    have h1 := bn_hasF h
    have h2 := bn_put h
    have h3 : (been id (f.map (tE rs))).length ≤ 16777216 := by rw [bn_len, List.length_map]; omega
    have h4 : f.length < 16777216 := by omega
    unfold ftρ
    rw [List.map_append, List.map_append, List.map_singleton, List.map_singleton, ← h2]
    simp [ftA, ht, hk, h1, h3, h4]
    rfl
theorem ftC_ok {rs : List Rw} {sg : Nat} {m : Int} {f : List (List Nat)} {z : List Nat} {a5 : A} {u6 u8 : Option A} {xs : List (List Nat)} (M : Mach rs sg) (Sz : z.length ≤ 1000) (hx : xs.length ≤ 100000) : ftC (ftρ rs sg m f a5 u6 (some (.d (stD z))) u8 (some (.l (xs.map stD)))) = .ok (.nx (ftρ rs sg m f a5 u6 (some (.d (stD z))) u8 (some (.l ((xs ++ (sgT sg).cps.toList.map fun c => z ++ [c]).map stD))))) := by
  have hsl : dSl (.str "abc") none (some (sg : Int)) = .ok (.str (sgT sg)) := dSl_s (by decide)
  have hl3 := sgT_len M.sg1 M.sg3
  have hi : dItems (.str (sgT sg)) = .ok ((sgT sg).cps.toList.map fun u : Nat => PyData.str ⟨#[u]⟩) := dItems_s (by omega)
  have hc := compL_of (fs := stN 0) (fe := e2 dAdd (rV 1) (rV 0)) (ρ0 := [none, some (.d (stD z))]) (d := fun u : Nat => PyData.str ⟨#[u]⟩) (g := fun u : Nat => stD (z ++ [u])) (xs := (sgT sg).cps.toList) fun u hu => ⟨_, rfl, by
    have := stD_snoc z u Sz
    simp [this]⟩
  have hle : xs.length + (sgT sg).cps.toList.length ≤ 16777216 := by omega
  unfold ftρ
  rw [List.map_append, List.map_map]
  simp only [ftC, sExt_ap, nComp_ap, e1_ap, e2_ap, eSl_ap, eC_ap, oNo_ap, oSo_ap, rV_ap, R.bind_ok, List.getElem?_cons_zero, List.getElem?_cons_succ, hsl, hi, capA, List.map_cons, List.map_nil, Option.bind_none, Option.bind_some, Option.join_some, hc, List.length_map, hle, if_true, List.set_cons_zero, List.set_cons_succ]
  rfl
end Mc
namespace Mc
open PySem L2 PyProof.Rows Fl
theorem addRs_mem {rs : List Rw} : ∀ {l f : List (List Nat)} {x : List Nat}, x ∈ addRs rs f l → x ∈ f ∨ x ∈ l
  | [], f, x, h => .inl h
  | y :: l, f, x, h => by
    have h : x ∈ addRs rs (addR rs f y) l := h
    rcases addRs_mem h with h | h
    · rcases addR_mem h with h | rfl
      · exact .inl h
      · exact .inr (List.mem_cons_self ..)
    · exact .inr (List.mem_cons_of_mem _ h)
theorem addRs_len {rs : List Rw} : ∀ {l f : List (List Nat)}, (addRs rs f l).length ≤ f.length + l.length
  | [], f => by show f.length ≤ _; simp
  | y :: l, f => by
    have h1 : (addRs rs (addR rs f y) l).length ≤ _ := addRs_len
    have h2 := addR_len (rs := rs) (f := f) (y := y)
    show (addRs rs (addR rs f y) l).length ≤ _
    rw [List.length_cons]; omega
theorem kids_snoc {cs : List Nat} {l : List (List Nat)} {z : List Nat} : Mb.kids cs (l ++ [z]) = Mb.kids cs l ++ cs.map fun c => z ++ [c] := by
  rw [Mb.kids_app]
  congr 1
  unfold Mb.kids
  rw [List.flatMap_singleton]
theorem kids_len {cs : List Nat} : ∀ {l : List (List Nat)}, (Mb.kids cs l).length = l.length * cs.length
  | [] => by simp [Mb.kids]
  | z :: l => by
    show ((cs.map fun c => z ++ [c]) ++ Mb.kids cs l).length = _
    rw [List.length_append, List.length_map, kids_len, List.length_cons, Nat.succ_mul]; omega
theorem lev_cnt {cs : List Nat} : ∀ n, (Mb.lev cs n).length = cs.length ^ n
  | 0 => by simp [Mb.lev]
  | n + 1 => by
    show (Mb.kids cs (Mb.lev cs n)).length = _
    rw [kids_len, lev_cnt n, Nat.pow_succ]
theorem lev_sgn {cs : List Nat} {sg : Nat} (h : ∀ c ∈ cs, isSign sg c = true) : ∀ n z, z ∈ Mb.lev cs n → ∀ c ∈ z, isSign sg c = true
  | 0, z, hz => by rw [List.mem_singleton.mp hz]; intro c hc; simp at hc
  | n + 1, z, hz => by
    obtain ⟨y, hy, c, hc, rfl⟩ := Mb.kids_mem.mp hz
    intro x hx
    rcases List.mem_append.mp hx with q | q
    · exact lev_sgn h n y hy x q
    · rw [List.mem_singleton.mp q]; exact h c hc
theorem ftB_ok {rs : List Rw} {sg : Nat} {m : Int} {f L : List (List Nat)} {a5 : A} {u6 u7 u8 u9 : Option A} (M : Mach rs sg) (h5 : a5 = .l (L.map stD) ∨ a5 = .d (.list (L.map stD))) (hf : ∀ z ∈ f, Strip sg z) (hL : ∀ z ∈ L, Strip sg z) (hn : f.length + L.length ≤ 10000) :
    ∃ u7' u8' u9', ftB (ftρ rs sg m f a5 u6 u7 u8 u9) = .ok (.nx (ftρ rs sg m (addRs rs f L) (.d (.list ((Mb.kids (sgT sg).cps.toList L).map stD))) u6 u7' u8' u9')) := by
  have hl3 := sgT_len M.sg1 M.sg3
  have hf5 : fz 5 (ftρ rs sg m f a5 u6 u7 u8 u9) = ftρ rs sg m f (.d (.list (L.map stD))) u6 u7 u8 u9 := by rcases h5 with rfl | rfl <;> rfl
  have hit := dItems_l (xs := L.map stD) (by rw [List.length_map]; omega)
  obtain ⟨ρ1, q1, v7, v8, rfl⟩ := forF_inv (fs := stN 7) (fb := ftA) (d := stD) (xs := L) (ρ := ftρ rs sg m f (.d (.list (L.map stD))) u6 u7 u8 u9)
    (fun i ρ => ∃ u7 u8, ρ = ftρ rs sg m (addRs rs f (L.take i)) (.d (.list (L.map stD))) u6 u7 u8 u9) ⟨u7, u8, rfl⟩ fun i z ρ hz ⟨u7, u8, e⟩ => by
    have ht : L.take (i + 1) = L.take i ++ [z] := by rw [List.take_succ, hz]; rfl
    have hlen := addRs_len (rs := rs) (l := L.take i) (f := f)
    rw [List.length_take] at hlen
    rw [ht, addRs_snoc]
    refine ⟨ftρ rs sg m (addRs rs f (L.take i)) (.d (.list (L.map stD))) u6 (some (.d (stD z))) u8 u9, _, by rw [e]; rfl, .inl (ftA_ok M (fun y hy => ?_) (by omega) (hL z (List.mem_of_getElem? hz))), _, _, rfl⟩
    rcases addRs_mem hy with h | h
    · exact hf y h
    · exact hL y (List.mem_of_mem_take h)
  rw [List.take_length] at q1
  obtain ⟨ρ2, q2, w7, rfl⟩ := forF_inv (fs := stN 7) (fb := ftC) (d := stD) (xs := L) (ρ := ftρ rs sg m (addRs rs f L) (.d (.list (L.map stD))) u6 v7 v8 (some (.l [])))
    (fun i ρ => ∃ u7, ρ = ftρ rs sg m (addRs rs f L) (.d (.list (L.map stD))) u6 u7 v8 (some (.l ((Mb.kids (sgT sg).cps.toList (L.take i)).map stD)))) ⟨v7, rfl⟩ fun i z ρ hz ⟨u7, e⟩ => by
    have ht : L.take (i + 1) = L.take i ++ [z] := by rw [List.take_succ, hz]; rfl
    have hkl : (Mb.kids (sgT sg).cps.toList (L.take i)).length ≤ 100000 := by
      rw [kids_len, List.length_take]
      have : min i L.length * (sgT sg).cps.toList.length ≤ 10000 * 3 := Nat.mul_le_mul (by omega) hl3
      omega
    rw [ht, kids_snoc]
    refine ⟨ftρ rs sg m (addRs rs f L) (.d (.list (L.map stD))) u6 (some (.d (stD z))) v8 (some (.l ((Mb.kids (sgT sg).cps.toList (L.take i)).map stD))), _, by rw [e]; rfl, .inl (ftC_ok M (hL z (List.mem_of_getElem? hz)).1 hkl), _, rfl⟩
  rw [List.take_length] at q2
  refine ⟨w7, v8, some (.d (.list ((Mb.kids (sgT sg).cps.toList L).map stD))), ?_⟩
  have hE : ∀ g a b c, (e1 dItems (eV 5)) (ftρ rs sg m g (.d (.list (L.map stD))) u6 a b c) = .ok (L.map stD) := fun g a b c => by simp [ftρ, hit]
  have hs9 : sSetN 9 (nLst aNil) (ftρ rs sg m (addRs rs f L) (.d (.list (L.map stD))) u6 v7 v8 u9) = .ok (.nx (ftρ rs sg m (addRs rs f L) (.d (.list (L.map stD))) u6 v7 v8 (some (.l [])))) := by simp [ftρ]
  have hf6 : fz 5 (ftρ rs sg m (addRs rs f L) (.d (.list (L.map stD))) u6 v7 v8 (some (.l []))) = ftρ rs sg m (addRs rs f L) (.d (.list (L.map stD))) u6 v7 v8 (some (.l [])) := rfl
  unfold ftB
  rw [sSeq_ap, sFz_ap, hf5, sFor_ap, hE, R.bind_ok, q1, R.bind_ok]
  simp only
  rw [sSeq_ap, hs9, R.bind_ok]
  simp only
  rw [sSeq_ap, sFz_ap, hf6, sFor_ap, hE, R.bind_ok, q2, R.bind_ok]
  simp [ftρ]
noncomputable def foL (rs : List Rw) (cs : List Nat) : Nat → List (List Nat)
  | 0 => []
  | n + 1 => addRs rs (foL rs cs n) (Mb.lev cs n)
theorem fo_fsts (rs : List Rw) (cs : List Nat) : ∀ n, foL rs cs (n + 1) = Mb.fsts (bhB rs) (tbD (stillT rs.length)) cs n
  | 0 => by
    show addRs rs [] [[]] = [[]]
    show addR rs [] [] = [[]]
    rw [addR_out (by simp)]; rfl
  | n + 1 => by
    show addRs rs (foL rs cs (n + 1)) (Mb.lev cs (n + 1)) = _
    rw [fo_fsts rs cs n]; rfl
theorem fo_mem {rs : List Rw} {cs : List Nat} {x : List Nat} : ∀ {n}, x ∈ foL rs cs n → ∃ k, k < n ∧ x ∈ Mb.lev cs k
  | 0, h => by cases h
  | n + 1, h => by
    rcases addRs_mem h with h | h
    · obtain ⟨k, hk, q⟩ := fo_mem h
      exact ⟨k, by omega, q⟩
    · exact ⟨n, by omega, h⟩
theorem fo_len {rs : List Rw} {cs : List Nat} {b : Nat} : ∀ {n}, (∀ i, i < n → (Mb.lev cs i).length ≤ b) → (foL rs cs n).length ≤ n * b
  | 0, h => by simp [foL]
  | n + 1, h => by
    have h1 := addRs_len (rs := rs) (f := foL rs cs n) (l := Mb.lev cs n)
    have h2 := fo_len (rs := rs) (cs := cs) (b := b) (n := n) fun i hi => h i (by omega)
    have h3 := h n (by omega)
    show (addRs rs (foL rs cs n) (Mb.lev cs n)).length ≤ _
    rw [Nat.succ_mul]; omega
theorem F_fts {rs : List Rw} {sg m : Nat} (M : Mach rs sg) (hm : m ≤ 12) (hb : sg ^ (m + 1) ≤ 81) : F__law_firsts_k17 [.d (machD rs), .d (.int (sg : Int)), .d (.int (m : Int))] = .ok (.d (.list ((Mb.fsts (bhB rs) (tbD (stillT rs.length)) (sgT sg).cps.toList m).map (enD rs)))) := by
  have s1 := M.sg1
  have hcl : (sgT sg).cps.toList.length = sg := by rw [sgT_cps s1 M.sg3, List.length_take]; simp; have := M.sg3; omega
  have hcn : ∀ i, i ≤ m + 1 → (Mb.lev (sgT sg).cps.toList i).length ≤ 81 := fun i hi => by
    rw [lev_cnt, hcl]
    exact Nat.le_trans (Nat.pow_le_pow_right (by omega) hi) hb
  have hst : ∀ i, i ≤ m + 1 → ∀ z ∈ Mb.lev (sgT sg).cps.toList i, Strip sg z := fun i hi z hz => ⟨by rw [Mb.lev_len hz]; omega, lev_sgn (fun c hc => sgT_sign s1 M.sg3 hc) i z hz⟩
  have hr := range_dat (n := m + 1) (by omega)
  rw [show ((m + 1 : Nat) : Int) = (m : Int) + 1 by omega] at hr
  obtain ⟨ρ', q, a5, u6, u7, u8, u9, h5, rfl⟩ := forF_inv (fs := stN 6) (fb := ftB) (d := fun i : Nat => PyData.int (i : Int)) (xs := List.range (m + 1)) (ρ := ftρ rs sg m [] (.l [.str ""]) none none none none)
    (fun i ρ => ∃ a5 u6 u7 u8 u9, (a5 = .l ((Mb.lev (sgT sg).cps.toList i).map stD) ∨ a5 = .d (.list ((Mb.lev (sgT sg).cps.toList i).map stD))) ∧ ρ = ftρ rs sg m (foL rs (sgT sg).cps.toList i) a5 u6 u7 u8 u9) ⟨_, none, none, none, none, .inl rfl, rfl⟩ fun i x ρ hx ⟨a5, u6, u7, u8, u9, h5, e⟩ => by
    have hi : i < m + 1 := by
      rcases Nat.lt_or_ge i (List.range (m + 1)).length with h | h
      · simpa using h
      · rw [List.getElem?_eq_none h] at hx; cases hx
    have hfl := fo_len (rs := rs) (cs := (sgT sg).cps.toList) (b := 81) (n := i) fun j hj => hcn j (by omega)
    have hll := hcn i (by omega)
    have : i * 81 ≤ 13 * 81 := Nat.mul_le_mul_right _ (by omega)
    obtain ⟨v7, v8, v9, h⟩ := ftB_ok (rs := rs) (f := foL rs (sgT sg).cps.toList i) (L := Mb.lev (sgT sg).cps.toList i) (m := (m : Int)) (u6 := some (.d (.int (x : Int)))) (u7 := u7) (u8 := u8) (u9 := u9) M h5 (fun z hz => by
      obtain ⟨k, hk, q⟩ := fo_mem hz
      exact hst k (by omega) z q) (hst i (by omega)) (by omega)
    exact ⟨_, _, by rw [e]; rfl, .inl h, _, _, _, _, _, .inr rfl, rfl⟩
  rw [List.length_range] at h5 q
  unfold F__law_firsts_k17
  rw [ft_def]
  simp only [ftρ, List.map_nil, been] at q
  rw [← fo_fsts]
  simp [hr, q]
end Mc
namespace Mc
open PySem L2 PyProof.Rows Fl
theorem sign_ok {sg : Nat} {z : List Nat} (s3 : sg ≤ 3) (S : Strip sg z) : PyData.strOk ⟨z.toArray⟩ = true := by
  unfold PyData.strOk
  rw [List.all_toArray, List.all_eq_true]
  intro c hc
  have := of_decide_eq_true (S.2 c hc)
  exact decide_eq_true (by omega)
theorem sh_en {rs : List Rw} {sg : Nat} {z : List Nat} (M : Mach rs sg) (S : Strip sg z) : Sh 5 (enD rs z) ∧ (enD rs z).eqv (enD rs z) = true := by
  have h2 : Sh 4 (tE rs z) := by
    rw [tE_strip M z S]
    have k : ∀ l : List Th, ∀ x ∈ l.map thD, Sh 2 x := fun l x hx => by
      obtain ⟨y, _, rfl⟩ := List.mem_map.mp hx
      cases y with
      | none => exact ⟨rfl, Nat.zero_le _⟩
      | some s =>
        refine sh_tup fun z hz => ?_
        rcases List.mem_cons.mp hz with q | q
        · rw [q]; exact sh_int _ _
        · rw [List.mem_singleton.mp q]; exact sh_int _ _
    refine sh_tup fun x hx => ?_
    rcases List.mem_cons.mp hx with q | q
    · rw [q]; exact sh_tup (k _)
    · rw [List.mem_singleton.mp q]; exact sh_tup (k _)
  refine ⟨sh_tup fun x hx => ?_, eqv_tup fun x hx => ?_⟩
  · rcases List.mem_cons.mp hx with q | q
    · rw [q]; exact sh_str _ (sign_ok M.sg3 S)
    · rw [List.mem_singleton.mp q]; exact h2
  · rcases List.mem_cons.mp hx with q | q
    · rw [q]; unfold stD; rw [eqv_str]
    · rw [List.mem_singleton.mp q, tE_strip M z S]; exact eqv_tb _
theorem dNe_ens {rs : List Rw} {sg : Nat} {l : List (List Nat)} (M : Mach rs sg) (hS : ∀ z ∈ l, Strip sg z) : dNe (.list (l.map (enD rs))) (.list (l.map (enD rs))) = .ok (.bool false) := by
  have hs : SeqAt.shaped (.list (l.map (enD rs))) = true := Sh.shaped (n := 6) (sh_lst fun x hx => by
    obtain ⟨z, hz, rfl⟩ := List.mem_map.mp hx
    exact (sh_en M (hS z hz)).1) (by decide)
  have he : (PyData.list (l.map (enD rs))).eqv (.list (l.map (enD rs))) = true := eqv_lst fun x hx => by
    obtain ⟨z, hz, rfl⟩ := List.mem_map.mp hx
    exact (sh_en M (hS z hz)).2
  rw [dNe_ok hs hs, he]; rfl
/-- a comprehension with a test -/
theorem compL_if {α : Type} {fs : PyData → Sg → Option Sg} {ft : Sg → R Bool} {fe : Sg → R PyData} {ρ0 : Sg} {d : α → PyData} {p : α → Bool} : ∀ {xs : List α}, (∀ x ∈ xs, ∃ ρ1, fs (d x) ρ0 = some ρ1 ∧ ft ρ1 = .ok (p x) ∧ fe ρ1 = .ok (d x)) → compL fs ft fe ρ0 (xs.map d) = .ok ((xs.filter p).map d)
  | [], _ => rfl
  | x :: t, h => by
    obtain ⟨ρ1, h1, h2, h3⟩ := h x List.mem_cons_self
    have ih := compL_if (xs := t) fun y hy => h y (List.mem_cons_of_mem _ hy)
    rw [List.map_cons, List.filter_cons]
    cases e : p x with
    | true =>
      rw [if_pos rfl, List.map_cons]
      unfold compL
      rw [h1]
      simp [h2, e, h3, ih, optR]
    | false =>
      rw [if_neg (by decide)]
      unfold compL
      rw [h1]
      simp [h2, e, ih, optR]
/-! ### a dict of strips -/
noncomputable def stM (rs : List Rw) (C : List (List Nat)) : List (PyData × PyData) := C.map fun z => (tE rs z, stD z)
theorem stM_keys (rs : List Rw) (C : List (List Nat)) : (stM rs C).map (·.1) = C.map (tE rs) := by unfold stM; rw [List.map_map]; rfl
theorem stM_same {rs : List Rw} {sg : Nat} {C : List (List Nat)} {z : List Nat} (M : Mach rs sg) (hS : ∀ z ∈ C, Strip sg z) (Sz : Strip sg z) : sameK (tE rs z) ((stM rs C).map (·.1)) = true := by
  unfold sameK
  rw [stM_keys, tE_key M Sz, Bool.true_and, Bool.or_eq_true, List.all_eq_true]
  exact .inl (map_keys M hS)
theorem stM_put {rs : List Rw} {C : List (List Nat)} {z : List Nat} (h : tE rs z ∉ C.map (tE rs)) : putM (stM rs C) (tE rs z) (stD z) = stM rs (C ++ [z]) := by
  have hf : hasM (stM rs C) (tE rs z) = false := by
    cases q : hasM (stM rs C) (tE rs z) with
    | false => rfl
    | true => rw [hasM_iff, stM_keys] at q; exact absurd q h
  unfold putM
  rw [hf, if_neg (by decide)]
  unfold stM
  rw [List.map_append]; rfl
theorem stM_get {rs : List Rw} {C : List (List Nat)} {x : PyData} (h : x ∈ C.map (tE rs)) : ∃ y ∈ C, tE rs y = x ∧ getM (stM rs C) x = some (stD y) ∧ hasM (stM rs C) x = true := by
  have hh : hasM (stM rs C) x = true := by rw [hasM_iff, stM_keys]; exact h
  cases e : getM (stM rs C) x with
  | none => unfold hasM at hh; rw [e] at hh; cases hh
  | some v =>
    unfold getM at e
    cases e2 : (stM rs C).find? fun p => decide (p.1 = x) with
    | none => rw [e2] at e; cases e
    | some p =>
      rw [e2] at e
      have h1 := List.find?_some e2
      have h2 := List.mem_of_find?_eq_some e2
      unfold stM at h2
      obtain ⟨y, hy, rfl⟩ := List.mem_map.mp h2
      cases e
      exact ⟨y, hy, of_decide_eq_true h1, rfl, hh⟩
end Mc
namespace Mc
open PySem L2 PyProof.Rows Fl
theorem sgT_pw {sg : Nat} (s1 : 1 ≤ sg) (s3 : sg ≤ 3) : (sgT sg).cps.toList.Pairwise (· < ·) := by
  rw [sgT_cps s1 s3]
  obtain rfl | rfl | rfl : sg = 1 ∨ sg = 2 ∨ sg = 3 := by omega
  all_goals decide
theorem in_lev {cs : List Nat} (z : List Nat) : (∀ c ∈ z, c ∈ cs) → z ∈ Mb.lev cs z.length := by
  refine snoc_ind (P := fun z => (∀ c ∈ z, c ∈ cs) → z ∈ Mb.lev cs z.length) (fun _ => List.mem_singleton.mpr rfl) (fun z c ih h => ?_) z
  rw [List.length_append, List.length_singleton]
  exact Mb.kids_mem.mpr ⟨z, ih fun c hc => h c (List.mem_append_left _ hc), c, h c (by simp), rfl⟩
theorem strip_lev {sg : Nat} {z : List Nat} (s1 : 1 ≤ sg) (s3 : sg ≤ 3) (S : Strip sg z) : z ∈ Mb.lev (sgT sg).cps.toList z.length := in_lev z fun c hc => by
  rw [sgT_cps s1 s3]
  obtain ⟨i, hi⟩ := (take_sign s1 s3).mp (S.2 c hc)
  exact List.mem_of_getElem? hi
noncomputable def luB : Sg → R Fw := (sSeq (sSet 9 (vCall 2 F__law_table (aCons (vV 4) (aCons (vD (eSl dSl (rV 10) oNo (oSo (rV 11)))) aNil))))
  (sSeq (sIf (e1 asB (eMIn true 7 (eV 9))) (sRet (vD (eC (.bool false)))) sNx)
  (sIf (e1 asB (e2 dGtT (eTup (aCons (e1 dLen (eMGet 7 (eV 9))) (aCons (eMGet 7 (eV 9)) aNil))) (eTup (aCons (eV 11) (aCons (eSl dSl (rV 10) oNo (oSo (rV 11))) aNil))))) (sRet (vD (eC (.bool false)))) sNx)))
theorem gt2_no {y p : List Nat} (h : y.length < p.length ∨ (y.length = p.length ∧ (y = p ∨ List.Lex (· < ·) y p))) : HT.gt2 (y.length : Int) (p.length : Int) ⟨y.toArray⟩ ⟨p.toArray⟩ = false := by
  unfold HT.gt2
  rcases h with h | ⟨h, rfl | h2⟩
  · rw [if_neg (by omega)]; exact decide_eq_false (by omega)
  · rw [if_pos rfl, if_pos rfl]
  · rw [if_pos (by omega)]
    split
    · rfl
    · refine decide_eq_false fun h3 => ?_
      have h3 : p < y := by simpa using h3
      exact List.lt_asymm h3 h2
theorem lu_ok {rs : List Rw} {sg n i : Nat} {C : List (List Nat)} {z : Str} (M : Mach rs sg) (hC : C = addRs rs [[]] (Mb.kids (sgT sg).cps.toList C)) (hS : ∀ z ∈ C, Strip sg z) (S : Strip sg z.cps.toList) (hi : i ≤ z.cps.toList.length) {a0 a1 a2 a3 a5 a6 a8 u : Option A} :
    ∃ u', luB [a0, a1, a2, a3, some (.d (machD rs)), a5, a6, some (.m (stM rs C)), a8, u, some (.d (.str z)), some (.d (.int (i : Int)))] = .ok (.nx [a0, a1, a2, a3, some (.d (machD rs)), a5, a6, some (.m (stM rs C)), a8, u', some (.d (.str z)), some (.d (.int (i : Int)))]) := by
  have Sp := S.take i
  have hz : z.length ≤ 16777216 := by rw [str_len]; have := S.1; omega
  have d1 := dSl_s (lo := none) (hi := some (i : Int)) hz
  rw [slice_take hi] at d1
  have d1 : dSl (.str z) none (some (i : Int)) = .ok (stD (z.cps.toList.take i)) := d1
  have pl : (z.cps.toList.take i).length = i := by rw [List.length_take]; omega
  have ht := F_tE M Sp
  have hlv := strip_lev M.sg1 M.sg3 Sp
  rw [pl] at hlv
  have hpw := sgT_pw M.sg1 M.sg3
  have hin : tE rs (z.cps.toList.take i) ∈ C.map (tE rs) := Mb.closed_has hpw hC hlv
  obtain ⟨y, hy, ey, g1, g2⟩ := stM_get hin
  have hmin := Mb.closed_min hpw hC hlv hy ey
  have hk := stM_same M hS Sp
  have gt : HT.gt2 (y.length : Int) (i : Int) ⟨y.toArray⟩ ⟨(z.cps.toList.take i).toArray⟩ = false := by
    have := gt2_no (y := y) (p := z.cps.toList.take i) (by rw [pl]; exact hmin)
    rwa [pl] at this
  have dl : dLen (stD y) = .ok (.int (y.length : Int)) := by
    have := dLen_s (z := ⟨y.toArray⟩) (by rw [str_len]; have := (hS y hy).1; simpa using (by omega : y.length ≤ 16777216))
    rw [str_len] at this
    simpa [stD] using this
  have dg : dGtT (.tuple [.int (y.length : Int), stD y]) (.tuple [.int (i : Int), stD (z.cps.toList.take i)]) = .ok (.bool false) := by
    show R.ok (PyData.bool (HT.gt2 _ _ _ _)) = _
    rw [gt]
  generalize hgp : stD (z.cps.toList.take i) = sp at *
  generalize hgt : tE rs (z.cps.toList.take i) = tp at *
  generalize hgy : stD y = sy at *
  exact ⟨some (.d tp), by simp [luB, d1, ht, hk, g1, g2, dl, dg]⟩
noncomputable def ldB : Sg → R Fw := (sMPut 7 (eV 9) (eV 8))
theorem law_true : ∀ ns : List Int, ns.length ≤ 63 → F_law [.d (.list (ns.map .int))] = .ok (.d (.bool true)) := by
  intro ns hns
  rw [show PyData.list (ns.map .int) = scrD ns from rfl]
  obtain ⟨v, hv⟩ := F_cell ns 0
  obtain ⟨n, hn, n1, n3⟩ : ∃ n : Nat, 1 + v % 3 = (n : Int) ∧ 1 ≤ n ∧ n ≤ 3 := ⟨(1 + v % 3).toNat, by omega, by omega, by omega⟩
  obtain ⟨sg, hs, s1, s3⟩ : ∃ sg : Nat, 1 + v / 3 % 3 = (sg : Int) ∧ 1 ≤ sg ∧ sg ≤ 3 := ⟨(1 + v / 3 % 3).toNat, by omega, by omega, by omega⟩
  obtain ⟨rs, e3, M, hl⟩ := F_mach (ns := ns) (at' := 1) (n := n) (sg := sg) (by decide) n1 (by omega) s1 s3
  have k3 : ∀ y : Int, dMod (.int y) (.int 3) = .ok (.int (y % 3)) := fun y => dMod_i (by decide)
  have j3 : ∀ y : Int, dDiv (.int y) (.int 3) = .ok (.int (y / 3)) := fun y => dDiv_i (by decide) (by decide)
  unfold F_law B_law
  rcases F_lst M with h | ⟨C, h, hC, hS, hCl⟩
  · simp [hv, k3, j3, hn, hs, e3, h]
  obtain ⟨m, em, hm12, hb⟩ : ∃ m : Nat, dIx (.list [.int 12, .int 5, .int 3]) (.int ((sg : Int) - 1)) = .ok (.int (m : Int)) ∧ m ≤ 12 ∧ sg ^ (m + 1) ≤ 81 := by
    obtain rfl | rfl | rfl : sg = 1 ∨ sg = 2 ∨ sg = 3 := by omega
    · exact ⟨12, rfl, by decide, by decide⟩
    · exact ⟨5, rfl, by decide, by decide⟩
    · exact ⟨3, rfl, by decide, by decide⟩
  have hpw := sgT_pw s1 s3
  have hft := F_fts M hm12 hb
  rw [← Mb.closed_filter hpw hC m] at hft
  have hne := dNe_ens (l := C.filter fun x => decide (x.length ≤ m)) M fun z hz => hS z (List.mem_filter.mp hz).1
  have hcp := compL_if (fs := stN 0) (ft := (e1 asB (e2 dLe (e1 dLen (e2 dIx (rV 0) (eC (.int 0)))) (rV 1)))) (fe := eV 0) (ρ0 := [none, some (.d (.int (m : Int)))]) (d := enD rs) (p := fun x : List Nat => decide (x.length ≤ m)) (xs := C) fun x hx => by
    have i0 : dIx (enD rs x) (.int 0) = .ok (stD x) := rfl
    have dl : dLen (stD x) = .ok (.int (x.length : Int)) := by
      have := dLen_s (z := ⟨x.toArray⟩) (by rw [str_len]; have := (hS x hx).1; simpa using (by omega : x.length ≤ 16777216))
      rw [str_len] at this
      simpa [stD] using this
    exact ⟨[some (.d (enD rs x)), some (.d (.int (m : Int)))], rfl, by simp [i0, dl], by simp⟩
  have hit := dItems_l (xs := C.map (enD rs)) (by rw [List.length_map]; omega)
  have hnd : (C.map (tE rs)).Nodup := Mb.closed_nd hC
  have nn : isNon (.list (C.map (enD rs))) = false := rfl
  obtain ⟨ρ1, f1, u8, u9, rfl⟩ := forF_inv (fs := stT [(stN 8), (stN 9)]) (fb := ldB) (d := enD rs) (xs := C) (ρ := [some (.d (scrD ns)), some (.d (.int v)), some (.d (.int (n : Int))), some (.d (.int (sg : Int))), some (.d (machD rs)), some (.d (.list (C.map (enD rs)))), some (.d (.int (m : Int))), some (.m []), none, none, none, none])
    (fun i ρ => ∃ u8 u9, ρ = [some (.d (scrD ns)), some (.d (.int v)), some (.d (.int (n : Int))), some (.d (.int (sg : Int))), some (.d (machD rs)), some (.d (.list (C.map (enD rs)))), some (.d (.int (m : Int))), some (.m (stM rs (C.take i))), u8, u9, none, none]) ⟨none, none, rfl⟩ fun i z ρ hz ⟨u8, u9, e⟩ => by
    have hi : i < C.length := by
      rcases Nat.lt_or_ge i C.length with h | h
      · exact h
      · rw [List.getElem?_eq_none h] at hz; cases hz
    have ht : C.take (i + 1) = C.take i ++ [z] := by rw [List.take_succ, hz]; rfl
    have hzm := List.mem_of_getElem? hz
    have hno : tE rs z ∉ (C.take i).map (tE rs) := fun q => by
      have h1 : (C.take (i + 1)).map (tE rs) = (C.take i).map (tE rs) ++ [tE rs z] := by rw [ht, List.map_append]; rfl
      have h2 : ((C.take (i + 1)).map (tE rs)).Nodup := (List.Sublist.map _ (List.take_sublist _ _)).nodup hnd
      rw [h1, List.nodup_append] at h2
      exact h2.2.2 _ q _ (List.mem_singleton.mpr rfl) rfl
    have hk := stM_same (C := C.take i) M (fun y hy => hS y (List.mem_of_mem_take hy)) (hS z hzm)
    have hp := stM_put hno
    have hln : (stM rs (C.take i)).length ≤ 16777216 := by unfold stM; rw [List.length_map, List.length_take]; omega
    refine ⟨[some (.d (scrD ns)), some (.d (.int v)), some (.d (.int (n : Int))), some (.d (.int (sg : Int))), some (.d (machD rs)), some (.d (.list (C.map (enD rs)))), some (.d (.int (m : Int))), some (.m (stM rs (C.take i))), some (.d (stD z)), some (.d (tE rs z)), none, none], _, by rw [e]; simp [enD], .inl ?_, some (.d (stD z)), some (.d (tE rs z)), rfl⟩
    rw [ht, ← hp]
    simp [ldB, hk, hln]
  rw [List.take_length] at f1
  obtain ⟨k, hk, k58⟩ : ∃ k : Nat, max 0 (min 58 ((ns.length : Int) - 5)) = (k : Int) ∧ k ≤ 58 := ⟨(max 0 (min 58 ((ns.length : Int) - 5))).toNat, by omega, by omega⟩
  obtain ⟨z, e4, S, lz⟩ := F_strip (ns := ns) (at' := 5) (m := k) (sg := sg) (by decide) (by omega) s1 s3
  have ls := scr_len ns
  have q1 : Fl.d2 iMin (.int 58) (.int ((ns.length : Int) - 5)) = .ok (.int (min 58 ((ns.length : Int) - 5))) := by
    have : iMin 58 ((ns.length : Int) - 5) = min 58 ((ns.length : Int) - 5) := by
      unfold iMin
      split <;> omega
    rw [← this]; rfl
  have q2 : Fl.d2 iMax (.int 0) (.int (min 58 ((ns.length : Int) - 5))) = .ok (.int (k : Int)) := by
    have : iMax 0 (min 58 ((ns.length : Int) - 5)) = (k : Int) := by
      rw [← hk]
      unfold iMax
      split <;> omega
    rw [← this]; rfl
  have zl := dLen_s (z := z) (by rw [str_len]; omega)
  rw [str_len, lz] at zl
  have hrg := range_dat (n := k + 1) (by omega)
  rw [show ((k + 1 : Nat) : Int) = (k : Int) + 1 by omega] at hrg
  obtain ⟨ρ2, f2, w9, w11, rfl⟩ := forF_inv (fs := stN 11) (fb := luB) (d := fun i : Nat => PyData.int (i : Int)) (xs := List.range (k + 1)) (ρ := [some (.d (scrD ns)), some (.d (.int v)), some (.d (.int (n : Int))), some (.d (.int (sg : Int))), some (.d (machD rs)), some (.d (.list (C.map (enD rs)))), some (.d (.int (m : Int))), some (.m (stM rs C)), u8, u9, some (.d (.str z)), none])
    (fun i ρ => ∃ u9 u11, ρ = [some (.d (scrD ns)), some (.d (.int v)), some (.d (.int (n : Int))), some (.d (.int (sg : Int))), some (.d (machD rs)), some (.d (.list (C.map (enD rs)))), some (.d (.int (m : Int))), some (.m (stM rs C)), u8, u9, some (.d (.str z)), u11]) ⟨u9, none, rfl⟩ fun i x ρ hx ⟨u9, u11, e⟩ => by
    have hx' := List.mem_range.mp (List.mem_of_getElem? hx)
    obtain ⟨u', h⟩ := lu_ok (n := n) (i := x) M hC hS S (by omega) (a0 := some (.d (scrD ns))) (a1 := some (.d (.int v))) (a2 := some (.d (.int (n : Int)))) (a3 := some (.d (.int (sg : Int)))) (a5 := some (.d (.list (C.map (enD rs))))) (a6 := some (.d (.int (m : Int)))) (a8 := u8) (u := u9)
    exact ⟨_, _, by rw [e]; rfl, .inl h, u', some (.d (.int (x : Int))), rfl⟩
  change fnF 12 (sSeq _ (sSeq _ (sSeq _ (sSeq _ (sSeq _ (sSeq _ (sSeq _ (sSeq _ (sSeq _ (sSeq (sFor _ _ ldB) (sSeq _ (sSeq (sFor _ _ luB) _)))))))))))) _ = _
  simp [hv, k3, j3, hn, hs, e3, h, nn, em, hit, capA, hcp, hft, hne, f1, ls, q1, q2, e4, zl, hrg, f2]
end Mc

namespace Mc
open PySem L2 PyProof.Rows Fl
section
variable {P : Program} {w : World} {K : PySem.W.Frag} {mg : Str → Option Value} {base : Heap} {TH : Hp}
theorem sc_init_NoStrip : FnScope ["self", "at"] ["self", "at"] (defScope (inClass (top 2) 0)) := ⟨rfl, rfl, rfl, by decide +kernel, rfl, by decide +kernel, by decide +kernel⟩
theorem ok_init_NoStrip {f W C : Addr} {fd : FuncData} (F : Fun K "__init__" "NoStrip.__init__" (inClass (top 2) 0) f fd) (c : SX.ExcC K W C) (n1 : PySem.W.findIn K (.ref C) "at" = some none) :
    FnOk P w K mg base CX0 1 f fd ["self", "at"] (spI C ["at"]) := by
  refine F.ok sc_init_NoStrip (fun vs H Q E h => ?_) (fun cdv A outer s H vs Q E hr h => ?_)
  · obtain ⟨e, xs, rfl, hl, _⟩ := h
    rw [List.length_cons, hl]; rfl
  · obtain ⟨e, xs, rfl, hl, he, q⟩ := h
    obtain ⟨x, rfl⟩ : ∃ x, xs = [x] := by
      match xs, hl with
      | [x], _ => exact ⟨x, rfl⟩
    refine ⟨_, L2.pss_one (ps_fldX (pv 0) (pv 1) rfl), ?_⟩
    refine ⟨_, rfl, _, rfl, e, W, C, rfl, c, n1, .inl ⟨he, fun d hd hne => ?_⟩⟩
    exact q d hd hne
def ErrK_NoStrip (K : PySem.W.Frag) (mg : Str → Option Value) : Prop := ∃ W C, SX.ExcC K W C ∧ mg "NoStrip" = some (.ref C) ∧ PySem.W.findIn K (.ref C) "at" = some none ∧
      ∃ fI fdI, Fun K "__init__" "NoStrip.__init__" (inClass (top 2) 0) fI fdI ∧ Binds K fdI ["self", "at"] [] ∧ PySem.W.findIn K (.ref C) "__init__" = some (some (.ref fI)) ∧ PySem.W.typeIn K (.ref fI) = some (.type "function")
theorem err_at_NoStrip (h : ErrK_NoStrip K mg) : ∃ W C, ErrAt P w K mg base "NoStrip" ["at"] W C := by
  obtain ⟨W, C, er, m, n1, fI, fdI, FI, bI, aI, tI⟩ := h
  have I := ok_init_NoStrip (P := P) (w := w) (mg := mg) (base := base) FI er n1
  exact ⟨W, C, er, m, fun f hf => by rw [List.mem_singleton.mp hf]; exact n1, fI, fdI, I, aI, tI, bI⟩
theorem law_all (T : Txt w K mg) (Er_NoStrip : ErrK_NoStrip K mg) (Erp_TooMany : ∃ W C, ErrP K mg "TooMany" W C) (D6 : DefAt K mg "signs_of" (top 6) ["machine"]) (D7 : DefAt K mg "cells_of" (top 7) ["machine", "number"]) (D8 : DefAt K mg "checked_by" (top 8) ["signs", "strip"]) (D9 : DefAt K mg "checked" (top 9) ["machine", "strip"]) (D11 : DefAt K mg "still" (top 11) ["rooms"]) (D12 : DefAt K mg "sign_table" (top 12) ["machine", "sign"]) (D13 : DefAt K mg "gone_out" (top 13) ["one", "other", "thing", "inward"]) (D14 : DefAt K mg "behind" (top 14) ["one", "other"]) (D17 : DefAt K mg "gathered" (top 17) ["machine", "most"]) (D18 : DefAt K mg "all_tables" (top 18) ["machine"]) (D20 : DefAt K mg "_law_cell" (top 20) ["_law_script", "_law_k"]) (D21 : DefAt K mg "_law_end" (top 21) ["_law_number", "_law_rooms"]) (D22 : DefAt K mg "_law_digit_row" (top 22) ["_law_number", "_law_rooms", "_law_signs"]) (D23 : DefAt K mg "_law_mixed_row" (top 23) ["_law_number", "_law_rooms", "_law_signs"]) (D24 : DefAt K mg "_law_machine" (top 24) ["_law_script", "_law_at", "_law_rooms", "_law_signs"]) (D25 : DefAt K mg "_law_strip" (top 25) ["_law_script", "_law_at", "_law_size", "_law_signs"]) (D26 : DefAt K mg "_law_within" (top 26) ["_law_machine_here", "_law_strip_here", "_law_place", "_law_room"]) (D27 : DefAt K mg "_law_table" (top 27) ["_law_machine_here", "_law_strip_here"]) (D28 : DefAt K mg "_law_listed" (top 28) ["_law_machine_here"]) (D29 : DefAt K mg "_law_firsts" (top 29) ["_law_machine_here", "_law_signs", "_law_most"]) {fL : Addr} {fdL : FuncData} (FL : Fun K "law" "law" (top 30) fL fdL) : FnOk P w K mg base (CXe P w) 9 fL fdL ["_law_script"] (spLaw K TH) := by
  obtain ⟨W_NoStrip, C_NoStrip, er_NoStrip⟩ := err_at_NoStrip (P := P) (w := w) (base := base) Er_NoStrip
  obtain ⟨Wp_TooMany, Cp_TooMany, erp_TooMany⟩ := Erp_TooMany
  have c_signs_of := ok_signs_of (P := P) (w := w) (base := base) (TH := TH) T D6 
  have c_cells_of := ok_cells_of (P := P) (w := w) (base := base) (TH := TH) T D7 
  have c_checked_by := ok_checked_by (P := P) (w := w) (base := base) (TH := TH) T D8 er_NoStrip
  have c_checked := ok_checked (P := P) (w := w) (base := base) (TH := TH) T D9 c_checked_by c_signs_of
  have c_still := ok_still (P := P) (w := w) (base := base) (TH := TH) T D11 
  have c_sign_table := ok_sign_table (P := P) (w := w) (base := base) (TH := TH) T D12 c_checked c_cells_of
  have c_gone_out := ok_gone_out (P := P) (w := w) (base := base) (TH := TH) T D13 
  have c_behind := ok_behind (P := P) (w := w) (base := base) (TH := TH) T D14 c_gone_out
  have c_gathered := ok_gathered (P := P) (w := w) (base := base) (TH := TH) T D17 c_signs_of c_sign_table c_still c_behind erp_TooMany
  have c_all_tables := ok_all_tables (P := P) (w := w) (base := base) (TH := TH) T D18 c_gathered
  have c__law_cell := ok__law_cell (P := P) (w := w) (base := base) (TH := TH) T D20 
  have c__law_end := ok__law_end (P := P) (w := w) (base := base) (TH := TH) T D21 
  have c__law_digit_row := ok__law_digit_row (P := P) (w := w) (base := base) (TH := TH) T D22 
  have c__law_mixed_row := ok__law_mixed_row (P := P) (w := w) (base := base) (TH := TH) T D23 c__law_end
  have c__law_machine := ok__law_machine (P := P) (w := w) (base := base) (TH := TH) T D24 c__law_digit_row c__law_mixed_row c__law_cell
  have c__law_strip := ok__law_strip (P := P) (w := w) (base := base) (TH := TH) T D25 c__law_cell
  have c__law_within := ok__law_within (P := P) (w := w) (base := base) (TH := TH) T D26 
  have c__law_table := ok__law_table (P := P) (w := w) (base := base) (TH := TH) T D27 c__law_within
  have c__law_listed := ok__law_listed (P := P) (w := w) (base := base) (TH := TH) T D28 c_all_tables erp_TooMany
  have c__law_firsts := ok__law_firsts (P := P) (w := w) (base := base) (TH := TH) T D29 c__law_table
  exact law_ok (ok_law (P := P) (w := w) (base := base) (TH := TH) T FL c__law_cell c__law_machine c__law_listed c__law_firsts c__law_strip c__law_table) law_true
end
section
variable {w : World} {K : PySem.W.Frag} {h : Heap} {mg : Str → Option Value}
theorem txt_mk (X : K.In h) (G : h.Ns mainGlobals mg) {t_MOST_TABLES : Nat} {t_SIGNS : Nat} (z_enumerate : PySem.W.nsIn K mainGlobals "enumerate" = some none) (z_int : PySem.W.nsIn K mainGlobals "int" = some none) (z_isinstance : PySem.W.nsIn K mainGlobals "isinstance" = some none) (z_len : PySem.W.nsIn K mainGlobals "len" = some none) (z_list : PySem.W.nsIn K mainGlobals "list" = some none) (z_max : PySem.W.nsIn K mainGlobals "max" = some none) (z_min : PySem.W.nsIn K mainGlobals "min" = some none) (z_range : PySem.W.nsIn K mainGlobals "range" = some none) (z_str : PySem.W.nsIn K mainGlobals "str" = some none) (z_tuple : PySem.W.nsIn K mainGlobals "tuple" = some none) (s_MOST_TABLES : PySem.W.nsIn K mainGlobals "MOST_TABLES" = some (some (.int 300 t_MOST_TABLES))) (s_SIGNS : PySem.W.nsIn K mainGlobals "SIGNS" = some (some (.str "abc" t_SIGNS))) : Txt w K mg := ⟨PySem.W.mg_none_of X G z_enumerate, PySem.W.mg_none_of X G z_int, PySem.W.mg_none_of X G z_isinstance, PySem.W.mg_none_of X G z_len, PySem.W.mg_none_of X G z_list, PySem.W.mg_none_of X G z_max, PySem.W.mg_none_of X G z_min, PySem.W.mg_none_of X G z_range, PySem.W.mg_none_of X G z_str, PySem.W.mg_none_of X G z_tuple, ⟨t_MOST_TABLES, PySem.W.mg_of X G s_MOST_TABLES⟩, ⟨t_SIGNS, PySem.W.mg_of X G s_SIGNS⟩⟩
theorem ee_mk_NoStrip (X : K.In h) (G : h.Ns mainGlobals mg) {W C fI NC : Addr} {bsC subC : List Value} {nmC qC : Str} {abC : Bool} {snC : List Str} {colC : Option Bool} {ddC : Option Addr} {c0 c1 c2 c3 c5 : Option Value}
    {oc : Value} {od an : Option Addr} {osl : Array (Option Value)} {kV doc pm cdv ct : Value}
    (m : PySem.W.nsIn K mainGlobals "NoStrip" = some (some (.ref C)))
    (e1 : K.lookup C = some (excClassObj nmC qC C NC bsC (.ref W :: SX.vmro) true snC subC abC colC ddC c0 c1 c2 c3 c5 "ValueError.__new__"))
    (e2 : PySem.W.findIn K (.ref C) "__setattr__" = some (some (.builtin "object.__setattr__"))) (e3 : PySem.W.findIn K (.ref C) "__getattribute__" = some (some (.builtin "BaseException.__getattribute__"))) (e4 : PySem.W.findIn K (.ref C) "__getattr__" = some none) (e5 : PySem.W.findIn K (.ref C) "__class__" = some (some (.builtin "object.__class__")))
    (e6 : PySem.W.specialIn K (.builtin "object.__class__") "__get__" = some (some (.builtin "getset_descriptor.__get__"))) (e7 : PySem.W.takesIn K (.builtin "object.__class__") = some true) (e8 : PySem.W.keepIn K (.ref C) = true)
    (p1 : PySem.W.findIn K (.ref C) "at" = some none)
    (i1 : PySem.W.findIn K (.ref C) "__init__" = some (some (.ref fI))) (i2 : K.lookup fI = some ⟨oc, od, .func (PySem.W.fnOf "__init__" "NoStrip.__init__" (defArgs (inClass (top 2) 0)) (defBody (inClass (top 2) 0)) (defScope (inClass (top 2) 0)) .none kV doc pm an cdv ct), osl⟩) (i3 : PySem.W.codeIn K cdv "NoStrip.__init__" = true) (i4 : PySem.W.keepIn K (.ref fI) = true) (i5 : PySem.W.typeIn K (.ref fI) = some (.type "function")) : ErrK_NoStrip K mg := by
  have FI := fun_mk (st := inClass (top 2) 0) i2 i3 i4
  exact ⟨W, C, excC_mk e1 e2 e3 e4 e5 e6 e7 e8, PySem.W.mg_of X G m, p1, fI, _, FI, FI.binds (ps := ["self", "at"]) (fun _ _ _ _ _ _ us hl => match us, hl with | [_, _], _ => rfl), i1, i5⟩
theorem erp_mk {x : Str} (X : K.In h) (G : h.Ns mainGlobals mg) {W C NC : Addr} {bsC subC : List Value} {nmC qC : Str} {abC : Bool} {snC : List Str} {colC : Option Bool} {ddC : Option Addr} {c0 c1 c2 c3 c5 : Option Value} {wc : Value} {wd : Option Addr} {cd : ClassData} {wsl : Array (Option Value)}
    (m : PySem.W.nsIn K mainGlobals x = some (some (.ref C)))
    (e1 : K.lookup C = some (excClassObj nmC qC C NC bsC (.ref W :: SX.vmro) true snC subC abC colC ddC c0 c1 c2 c3 c5 "ValueError.__new__"))
    (e2 : PySem.W.findIn K (.ref C) "__setattr__" = some (some (.builtin "object.__setattr__"))) (e3 : PySem.W.findIn K (.ref C) "__getattribute__" = some (some (.builtin "BaseException.__getattribute__"))) (e4 : PySem.W.findIn K (.ref C) "__getattr__" = some none) (e5 : PySem.W.findIn K (.ref C) "__class__" = some (some (.builtin "object.__class__")))
    (e6 : PySem.W.specialIn K (.builtin "object.__class__") "__get__" = some (some (.builtin "getset_descriptor.__get__"))) (e7 : PySem.W.takesIn K (.builtin "object.__class__") = some true) (e8 : PySem.W.keepIn K (.ref C) = true)
    (n1 : PySem.W.nsOkIn K NC = true) (n2 : PySem.W.nsIn K NC "__init__" = some none) (w1 : K.lookup W = some ⟨wc, wd, .cls cd, wsl⟩) (w2 : PySem.W.nsOkIn K cd.ns = true) (w3 : PySem.W.nsIn K cd.ns "__init__" = some none) : ∃ W C, ErrP K mg x W C :=
  ⟨W, C, excC_mk e1 e2 e3 e4 e5 e6 e7 e8, PySem.W.mg_of X G m, ⟨_, _, NC, _, _, _, _, _, _, _, _, _, _, _, e1, n1, n2⟩, ⟨_, _, cd, _, w1, w2, w3⟩⟩
theorem law_mk {fa f : Addr} {oc : Value} {od an : Option Addr} {osl : Array (Option Value)} {kV doc pm cdv ct : Value} (X : K.In h) (G : h.Ns mainGlobals mg) (hmg : mg "law" = some (.ref fa)) (a : PySem.W.nsIn K mainGlobals "law" = some (some (.ref f))) (l : K.lookup f = some ⟨oc, od, .func (PySem.W.fnOf "law" "law" (defArgs (top 30)) (defBody (top 30)) (defScope (top 30)) .none kV doc pm an cdv ct), osl⟩)
    (c : PySem.W.codeIn K cdv "law" = true) (k : PySem.W.keepIn K (.ref f) = true) : ∃ fd, Fun K "law" "law" (top 30) fa fd ∧ ∀ (s : Shared) (u : Value), BindsTo s fd ⟨[u], []⟩ [("_law_script", u)] := by
  have e := hmg.symm.trans (PySem.W.mg_of X G a)
  cases e
  exact ⟨_, fun_mk (st := top 30) l c k, fun s u => .of_eq rfl⟩
end
end Mc
open PySem PySem.W PyProof.Rows
set_option maxRecDepth 100000 in
set_option maxHeartbeats 0 in
theorem PySem.Challenge.cw_striproam_k17_whole_first_strips_holds : PySem.Challenge.rw_striproam_k17_whole_first_strips.Holds := by
  w_on; o_law; k_head; (case hw => w_witness2)
  k_fill
  refine Fl.walk_X (l := PySem.Challenge.rw_striproam_k17_whole_first_strips) (k := 9) (x := "_law_script") rfl rfl ⟨rfl, by decide, by decide⟩ (fun w h Y => PySem.W.kIn_of Y) ?F
  case F =>
    intro w mg fa h KX G hmg
    have D6 : L2.DefAt (L2.KOf KX) mg "signs_of" (Mc.top 6) ["machine"] := by
      dsimp only [L2.KOf]
      refine' Mc.defAt_mk KX G ?a ?l ?c ?k ?b
      (case a => k_is); (case l => k_is); (case c => k_is); (case k => k_is)
      (case b => exact fun _ _ _ _ _ _ us hl => match us, hl with | [_], _ => rfl)
    have D7 : L2.DefAt (L2.KOf KX) mg "cells_of" (Mc.top 7) ["machine", "number"] := by
      dsimp only [L2.KOf]
      refine' Mc.defAt_mk KX G ?a ?l ?c ?k ?b
      (case a => k_is); (case l => k_is); (case c => k_is); (case k => k_is)
      (case b => exact fun _ _ _ _ _ _ us hl => match us, hl with | [_, _], _ => rfl)
    have D8 : L2.DefAt (L2.KOf KX) mg "checked_by" (Mc.top 8) ["signs", "strip"] := by
      dsimp only [L2.KOf]
      refine' Mc.defAt_mk KX G ?a ?l ?c ?k ?b
      (case a => k_is); (case l => k_is); (case c => k_is); (case k => k_is)
      (case b => exact fun _ _ _ _ _ _ us hl => match us, hl with | [_, _], _ => rfl)
    have D9 : L2.DefAt (L2.KOf KX) mg "checked" (Mc.top 9) ["machine", "strip"] := by
      dsimp only [L2.KOf]
      refine' Mc.defAt_mk KX G ?a ?l ?c ?k ?b
      (case a => k_is); (case l => k_is); (case c => k_is); (case k => k_is)
      (case b => exact fun _ _ _ _ _ _ us hl => match us, hl with | [_, _], _ => rfl)
    have D11 : L2.DefAt (L2.KOf KX) mg "still" (Mc.top 11) ["rooms"] := by
      dsimp only [L2.KOf]
      refine' Mc.defAt_mk KX G ?a ?l ?c ?k ?b
      (case a => k_is); (case l => k_is); (case c => k_is); (case k => k_is)
      (case b => exact fun _ _ _ _ _ _ us hl => match us, hl with | [_], _ => rfl)
    have D12 : L2.DefAt (L2.KOf KX) mg "sign_table" (Mc.top 12) ["machine", "sign"] := by
      dsimp only [L2.KOf]
      refine' Mc.defAt_mk KX G ?a ?l ?c ?k ?b
      (case a => k_is); (case l => k_is); (case c => k_is); (case k => k_is)
      (case b => exact fun _ _ _ _ _ _ us hl => match us, hl with | [_, _], _ => rfl)
    have D13 : L2.DefAt (L2.KOf KX) mg "gone_out" (Mc.top 13) ["one", "other", "thing", "inward"] := by
      dsimp only [L2.KOf]
      refine' Mc.defAt_mk KX G ?a ?l ?c ?k ?b
      (case a => k_is); (case l => k_is); (case c => k_is); (case k => k_is)
      (case b => exact fun _ _ _ _ _ _ us hl => match us, hl with | [_, _, _, _], _ => rfl)
    have D14 : L2.DefAt (L2.KOf KX) mg "behind" (Mc.top 14) ["one", "other"] := by
      dsimp only [L2.KOf]
      refine' Mc.defAt_mk KX G ?a ?l ?c ?k ?b
      (case a => k_is); (case l => k_is); (case c => k_is); (case k => k_is)
      (case b => exact fun _ _ _ _ _ _ us hl => match us, hl with | [_, _], _ => rfl)
    have D17 : L2.DefAt (L2.KOf KX) mg "gathered" (Mc.top 17) ["machine", "most"] := by
      dsimp only [L2.KOf]
      refine' Mc.defAt_mk KX G ?a ?l ?c ?k ?b
      (case a => k_is); (case l => k_is); (case c => k_is); (case k => k_is)
      (case b => exact fun _ _ _ _ _ _ us hl => match us, hl with | [_, _], _ => rfl)
    have D18 : L2.DefAt (L2.KOf KX) mg "all_tables" (Mc.top 18) ["machine"] := by
      dsimp only [L2.KOf]
      refine' Mc.defAt_mk KX G ?a ?l ?c ?k ?b
      (case a => k_is); (case l => k_is); (case c => k_is); (case k => k_is)
      (case b => exact fun _ _ _ _ _ _ us hl => match us, hl with | [_], _ => rfl)
    have D20 : L2.DefAt (L2.KOf KX) mg "_law_cell" (Mc.top 20) ["_law_script", "_law_k"] := by
      dsimp only [L2.KOf]
      refine' Mc.defAt_mk KX G ?a ?l ?c ?k ?b
      (case a => k_is); (case l => k_is); (case c => k_is); (case k => k_is)
      (case b => exact fun _ _ _ _ _ _ us hl => match us, hl with | [_, _], _ => rfl)
    have D21 : L2.DefAt (L2.KOf KX) mg "_law_end" (Mc.top 21) ["_law_number", "_law_rooms"] := by
      dsimp only [L2.KOf]
      refine' Mc.defAt_mk KX G ?a ?l ?c ?k ?b
      (case a => k_is); (case l => k_is); (case c => k_is); (case k => k_is)
      (case b => exact fun _ _ _ _ _ _ us hl => match us, hl with | [_, _], _ => rfl)
    have D22 : L2.DefAt (L2.KOf KX) mg "_law_digit_row" (Mc.top 22) ["_law_number", "_law_rooms", "_law_signs"] := by
      dsimp only [L2.KOf]
      refine' Mc.defAt_mk KX G ?a ?l ?c ?k ?b
      (case a => k_is); (case l => k_is); (case c => k_is); (case k => k_is)
      (case b => exact fun _ _ _ _ _ _ us hl => match us, hl with | [_, _, _], _ => rfl)
    have D23 : L2.DefAt (L2.KOf KX) mg "_law_mixed_row" (Mc.top 23) ["_law_number", "_law_rooms", "_law_signs"] := by
      dsimp only [L2.KOf]
      refine' Mc.defAt_mk KX G ?a ?l ?c ?k ?b
      (case a => k_is); (case l => k_is); (case c => k_is); (case k => k_is)
      (case b => exact fun _ _ _ _ _ _ us hl => match us, hl with | [_, _, _], _ => rfl)
    have D24 : L2.DefAt (L2.KOf KX) mg "_law_machine" (Mc.top 24) ["_law_script", "_law_at", "_law_rooms", "_law_signs"] := by
      dsimp only [L2.KOf]
      refine' Mc.defAt_mk KX G ?a ?l ?c ?k ?b
      (case a => k_is); (case l => k_is); (case c => k_is); (case k => k_is)
      (case b => exact fun _ _ _ _ _ _ us hl => match us, hl with | [_, _, _, _], _ => rfl)
    have D25 : L2.DefAt (L2.KOf KX) mg "_law_strip" (Mc.top 25) ["_law_script", "_law_at", "_law_size", "_law_signs"] := by
      dsimp only [L2.KOf]
      refine' Mc.defAt_mk KX G ?a ?l ?c ?k ?b
      (case a => k_is); (case l => k_is); (case c => k_is); (case k => k_is)
      (case b => exact fun _ _ _ _ _ _ us hl => match us, hl with | [_, _, _, _], _ => rfl)
    have D26 : L2.DefAt (L2.KOf KX) mg "_law_within" (Mc.top 26) ["_law_machine_here", "_law_strip_here", "_law_place", "_law_room"] := by
      dsimp only [L2.KOf]
      refine' Mc.defAt_mk KX G ?a ?l ?c ?k ?b
      (case a => k_is); (case l => k_is); (case c => k_is); (case k => k_is)
      (case b => exact fun _ _ _ _ _ _ us hl => match us, hl with | [_, _, _, _], _ => rfl)
    have D27 : L2.DefAt (L2.KOf KX) mg "_law_table" (Mc.top 27) ["_law_machine_here", "_law_strip_here"] := by
      dsimp only [L2.KOf]
      refine' Mc.defAt_mk KX G ?a ?l ?c ?k ?b
      (case a => k_is); (case l => k_is); (case c => k_is); (case k => k_is)
      (case b => exact fun _ _ _ _ _ _ us hl => match us, hl with | [_, _], _ => rfl)
    have D28 : L2.DefAt (L2.KOf KX) mg "_law_listed" (Mc.top 28) ["_law_machine_here"] := by
      dsimp only [L2.KOf]
      refine' Mc.defAt_mk KX G ?a ?l ?c ?k ?b
      (case a => k_is); (case l => k_is); (case c => k_is); (case k => k_is)
      (case b => exact fun _ _ _ _ _ _ us hl => match us, hl with | [_], _ => rfl)
    have D29 : L2.DefAt (L2.KOf KX) mg "_law_firsts" (Mc.top 29) ["_law_machine_here", "_law_signs", "_law_most"] := by
      dsimp only [L2.KOf]
      refine' Mc.defAt_mk KX G ?a ?l ?c ?k ?b
      (case a => k_is); (case l => k_is); (case c => k_is); (case k => k_is)
      (case b => exact fun _ _ _ _ _ _ us hl => match us, hl with | [_, _, _], _ => rfl)
    have T : Mc.Txt w (L2.KOf KX) mg := by
      dsimp only [L2.KOf]
      refine' Mc.txt_mk KX G ?z_enumerate ?z_int ?z_isinstance ?z_len ?z_list ?z_max ?z_min ?z_range ?z_str ?z_tuple ?s_MOST_TABLES ?s_SIGNS
      (case z_enumerate => k_is); (case z_int => k_is); (case z_isinstance => k_is); (case z_len => k_is); (case z_list => k_is); (case z_max => k_is); (case z_min => k_is); (case z_range => k_is); (case z_str => k_is); (case z_tuple => k_is); (case s_MOST_TABLES => k_is); (case s_SIGNS => k_is)
    have E_NoStrip : Mc.ErrK_NoStrip (L2.KOf KX) mg := by
      dsimp only [L2.KOf]
      refine' Mc.ee_mk_NoStrip KX G ?m ?e1 ?e2 ?e3 ?e4 ?e5 ?e6 ?e7 ?e8 ?p1 ?i1 ?i2 ?i3 ?i4 ?i5
      (case m => k_is)
      (case e1 => k_is)
      (case e2 => k_is); (case e3 => k_is); (case e4 => k_is); (case e5 => k_is); (case e6 => k_is); (case e7 => k_is); (case e8 => k_is)
      (case p1 => k_is); (case i1 => k_is); (case i2 => k_is); (case i3 => k_is); (case i4 => k_is); (case i5 => k_is)
    have Ep_TooMany : ∃ W C, L2.ErrP (L2.KOf KX) mg "TooMany" W C := by
      dsimp only [L2.KOf]
      refine' Mc.erp_mk KX G ?m ?e1 ?e2 ?e3 ?e4 ?e5 ?e6 ?e7 ?e8 ?n1 ?n2 ?w1 ?w2 ?w3
      (case m => k_is)
      (case e1 => k_is)
      (case e2 => k_is); (case e3 => k_is); (case e4 => k_is); (case e5 => k_is); (case e6 => k_is); (case e7 => k_is); (case e8 => k_is)
      (case n2 => k_is); (case w1 => k_is); (case w3 => k_is)
      (case n1 => refine' L2.nsOk_mk ?l ?h; (case l => k_is); (case h => rfl))
      (case w2 => refine' L2.nsOk_mk ?l ?h; (case l => k_is); (case h => rfl))
    have LL : ∃ fd, L2.Fun (L2.KOf KX) "law" "law" (Mc.top 30) fa fd ∧ ∀ (s : Shared) (u : Value), BindsTo s fd ⟨[u], []⟩ [("_law_script", u)] := by
      dsimp only [L2.KOf]
      refine' Mc.law_mk KX G hmg ?a4 ?l4 ?c4 ?k4
      (case a4 => k_is); (case l4 => k_is); (case c4 => k_is); (case k4 => k_is)
    obtain ⟨fd, FL, hb⟩ := LL
    exact ⟨fd, hb, fun base _ _ => Mc.law_all T E_NoStrip Ep_TooMany D6 D7 D8 D9 D11 D12 D13 D14 D17 D18 D20 D21 D22 D23 D24 D25 D26 D27 D28 D29 FL⟩
