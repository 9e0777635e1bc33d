import PyProof.Rows.All
import Wide.All
import OpenK.AllK
import Wide.FinOn
import Lean
import PyProof.EqAt
import PyProof.EqKinds
import PyProof.TupleCall
import PySem.Challenge.RW_coverroll_k49_books_and_counts
set_option Elab.async false
set_option linter.all false
set_option maxRecDepth 100000
set_option maxHeartbeats 4000000
/-! THE HAND LAYER, for ints, bools, texts, own classes, LISTS and tuples (index, slices, in, append, pop ..), calls, loops. Paste it whole ahead of your own text; what your proof does not reach may be deleted. -/
namespace L2
open PySem PySem.Spec PyProof.Rows

/-- a key: an int or a str -/
abbrev Key := Sum Int Str
def keyIs : Key → Value → Bool
  | .inl k, v => Value.isInt k v
  | .inr x, v => Value.isStrOf x v
def keyH (w : World) : Key → Int
  | .inl k => hashInt k
  | .inr x => hashStr w x
theorem keyIs_shape : ∀ {k : Key} {v : Value}, keyIs k v = true → (∃ i t, k = Sum.inl i ∧ v = Value.int i t) ∨ (∃ x t, k = Sum.inr x ∧ v = Value.str x t)
  | .inl i, v, h => by
    obtain ⟨t, e⟩ := Value.isInt_shape (k := i) (v := v) h
    exact .inl ⟨i, t, rfl, e⟩
  | .inr x, v, h => by
    obtain ⟨t, e⟩ := Value.isStrOf_shape (x := x) (v := v) h
    exact .inr ⟨x, t, rfl, e⟩
theorem keyIs_int (i : Int) (t : Tok) : keyIs (.inl i) (.int i t) = true := by simp [keyIs, Value.isInt]
theorem keyIs_str (x : Str) (t : Tok) : keyIs (.inr x) (.str x t) = true := by simp [keyIs, Value.isStrOf]
theorem key_ll (a b : Int) : decide ((Sum.inl a : Key) = Sum.inl b) = (a == b) := by
  by_cases e : a = b
  · subst e; simp
  · have h : ¬ (Sum.inl a : Key) = Sum.inl b := fun q => e (Sum.inl.inj q)
    rw [decide_eq_false h]
    exact (beq_eq_false_iff_ne.mpr e).symm
theorem key_rr (a b : Str) : decide ((Sum.inr a : Key) = Sum.inr b) = decide (a = b) := by
  by_cases e : a = b
  · subst e; simp
  · have h : ¬ (Sum.inr a : Key) = Sum.inr b := fun q => e (Sum.inr.inj q)
    rw [decide_eq_false h, decide_eq_false e]
theorem key_lr (a : Int) (b : Str) : decide ((Sum.inl a : Key) = Sum.inr b) = false := decide_eq_false (fun q => nomatch q)
theorem key_rl (a : Str) (b : Int) : decide ((Sum.inr a : Key) = Sum.inl b) = false := decide_eq_false (fun q => nomatch q)

def mixKind (prog : Program) (w : World) : PySem.KeyKind prog w Key where
  is := keyIs
  hash := keyH w
  inj := fun v a b ha hb => by
    rcases keyIs_shape ha with ⟨i, t, rfl, rfl⟩ | ⟨x, t, rfl, rfl⟩
    · rcases keyIs_shape hb with ⟨j, u, rfl, e⟩ | ⟨y, u, rfl, e⟩
      · injection e with e1 _; rw [e1]
      · exact nomatch e
    · rcases keyIs_shape hb with ⟨j, u, rfl, e⟩ | ⟨y, u, rfl, e⟩
      · exact nomatch e
      · injection e with e1 _; rw [e1]
  byValue := fun k v h => by
    rcases keyIs_shape h with ⟨i, t, rfl, rfl⟩ | ⟨x, t, rfl, rfl⟩ <;> rfl
  pyHash := fun hv h => by
    rcases keyIs_shape hv with ⟨i, t, rfl, rfl⟩ | ⟨x, t, rfl, rfl⟩
    · exact wpAny_pyHash_int h
    · exact wpAny_pyHash_str h
  eqBool := fun hu hv h => by
    rcases keyIs_shape hu with ⟨i, t, rfl, rfl⟩ | ⟨x, t, rfl, rfl⟩
    · rcases keyIs_shape hv with ⟨j, u, rfl, rfl⟩ | ⟨y, u, rfl, rfl⟩
      · rw [key_ll] at h; exact wpAny_eqBool_int h
      · rw [key_lr] at h; exact SeqAt.EqAt.int_str i t y u _ _ _ _ h
    · rcases keyIs_shape hv with ⟨j, u, rfl, rfl⟩ | ⟨y, u, rfl, rfl⟩
      · rw [key_rl] at h; exact SeqAt.EqAt.str_int x t j u _ _ _ _ h
      · rw [key_rr] at h; exact wpAny_eqBool_str h
  «strs» := fun k x t v h => by
    rcases keyIs_shape h with ⟨i, u, rfl, e⟩ | ⟨y, u, rfl, e⟩
    · exact nomatch e
    · injection e with e1 _
      subst e1
      cases v <;> rfl

theorem mixKind_int (prog : Program) (w : World) (i : Int) (t : Tok) : (mixKind prog w).is (.inl i) (.int i t) = true := keyIs_int i t
theorem mixKind_str (prog : Program) (w : World) (x : Str) (t : Tok) : (mixKind prog w).is (.inr x) (.str x t) = true := keyIs_str x t
end L2

namespace L2
open PySem PySem.Spec PyProof.Rows

/-- a value, without the heap -/
inductive V where
  | non | bl (b : Bool) | int (i : Int) | str (x : Str) | byt (b : Array UInt8) | flt (b : UInt64) | ref (a : Addr) | ty (n : String)
  deriving DecidableEq

def RelV : V → Value → Prop
  | .non, u => u = Value.none
  | .bl b, u => u = Value.bool b
  | .int i, u => ∃ t, u = Value.int i t
  | .str x, u => ∃ t, u = Value.str x t
  | .byt b, u => ∃ t, u = Value.bytes b t
  | .flt b, u => ∃ t, u = Value.float b t
  | .ref a, u => u = Value.ref a
  | .ty n, u => u = Value.type n

abbrev Vals : List V → List Value → Prop := Paired RelV
theorem Vals.length {xs : List V} {us : List Value} (r : Vals xs us) : xs.length = us.length := Paired.length r
theorem Vals.get : ∀ {xs : List V} {us : List Value} {i : Nat} {x : V}, Vals xs us → xs[i]? = some x → ∃ u, us[i]? = some u ∧ RelV x u
  | _, _, _, _, .nil, e => by simp at e
  | _, _, 0, _, .cons r _, e => by simp at e; subst e; exact ⟨_, rfl, r⟩
  | _, _, i + 1, x, .cons _ t, e => by
    obtain ⟨u, h1, h2⟩ := Vals.get (i := i) (x := x) t (by simpa using e)
    exact ⟨u, by simpa using h1, h2⟩
theorem Vals.set {x : V} {u : Value} (r : RelV x u) : ∀ {xs : List V} {us : List Value} (i : Nat), Vals xs us → Vals (xs.set i x) (us.set i u)
  | _, _, _, .nil => .nil
  | _, _, 0, .cons _ t => .cons r t
  | _, _, i + 1, .cons q t => .cons q (Vals.set r i t)
theorem Vals.append : ∀ {xs ys : List V} {us ws : List Value}, Vals xs us → Vals ys ws → Vals (xs ++ ys) (us ++ ws)
  | _, _, _, _, .nil, s => s
  | _, _, _, _, .cons r t, s => .cons r (Vals.append t s)
theorem Vals.take : ∀ {xs : List V} {us : List Value} (n : Nat), Vals xs us → Vals (xs.take n) (us.take n)
  | _, _, 0, _ => .nil
  | _, _, _ + 1, .nil => .nil
  | _, _, n + 1, .cons r t => .cons r (Vals.take n t)
theorem Vals.drop : ∀ {xs : List V} {us : List Value} (n : Nat), Vals xs us → Vals (xs.drop n) (us.drop n)
  | _, _, 0, r => r
  | _, _, _ + 1, .nil => .nil
  | _, _, n + 1, .cons _ t => Vals.drop n t

def RelO : Option V → Option Value → Prop
  | some v, some u => RelV v u
  | none, none => True
  | _, _ => False
def KV {κ : Type} : List (κ × V) → List (κ × Value) → Prop := Paired fun (p : κ × V) (q : κ × Value) => p.1 = q.1 ∧ RelV p.2 q.2

/-- a key of a dict (00_mix): an int or a text -/
def kV : Key → V
  | .inl i => .int i
  | .inr x => .str x

/-- what stands at a tracked address -/
inductive HO where
  /-- a list -/
  | lst (xs : List V)
  /-- a tuple (never changes) -/
  | tup (xs : List V)
  /-- a dict whose keys are ints and texts; one whose keys are tuples of ints and texts (the empty one is both) -/
  | dK (kvs : List (Key × V)) | dT (kvs : List (List Key × V))
  /-- a set of ints: its members, its size -/
  | set (S : Int → Bool) (n : Nat)
  /-- an instance of the class at C, its dict at dx, its attributes -/
  | ins (C dx : Addr) (fs : List (Str × V))
  /-- the dict of the instance at x -/
  | own (x : Addr)
  /-- the dict of an exception -/
  | xd (fs : List (Str × V))
  /-- a bound method, f of x -/
  | met (f x : Addr)
  /-- a range object lo, lo + 1, .. below hi -/
  | rng (lo hi : Int)
  /-- a thing that is known to the object (the script; a dict while a loop walks it): read, never written while it is so -/
  | frz (o : Obj) (u : HO)
  /-- a code object's table -/
  | tbl (ps : Array Value)
  /-- any other thing, by what is true of its one object (a def of one's own: SetO a S n := HO.ext fun h => ..) -/
  | ext (φ : Heap → Prop)

abbrev Hp := Addr → Option HO
def upd (H : Hp) (a : Addr) (o : HO) : Hp := fun b => if b = a then some o else H b
theorem upd_same {H : Hp} {a : Addr} {o : HO} : upd H a o a = some o := by unfold upd; rw [if_pos rfl]
theorem upd_ne {H : Hp} {a b : Addr} {o : HO} (h : b ≠ a) : upd H a o b = H b := by unfold upd; rw [if_neg h]
/-- two objects of different content stand apart -/
theorem ne_of {H : Hp} {a b : Addr} {o u : HO} (h : H a = some o) (h' : H b = some u) (d : o ≠ u) : a ≠ b := by
  intro e; subst e; rw [h] at h'; exact d (Option.some.inj h')
theorem ne_of_none {H : Hp} {a b : Addr} {o : HO} (h : H a = some o) (h' : H b = none) : a ≠ b := by
  intro e; subst e; rw [h] at h'; cases h'

section
variable (P : Program) (w : World)
def ObjOk (H : Hp) (h : Heap) (a : Addr) : HO → Prop
  | .lst xs => xs.length ≤ sizeLine ∧ ∃ (its : List Value) (n : Nat), Vals xs its ∧ h.get? a = some { cls := .type "list", data := .seq its.toArray n }
  | .tup xs => xs.length ≤ sizeLine ∧ ∃ its : List Value, Vals xs its ∧ IsTup h a its.toArray
  | .dK kvs => kvs.length ≤ sizeLine ∧ (a == sysModules) = false ∧ ∃ vs, KV kvs vs ∧ h.DictOf (mixKind P w) a vs
  | .dT kvs => kvs.length ≤ sizeLine ∧ (a == sysModules) = false ∧ ∃ xs : List (List Key × Addr × Value),
      Paired (fun (p : List Key × V) (q : List Key × Addr × Value) => p.1 = q.1 ∧ H q.2.1 = some (.tup (p.1.map kV)) ∧ RelV p.2 q.2.2) kvs xs ∧
      ∃ o es ep, h.get? a = some o ∧ o.ExactDict ∧ o.data = .dict es ep ∧ es.toList = xs.map (entryOfKey (tupleKind (mixKind P w))) ∧ (xs.map (·.1)).Nodup
  | .set S n => h.SetOf (intKind P w) a S n
  | .ins C dx fs => H dx = some (.own a) ∧ fs.length ≤ 1000 ∧ dx ≠ a ∧ h.get? a = some (PySem.W.instObj C dx) ∧
      ∃ mA, h.Ns1 dx mA ∧ (∀ f, RelO (fs.lookup f) (mA f)) ∧ PySem.Within mA (fs.map (·.1))
  | .own _ => ∃ o, h.get? a = some o
  | .xd fs => ∃ mA, h.Ns1 a mA ∧ ∀ f, RelO (fs.lookup f) (mA f)
  | .rng lo hi => ∃ t u v, h.get? a = some { cls := .type "range", data := .fields #[.int lo t, .int hi u, .int 1 v] }
  | .frz o u => h.get? a = some o ∧ ObjOk H h a u
  | .tbl ps => h.get? a = some { cls := .none, data := .fields ps }
  | .met f x => h.get? a = some (PySem.W.methodObj (.ref f) (.ref x))
  | .ext φ => φ h ∧ (∃ o, h.get? a = some o) ∧ ∀ h1 h2 : Heap, φ h1 → (∀ o, h1.get? a = some o → h2.get? a = some o) → φ h2
/-- the abstract heap is held -/
def HOk (H : Hp) (h : Heap) : Prop := ∀ a o, H a = some o → ObjOk P w H h a o
end

section
variable {P : Program} {w : World} {H H' : Hp} {h h' : Heap} {a : Addr} {o : HO}
theorem ObjOk.lt (x : ObjOk P w H h a o) : a < h.objs.size := by
  cases o with
  | lst xs => obtain ⟨_, _, _, _, e⟩ := x; exact Heap.lt_size e
  | tup xs => obtain ⟨_, _, _, p⟩ := x; exact p.lt
  | dK kvs => obtain ⟨_, _, _, _, o, _, _, e, _⟩ := x; exact Heap.lt_size e
  | dT kvs => obtain ⟨_, _, _, _, o, _, _, e, _⟩ := x; exact Heap.lt_size e
  | set S n => obtain ⟨o, _, _, _, e, _⟩ := x; exact Heap.lt_size e
  | ins C dx fs => obtain ⟨_, _, _, e, _⟩ := x; exact Heap.lt_size e
  | own y => obtain ⟨_, e⟩ := x; exact Heap.lt_size e
  | xd fs => obtain ⟨_, ⟨_, _, _, e, _⟩, _⟩ := x; exact Heap.lt_size e
  | rng lo hi => obtain ⟨_, _, _, e⟩ := x; exact Heap.lt_size e
  | frz ob u => obtain ⟨e, _⟩ := x; exact Heap.lt_size e
  | tbl ps => exact Heap.lt_size (show h.get? a = some _ from x)
  | met f y => exact Heap.lt_size (show h.get? a = some _ from x)
  | ext φ => obtain ⟨_, ⟨_, e⟩, _⟩ := x; exact Heap.lt_size e
theorem Paired.mapP {α β : Type} {F G : α → β → Prop} : ∀ {l₁ : List α} {l₂ : List β}, Paired F l₁ l₂ → (∀ a b, F a b → G a b) → Paired G l₁ l₂
  | _, _, .nil, _ => .nil
  | _, _, .cons r t, f => .cons (f _ _ r) (Paired.mapP t f)
/-- what an object's description leans on: its own object, its own dict, the tuples -/
theorem ObjOk.stay (x : ObjOk P w H h a o) (k : ∀ b u, (b = a ∨ H b = some (.own a)) → h.get? b = some u → h'.get? b = some u)
    (ho : ∀ b, H b = some (.own a) → H' b = some (.own a)) (ht : ∀ b xs, H b = some (.tup xs) → H' b = some (.tup xs)) : ObjOk P w H' h' a o := by
  induction o with
  | lst xs => obtain ⟨z, its, n, r, e⟩ := x; exact ⟨z, its, n, r, k _ _ (.inl rfl) e⟩
  | tup xs => obtain ⟨z, its, r, ob, e, c⟩ := x; exact ⟨z, its, r, ob, k _ _ (.inl rfl) e, c⟩
  | dK kvs => obtain ⟨z, y, vs, r, ob, es, ep, e, c⟩ := x; exact ⟨z, y, vs, r, ob, es, ep, k _ _ (.inl rfl) e, c⟩
  | dT kvs =>
    obtain ⟨z, y, xs, r, ob, es, ep, e, c⟩ := x
    exact ⟨z, y, xs, Paired.mapP r fun p q z => ⟨z.1, ht _ _ z.2.1, z.2.2⟩, ob, es, ep, k _ _ (.inl rfl) e, c⟩
  | set S n => obtain ⟨ob, es, ep, t, e, c⟩ := x; exact ⟨ob, es, ep, t, k _ _ (.inl rfl) e, c⟩
  | ins C dx fs =>
    obtain ⟨d, z, ne, e, mA, ⟨od, es, ep, e2, c⟩, r⟩ := x
    exact ⟨ho _ d, z, ne, k _ _ (.inl rfl) e, mA, ⟨od, es, ep, k _ _ (.inr d) e2, c⟩, r⟩
  | own y => obtain ⟨ob, e⟩ := x; exact ⟨ob, k _ _ (.inl rfl) e⟩
  | xd fs => obtain ⟨mA, ⟨od, es, ep, e, c⟩, r⟩ := x; exact ⟨mA, ⟨od, es, ep, k _ _ (.inl rfl) e, c⟩, r⟩
  | rng lo hi => obtain ⟨t, u, v, e⟩ := x; exact ⟨t, u, v, k _ _ (.inl rfl) e⟩
  | frz ob u ih => obtain ⟨e, q⟩ := x; exact ⟨k _ _ (.inl rfl) e, ih q⟩
  | tbl ps =>
    have e : h.get? a = some { cls := .none, data := .fields ps } := x
    show h'.get? a = some { cls := .none, data := .fields ps }
    exact k a _ (.inl rfl) e
  | met f y =>
    have e : h.get? a = some (PySem.W.methodObj (.ref f) (.ref y)) := x
    show h'.get? a = some (PySem.W.methodObj (.ref f) (.ref y))
    exact k a _ (.inl rfl) e
  | ext φ => obtain ⟨p, ⟨o, e⟩, st⟩ := x; exact ⟨st _ _ p fun o q => k _ _ (.inl rfl) q, ⟨o, k _ _ (.inl rfl) e⟩, st⟩
theorem HOk.lt (x : HOk P w H h) (e : H a = some o) : a < h.objs.size := (x a o e).lt
theorem HOk.fresh (x : HOk P w H h) (e : h.objs.size ≤ a) : H a = none := by
  cases q : H a with
  | none => rfl
  | some u => exact absurd (Nat.lt_of_lt_of_le (x.lt q) e) (Nat.lt_irrefl _)
/-- every object of the heap is kept -/
theorem HOk.kept (x : HOk P w H h) (k : ∀ b u, h.get? b = some u → h'.get? b = some u) : HOk P w H h' := fun a o e =>
  (x a o e).stay (fun b u _ q => k b u q) (fun _ q => q) fun _ _ q => q
/-- a new object is laid and tracked -/
theorem HOk.laid (x : HOk P w H h) (k : ∀ b u, h.get? b = some u → h'.get? b = some u) (hp : h.objs.size ≤ a) (new : ObjOk P w (upd H a o) h' a o) : HOk P w (upd H a o) h' := fun b u e => by
  have hn := x.fresh hp
  by_cases hb : b = a
  · subst hb; rw [upd_same] at e; cases e; exact new
  · rw [upd_ne hb] at e
    exact (x b u e).stay (fun c v _ q => k c v q) (fun c q => by rw [upd_ne (ne_of_none q hn)]; exact q) fun c xs q => by rw [upd_ne (ne_of_none q hn)]; exact q
end

/-- what may be read as u: it is u, or a known u -/
def Rd (H : Hp) (a : Addr) (u : HO) : Prop := H a = some u ∨ ∃ o, H a = some (.frz o u)
theorem Rd.ok {P : Program} {w : World} {H : Hp} {h : Heap} {a : Addr} {u : HO} (r : Rd H a u) (x : HOk P w H h) : ObjOk P w H h a u := by
  rcases r with r | ⟨o, r⟩
  · exact x a u r
  · obtain ⟨_, q⟩ := x a _ r
    exact q
/-- what may be written -/
def Mut : Option HO → Prop
  | some (.lst _) => True
  | some (.dK _) => True
  | some (.dT _) => True
  | some (.set _ _) => True
  | some (.ins _ _ _) => True
  | some (.ext _) => True
  | _ => False
section
variable {P : Program} {w : World} {H : Hp} {h h' : Heap} {x e : Addr} {o' : HO}
/-- the object at e is changed: x itself, or the dict of the instance x -/
theorem HOk.write (ok : HOk P w H h) (mu : Mut (H x)) (he : e = x ∨ H e = some (.own x)) (k : ∀ b u, b ≠ e → h.get? b = some u → h'.get? b = some u) (heo : ∃ u, h'.get? e = some u)
    (new : ObjOk P w (upd H x o') h' x o') : HOk P w (upd H x o') h' := fun b u q => by
  have nown : ∀ c y, H c = some (.own y) → c ≠ x := fun c y r z => by subst z; rw [r] at mu; exact mu
  have ntup : ∀ c xs, H c = some (.tup xs) → c ≠ x := fun c xs r z => by subst z; rw [r] at mu; exact mu
  by_cases hb : b = x
  · subst hb; rw [upd_same] at q; cases q; exact new
  · rw [upd_ne hb] at q
    by_cases hbe : b = e
    · have q' : H b = some (.own x) := by
        rcases he with z | z
        · exact absurd (hbe.trans z) hb
        · rw [hbe]; exact z
      rw [q] at q'; cases q'
      obtain ⟨v, hv⟩ := heo
      exact ⟨v, by rw [hbe]; exact hv⟩
    · refine (ok b u q).stay (fun c v hc r => k c v ?_ r) (fun c r => by rw [upd_ne (nown c b r)]; exact r) fun c xs r => by rw [upd_ne (ntup c xs r)]; exact r
      rcases hc with rfl | hc
      · exact hbe
      · rintro rfl
        rcases he with z | z
        · exact nown c b hc z
        · rw [hc] at z; cases z; exact hb rfl
end

/-! ### kept unless tracked; of the frames at fs (the callers') the slots may change (an exception that passes writes there); of the records at ex (iterators) nothing is said -/
structure Un (fs ex : List Addr) (H H' : Hp) (h h' : Heap) : Prop where
  keep : ∀ b o, h.get? b = some o → H b = none → b ∉ fs → b ∉ ex → h'.get? b = some o
  slot : ∀ b o, h.get? b = some o → H b = none → b ∈ fs → b ∉ ex → ∃ sl, h'.get? b = some { o with slots := sl }
  free : ∀ b o, h.get? b = some o → H b = none → b ∉ ex → H' b = none
  there : ∀ b o, h.get? b = some o → b ∉ ex → ∃ o', h'.get? b = some o'
  tups : ∀ b xs, H b = some (.tup xs) → H' b = some (.tup xs)
  frzs : ∀ b o u, H b = some (.frz o u) → H' b = some (.frz o u)
  tbls : ∀ b ps, H b = some (.tbl ps) → ∃ more, H' b = some (.tbl (ps ++ more))
section
variable {fs fs' ex ex' : List Addr} {H H1 H2 : Hp} {h h1 h2 h' : Heap} {a x e : Addr} {o : HO}
theorem Un.any (u : Un fs ex H H1 h h1) {b : Addr} {ob : Obj} (q : h.get? b = some ob) (n : H b = none) (hx : b ∉ ex) : ∃ sl, h1.get? b = some { ob with slots := sl } := by
  by_cases hb : b ∈ fs
  · exact u.slot b ob q n hb hx
  · exact ⟨ob.slots, u.keep b ob q n hb hx⟩
theorem Un.kept (k : ∀ b u, h.get? b = some u → h'.get? b = some u) : Un fs ex H H h h' :=
  ⟨fun b ob q _ _ _ => k b ob q, fun b ob q _ _ _ => ⟨ob.slots, k b ob q⟩, fun _ _ _ n _ => n, fun b ob q _ => ⟨ob, k b ob q⟩, fun _ _ q => q, fun _ _ _ q => q, fun _ ps q => ⟨#[], by rw [q]; simp⟩⟩
theorem Un.refl : Un fs ex H H h h := Un.kept fun _ _ q => q
theorem Un.laid (k : ∀ b u, h.get? b = some u → h'.get? b = some u) (hp : h.objs.size ≤ a) (hn : H a = none) : Un fs ex H (upd H a o) h h' where
  keep := fun b u q _ _ _ => k b u q
  slot := fun b u q _ _ _ => ⟨u.slots, k b u q⟩
  free := fun b u q n _ => by rw [upd_ne (Nat.ne_of_lt (Nat.lt_of_lt_of_le (Heap.lt_size q) hp))]; exact n
  there := fun b u q _ => ⟨u, k b u q⟩
  tups := fun b xs q => by rw [upd_ne (ne_of_none q hn)]; exact q
  frzs := fun b u xs q => by rw [upd_ne (ne_of_none q hn)]; exact q
  tbls := fun b ps q => ⟨#[], by rw [upd_ne (ne_of_none q hn), q]; simp⟩
theorem Un.write (mu : Mut (H x)) (he : e = x ∨ H e = some (.own x)) (k : ∀ b u, b ≠ e → h.get? b = some u → h'.get? b = some u) (heo : ∃ u, h'.get? e = some u) : Un fs ex H (upd H x o) h h' := by
  have hx : ∀ b, H b = none → b ≠ x := fun b n z => by subst z; rw [n] at mu; exact mu
  have hb : ∀ b, H b = none → b ≠ e := fun b n z => by
    subst z
    rcases he with r | r
    · exact hx b n r
    · rw [n] at r; cases r
  have hm : ∀ b u, H b = some u → ¬ Mut (some u) → b ≠ x := fun b u q nm z => by subst z; rw [q] at mu; exact nm mu
  refine ⟨fun b u q n _ _ => k b u (hb b n) q, fun b u q n _ _ => ⟨u.slots, k b u (hb b n) q⟩, fun b u q n _ => by rw [upd_ne (hx b n)]; exact n, fun b u q _ => ?_,
    fun b xs q => by rw [upd_ne (hm b _ q fun z => z)]; exact q, fun b u xs q => by rw [upd_ne (hm b _ q fun z => z)]; exact q, fun b ps q => ⟨#[], by rw [upd_ne (hm b _ q fun z => z), q]; simp⟩⟩
  by_cases hbe : b = e
  · subst hbe; exact heo
  · exact ⟨u, k b u hbe q⟩
end

/-! ### the heap without what is tracked -/
def trk (h : Heap) (H : Hp) : List Addr := (List.range h.objs.size).filter fun a => (H a).isSome
def hidT (h : Heap) (H : Hp) : Heap := PySem.W.hideAll h (trk h H)
theorem hidT_size (h : Heap) (H : Hp) : (hidT h H).objs.size = h.objs.size := PySem.W.hideAll_size _ _
theorem hidT_get {h : Heap} {H : Hp} {b : Addr} {o : Obj} (e : h.get? b = some o) (n : H b = none) : (hidT h H).get? b = some o :=
  PySem.W.hideAll_get _ e fun hm => by
    have q : (H b).isSome = true := (List.mem_filter.mp hm).2
    rw [n] at q; simp at q
theorem of_hidT {h : Heap} {H : Hp} {b : Addr} {o : Obj} (e : (hidT h H).get? b = some o) : h.get? b = some o ∧ H b = none := by
  have e' : h.get? b = some o := PySem.W.of_hideAll (trk h H) e
  refine ⟨e', ?_⟩
  cases q : H b with
  | none => rfl
  | some x =>
    have hm : b ∈ trk h H := List.mem_filter.mpr ⟨List.mem_range.mpr (Heap.lt_size e'), by simp [q]⟩
    have z : (hidT h H).get? b = none := PySem.W.hideAll_none (trk h H) hm
    rw [z] at e; cases e

/-! ### OpenK's ledger, filled with every new object but one -/
end L2

namespace L2
open PySem PySem.Spec PyProof.Rows

/-- the module's facts, over the base: the heap at the law's entry without what is tracked there -/
structure Mod (K : PySem.W.Frag) (mg : Str → Option Value) (base : Heap) : Prop where
  kin : K.In base
  glob : base.Ns mainGlobals mg
  blt : ∃ mb, base.Ns builtinsNs mb ∧ ∀ x : Str, x ≠ "__name__" → mb x = bootBuiltins x
  nolimit : base.NoLimit

/-- the context: a def's body (or a comprehension's block) running. base: fixed through the whole law; s₀, H₀: the entry; outer: the frames whose slots others may change (a def's callers); stack: all frames that run;
   ex: iterators that were made ahead of the entry and are walked here (a comprehension's); fn: the names whose cells were made at the entry (a def: all; a comprehension's block: its own); calm: not within an except suite; pn: pins that every state bears; xe: what is wanted of an exception that leaves the code -/
structure Cx where
  prog : Program
  w : World
  K : PySem.W.Frag
  mg : Str → Option Value
  base : Heap
  A : Around
  N : List Str
  s₀ : Shared
  H₀ : Hp
  env : Env
  outer : List Env
  stack : List Env
  ex : List Addr
  fn : Str → Bool
  calm : Bool
  pn : List (Addr × Obj)
  xe : Value → Shared → Prop
/-- the callers' frames -/
def frs (l : List Env) : List Addr := l.filterMap (·.frame)
abbrev Cx.fs (X : Cx) : List Addr := frs X.outer

def Vis (sc : Scope) (x : Str) : Prop := sc.names.lookup x = some .local ∨ sc.names.lookup x = some .cell ∨ sc.names.lookup x = some .free
def Loc (sc : Scope) (x : Str) : Prop := sc.names.lookup x = some .local ∨ sc.names.lookup x = some .cell
def Look (env : Env) (h : Heap) (m : Str → Option Value) (x : Str) (u : Value) : Prop :=
  (env.kindOf x = some .local ∧ m x = some u) ∨ ((env.kindOf x = some .cell ∨ env.kindOf x = some .free) ∧ ∃ c, env.cells.lookup x = some c ∧ h.IsCell c (some u))

structure Cx.Ok (X : Cx) : Prop where
  mod : Mod X.K X.mg X.base
  kind : X.env.scope.kind = .function
  glob : X.env.globals = mainGlobals
  blt : X.env.builtins = builtinsNs
  above : X.s₀.heap.objs.size ≤ X.env.locals
  inj : ∀ x y c, X.env.cells.lookup x = some c → X.env.cells.lookup y = some c → x = y
  has : ∀ x, (X.env.kindOf x = some .cell ∨ X.env.kindOf x = some .free) → ∃ c, X.env.cells.lookup x = some c
  cab : ∀ x c, X.fn x = true → X.env.cells.lookup x = some c → X.s₀.heap.objs.size ≤ c
  hd : X.calm = true → X.A.handled = none
  frames : X.A.frames = some X.stack
  stk : X.stack = X.outer ∨ (X.stack = X.env :: X.outer ∧ X.env.frame = some X.env.locals)
  exf : ∀ b ∈ X.ex, b ≠ X.env.locals ∧ ∀ x c, X.env.cells.lookup x = some c → c ≠ b
  bs : ∀ b o, X.base.get? b = some o → X.s₀.heap.get? b = some o ∧ X.H₀ b = none
  bsz : X.base.objs.size ≤ X.s₀.heap.objs.size
  noex : ∀ b o, X.base.get? b = some o → b ∉ X.ex
  exfs : ∀ b ∈ X.ex, b ∉ X.fs
  funs : X.s₀.heap.FunFrames X.base X.outer
  frf : ∀ b ∈ X.fs, X.H₀ b = none

structure Inv (X : Cx) (pins : List (Addr × Obj)) (σ : List (Option V)) (H : Hp) (s : Shared) : Prop where
  ok : X.Ok
  os : s.os = X.s₀.os
  bare : AllBare s.gens
  base : Un X.fs X.ex X.H₀ H X.s₀.heap s.heap
  loc : ∃ m, s.heap.Ns X.env.locals m ∧ ∀ (i : Nat) (x : Str) (v : V), X.N[i]? = some x → σ[i]? = some (some v) → Vis X.env.scope x → ∃ u, RelV v u ∧ Look X.env s.heap m x u
  cell : ∀ x c, X.env.cells.lookup x = some c → ∃ v, s.heap.IsCell c v
  free : H X.env.locals = none
  freeC : ∀ x c, X.env.cells.lookup x = some c → H c = none
  pin : ∀ p ∈ X.pn ++ pins, s.heap.get? p.1 = some p.2 ∧ H p.1 = none ∧ p.1 ≠ X.env.locals ∧ p.1 ∉ X.fs ∧ ∀ v, p.2.data ≠ .cell v
  hok : HOk X.prog X.w H s.heap
  len : σ.length = X.N.length

section
variable {X : Cx} {pins : List (Addr × Obj)} {σ : List (Option V)} {H H' : Hp} {s : Shared} {h' : Heap}

theorem Cx.Ok.nofr (ok : X.Ok) {b : Addr} {o : Obj} (e : X.base.get? b = some o) : b ∉ X.fs := fun hb => by
  have := (ok.funs.mem hb).1
  rw [e] at this; cases this
theorem Inv.bs (I : Inv X pins σ H s) : ∀ b o, X.base.get? b = some o → s.heap.get? b = some o ∧ H b = none := fun b o e =>
  ⟨I.base.keep b o (I.ok.bs b o e).1 (I.ok.bs b o e).2 (I.ok.nofr e) (I.ok.noex b o e), I.base.free b o (I.ok.bs b o e).1 (I.ok.bs b o e).2 (I.ok.noex b o e)⟩
theorem Inv.bk (I : Inv X pins σ H s) : ∀ b o, X.base.get? b = some o → s.heap.get? b = some o := fun b o e => (I.bs b o e).1
theorem Inv.mod (I : Inv X pins σ H s) : Mod X.K X.mg X.base := I.ok.mod
theorem Inv.kIn (I : Inv X pins σ H s) : X.K.In s.heap := I.ok.mod.kin.keeps I.bk
theorem Inv.lt (I : Inv X pins σ H s) : X.env.locals < s.heap.objs.size := let ⟨_, hn, _⟩ := I.loc; hn.lt
theorem Inv.sz (I : Inv X pins σ H s) : X.s₀.heap.objs.size ≤ s.heap.objs.size := Nat.le_trans I.ok.above (Nat.le_of_lt I.lt)
theorem Inv.nofs (I : Inv X pins σ H s) {a : Addr} (h : s.heap.objs.size ≤ a) : a ∉ X.fs := fun hb => by
  obtain ⟨_, o, ho, _⟩ := I.ok.funs.mem hb
  exact absurd (Nat.lt_of_lt_of_le (Heap.lt_size ho) (Nat.le_trans I.sz h)) (Nat.lt_irrefl _)
theorem Inv.cne (I : Inv X pins σ H s) : ∀ x c, X.env.cells.lookup x = some c → c ≠ X.env.locals := fun x c e z => by
  obtain ⟨v, o, ho, hd⟩ := I.cell x c e
  obtain ⟨m, ⟨o', es, ep, ho', hd', _⟩, _⟩ := I.loc
  rw [z, ho'] at ho; cases ho; rw [hd'] at hd; cases hd
theorem Inv.funs (I : Inv X pins σ H s) : s.heap.FunFrames X.base X.outer := by
  have all : ∀ (l : List Env), (∀ b ∈ frs l, b ∈ X.fs) → X.s₀.heap.FunFrames X.base l → s.heap.FunFrames X.base l := by
    intro l
    induction l with
    | nil => intro _ _; trivial
    | cons env r ih =>
      intro hs hl
      obtain ⟨hk, ⟨L, o, hf, hn, ho, hd⟩, hr⟩ := hl
      have hL : L ∈ X.fs := hs L (by unfold frs; rw [List.filterMap_cons, hf]; exact List.mem_cons_self)
      obtain ⟨sl, e⟩ := I.base.slot L o ho (I.ok.frf L hL) hL fun z => I.ok.exfs L z hL
      exact ⟨hk, ⟨L, _, hf, hn, e, hd⟩, ih (fun b hb => hs b (by unfold frs; rw [List.filterMap_cons, hf]; exact List.mem_cons_of_mem _ hb)) hr⟩
  exact all X.outer (fun _ hb => hb) I.ok.funs

/-- the frames that run, for a call -/
theorem Inv.stack (I : Inv X pins σ H s) : s.heap.FunFrames X.base X.stack := by
  rcases I.ok.stk with e | ⟨e, hf⟩
  · rw [e]; exact I.funs
  · rw [e]
    obtain ⟨m, hn, _⟩ := I.loc
    refine .cons (by rw [I.ok.kind]; decide) hf hn ?_ I.funs
    exact Heap.get?_none_of_le (Nat.le_trans I.ok.bsz I.ok.above)
theorem Inv.stkSub (I : Inv X pins σ H s) : ∀ b ∈ frs X.stack, b ∈ X.env.locals :: X.fs := fun b hb => by
  rcases I.ok.stk with e | ⟨e, hf⟩
  · rw [e] at hb; exact List.mem_cons_of_mem _ hb
  · rw [e] at hb
    unfold frs at hb
    rw [List.filterMap_cons, hf] at hb
    exact hb
theorem Inv.stkFree (I : Inv X pins σ H s) : ∀ b ∈ frs X.stack, H b = none := fun b hb => by
  rcases List.mem_cons.mp (I.stkSub b hb) with e | hb
  · rw [e]; exact I.free
  · obtain ⟨_, o, ho, _⟩ := I.ok.funs.mem hb
    exact I.base.free b o ho (I.ok.frf b hb) fun z => I.ok.exfs b z hb

/-- THE STEP: the untracked objects but the frame and the records at ch are kept (the callers' frames up to slots), the frame's map is kept, the new abstract heap is held -/
theorem Inv.step {g' : Array GenState} {t' : Nat} {d' : Drawn} {ch : List Addr} (I : Inv X pins σ H s)
    (hch : ∀ b ∈ ch, (b ∈ X.ex ∨ X.s₀.heap.objs.size ≤ b) ∧ b ≠ X.env.locals ∧ (∀ x c, X.env.cells.lookup x = some c → c ≠ b) ∧ ∀ p ∈ X.pn ++ pins, p.1 ≠ b)
    (keep : ∀ b o, b ≠ X.env.locals → b ∉ X.fs → b ∉ ch → s.heap.get? b = some o → H b = none → h'.get? b = some o)
    (slot : ∀ b o, b ≠ X.env.locals → b ∈ X.fs → b ∉ ch → s.heap.get? b = some o → H b = none → ∃ sl, h'.get? b = some { o with slots := sl }) (free : ∀ b o, b ∉ ch → s.heap.get? b = some o → H b = none → H' b = none)
    (there : ∀ b o, b ∉ ch → s.heap.get? b = some o → ∃ o', h'.get? b = some o')
    (tups : ∀ b xs, H b = some (.tup xs) → H' b = some (.tup xs)) (frzs : ∀ b o u, H b = some (.frz o u) → H' b = some (.frz o u)) (tbls : ∀ b ps, H b = some (.tbl ps) → ∃ more, H' b = some (.tbl (ps ++ more)))
    (ns : ∀ m, s.heap.Ns X.env.locals m → h'.Ns X.env.locals m) (hok : HOk X.prog X.w H' h') (hg : AllBare g') :
    Inv X pins σ H' { s with heap := h', gens := g', drawn := d', toks := t' } := by
  have neL : ∀ b o, X.s₀.heap.get? b = some o → b ≠ X.env.locals := fun b o e => Nat.ne_of_lt (Nat.lt_of_lt_of_le (Heap.lt_size e) I.ok.above)
  have neC : ∀ b o, X.s₀.heap.get? b = some o → b ∉ X.ex → b ∉ ch := fun b o e hx hb => by
    rcases (hch b hb).1 with z | z
    · exact hx z
    · exact absurd (Nat.lt_of_lt_of_le (Heap.lt_size e) z) (Nat.lt_irrefl _)
  have cellK : ∀ x c, X.env.cells.lookup x = some c → ∀ v, s.heap.IsCell c v → h'.IsCell c v := fun x c e v ⟨o, ho, hd⟩ => by
    have nch : c ∉ ch := fun z => (hch c z).2.2.1 x c e rfl
    by_cases hc : c ∈ X.fs
    · obtain ⟨sl, q⟩ := slot c o (I.cne x c e) hc nch ho (I.freeC x c e)
      exact ⟨_, q, hd⟩
    · exact ⟨o, keep c o (I.cne x c e) hc nch ho (I.freeC x c e), hd⟩
  refine ⟨I.ok, I.os, hg, ⟨fun b o e n hb hx => ?_, fun b o e n hb hx => ?_, fun b o e n hx => ?_, fun b o e hx => ?_, fun b xs e => tups b xs (I.base.tups b xs e), fun b o xs e => frzs b o xs (I.base.frzs b o xs e), fun b ps e => ?_⟩, ?_, fun x c e => ?_, ?_, fun x c e => ?_, fun p hp => ?_, hok, I.len⟩
  · exact keep b o (neL b o e) hb (neC b o e hx) (I.base.keep b o e n hb hx) (I.base.free b o e n hx)
  · obtain ⟨sl, e1⟩ := I.base.slot b o e n hb hx
    obtain ⟨sl', e2⟩ := slot b _ (neL b o e) hb (neC b o e hx) e1 (I.base.free b o e n hx)
    exact ⟨sl', e2⟩
  · obtain ⟨o', e1⟩ := I.base.there b o e hx
    exact free b o' (neC b o e hx) e1 (I.base.free b o e n hx)
  · obtain ⟨o', e1⟩ := I.base.there b o e hx
    exact there b o' (neC b o e hx) e1
  · obtain ⟨m1, e1⟩ := I.base.tbls b ps e
    obtain ⟨m2, e2⟩ := tbls b _ e1
    exact ⟨m1 ++ m2, by rw [e2, Array.append_assoc]⟩
  · obtain ⟨m, hn, hl⟩ := I.loc
    refine ⟨m, ns m hn, fun i x v e1 e2 e3 => ?_⟩
    obtain ⟨u, r, l⟩ := hl i x v e1 e2 e3
    refine ⟨u, r, ?_⟩
    rcases l with l | ⟨k, c, e, z⟩
    · exact .inl l
    · exact .inr ⟨k, c, e, cellK x c e _ z⟩
  · obtain ⟨v, z⟩ := I.cell x c e
    exact ⟨v, cellK x c e v z⟩
  · obtain ⟨m, ⟨o, _, _, ho, _⟩, _⟩ := I.loc
    exact free _ o (fun z => (hch _ z).2.1 rfl) ho I.free
  · obtain ⟨v, o, ho, hd⟩ := I.cell x c e
    exact free c o (fun z => (hch c z).2.2.1 x c e rfl) ho (I.freeC x c e)
  · obtain ⟨e, n, ne, nf, d⟩ := I.pin p hp
    have nch : p.1 ∉ ch := fun z => (hch p.1 z).2.2.2 p hp rfl
    exact ⟨keep p.1 p.2 ne nf nch e n, free p.1 p.2 nch e n, ne, nf, d⟩
/-- .. where the frame's own object is kept too -/
theorem Inv.un {t' : Nat} (I : Inv X pins σ H s) (u : Un X.fs [] H H' s.heap h') (hok : HOk X.prog X.w H' h') : Inv X pins σ H' { s with heap := h', toks := t' } := by
  obtain ⟨m, ⟨o, es, ep, ho, r⟩, _⟩ := id I.loc
  obtain ⟨sl, hL⟩ := u.any ho I.free (by simp)
  exact I.step (g' := s.gens) (d' := s.drawn) (ch := []) (fun _ z => nomatch z) (fun b o _ hb _ e n => u.keep b o e n hb (by simp)) (fun b o _ hb _ e n => u.slot b o e n hb (by simp)) (fun b o _ e n => u.free b o e n (by simp)) (fun b o _ e => u.there b o e (by simp)) u.tups u.frzs u.tbls (fun m' hm => by
    obtain ⟨o', es', ep', ho', r'⟩ := hm
    rw [ho] at ho'; cases ho'
    exact ⟨_, es', ep', hL, r'⟩) hok I.bare
/-- behind a call (or a comprehension's block): the slots of this frame may have changed too, the records at ch may have turned -/
theorem Inv.call {g' : Array GenState} {t' : Nat} {d' : Drawn} {ch : List Addr} (I : Inv X pins σ H s) (u : Un (frs X.stack) ch H H' s.heap h') (hok : HOk X.prog X.w H' h') (hg : AllBare g')
    (hch : ∀ b ∈ ch, (b ∈ X.ex ∨ X.s₀.heap.objs.size ≤ b) ∧ b ≠ X.env.locals ∧ (∀ x c, X.env.cells.lookup x = some c → c ≠ b) ∧ ∀ p ∈ X.pn ++ pins, p.1 ≠ b) :
    Inv X pins σ H' { s with heap := h', gens := g', drawn := d', toks := t' } := by
  obtain ⟨m, ⟨o, es, ep, ho, r⟩, _⟩ := id I.loc
  obtain ⟨sl, hL⟩ := u.any ho I.free fun z => (hch _ z).2.1 rfl
  exact I.step (ch := ch) hch (fun b o hL hb hc e n => u.keep b o e n (fun z => (List.mem_cons.mp (I.stkSub b z)).elim hL hb) hc) (fun b o _ _ hc e n => u.any e n hc) (fun b o hc e n => u.free b o e n hc) (fun b o hc e => u.there b o e hc) u.tups u.frzs u.tbls (fun m' hm => by
    obtain ⟨o', es', ep', ho', r'⟩ := hm
    rw [ho] at ho'; cases ho'
    exact ⟨_, es', ep', hL, r'⟩) hok hg
/-- an untracked record of ours (an iterator) has turned -/
theorem Inv.turned {t' : Nat} {it : Addr} (I : Inv X pins σ H s) (k : ∀ b o, b ≠ it → s.heap.get? b = some o → h'.get? b = some o) (hn : H it = none) (hL : it ≠ X.env.locals)
    (h1 : it ∈ X.ex ∨ X.s₀.heap.objs.size ≤ it) (h2 : ∀ x c, X.env.cells.lookup x = some c → c ≠ it) (h3 : ∀ p ∈ X.pn ++ pins, p.1 ≠ it) : Inv X pins σ H { s with heap := h', toks := t' } := by
  have nit : ∀ b u, H b = some u → b ≠ it := fun b u e z => by rw [z, hn] at e; cases e
  refine I.step (g' := s.gens) (d' := s.drawn) (ch := [it]) (fun b hb => ?_) (fun b o _ _ hc e _ => k b o (fun z => hc (by simp [z])) e) (fun b o _ _ hc e _ => ⟨o.slots, k b o (fun z => hc (by simp [z])) e⟩) (fun _ _ _ _ n => n)
    (fun b o hc e => ⟨o, k b o (fun z => hc (by simp [z])) e⟩) (fun _ _ e => e) (fun _ _ _ e => e) (fun b ps e => ⟨#[], by rw [e]; simp⟩) (fun m hm => ?_) (fun b u e => ?_) I.bare
  · have e : b = it := by simpa using hb
    subst e
    exact ⟨h1, hL, h2, h3⟩
  · obtain ⟨o, es, ep, ho, r⟩ := hm
    exact ⟨o, es, ep, k _ o (Ne.symm hL) ho, r⟩
  · refine (I.hok b u e).stay (fun c v hc q => k c v ?_ q) (fun _ q => q) fun _ _ q => q
    rcases hc with z | z
    · rw [z]; exact nit b u e
    · exact nit c _ z
theorem Inv.tok (I : Inv X pins σ H s) (t : Nat) : Inv X pins σ H { s with toks := t } := I.un (h' := s.heap) (t' := t) Un.refl I.hok
/-- all objects kept -/
theorem Inv.kept {t' : Nat} (I : Inv X pins σ H s) (k : ∀ b u, s.heap.get? b = some u → h'.get? b = some u) : Inv X pins σ H { s with heap := h', toks := t' } := I.un (Un.kept k) (I.hok.kept k)
/-- a new object laid and tracked -/
theorem Inv.laid {a : Addr} {o : HO} {t' : Nat} (I : Inv X pins σ H s) (k : ∀ b u, s.heap.get? b = some u → h'.get? b = some u) (hp : s.heap.objs.size ≤ a) (new : ObjOk X.prog X.w (upd H a o) h' a o) :
    Inv X pins σ (upd H a o) { s with heap := h', toks := t' } := I.un (Un.laid k hp (I.hok.fresh hp)) (I.hok.laid k hp new)
/-- an object written -/
theorem Inv.write {x e : Addr} {o : HO} {t' : Nat} (I : Inv X pins σ H s) (mu : Mut (H x)) (he : e = x ∨ H e = some (.own x)) (k : ∀ b u, b ≠ e → s.heap.get? b = some u → h'.get? b = some u) (heo : ∃ u, h'.get? e = some u)
    (new : ObjOk X.prog X.w (upd H x o) h' x o) : Inv X pins σ (upd H x o) { s with heap := h', toks := t' } := I.un (Un.write mu he k heo) (I.hok.write mu he k heo new)
theorem Inv.pins_of {pins' : List (Addr × Obj)} (I : Inv X pins σ H s) (h : ∀ p ∈ pins', s.heap.get? p.1 = some p.2 ∧ H p.1 = none ∧ p.1 ≠ X.env.locals ∧ p.1 ∉ X.fs ∧ ∀ v, p.2.data ≠ .cell v) : Inv X pins' σ H s :=
  ⟨I.ok, I.os, I.bare, I.base, I.loc, I.cell, I.free, I.freeC, fun p hp => (List.mem_append.mp hp).elim (fun z => I.pin p (List.mem_append_left _ z)) (h p), I.hok, I.len⟩

theorem nodup_ix {N : List Str} (hN : N.Nodup) {i j : Nat} {x : Str} (a : N[i]? = some x) (b : N[j]? = some x) : i = j := by
  obtain ⟨h1, e1⟩ := List.getElem?_eq_some_iff.mp a
  obtain ⟨h2, e2⟩ := List.getElem?_eq_some_iff.mp b
  exact (List.getElem_inj hN).mp (e1.trans e2.symm)

/-- a name is stored; what changed -/
theorem store_ok2 {M : Model} {A : Around} {E : Value → Shared → Prop} {i : Nat} {x : Str} {v : V} {u : Value} {Q : Unit → Shared → Prop} (I : Inv X pins σ H s) (hN : X.N.Nodup) (hi : X.N[i]? = some x) (hx : Loc X.env.scope x) (r : RelV v u)
    (h : ∀ s', Inv X pins (σ.set i (some v)) H s' → (∃ a, Heap.SameBut a s.heap s'.heap ∧ (a = X.env.locals ∨ X.env.cells.lookup x = some a)) → Q () s') (hf : X.fn x = true ∨ X.env.scope.names.lookup x = some .local := by first | exact .inl rfl | exact .inr rfl | assumption) : wpAny M A (storeName X.env x u) Q E s := by
  obtain ⟨m, hn, hl⟩ := id I.loc
  have hcls : (X.env.scope.kind == .class || (X.env.scope.kind == .module && X.env.locals != X.env.globals)) = false := by rw [I.ok.kind]; rfl
  have hiσ : i < σ.length := by rw [I.len]; exact (List.getElem?_eq_some_iff.mp hi).1
  have cne := I.cne
  have tracked : ∀ {a : Addr} {h' : Heap}, (∃ o, s.heap.get? a = some o ∧ H a = none) → Heap.SameBut a s.heap h' → HOk X.prog X.w H h' := fun {a h'} ha hs b ob e => by
    obtain ⟨_, _, hfree⟩ := ha
    refine (I.hok b ob e).stay (fun c w' hc q => (hs.2 c ?_).trans q) (fun _ q => q) fun _ _ q => q
    rintro rfl
    rcases hc with rfl | hc
    · rw [hfree] at e; cases e
    · rw [hfree] at hc; cases hc
  rcases hx with hk | hk
  · refine wpAny_storeName_local hk hn (fun h' hn' hs => ?_) hcls
    obtain ⟨oL, _, _, hoL, _⟩ := id hn
    refine h _ ⟨I.ok, I.os, I.bare, ⟨fun b o e n hb hx => ?_, fun b o e n hb hx => ?_, I.base.free, fun b o e hx => ?_, I.base.tups, I.base.frzs, I.base.tbls⟩, ⟨_, hn', fun j y v' e1 e2 e3 => ?_⟩, fun y c e => ?_, I.free, I.freeC, fun p hp => ?_, tracked ⟨oL, hoL, I.free⟩ hs, by simpa using I.len⟩ ⟨_, hs, .inl rfl⟩
    · exact (hs.2 b (Nat.ne_of_lt (Nat.lt_of_lt_of_le (Heap.lt_size e) I.ok.above))).trans (I.base.keep b o e n hb hx)
    · obtain ⟨sl, e1⟩ := I.base.slot b o e n hb hx
      exact ⟨sl, (hs.2 b (Nat.ne_of_lt (Nat.lt_of_lt_of_le (Heap.lt_size e) I.ok.above))).trans e1⟩
    · obtain ⟨o', e1⟩ := I.base.there b o e hx
      exact ⟨o', (hs.2 b (Nat.ne_of_lt (Nat.lt_of_lt_of_le (Heap.lt_size e) I.ok.above))).trans e1⟩
    · by_cases hj : j = i
      · subst hj
        rw [hi] at e1; cases e1
        rw [List.getElem?_set_self hiσ] at e2
        cases e2
        exact ⟨u, r, .inl ⟨hk, by simp⟩⟩
      · rw [List.getElem?_set_ne (Ne.symm hj)] at e2
        obtain ⟨u', r', q⟩ := hl j y v' e1 e2 e3
        refine ⟨u', r', ?_⟩
        rcases q with ⟨k, e⟩ | ⟨k, c, e, z⟩
        · refine .inl ⟨k, ?_⟩
          have : y ≠ x := fun e => hj (nodup_ix hN e1 (e ▸ hi))
          simp [this, e]
        · exact .inr ⟨k, c, e, z.sameBut hs (cne y c e)⟩
    · obtain ⟨w', z⟩ := I.cell y c e
      exact ⟨w', z.sameBut hs (cne y c e)⟩
    · obtain ⟨e, n, ne, nf, d⟩ := I.pin p hp
      exact ⟨(hs.2 p.1 ne).trans e, n, ne, nf, d⟩
  · have hfn : X.fn x = true := by
      rcases hf with z | z
      · exact z
      · rw [z] at hk; cases hk
    obtain ⟨c, hc⟩ := I.ok.has x (.inl hk)
    obtain ⟨w', z⟩ := I.cell x c hc
    refine wpAny_storeName_cell I.ok.kind hk hc z (fun h' hc' hs => ?_)
    obtain ⟨oc, hoc, hocd⟩ := id z
    refine h { s with heap := h' } ⟨I.ok, I.os, I.bare, ⟨fun b o e n hb hx => ?_, fun b o e n hb hx => ?_, I.base.free, fun b o e hx => ?_, I.base.tups, I.base.frzs, I.base.tbls⟩, ⟨m, hn.sameBut hs (Ne.symm (cne x c hc)), fun j y v' e1 e2 e3 => ?_⟩, fun y c' e => ?_, I.free, I.freeC, fun p hp => ?_, tracked ⟨oc, hoc, I.freeC x c hc⟩ hs, by simpa using I.len⟩ ⟨c, hs, .inr hc⟩
    · exact (hs.2 b (Nat.ne_of_lt (Nat.lt_of_lt_of_le (Heap.lt_size e) (I.ok.cab x c hfn hc)))).trans (I.base.keep b o e n hb hx)
    · obtain ⟨sl, e1⟩ := I.base.slot b o e n hb hx
      exact ⟨sl, (hs.2 b (Nat.ne_of_lt (Nat.lt_of_lt_of_le (Heap.lt_size e) (I.ok.cab x c hfn hc)))).trans e1⟩
    · obtain ⟨o', e1⟩ := I.base.there b o e hx
      exact ⟨o', (hs.2 b (Nat.ne_of_lt (Nat.lt_of_lt_of_le (Heap.lt_size e) (I.ok.cab x c hfn hc)))).trans e1⟩
    · by_cases hj : j = i
      · subst hj
        rw [hi] at e1; cases e1
        rw [List.getElem?_set_self hiσ] at e2
        cases e2
        exact ⟨u, r, .inr ⟨.inl hk, c, hc, hc'⟩⟩
      · rw [List.getElem?_set_ne (Ne.symm hj)] at e2
        obtain ⟨u', r', q⟩ := hl j y v' e1 e2 e3
        refine ⟨u', r', ?_⟩
        rcases q with q | ⟨k, c', e, z'⟩
        · exact .inl q
        · refine .inr ⟨k, c', e, z'.sameBut hs ?_⟩
          rintro rfl
          exact hj (nodup_ix hN e1 (I.ok.inj _ _ _ e hc ▸ hi))
    · by_cases hcc : c' = c
      · subst hcc; exact ⟨_, hc'⟩
      · obtain ⟨w2, z2⟩ := I.cell y c' e
        exact ⟨w2, z2.sameBut hs hcc⟩
    · obtain ⟨e, n, ne, nf, d⟩ := I.pin p hp
      refine ⟨(hs.2 p.1 ?_).trans e, n, ne, nf, d⟩
      intro q
      rw [q, hoc] at e
      have q' : oc = p.2 := Option.some.inj e
      exact d w' (by rw [← q']; exact hocd)
theorem store_ok {M : Model} {A : Around} {E : Value → Shared → Prop} {i : Nat} {x : Str} {v : V} {u : Value} {Q : Unit → Shared → Prop} (I : Inv X pins σ H s) (hN : X.N.Nodup) (hi : X.N[i]? = some x) (hx : Loc X.env.scope x) (r : RelV v u)
    (h : ∀ s', Inv X pins (σ.set i (some v)) H s' → Q () s') (hf : X.fn x = true ∨ X.env.scope.names.lookup x = some .local := by first | exact .inl rfl | exact .inr rfl | assumption) : wpAny M A (storeName X.env x u) Q E s :=
  store_ok2 I hN hi hx r (fun s' I' _ => h s' I') hf
/-- behind a call or a block, the state as it is -/
theorem Inv.call' {s' : Shared} {ch : List Addr} (I : Inv X pins σ H s) (ho : s'.os = s.os) (u : Un (frs X.stack) ch H H' s.heap s'.heap) (hok : HOk X.prog X.w H' s'.heap) (hg : AllBare s'.gens)
    (hch : ∀ b ∈ ch, (b ∈ X.ex ∨ X.s₀.heap.objs.size ≤ b) ∧ b ≠ X.env.locals ∧ (∀ x c, X.env.cells.lookup x = some c → c ≠ b) ∧ ∀ p ∈ X.pn ++ pins, p.1 ≠ b) : Inv X pins σ H' s' := by
  obtain ⟨h', g', d', t', o'⟩ := s'
  have e : o' = s.os := ho
  subst e
  exact I.call (g' := g') (t' := t') (d' := d') u hok hg hch
end

/-! ### the judgements -/
/-- an exception: its class, its own dict's address (where it has one), the abstract heap behind it -/
abbrev XK := Value → Option Addr → Hp → Prop
abbrev St := List (Option V)
abbrev VK := V → Hp → Prop
/-- an expression's reading; a test's; an argument list's -/
abbrev TE := St → Hp → VK → Prop
abbrev TT := St → Hp → (Bool → Hp → Prop) → Prop
abbrev TA := St → Hp → (List V → Hp → Prop) → Prop
/-- what is wanted behind a statement -/
structure Ends where
  nx : St → Hp → Prop
  rt : VK
  bk : St → Hp → Prop := fun _ _ => False
  ct : St → Hp → Prop := fun _ _ => False
abbrev TS := Ends → St → Hp → Prop

def EP (X : Cx) (pins : List (Addr × Obj)) (σ : St) (Q : VK) (u : Value) (s' : Shared) : Prop := ∃ v H', Inv X pins σ H' s' ∧ RelV v u ∧ Q v H'
def TP (X : Cx) (pins : List (Addr × Obj)) (σ : St) (Q : Bool → Hp → Prop) (b : Bool) (s' : Shared) : Prop := ∃ H', Inv X pins σ H' s' ∧ Q b H'
def AP (X : Cx) (pins : List (Addr × Obj)) (σ : St) (Q : List V → Hp → Prop) (us : List Value) (s' : Shared) : Prop := ∃ vs H', Inv X pins σ H' s' ∧ Vals vs us ∧ Q vs H'
def SP (X : Cx) (pins : List (Addr × Obj)) (D : Ends) (f : Flow) (s' : Shared) : Prop :=
  match f with
  | .next => ∃ σ' H', Inv X pins σ' H' s' ∧ D.nx σ' H'
  | .brk => ∃ σ' H', Inv X pins σ' H' s' ∧ D.bk σ' H'
  | .cont => ∃ σ' H', Inv X pins σ' H' s' ∧ D.ct σ' H'
  | .ret u => ∃ v σ' H', Inv X pins σ' H' s' ∧ RelV v u ∧ D.rt v H'

def PE (X : Cx) (e : Expr) (t : TE) : Prop :=
  ∀ (pins : List (Addr × Obj)) (s : Shared) (σ : St) (H : Hp) (Q : VK), Inv X pins σ H s → t σ H Q → wpAny (model X.prog X.w) X.A (eval e X.env) (EP X pins σ Q) X.xe s
def PT (X : Cx) (e : Expr) (t : TT) : Prop :=
  ∀ (pins : List (Addr × Obj)) (s : Shared) (σ : St) (H : Hp) (Q : Bool → Hp → Prop), Inv X pins σ H s → t σ H Q → wpAny (model X.prog X.w) X.A (isTrue e X.env (eval e X.env)) (TP X pins σ Q) X.xe s
/-- a test whatever its 'whole' is (and, or) -/
def PW (X : Cx) (e : Expr) (t : TT) : Prop :=
  ∀ (whole : Sem Value) (pins : List (Addr × Obj)) (s : Shared) (σ : St) (H : Hp) (Q : Bool → Hp → Prop), Inv X pins σ H s → t σ H Q → wpAny (model X.prog X.w) X.A (isTrue e X.env whole) (TP X pins σ Q) X.xe s
theorem PW.pt {X : Cx} {e : Expr} {t : TT} (h : PW X e t) : PT X e t := h _
/-- an argument list (no star), from the left -/
def PA (X : Cx) (es : List Expr) (t : TA) : Prop :=
  ∀ (pos : Pos) (pins : List (Addr × Obj)) (s : Shared) (σ : St) (H : Hp) (Q : List V → Hp → Prop), Inv X pins σ H s → t σ H Q → wpAny (model X.prog X.w) X.A (spliced (backTo pos (starEach es X.env))) (AP X pins σ Q) X.xe s
def PS (X : Cx) (st : Stmt) (t : TS) : Prop :=
  ∀ (pins : List (Addr × Obj)) (s : Shared) (σ : St) (H : Hp) (D : Ends), Inv X pins σ H s → t D σ H → wpAny (model X.prog X.w) X.A (exec st X.env) (SP X pins D) X.xe s
def PSs (X : Cx) (st : List Stmt) (t : TS) : Prop :=
  ∀ (pins : List (Addr × Obj)) (s : Shared) (σ : St) (H : Hp) (D : Ends), Inv X pins σ H s → t D σ H → wpAny (model X.prog X.w) X.A (execs st X.env) (SP X pins D) X.xe s
/-- weaken the end -/
theorem thn {α : Type} {t : Sem α} {Q Q' : α → Shared → Prop} {M : Model} {A : Around} {E : Value → Shared → Prop} {s : Shared} (h : wpAny M A t Q E s) (hQ : ∀ a s, Q a s → Q' a s) : wpAny M A t Q' E s := wpAny_mono h hQ fun _ _ x => x
end L2

namespace L2
open PySem PySem.Spec PyProof.Rows
section
variable {X : Cx}

/-- two expressions in a row -/
theorem bin {a b : Expr} {ta tb : TE} (ha : PE X a ta) (hb : PE X b tb) {pins : List (Addr × Obj)} {s : Shared} {σ : St} {H : Hp} {R : V → V → Hp → Prop} (I : Inv X pins σ H s) (h : ta σ H fun x H1 => tb σ H1 fun y H2 => R x y H2)
    {α : Type} {Q : α → Shared → Prop} {f : Value → Value → Sem α}
    (hf : ∀ v u s2 x y H2, Inv X pins σ H2 s2 → RelV x v → RelV y u → R x y H2 → wpAny (model X.prog X.w) X.A (f v u) Q X.xe s2) :
    wpAny (model X.prog X.w) X.A (eval a X.env) (fun v s₁ => wpAny (model X.prog X.w) X.A (eval b X.env) (fun u s₂ => wpAny (model X.prog X.w) X.A (f v u) Q X.xe s₂) X.xe s₁) X.xe s := by
  refine thn (ha pins s σ H _ I h) fun v s1 ⟨x, H1, I1, r1, q1⟩ => ?_
  refine thn (hb pins s1 σ H1 _ I1 q1) fun u s2 ⟨y, H2, I2, r2, q2⟩ => ?_
  exact hf v u s2 x y H2 I2 r1 r2 q2

/-! ### names and constants -/
def tVar (i : Nat) : TE := fun σ H Q => ∃ v, σ[i]? = some (some v) ∧ Q v H
def tC (v : V) : TE := fun _ H Q => Q v H
theorem pe_var {i : Nat} {x : Str} {pos : Pos} (hN : X.N[i]? = some x) (hv : Vis X.env.scope x) (hd : (x == ("__debug__" : Str)) = false := by decide) (hcd : (x == ("__classdict__" : Str)) = false := by decide) : PE X (.Name x pos) (tVar i) := by
  intro pins s σ H Q I h
  obtain ⟨v, e, h⟩ := h
  obtain ⟨m, hn, hl⟩ := I.loc
  obtain ⟨u, r, l⟩ := hl i x v hN e hv
  have fin : EP X pins σ Q u s := ⟨v, H, I, r, h⟩
  rcases l with ⟨hk, hm⟩ | ⟨hk, c, hc, hcell⟩
  · exact wpAny_Name (wpAny_loadName_local I.ok.kind hk hn hm fin) hd
  · rcases hk with hk | hk
    · exact wpAny_Name (wpAny_loadName_cell I.ok.kind hk hc hcell fin) hd
    · exact wpAny_Name (wpAny_loadName_free I.ok.kind hk hc hcell fin hcd) hd
theorem pe_int {i j pos} : PE X (.Constant (.int i) j pos) (tC (.int i)) := fun _ _ _ H _ I h => wpAny_Constant_int ⟨.int i, H, I.tok _, ⟨_, rfl⟩, h⟩
theorem pe_bl {b j pos} : PE X (.Constant (.bool b) j pos) (tC (.bl b)) := fun _ _ _ H _ I h => Constant_bool ⟨.bl b, H, I, rfl, h⟩
theorem pe_non {j pos} : PE X (.Constant .none j pos) (tC .non) := fun _ _ _ H _ I h => Constant_none ⟨.non, H, I, rfl, h⟩
theorem pe_str {x j pos} : PE X (.Constant (.str x) j pos) (tC (.str x)) := fun _ _ _ H _ I h => Calls.Constant_str ⟨.str x, H, I.tok _, ⟨_, rfl⟩, h⟩

/-- a global name of the def -/
def Gl (X : Cx) (x : Str) : Prop := X.env.kindOf x = some .globalImplicit
theorem ld_glob {E : Value → Shared → Prop} {pins : List (Addr × Obj)} {s : Shared} {σ : St} {H : Hp} {x : Str} {u : Value} {pos : Pos} {Q : Value → Shared → Prop} (I : Inv X pins σ H s) (hg : Gl X x) (hm : X.mg x = some u) (h : Q u s)
    (hd : (x == ("__debug__" : Str)) = false := by decide) : wpAny (model X.prog X.w) X.A (eval (.Name x pos) X.env) Q E s :=
  Calls.Name_function_global I.ok.kind hg (Calls.loadGlobal_global (by rw [I.ok.glob]; exact I.mod.glob.keeps I.bk) hm h) hd
theorem ld_blt {E : Value → Shared → Prop} {pins : List (Addr × Obj)} {s : Shared} {σ : St} {H : Hp} {x : Str} {u : Value} {pos : Pos} {Q : Value → Shared → Prop} (I : Inv X pins σ H s) (hg : Gl X x) (hm : X.mg x = none) (hv : bootBuiltins x = some u) (h : Q u s)
    (hn : x ≠ "__name__" := by decide) (hd : (x == ("__debug__" : Str)) = false := by decide) : wpAny (model X.prog X.w) X.A (eval (.Name x pos) X.env) Q E s := by
  obtain ⟨mb, h1, h2⟩ := I.mod.blt
  exact Calls.Name_function_global I.ok.kind hg (Calls.loadGlobal_builtin (by rw [I.ok.glob]; exact I.mod.glob.keeps I.bk) hm (by rw [I.ok.blt]; exact h1.keeps I.bk) ((h2 x hn).trans hv) h) hd
/-- a module's constant, a class, a function, as a value -/
theorem pe_glob {x : Str} {v : V} {u : Value} {pos : Pos} (hg : Gl X x) (hm : X.mg x = some u) (r : RelV v u) (hd : (x == ("__debug__" : Str)) = false := by decide) : PE X (.Name x pos) (tC v) :=
  fun _ _ _ H _ I h => ld_glob I hg hm ⟨v, H, I, r, h⟩ hd
theorem pe_bltn {x : Str} {v : V} {u : Value} {pos : Pos} (hg : Gl X x) (hm : X.mg x = none) (hv : bootBuiltins x = some u) (r : RelV v u) (hn : x ≠ "__name__" := by decide) (hd : (x == ("__debug__" : Str)) = false := by decide) : PE X (.Name x pos) (tC v) :=
  fun _ _ _ H _ I h => ld_blt I hg hm hv ⟨v, H, I, r, h⟩ hn hd

/-! ### arithmetic -/
variable {a b : Expr} {ta tb : TE} {pos : Pos}

/-! ### comparisons -/
def PC (X : Cx) (op : CmpOp) (a b : Expr) (t : TE) : Prop :=
  ∀ (pins : List (Addr × Obj)) (s : Shared) (σ : St) (H : Hp) (Q : VK), Inv X pins σ H s → t σ H Q →
    wpAny (model X.prog X.w) X.A (eval a X.env) (fun v s₁ => wpAny (model X.prog X.w) X.A (eval b X.env) (fun u s₂ => wpAny (model X.prog X.w) X.A (compareOp op v u) (EP X pins σ Q) X.xe s₂) X.xe s₁) X.xe s
/-- a comparison as a value, as a test -/
def tB (t : TE) : TT := fun σ H Q => t σ H fun x H1 => ∃ c, x = .bl c ∧ Q c H1
theorem pt_cmp {op : CmpOp} {t : TE} (h : PC X op a b t) (h1 : behindInMarks op b = false := by first | exact nobehind _ (by decide) (by decide) | rfl) : PT X (.Compare a [op] [b] pos) (tB t) := by
  intro pins s σ H Q I hw
  refine wpAny_isTrue_Compare1 (thn (h pins s σ H _ I hw) fun v s1 h1 => thn h1 fun u s2 h2 => thn h2 fun c s3 ⟨x, H1, I1, r1, q1⟩ => ?_) h1
  obtain ⟨d, rfl, q⟩ := q1
  cases r1
  exact wpAny_truthy_bool ⟨H1, I1, q⟩
/-- an expression whose value is a bool, as a test -/
theorem pt_val {e : Expr} {t : TE} (h : PE X e t) (he : ∀ whole, isTrue e X.env whole = (do let v ← whole; standAt e.pos; holding [v] (truthy v)) := by intro _; rfl) : PT X e (tB t) := by
  intro pins s σ H Q I hw
  refine isTrue_plain (thn (h pins s σ H _ I hw) fun v s1 ⟨x, H1, I1, r1, q1⟩ => ?_) (he _)
  obtain ⟨d, rfl, q⟩ := q1
  cases r1
  exact wpAny_truthy_bool ⟨H1, I1, q⟩

/-! ### and, or, not -/
variable {tA tB' : TT} {rest : List Expr}
def tOr (t u : TT) : TT := fun σ H Q => t σ H fun c H1 => if c = true then Q true H1 else u σ H1 Q
def tNot (t : TT) : TT := fun σ H Q => t σ H fun c H1 => Q (!c) H1
theorem pw_or1 (ha : PT X a tA) : PW X (.BoolOp .Or [a] pos) tA := by
  intro wh pins s σ H Q I h
  refine isTrue_or (thn (ha pins s σ H Q I h) fun c s1 e => ?_)
  cases c with
  | false => exact isTrue_or_nil e
  | true => exact e
theorem pw_or (ha : PT X a tA) (hb : PW X (.BoolOp .Or (b :: rest) pos) tB') : PW X (.BoolOp .Or (a :: b :: rest) pos) (tOr tA tB') := by
  intro wh pins s σ H Q I h
  refine isTrue_or (thn (ha pins s σ H _ I h) fun c s1 ⟨H1, I1, q1⟩ => ?_)
  cases c with
  | true => exact ⟨H1, I1, q1⟩
  | false => exact hb wh pins s1 σ H1 Q I1 q1
theorem pt_not (ha : PT X a tA) : PT X (.UnaryOp .Not a pos) (tNot tA) := by
  intro pins s σ H Q I h
  exact isTrue_not (ha pins s σ H (fun c H1 => Q (!c) H1) I h)
/-- .. as values (bools) -/
def tAndV (ta tb : TE) : TE := fun σ H Q => ta σ H fun x H1 => ∃ c, x = .bl c ∧ if c = true then tb σ H1 Q else Q (.bl false) H1
def tNotV (ta : TE) : TE := fun σ H Q => ta σ H fun x H1 => ∃ c, x = .bl c ∧ Q (.bl (!c)) H1
theorem pe_one {op} {t : TE} (h : PE X a t) : PE X (.BoolOp op [a] pos) t := fun pins s σ H Q I hw => BoolOp_one (h pins s σ H Q I hw)
theorem pe_and (ha : PE X a ta) (hb : PE X (.BoolOp .And (b :: rest) pos) tb) : PE X (.BoolOp .And (a :: b :: rest) pos) (tAndV ta tb) := by
  intro pins s σ H Q I h
  refine BoolOp_and (thn (ha pins s σ H _ I h) fun v s1 ⟨x, H1, I1, r1, q1⟩ => ?_)
  obtain ⟨c, rfl, q1⟩ := q1
  cases r1
  refine wpAny_truthy_bool ?_
  cases c with
  | true => exact hb pins s1 σ H1 Q I1 q1
  | false => exact ⟨.bl false, H1, I1, rfl, q1⟩
theorem pe_not (ha : PE X a ta) : PE X (.UnaryOp .Not a pos) (tNotV ta) := by
  intro pins s σ H Q I h
  refine UnaryOp_ (thn (ha pins s σ H _ I h) fun v s1 ⟨x, H1, I1, r1, q1⟩ => ?_)
  obtain ⟨c, rfl, q1⟩ := q1
  cases r1
  exact not_of (wpAny_truthy_bool ⟨.bl (!c), H1, I1, rfl, q1⟩)
/-- a if t else b -/
def tIf (t : TT) (ta tb : TE) : TE := fun σ H Q => t σ H fun c H1 => if c = true then ta σ H1 Q else tb σ H1 Q
theorem pe_ifExp {c : Expr} (hc : PT X c tA) (ha : PE X a ta) (hb : PE X b tb) : PE X (.IfExp c a b pos) (tIf tA ta tb) := by
  intro pins s σ H Q I h
  refine wpAny_IfExp (thn (hc pins s σ H _ I h) fun d s1 ⟨H1, I1, q1⟩ => ?_)
  cases d with
  | true => exact ha pins s1 σ H1 Q I1 q1
  | false => exact hb pins s1 σ H1 Q I1 q1
end
end L2

namespace L2
open PySem PySem.Spec PyProof.Rows

/-! ### a list, a tuple that is read: tracked, frozen, or an object of the module -/
def SqL (K : PySem.W.Frag) (H : Hp) (a : Addr) (xs : List V) : Prop :=
  Rd H a (.lst xs) ∨
    ∃ (o : Obj) (its : Array Value) (n : Nat), K.lookup a = some o ∧ o.cls = .type "list" ∧ o.dict = none ∧ o.data = .seq its n ∧ its.size ≤ sizeLine ∧ Vals xs its.toList
def SqT (K : PySem.W.Frag) (H : Hp) (a : Addr) (xs : List V) : Prop :=
  Rd H a (.tup xs) ∨
    ∃ (o : Obj) (its : Array Value) (n : Nat), K.lookup a = some o ∧ o.cls = .type "tuple" ∧ o.data = .seq its n ∧ its.size ≤ sizeLine ∧ Vals xs its.toList
def absV : Value → Option V
  | .none => some .non
  | .bool b => some (.bl b)
  | .int i _ => some (.int i)
  | .str x _ => some (.str x)
  | .bytes b _ => some (.byt b)
  | .float b _ => some (.flt b)
  | .ref a => some (.ref a)
  | .type n => some (.ty n)
  | _ => none
theorem RelV.abs {x : V} {u : Value} (r : RelV x u) : absV u = some x := by
  cases x with
  | non => cases r; rfl
  | bl _ => cases r; rfl
  | int _ => obtain ⟨t, rfl⟩ := r; rfl
  | str _ => obtain ⟨t, rfl⟩ := r; rfl
  | byt _ => obtain ⟨t, rfl⟩ := r; rfl
  | flt _ => obtain ⟨t, rfl⟩ := r; rfl
  | ref _ => cases r; rfl
  | ty _ => cases r; rfl
theorem RelV.inj {x y : V} {u : Value} (r : RelV x u) (q : RelV y u) : x = y := Option.some.inj (r.abs.symm.trans q.abs)
theorem Vals.inj : ∀ {xs ys : List V} {us : List Value}, Vals xs us → Vals ys us → xs = ys
  | _, _, _, .nil, .nil => rfl
  | _, _, _, .cons r t, .cons r' t' => by rw [r.inj r', Vals.inj t t']
section
variable {X : Cx} {pins : List (Addr × Obj)} {σ : St} {H : Hp} {s : Shared} {a : Addr} {xs ys : List V}
theorem SqL.of {K : PySem.W.Frag} (h : H a = some (.lst xs)) : SqL K H a xs := .inl (.inl h)
theorem SqT.of {K : PySem.W.Frag} (h : H a = some (.tup xs)) : SqT K H a xs := .inl (.inl h)
theorem Inv.list (I : Inv X pins σ H s) (h : SqL X.K H a xs) : ∃ its : List Value, Vals xs its ∧ PlainL s.heap a its.toArray ∧ xs.length ≤ sizeLine := by
  rcases h with h | ⟨o, its, n, hk, hc, hd, hs, hz, r⟩
  · obtain ⟨z, its, n, r, e⟩ := h.ok I.hok
    exact ⟨its, r, ⟨_, n, e, rfl, rfl, rfl⟩, z⟩
  · refine ⟨its.toList, r, ⟨o, n, I.kIn a o hk, hc, hd, by simpa using hs⟩, ?_⟩
    have e := r.length
    simp only [Array.length_toList] at e
    omega
theorem Inv.tuple (I : Inv X pins σ H s) (h : SqT X.K H a xs) : ∃ its : List Value, Vals xs its ∧ IsTup s.heap a its.toArray ∧ xs.length ≤ sizeLine := by
  rcases h with h | ⟨o, its, n, hk, hc, hs, hz, r⟩
  · obtain ⟨z, its, r, p⟩ := h.ok I.hok
    exact ⟨its, r, p, z⟩
  · refine ⟨its.toList, r, ⟨o, I.kIn a o hk, hc, n, by simpa using hs⟩, ?_⟩
    have e := r.length
    simp only [Array.length_toList] at e
    omega
theorem Inv.list_inj (I : Inv X pins σ H s) (h : SqL X.K H a xs) (h' : SqL X.K H a ys) : xs = ys := by
  obtain ⟨its, r, ⟨o, n, e, _, _, d⟩, _⟩ := I.list h
  obtain ⟨its', r', ⟨o', n', e', _, _, d'⟩, _⟩ := I.list h'
  rw [e] at e'; cases e'
  rw [d] at d'
  injection d' with d1 _
  have : its = its' := by simpa using congrArg Array.toList d1
  subst this
  exact r.inj r'
end

/-! ### another wish about exceptions -/
abbrev Cx.wish (X : Cx) (E : Value → Shared → Prop) : Cx := { X with xe := E }
/-- no exception leaves -/
abbrev Cx.nox (X : Cx) : Cx := X.wish fun _ _ => False
theorem Cx.Ok.wish {X : Cx} (ok : X.Ok) (E : Value → Shared → Prop) : (X.wish E).Ok :=
  ⟨ok.mod, ok.kind, ok.glob, ok.blt, ok.above, ok.inj, ok.has, ok.cab, ok.hd, ok.frames, ok.stk, ok.exf, ok.bs, ok.bsz, ok.noex, ok.exfs, ok.funs, ok.frf⟩
theorem Cx.Ok.unwish {X : Cx} {E : Value → Shared → Prop} (ok : (X.wish E).Ok) : X.Ok :=
  ⟨ok.mod, ok.kind, ok.glob, ok.blt, ok.above, ok.inj, ok.has, ok.cab, ok.hd, ok.frames, ok.stk, ok.exf, ok.bs, ok.bsz, ok.noex, ok.exfs, ok.funs, ok.frf⟩
section
variable {X : Cx} {pins : List (Addr × Obj)} {σ : St} {H : Hp} {s : Shared} {E : Value → Shared → Prop}
theorem Inv.wish (I : Inv X pins σ H s) (E : Value → Shared → Prop) : Inv (X.wish E) pins σ H s := ⟨I.ok.wish E, I.os, I.bare, I.base, I.loc, I.cell, I.free, I.freeC, I.pin, I.hok, I.len⟩
theorem Inv.unwish (I : Inv (X.wish E) pins σ H s) : Inv X pins σ H s := ⟨I.ok.unwish, I.os, I.bare, I.base, I.loc, I.cell, I.free, I.freeC, I.pin, I.hok, I.len⟩
theorem SP.unwish {D : Ends} {f : Flow} {s' : Shared} (h : SP (X.wish E) pins D f s') : SP X pins D f s' := by
  cases f with
  | next => obtain ⟨σ', H', I, q⟩ := h; exact ⟨σ', H', I.unwish, q⟩
  | brk => obtain ⟨σ', H', I, q⟩ := h; exact ⟨σ', H', I.unwish, q⟩
  | cont => obtain ⟨σ', H', I, q⟩ := h; exact ⟨σ', H', I.unwish, q⟩
  | ret u => obtain ⟨v, σ', H', I, r, q⟩ := h; exact ⟨v, σ', H', I.unwish, r, q⟩
theorem PSs.nox {st : List Stmt} {t : TS} (h : PSs X.nox st t) : PSs X st t := fun pins s σ H D I hw =>
  wpAny_mono (h pins s σ H D (I.wish _) hw) (fun _ _ q => q.unwish) fun _ _ z => False.elim z
end

/-! ### blocks and small statements -/
section
variable {X : Cx} {st : Stmt} {rest : List Stmt} {t u : TS} {e : Expr} {te : TE} {pos : Pos}
def tNext : TS := fun D σ H => D.nx σ H
def tSeq (t u : TS) : TS := fun D σ H => t { D with nx := u D } σ H
theorem pss_nil : PSs X [] tNext := fun _ _ σ H _ I h => wpAny_execs_nil ⟨σ, H, I, h⟩
theorem pss_cons (h1 : PS X st t) (h2 : PSs X rest u) : PSs X (st :: rest) (tSeq t u) := by
  intro pins s σ H D I h
  refine wpAny_execs_cons (thn (h1 pins s σ H { D with nx := u D } I h) fun f s1 q => ?_)
  cases f with
  | next =>
    obtain ⟨σ', H', I', q⟩ := q
    exact h2 pins s1 σ' H' D I' q
  | ret v => exact q
  | brk => exact q
  | cont => exact q
theorem pss_one (h1 : PS X st t) : PSs X [st] t := by
  intro pins s σ H D I h
  refine wpAny_execs_cons (thn (h1 pins s σ H D I h) fun f s1 q => ?_)
  cases f with
  | next => exact wpAny_execs_nil q
  | ret v => exact q
  | brk => exact q
  | cont => exact q
/-- in a def's body nothing is shown -/
theorem Inv.quiet {pins : List (Addr × Obj)} {σ : St} {H : Hp} {s : Shared} (I : Inv X pins σ H s) : interactive X.env = false := by simp [interactive, I.ok.kind]
/-- an expression whose value is dropped -/
def tDrop (te : TE) : TS := fun D σ H => te σ H fun _ H1 => D.nx σ H1
theorem ps_expr (he : PE X e te) (hs : swapsWith e none pos.line X.env = pure false := by rfl) : PS X (.Expr e pos) (tDrop te) := by
  intro pins s σ H D I h
  exact wpAny_Expr_any (thn (he pins s σ H _ I h) fun v s1 ⟨x, H1, I1, r1, q1⟩ => ⟨σ, H1, I1, q1⟩) I.quiet hs
def tRet (te : TE) : TS := fun D σ H => te σ H D.rt
theorem ps_ret (he : PE X e te) : PS X (.Return (some e) pos) (tRet te) := by
  intro pins s σ H D I h
  exact wpAny_Return_some (thn (he pins s σ H _ I h) fun v s1 ⟨x, H1, I1, r1, q1⟩ => ⟨x, σ, H1, I1, r1, q1⟩)
def tIfS (c : TT) (t u : TS) : TS := fun D σ H => c σ H fun b H1 => if b = true then t D σ H1 else u D σ H1
theorem ps_if {c : Expr} {a b : List Stmt} {tc : TT} (hc : PT X c tc) (ha : PSs X a t) (hb : PSs X b u) : PS X (.If c a b pos) (tIfS tc t u) := by
  intro pins s σ H D I h
  refine wpAny_If (thn (hc pins s σ H _ I h) fun d s1 ⟨H1, I1, q1⟩ => ?_)
  cases d with
  | true => exact ha pins s1 σ H1 D I1 q1
  | false => exact hb pins s1 σ H1 D I1 q1
/-- code that the proof never comes to -/
def tNever : TS := fun _ _ _ => False
theorem ps_never : PS X st tNever := fun _ _ _ _ _ _ h => h.elim
end

/-! ### targets -/
abbrev TG := V → St → Hp → (St → Hp → Prop) → Prop
abbrev TGs := List V → St → Hp → (St → Hp → Prop) → Prop
def PG (X : Cx) (target : Expr) (t : TG) : Prop :=
  ∀ (pins : List (Addr × Obj)) (s : Shared) (σ : St) (H : Hp) (v : V) (u : Value) (Q : St → Hp → Prop), Inv X pins σ H s → RelV v u → t v σ H Q →
    wpAny (model X.prog X.w) X.A (assign target X.env u) (fun _ s' => ∃ σ' H', Inv X pins σ' H' s' ∧ Q σ' H') X.xe s
/-- several targets, one after another -/
def PGs (X : Cx) (ts : List Expr) (t : TGs) : Prop :=
  ∀ (pins : List (Addr × Obj)) (s : Shared) (σ : St) (H : Hp) (vs : List V) (us : List Value) (Q : St → Hp → Prop), Inv X pins σ H s → Vals vs us → t vs σ H Q →
    wpAny (model X.prog X.w) X.A (assignInOrder ((assignEach ts X.env).map (·.2)) us) (fun _ s' => ∃ σ' H', Inv X pins σ' H' s' ∧ Q σ' H') X.xe s
/-- o[i] = v, by values -/
abbrev TSet := V → V → V → Hp → (Hp → Prop) → Prop
def PSet (X : Cx) (t : TSet) : Prop :=
  ∀ (pins : List (Addr × Obj)) (s : Shared) (σ : St) (H : Hp) (o i v : V) (ov iv u : Value) (Q : Hp → Prop), Inv X pins σ H s → RelV o ov → RelV i iv → RelV v u → t o i v H Q →
    wpAny (model X.prog X.w) X.A (setItem ov iv u) (fun _ s' => ∃ H', Inv X pins σ H' s' ∧ Q H') X.xe s
section
variable {X : Cx} {pos : Pos}
def gName (i : Nat) : TG := fun v σ H Q => Q (σ.set i (some v)) H
theorem pg_name {i : Nat} {x : Str} (hN : X.N.Nodup) (hi : X.N[i]? = some x) (hx : Loc X.env.scope x) (hf : X.fn x = true ∨ X.env.scope.names.lookup x = some .local := by first | exact .inl rfl | exact .inr rfl | assumption) : PG X (.Name x pos) (gName i) := by
  intro pins s σ H v u Q I r h
  exact wpAny_assign_Name (store_ok I hN hi hx r (fun s' I' => ⟨_, H, I', h⟩) hf)
def gNil : TGs := fun vs σ H Q => vs = [] ∧ Q σ H
def gCons (t : TG) (u : TGs) : TGs := fun vs σ H Q => ∃ v r, vs = v :: r ∧ t v σ H fun σ' H' => u r σ' H' Q
theorem pgs_nil : PGs X [] gNil := by
  intro pins s σ H vs us Q I r h
  obtain ⟨e, h⟩ := h
  subst e
  cases r
  exact assignInOrder_nil ⟨σ, H, I, h⟩
theorem pgs_cons {e : Expr} {es : List Expr} {t : TG} {u : TGs} (h1 : PG X e t) (h2 : PGs X es u)
    (hs : (assignEach (e :: es) X.env).map (·.2) = assign e X.env :: (assignEach es X.env).map (·.2) := by rfl) : PGs X (e :: es) (gCons t u) := by
  intro pins s σ H vs us Q I r h
  obtain ⟨v, vr, e1, h⟩ := h
  subst e1
  cases r with
  | cons r rr =>
    rw [hs]
    refine assignInOrder_cons (thn (h1 pins s σ H _ _ _ I r h) fun _ s1 ⟨σ1, H1, I1, q1⟩ => ?_)
    exact h2 pins s1 σ1 H1 _ _ Q I1 rr q1
/-- (a, b, ..) = a tuple of that length -/
def gTup (K : PySem.W.Frag) (n : Nat) (t : TGs) : TG := fun v σ H Q => ∃ a xs, v = .ref a ∧ SqT K H a xs ∧ xs.length = n ∧ t xs σ H Q
theorem pg_tup {es : List Expr} {k : Nat} {t : TGs} {n : Nat} (hc : X.calm = true) (h : PGs X es t)
    (hn : (assignEach es X.env).length = n := by rfl) (hst : (assignEach es X.env).findIdx? (·.1) = none := by rfl) : PG X (.Tuple es k pos) (gTup X.K n t) := by
  intro pins s σ H v u Q I r hw
  obtain ⟨a, xs, e1, hq, hl, hw⟩ := hw
  subst e1
  cases r
  obtain ⟨its, rv, ht, hz⟩ := I.tuple hq
  refine assign_Tuple_tuple (I.ok.hd hc) ht (by simp [hn, ← hl, rv.length]) hst fun h' hx => ?_
  have I1 : Inv X pins σ H { s with heap := h' } := I.kept (t' := s.toks) fun b o e => hx b o (Nat.ne_of_lt (Heap.lt_size e)) e
  exact h pins _ σ H xs _ Q I1 (by simpa using rv) hw
/-- o[i] = .. -/
def gSub (to ti : TE) (t : TSet) : TG := fun v σ H Q => to σ H fun o H1 => ti σ H1 fun i H2 => t o i v H2 fun H3 => Q σ H3
theorem pg_sub {o i : Expr} {to ti : TE} {t : TSet} (ho : PE X o to) (hi : PE X i ti) (hs : PSet X t)
    (ha : ∀ v, assign (.Subscript o i pos) X.env v = (do
      let ov ← holding [v] (eval o X.env)
      let iv ← holding [v, ov] (eval i X.env)
      standAt pos
      holding [v, ov, iv] (setItem ov iv v)
      release [v, ov, iv] []) := by intro _; rfl) : PG X (.Subscript o i pos) (gSub to ti t) := by
  intro pins s σ H v u Q I r h
  rw [ha]
  refine wpAny_bind (wpAny_holding (thn (ho pins s σ H _ I h) fun ov s1 ⟨x, H1, I1, r1, q1⟩ => ?_))
  refine wpAny_bind (wpAny_holding (thn (hi pins s1 σ H1 _ I1 q1) fun iv s2 ⟨y, H2, I2, r2, q2⟩ => ?_))
  refine wpAny_bind (wpAny_standAt (wpAny_bind (wpAny_holding (thn (hs pins s2 σ H2 x y v ov iv u _ I2 r1 r2 r q2) fun _ s3 ⟨H3, I3, q3⟩ => ?_))))
  exact wpAny_release ⟨σ, H3, I3, q3⟩
/-- target = value -/
def tAsg (te : TE) (g : TG) : TS := fun D σ H => te σ H fun x H1 => g x σ H1 D.nx
theorem ps_asg {tg e : Expr} {te : TE} {g : TG} (he : PE X e te) (hg : PG X tg g) (hs : swapsWithSole [tg] e pos.line X.env = pure false := by rfl) (hw : swappedStores [tg] e X.env = pure none := by rfl)
    (h1 : (assignEach [tg] X.env).map (·.2) = [assign tg X.env] := by rfl) : PS X (.Assign [tg] e pos) (tAsg te g) := by
  intro pins s σ H D I h
  refine wpAny_Assign_stores (thn (he pins s σ H _ I h) fun v s1 ⟨x, H1, I1, r1, q1⟩ => ?_) hs hw
  rw [h1]
  exact thn (hg pins s1 σ H1 x v _ I1 r1 q1) fun _ s2 q => q
/-- name = value -/
theorem ps_set {i : Nat} {x : Str} {e : Expr} {te : TE} {pos' : Pos} (hN : X.N.Nodup) (hi : X.N[i]? = some x) (hx : Loc X.env.scope x) (he : PE X e te) (hs : swapsWith e (some (.Name x pos')) pos.line X.env = pure false := by rfl) (hf : X.fn x = true ∨ X.env.scope.names.lookup x = some .local := by first | exact .inl rfl | exact .inr rfl | assumption) :
    PS X (.Assign [.Name x pos'] e pos) (tAsg te (gName i)) := by
  intro pins s σ H D I h
  refine wpAny_Assign_Name (thn (he pins s σ H _ I h) fun v s1 ⟨y, H1, I1, r1, q1⟩ => ?_) hs
  exact store_ok I1 hN hi hx r1 (fun s2 I2 => ⟨_, H1, I2, q1⟩) hf
end

/-! ### while -/
section
variable {X : Cx} {pos : Pos}
/-- the invariant W with its measure -/
def tWhile (c : TT) (tb : TS) : TS := fun D σ H => ∃ W : Nat → St → Hp → Prop, (∃ m, W m σ H) ∧ ∀ m σ H, W m σ H →
  c σ H fun b H1 => if b = true then ∃ N : St → Hp → Prop, (∀ σ' H', N σ' H' → ∃ m', m' < m ∧ W m' σ' H') ∧ tb { D with nx := N, ct := N, bk := D.nx } σ H1 else D.nx σ H1
theorem ps_while {c : Expr} {body : List Stmt} {tc : TT} {tb : TS} (hp : PassesOwn (model X.prog X.w) X.A X.env X.xe) (hc : PT X c tc) (hb : PSs X body tb) : PS X (.While c body [] pos) (tWhile tc tb) := by
  intro pins s σ H D I h
  obtain ⟨W, ⟨m0, w0⟩, turn⟩ := h
  refine wpAny_While (codeAny_whileLoop (fun n s' => ∃ σ' H', Inv X pins σ' H' s' ∧ W n σ' H') ?_ m0 ⟨σ, H, I, w0⟩)
  rintro n s1 ⟨σ1, H1, I1, w1⟩
  refine wpAny_passesOwn hp (thn (hc pins s1 σ1 H1 _ I1 (turn n σ1 H1 w1)) fun b s2 ⟨H2, I2, q2⟩ => ?_)
  cases b with
  | true =>
    obtain ⟨N, hN, q2⟩ := q2
    rw [if_pos rfl]
    refine wpAny_passesOwn hp (thn (hb pins s2 σ1 H2 _ I2 q2) fun f s3 q3 => ?_)
    cases f with
    | next =>
      obtain ⟨σ3, H3, I3, n3⟩ := q3
      obtain ⟨m', hm, w3⟩ := hN σ3 H3 n3
      exact ⟨m', hm, σ3, H3, I3, w3⟩
    | cont =>
      obtain ⟨σ3, H3, I3, n3⟩ := q3
      obtain ⟨m', hm, w3⟩ := hN σ3 H3 n3
      exact ⟨m', hm, σ3, H3, I3, w3⟩
    | brk => exact q3
    | ret v => exact q3
  | false =>
    rw [if_neg Bool.false_ne_true]
    exact wpAny_execs_nil ⟨σ1, H2, I2, q2⟩
end

/-! ### what a loop or a comprehension walks -/
/-- at turn i: it yields x (the heap may grow), or it stops -/
structure It where
  go : Nat → Hp → Prop
  yld : Nat → Hp → V → Hp → Prop
  stop : Nat → Hp → Prop
/-- the iterator's own objects may turn: they are not the frame's, not pinned, younger than the entry (or a comprehension's own) -/
def FpOk (X : Cx) (pins : List (Addr × Obj)) (H : Hp) (b : Addr) : Prop :=
  H b = none ∧ b ≠ X.env.locals ∧ b ∉ X.fs ∧ (b ∈ X.ex ∨ X.s₀.heap.objs.size ≤ b) ∧ (∀ x c, X.env.cells.lookup x = some c → c ≠ b) ∧ ∀ p ∈ X.pn ++ pins, p.1 ≠ b
theorem Inv.fpOk {X : Cx} {pins : List (Addr × Obj)} {σ : St} {H H' : Hp} {s : Shared} {b : Addr} (I : Inv X pins σ H s) (hb : s.heap.objs.size ≤ b) (hn : H' b = none) : FpOk X pins H' b := by
  refine ⟨hn, Nat.ne_of_gt (Nat.lt_of_lt_of_le I.lt hb), I.nofs hb, .inr (Nat.le_trans I.sz hb), fun x c e z => ?_, fun p hp z => ?_⟩
  · obtain ⟨v, q⟩ := I.cell x c e
    exact absurd (Nat.lt_of_lt_of_le q.lt (by rw [z]; exact hb)) (Nat.lt_irrefl _)
  · exact absurd (Nat.lt_of_lt_of_le (Heap.lt_size (I.pin p hp).1) (by rw [z]; exact hb)) (Nat.lt_irrefl _)
structure Turn (P : Program) (w : World) (K : PySem.W.Frag) (tg : Expr) (J : It) (fp : List Addr) (it : Addr) (tn : Nat → Heap → Prop) : Prop where
  mem : it ∈ fp
  obj : ∀ i h, tn i h → ∀ b ∈ fp, ∃ o, h.get? b = some o ∧ ∀ v, o.data ≠ .cell v
  keep : ∀ i h h', tn i h → (∀ b ∈ fp, ∀ o, h.get? b = some o → h'.get? b = some o) → tn i h'
  item : ∀ (X : Cx), X.prog = P → X.w = w → X.K = K → X.calm = true → ∀ (i : Nat) (pins : List (Addr × Obj)) (s : Shared) (σ : St) (H : Hp) (E : Value → Shared → Prop), Inv X pins σ H s → (∀ b ∈ fp, FpOk X pins H b) → tn i s.heap → J.go i H →
    wpAny (model P w) X.A (pyNext (.ref it)) (fun r s1 => ∃ u, r = some u ∧
      wpAny (model P w) X.A (letOwnedTupleGo tg (.ref it) u) (fun _ s2 => ∃ x H', Inv X pins σ H' s2 ∧ RelV x u ∧ J.yld i H x H' ∧ tn (i + 1) s2.heap ∧ ∀ b ∈ fp, H' b = none) E s1) E s
  done : ∀ (X : Cx), X.prog = P → X.w = w → X.K = K → X.calm = true → ∀ (i : Nat) (pins : List (Addr × Obj)) (s : Shared) (σ : St) (H : Hp) (E : Value → Shared → Prop), Inv X pins σ H s → (∀ b ∈ fp, FpOk X pins H b) → tn i s.heap → J.stop i H →
    wpAny (model P w) X.A (pyNext (.ref it)) (fun r s1 => r = none ∧ Inv X pins σ H s1) E s
  self : ∀ (A : Around) (i : Nat) (s : Shared) (Q : Value → Shared → Prop) (E : Value → Shared → Prop), tn i s.heap → Q (.ref it) s → wpAny (model P w) A (pyIter (.ref it)) Q E s
abbrev TI := St → Hp → (It → Hp → Prop) → Prop
/-- an iterator has come -/
def PIE (X : Cx) (pins : List (Addr × Obj)) (σ : St) (tg : Expr) (R : It → Hp → Prop) (itv : Value) (s2 : Shared) : Prop :=
  ∃ (it : Addr) (fp : List Addr) (tn : Nat → Heap → Prop) (J : It) (H' : Hp), itv = .ref it ∧ Inv X pins σ H' s2 ∧ Turn X.prog X.w X.K tg J fp it tn ∧ tn 0 s2.heap ∧ (∀ b ∈ fp, FpOk X pins H' b) ∧ R J H'
def PI (X : Cx) (tg iter : Expr) (wi : TI) : Prop :=
  ∀ (pins : List (Addr × Obj)) (s : Shared) (σ : St) (H : Hp) (R : It → Hp → Prop), Inv X pins σ H s → wi σ H R →
    wpAny (model X.prog X.w) X.A (eval iter X.env) (fun v s1 => wpAny (model X.prog X.w) X.A (pyIter v) (PIE X pins σ tg R) X.xe s1) X.xe s

/-- the step ahead of the store is nothing for an iterator that keeps no tuple -/
theorem go_of {M : Model} {A : Around} {E : Value → Shared → Prop} {s : Shared} {tg : Expr} {it : Addr} {u : Value} {o : Obj} {n : String} {vs : Array Value} {Q : Unit → Shared → Prop} (ho : s.heap.get? it = some o) (hc : o.cls = .type n) (hd : o.data = .fields vs)
    (hn : ["enumerate", "zip", "dict_itemiterator", "dict_reverseitemiterator", "odict_iterator", "itertools.zip_longest", "itertools.pairwise"].contains n = false) (hQ : Q () s) : wpAny M A (letOwnedTupleGo tg (.ref it) u) Q E s := by
  unfold letOwnedTupleGo
  cases tg <;> first
    | exact wpAny_pure hQ
    | (cases u <;> first
        | exact wpAny_pure hQ
        | (refine wpAny_bind (wpAny_load ho ?_)
           rw [hc, hd]
           show wpAny M A (if (["enumerate", "zip", "dict_itemiterator", "dict_reverseitemiterator", "odict_iterator", "itertools.zip_longest", "itertools.pairwise"].contains n && vs[0]? == some (rawInt _)) = true then _ else _) Q E s
           rw [if_neg (by intro h; rw [hn, Bool.false_and] at h; cases h)]
           exact wpAny_pure hQ))

/-- the list at a, as it stands at each turn (a loop may append to it) -/
def Itl (K : PySem.W.Frag) (a : Addr) : It :=
  ⟨fun i H => ∃ xs x, SqL K H a xs ∧ xs[i]? = some x, fun i H x H' => H' = H ∧ ∀ xs, SqL K H a xs → xs[i]? = some x, fun i H => ∃ xs, SqL K H a xs ∧ xs.length ≤ i⟩
/-- lo, lo + 1, .. (n of them) -/
def Itr (lo : Int) (n : Nat) : It := ⟨fun i _ => i < n, fun i H x H' => H' = H ∧ x = .int (lo + i), fun i _ => n ≤ i⟩
theorem turn_list {P : Program} {w : World} {K : PySem.W.Frag} {tg : Expr} (a it : Addr) : Turn P w K tg (Itl K a) [it] it (fun i h => h.IsListIter it a i) where
  mem := by simp
  obj := fun i h st b hb => by
    have e : b = it := by simpa using hb
    subst e
    obtain ⟨o, e, c, d⟩ := st
    exact ⟨o, e, fun v z => by rw [d] at z; cases z⟩
  keep := fun i h h' st k => st.at fun o e => k it (by simp) o e
  item := by
    intro X hP hw hK hc i pins s σ H E I hf st hg
    subst hP hw hK
    obtain ⟨xs, x, hq, hx⟩ := hg
    obtain ⟨its, rv, p, hz⟩ := I.list hq
    obtain ⟨u, hu, ru⟩ := rv.get hx
    obtain ⟨f0, f1, f2, f3, f4, f5⟩ := hf it (by simp)
    refine wpAny_pyNext_list_item st p.isList (x := u) (by simpa using hu) fun h' st' sb => ?_
    have I1 : Inv X pins σ H { s with heap := h' } := I.turned (t' := s.toks) (fun b o hb e => (sb.2 b hb).trans e) f0 f1 f3 f4 f5
    obtain ⟨o, e, c, d⟩ := id st'
    exact ⟨u, rfl, go_of (s := { s with heap := h' }) e c d (by decide) ⟨x, H, I1, ru, ⟨rfl, fun ys hy => by rw [I.list_inj hy hq]; exact hx⟩, st', fun b hb => (hf b hb).1⟩⟩
  done := by
    intro X hP hw hK hc i pins s σ H E I hf st hg
    subst hP hw hK
    obtain ⟨xs, hq, hx⟩ := hg
    obtain ⟨its, rv, p, hz⟩ := I.list hq
    obtain ⟨f0, f1, f2, f3, f4, f5⟩ := hf it (by simp)
    have hl := rv.length
    exact wpAny_pyNext_list_end (I.ok.hd hc) st p.isList (by simp; omega) fun h' eb => ⟨rfl, I.turned (t' := s.toks) (fun b o hb e => eb b o hb e) f0 f1 f3 f4 f5⟩
  self := fun _ _ _ _ _ st h => wpAny_pyIter_listiter st h
theorem turn_range {P : Program} {w : World} {K : PySem.W.Frag} {tg : Expr} (it : Addr) (lo : Int) (n : Nat) : Turn P w K tg (Itr lo n) [it] it (fun i h => IsRangeIter h it (lo + (i : Nat) * 1) ((n : Int) - (i : Nat)) 1) where
  mem := by simp
  obj := fun i h st b hb => by
    have e : b = it := by simpa using hb
    subst e
    exact ⟨_, st, fun v z => by
      have z' : Data.fields _ = Data.cell v := z
      cases z'⟩
  keep := fun i h h' st k => k it (by simp) _ st
  item := by
    intro X hP hw hK hc i pins s σ H E I hf st hg
    subst hP hw hK
    obtain ⟨f0, f1, f2, f3, f4, f5⟩ := hf it (by simp)
    have W := Walks.range (prog := X.prog) (w := X.w) (I.ok.hd hc) it lo 1 n
    refine W.item i s _ _ hg st fun v h' tk hv st' kk => ?_
    obtain ⟨t, rfl⟩ := hv
    have I1 : Inv X pins σ H { s with heap := h', toks := tk } := I.turned (fun b o hb e => kk b o (by simpa using hb) e) f0 f1 f3 f4 f5
    refine ⟨_, rfl, go_of (s := { s with heap := h', toks := tk }) (n := "range_iterator") st' rfl rfl (by decide) ⟨.int (lo + i), H, I1, ⟨t, ?_⟩, ⟨rfl, rfl⟩, st', fun b hb => (hf b hb).1⟩⟩
    rw [Int.mul_one]
  done := by
    intro X hP hw hK hc i pins s σ H E I hf st hg
    subst hP hw hK
    obtain ⟨f0, f1, f2, f3, f4, f5⟩ := hf it (by simp)
    exact wpAny_pyNext_range_end (I.ok.hd hc) st (by have : n ≤ i := hg; omega) fun h' eb => ⟨rfl, I.turned (t' := s.toks) (fun b o hb e => eb b o hb e) f0 f1 f3 f4 f5⟩
  self := fun _ _ _ _ _ st h => wpAny_pyIter_rangeiter st h
end L2

namespace L2
open PySem PySem.Spec PyProof.Rows
section
variable {X : Cx} {tg : Expr}
def iList (K : PySem.W.Frag) (tl : TE) : TI := fun σ H R => tl σ H fun x H1 => ∃ a, x = .ref a ∧ (∃ xs, SqL K H1 a xs) ∧ R (Itl K a) H1
theorem pi_list {l : Expr} {tl : TE} (hl : PE X l tl) : PI X tg l (iList X.K tl) := by
  intro pins s σ H R I h
  refine thn (hl pins s σ H _ I h) fun v s1 ⟨x, H1, I1, r1, q1⟩ => ?_
  obtain ⟨a, e, ⟨xs, hq⟩, q⟩ := q1
  subst e
  cases r1
  obtain ⟨its, rv, p, hz⟩ := I1.list hq
  refine wpAny_pyIter_list p.isList ?_
  refine ⟨s1.heap.objs.size, [s1.heap.objs.size], _, _, H1, rfl, I1.kept (t' := s1.toks) fun b o e => Heap.get?_push_of_some _ e, turn_list a _, ⟨_, Heap.get?_push_size _ rfl, rfl, rfl⟩, fun b hb => ?_, q⟩
  have e : b = s1.heap.objs.size := by simpa using hb
  subst e
  exact I1.fpOk (Nat.le_refl _) (I1.hok.fresh (Nat.le_refl _))
/-- a range object just made, walked -/
theorem range_it {pins : List (Addr × Obj)} {σ : St} {H : Hp} {s : Shared} {R : It → Hp → Prop} {E : Value → Shared → Prop} {lo hi : Int} {t u v : Tok} {tk : Nat} (I : Inv X pins σ H s) (h1 : -(2 ^ 62) ≤ lo) (h2 : lo < 2 ^ 62) (h3 : -(2 ^ 62) ≤ hi) (h4 : hi < 2 ^ 62)
    (q : R (Itr lo (hi - lo).toNat) H) : wpAny (model X.prog X.w) X.A (pyIter (.ref s.heap.objs.size)) (PIE X pins σ tg R) E { s with heap := s.heap.push { cls := .type "range", data := .fields #[.int lo t, .int hi u, .int 1 v] }, toks := tk } := by
  refine wpAny_pyIter_range (IsRange.new ..) (small_one h1 h2 h3 h4) ?_
  have I1 : Inv X pins σ H { s with heap := s.heap.push { cls := .type "range", data := .fields #[.int lo t, .int hi u, .int 1 v] }, toks := tk } := I.kept fun b o e => Heap.get?_push_of_some _ e
  refine ⟨(s.heap.push { cls := .type "range", data := .fields #[.int lo t, .int hi u, .int 1 v] }).objs.size, [(s.heap.push { cls := .type "range", data := .fields #[.int lo t, .int hi u, .int 1 v] }).objs.size], _, _, H, rfl,
    I1.kept (t' := tk) fun b o e => Heap.get?_push_of_some _ e, turn_range _ lo (hi - lo).toNat, ?_, fun b hb => ?_, q⟩
  · have e1 : lo + ((0 : Nat) : Int) * 1 = lo := by simp
    have e2 : (((hi - lo).toNat : Nat) : Int) - ((0 : Nat) : Int) = Builtin.Range.rangeSize lo hi 1 := by rw [rangeSize_one]; split <;> omega
    show IsRangeIter _ _ (lo + ((0 : Nat) : Int) * 1) ((((hi - lo).toNat : Nat) : Int) - ((0 : Nat) : Int)) 1
    rw [e1, e2]
    exact Heap.get?_push_size _ rfl
  · have e : b = (s.heap.push { cls := .type "range", data := .fields #[.int lo t, .int hi u, .int 1 v] }).objs.size := by simpa using hb
    subst e
    exact I1.fpOk (Nat.le_refl _) (I1.hok.fresh (Nat.le_refl _))
def iRng1 (ta : TA) : TI := fun σ H R => ta σ H fun vs H1 => ∃ j : Int, vs = [.int j] ∧ -(2 ^ 62) ≤ j ∧ j < 2 ^ 62 ∧ R (Itr 0 j.toNat) H1
theorem pi_range1 {a : Expr} {ta : TA} {p pos : Pos} (hg : Gl X "range") (hm : X.mg "range" = none) (ha : PA X [a] ta) (hs : starEach [a] X.env = [(false, eval a X.env)] := by rfl) : PI X tg (.Call (.Name "range" p) [a] [] pos) (iRng1 ta) := by
  intro pins s σ H R I h
  refine Call_ (ld_blt I hg hm boot_range (PyProof.Rows.callWith_type1 (thn (ha pos pins s σ H _ I h) fun us s1 ⟨vs, H1, I1, r1, q1⟩ => ?_) hs rfl))
  obtain ⟨j, e, q1, q2, q⟩ := q1
  subst e
  cases r1 with
  | cons r rr =>
    cases rr
    obtain ⟨t, rfl⟩ := r
    exact call_range_1 (range_it I1 (by omega) (by omega) q1 q2 (by simpa using q))

/-! ### for -/
/-- W: the invariant by the turn and a measure; N: what the body is to reach -/
def tFor (wi : TI) (g : TG) (tb : TS) : TS := fun D σ H => wi σ H fun J H1 => ∃ W : Nat → Nat → St → Hp → Prop, (∃ m, W 0 m σ H1) ∧ ∀ i m σ H, W i m σ H →
  (J.stop i H ∧ D.nx σ H) ∨ (J.go i H ∧ ∃ N : St → Hp → Prop, (∀ σ' H', N σ' H' → ∃ m', m' < m ∧ W (i + 1) m' σ' H') ∧ ∀ x H', J.yld i H x H' → g x σ H' fun σ2 H2 => tb { D with nx := N, ct := N, bk := D.nx } σ2 H2)
/-- the records at fp as they stand -/
def pinsAt (fp : List Addr) (h : Heap) : List (Addr × Obj) := fp.filterMap fun b => (h.get? b).map fun o => (b, o)
theorem mem_pinsAt {fp : List Addr} {h : Heap} {b : Addr} {o : Obj} (hb : b ∈ fp) (e : h.get? b = some o) : (b, o) ∈ pinsAt fp h := List.mem_filterMap.mpr ⟨b, hb, by rw [e]; rfl⟩
theorem of_pinsAt {fp : List Addr} {h : Heap} {p : Addr × Obj} (hp : p ∈ pinsAt fp h) : p.1 ∈ fp ∧ h.get? p.1 = some p.2 := by
  obtain ⟨b, hb, e⟩ := List.mem_filterMap.mp hp
  cases q : h.get? b with
  | none => rw [q] at e; cases e
  | some o =>
    rw [q] at e
    have e' : (b, o) = p := Option.some.inj e
    subst e'
    exact ⟨hb, q⟩
theorem Inv.pinned {pins : List (Addr × Obj)} {σ : St} {H : Hp} {s : Shared} {fp : List Addr} (I : Inv X pins σ H s) (hf : ∀ b ∈ fp, FpOk X pins H b) (ho : ∀ b ∈ fp, ∃ o, s.heap.get? b = some o ∧ ∀ v, o.data ≠ .cell v) : Inv X (pins ++ pinsAt fp s.heap) σ H s :=
  I.pins_of fun p hp => (List.mem_append.mp hp).elim (fun z => I.pin p (List.mem_append_right _ z)) fun z => by
    obtain ⟨hb, e⟩ := of_pinsAt z
    obtain ⟨f0, f1, f2, _⟩ := hf p.1 hb
    obtain ⟨o, e', d⟩ := ho p.1 hb
    rw [e] at e'; cases e'
    exact ⟨e, f0, f1, f2, d⟩
theorem Inv.unpinned {pins pl : List (Addr × Obj)} {σ : St} {H : Hp} {s : Shared} (I : Inv X (pins ++ pl) σ H s) : Inv X pins σ H s := I.pins_of fun p hp => I.pin p (List.mem_append_right _ (List.mem_append_left _ hp))
theorem ps_for {iter : Expr} {body : List Stmt} {wi : TI} {g : TG} {tb : TS} {pos : Pos} (hp : PassesOwn (model X.prog X.w) X.A X.env X.xe) (hc : X.calm = true) (hi : PI X tg iter wi) (hg : PG X tg g) (hb : PSs X body tb)
    (hs : ∀ x, foldedSetIterable iter X.env x = pure x := by intro _; rfl) : PS X (.For tg iter body [] pos) (tFor wi g tb) := by
  intro pins s σ H D I h
  refine wpAny_For (thn (hi pins s σ H _ I h) fun v s1 h1 => thn h1 fun itv s2 h2 => ?_) hs
  obtain ⟨it, fp, tn, J, H2, e, I2, T, st2, f2, W, ⟨m0, w0⟩, turn⟩ := h2
  subst e
  -- what stays true of the iterator's objects through the loop
  have stat : ∀ {H' : Hp}, (∀ b ∈ fp, H' b = none) → ∀ b ∈ fp, FpOk X pins H' b := fun hn b hb => ⟨hn b hb, (f2 b hb).2⟩
  refine codeAny_forLoop_any (fun n s' => ∃ i σ' H', Inv X pins σ' H' s' ∧ tn i s'.heap ∧ (∀ b ∈ fp, H' b = none) ∧ W i n σ' H') ?_ m0 ⟨0, σ, H2, I2, st2, fun b hb => (f2 b hb).1, w0⟩
  rintro n s3 ⟨i, σ3, H3, I3, st3, fr3, w3⟩
  rcases turn i n σ3 H3 w3 with ⟨stop, qn⟩ | ⟨go, N, hN, step⟩
  · refine wpAny_passesOwn hp (thn (T.done X rfl rfl rfl hc i pins s3 σ3 H3 X.xe I3 (stat fr3) st3 stop) fun r s4 ⟨hr, I4⟩ => ?_)
    subst hr
    exact wpAny_execs_nil ⟨σ3, H3, I4, qn⟩
  · refine wpAny_passesOwn hp (thn (T.item X rfl rfl rfl hc i pins s3 σ3 H3 X.xe I3 (stat fr3) st3 go) fun r s4 ⟨u, hr, h4⟩ => ?_)
    subst hr
    refine wpAny_passesOwn hp (thn h4 fun _ s5 ⟨x, H5, I5, r5, y5, st5, fr5⟩ => ?_)
    have I5' := I5.pinned (stat fr5) (T.obj _ _ st5)
    refine wpAny_passesOwn hp (thn (hg _ s5 σ3 H5 x u _ I5' r5 (step x H5 y5)) fun _ s6 ⟨σ6, H6, I6, q6⟩ => ?_)
    refine wpAny_passesOwn hp (thn (hb _ s6 σ6 H6 _ I6 q6) fun f s7 q7 => ?_)
    have again : ∀ {σ7 : St} {H7 : Hp}, Inv X (pins ++ pinsAt fp s5.heap) σ7 H7 s7 → N σ7 H7 → ∃ m, m < n ∧ ∃ i σ' H', Inv X pins σ' H' s7 ∧ tn i s7.heap ∧ (∀ b ∈ fp, H' b = none) ∧ W i m σ' H' := fun {σ7 H7} I7 n7 => by
      obtain ⟨m', hm, w7⟩ := hN σ7 H7 n7
      refine ⟨m', hm, i + 1, σ7, H7, I7.unpinned, T.keep _ _ _ st5 fun b hb o e => (I7.pin (b, o) (List.mem_append_right _ (List.mem_append_right _ (mem_pinsAt hb e)))).1, fun b hb => ?_, w7⟩
      obtain ⟨o, e, d⟩ := T.obj _ _ st5 b hb
      exact (I7.pin (b, o) (List.mem_append_right _ (List.mem_append_right _ (mem_pinsAt hb e)))).2.1
    cases f with
    | next => obtain ⟨σ7, H7, I7, n7⟩ := q7; exact again I7 n7
    | cont => obtain ⟨σ7, H7, I7, n7⟩ := q7; exact again I7 n7
    | brk => obtain ⟨σ7, H7, I7, q7⟩ := q7; exact ⟨σ7, H7, I7.unpinned, q7⟩
    | ret v => obtain ⟨x7, σ7, H7, I7, r7, q7⟩ := q7; exact ⟨x7, σ7, H7, I7.unpinned, r7, q7⟩
end

/-! ### the forms one uses -/
/-- over a list that the body leaves as it is -/
theorem for_list {K : PySem.W.Frag} {a : Addr} {xs : List V} {g : TG} {tb : TS} {D : Ends} {σ : St} {H : Hp} (Pv : Nat → St → Hp → Prop) (h0 : Pv 0 σ H) (hl : ∀ i σ H, i ≤ xs.length → Pv i σ H → SqL K H a xs)
    (hs : ∀ i x σ H, xs[i]? = some x → Pv i σ H → g x σ H fun σ2 H2 => tb { D with nx := Pv (i + 1), ct := Pv (i + 1), bk := D.nx } σ2 H2) (hd : ∀ σ H, Pv xs.length σ H → D.nx σ H) :
    ∃ W : Nat → Nat → St → Hp → Prop, (∃ m, W 0 m σ H) ∧ ∀ i m σ H, W i m σ H →
      ((Itl K a).stop i H ∧ D.nx σ H) ∨ ((Itl K a).go i H ∧ ∃ N : St → Hp → Prop, (∀ σ' H', N σ' H' → ∃ m', m' < m ∧ W (i + 1) m' σ' H') ∧ ∀ x H', (Itl K a).yld i H x H' → g x σ H' fun σ2 H2 => tb { D with nx := N, ct := N, bk := D.nx } σ2 H2) := by
  refine ⟨fun i m σ H => m = xs.length - i ∧ i ≤ xs.length ∧ Pv i σ H, ⟨xs.length, by simp, Nat.zero_le _, h0⟩, ?_⟩
  rintro i m σ H ⟨rfl, hi, p⟩
  have q := hl i σ H hi p
  by_cases hlt : i < xs.length
  · refine .inr ⟨⟨xs, xs[i], q, by simp [hlt]⟩, Pv (i + 1), fun σ' H' p' => ⟨xs.length - (i + 1), by omega, rfl, hlt, p'⟩, fun x H' y => ?_⟩
    obtain ⟨e, y⟩ := y
    subst e
    exact hs i x σ _ (y xs q) p
  · have e : i = xs.length := by omega
    subst e
    exact .inl ⟨⟨xs, q, Nat.le_refl _⟩, hd σ H p⟩
theorem for_range {lo : Int} {n : Nat} {g : TG} {tb : TS} {D : Ends} {σ : St} {H : Hp} (Pv : Nat → St → Hp → Prop) (h0 : Pv 0 σ H)
    (hs : ∀ i σ H, i < n → Pv i σ H → g (.int (lo + i)) σ H fun σ2 H2 => tb { D with nx := Pv (i + 1), ct := Pv (i + 1), bk := D.nx } σ2 H2) (hd : ∀ σ H, Pv n σ H → D.nx σ H) :
    ∃ W : Nat → Nat → St → Hp → Prop, (∃ m, W 0 m σ H) ∧ ∀ i m σ H, W i m σ H →
      ((Itr lo n).stop i H ∧ D.nx σ H) ∨ ((Itr lo n).go i H ∧ ∃ N : St → Hp → Prop, (∀ σ' H', N σ' H' → ∃ m', m' < m ∧ W (i + 1) m' σ' H') ∧ ∀ x H', (Itr lo n).yld i H x H' → g x σ H' fun σ2 H2 => tb { D with nx := N, ct := N, bk := D.nx } σ2 H2) := by
  refine ⟨fun i m σ H => m = n - i ∧ i ≤ n ∧ Pv i σ H, ⟨n, by simp, Nat.zero_le _, h0⟩, ?_⟩
  rintro i m σ H ⟨rfl, hi, p⟩
  by_cases hlt : i < n
  · refine .inr ⟨hlt, Pv (i + 1), fun σ' H' p' => ⟨n - (i + 1), by omega, rfl, hlt, p'⟩, fun x H' y => ?_⟩
    obtain ⟨e, y⟩ := y
    subst e y
    exact hs i σ _ hlt p
  · have e : i = n := by omega
    subst e
    exact .inl ⟨Nat.le_refl _, hd σ H p⟩
end L2

namespace L2
open PySem PySem.Spec PyProof.Rows

abbrev R2 := V → V → Hp → VK → Prop
/-- a two-place operation on values: f is binaryOp op, inplaceOp op or compareOp op -/
def OpR (X : Cx) (f : Value → Value → Sem Value) (r : R2) : Prop :=
  ∀ (pins : List (Addr × Obj)) (s : Shared) (σ : St) (H : Hp) (x y : V) (v u : Value) (Q : VK), Inv X pins σ H s → RelV x v → RelV y u → r x y H Q →
    wpAny (model X.prog X.w) X.A (f v u) (EP X pins σ Q) X.xe s
/-- a one-place operation -/
def UnR (X : Cx) (f : Value → Sem Value) (r : V → Hp → VK → Prop) : Prop :=
  ∀ (pins : List (Addr × Obj)) (s : Shared) (σ : St) (H : Hp) (x : V) (v : Value) (Q : VK), Inv X pins σ H s → RelV x v → r x H Q →
    wpAny (model X.prog X.w) X.A (f v) (EP X pins σ Q) X.xe s
/-- a call of a value that is known (a builtin, a type) with values -/
def CallR (X : Cx) (f : Value) (r : List V → Hp → VK → Prop) : Prop :=
  ∀ (pins : List (Addr × Obj)) (s : Shared) (σ : St) (H : Hp) (xs : List V) (us : List Value) (Q : VK), Inv X pins σ H s → Vals xs us → r xs H Q →
    wpAny (model X.prog X.w) X.A (call f us) (EP X pins σ Q) X.xe s

def tOp (r : R2) (ta tb : TE) : TE := fun σ H Q => ta σ H fun x H1 => tb σ H1 fun y H2 => r x y H2 Q
def tUn (r : V → Hp → VK → Prop) (ta : TE) : TE := fun σ H Q => ta σ H fun x H1 => r x H1 Q
/-- ints in, under C, and a value out -/
def rI (C : Int → Int → Prop) (g : Int → Int → V) : R2 := fun x y H Q => ∃ i j, x = .int i ∧ y = .int j ∧ C i j ∧ Q (g i j) H
def rI0 (g : Int → Int → V) : R2 := fun x y H Q => ∃ i j, x = .int i ∧ y = .int j ∧ Q (g i j) H
def rU (g : Int → V) : V → Hp → VK → Prop := fun x H Q => ∃ i, x = .int i ∧ Q (g i) H

section
variable {X : Cx} {a b c : Expr} {ta tb tc : TE} {pos : Pos}

theorem binT (ha : PE X a ta) (hb : PE X b tb) {pins : List (Addr × Obj)} {s : Shared} {σ : St} {H : Hp} {R : V → V → Hp → Prop} (I : Inv X pins σ H s)
    (h : ta σ H fun x H1 => tb σ H1 fun y H2 => R x y H2) {Q : Value → Shared → Prop} {f : Value → Value → Sem Value}
    (hf : ∀ v u s2 x y H2, Inv X pins σ H2 s2 → RelV x v → RelV y u → R x y H2 → wpAny (model X.prog X.w) X.A (f v u) Q X.xe s2) :
    wpAny (model X.prog X.w) X.A (eval a X.env) (fun v s₁ => wpAny (model X.prog X.w) X.A (eval b X.env) (fun u s₂ => wpAny (model X.prog X.w) X.A (f v u) Q X.xe s₂) X.xe s₁) X.xe s := by
  refine thn (ha pins s σ H _ I h) fun v s1 ⟨x, H1, I1, r1, q1⟩ => ?_
  refine thn (hb pins s1 σ H1 _ I1 q1) fun u s2 ⟨y, H2, I2, r2, q2⟩ => ?_
  exact hf v u s2 x y H2 I2 r1 r2 q2

theorem pe_op {op : Operator} {r : R2} (ho : OpR X (binaryOp op) r) (ha : PE X a ta) (hb : PE X b tb) : PE X (.BinOp a op b pos) (tOp r ta tb) := by
  intro pins s σ H Q I h
  exact wpAny_BinOp (binT ha hb I h fun v u s2 x y H2 I2 rx ry q => ho pins s2 σ H2 x y v u Q I2 rx ry q)
theorem pe_un {op : UnaryOp} {r : V → Hp → VK → Prop} (ho : UnR X (unaryOp op) r) (ha : PE X a ta) : PE X (.UnaryOp op a pos) (tUn r ta) := by
  intro pins s σ H Q I h
  exact UnaryOp_ (thn (ha pins s σ H _ I h) fun v s1 ⟨x, H1, I1, r1, q1⟩ => ho pins s1 σ H1 x v Q I1 r1 q1)

/-! ### ints -/
theorem opI {f : Value → Value → Sem Value} {C : Int → Int → Prop} {g : Int → Int → Int}
    (rule : ∀ (i j : Int) (t u : Tok) (s : Shared) (Q : Value → Shared → Prop) (E : Value → Shared → Prop), C i j → Q (.int (g i j) s.toks) { s with toks := s.toks + 1 } → wpAny (model X.prog X.w) X.A (f (.int i t) (.int j u)) Q E s) :
    OpR X f (rI C fun i j => .int (g i j)) := by
  intro pins s σ H x y v u Q I rx ry h
  obtain ⟨i, j, rfl, rfl, hc, q⟩ := h
  obtain ⟨t, rfl⟩ := rx
  obtain ⟨t', rfl⟩ := ry
  exact rule i j t t' s _ _ hc ⟨.int (g i j), H, I.tok _, ⟨_, rfl⟩, q⟩
theorem opI0 {f : Value → Value → Sem Value} {g : Int → Int → Int}
    (rule : ∀ (i j : Int) (t u : Tok) (s : Shared) (Q : Value → Shared → Prop) (E : Value → Shared → Prop), Q (.int (g i j) s.toks) { s with toks := s.toks + 1 } → wpAny (model X.prog X.w) X.A (f (.int i t) (.int j u)) Q E s) :
    OpR X f (rI0 fun i j => .int (g i j)) := by
  intro pins s σ H x y v u Q I rx ry h
  obtain ⟨i, j, rfl, rfl, q⟩ := h
  obtain ⟨t, rfl⟩ := rx
  obtain ⟨t', rfl⟩ := ry
  exact rule i j t t' s _ _ ⟨.int (g i j), H, I.tok _, ⟨_, rfl⟩, q⟩
theorem opB0 {f : Value → Value → Sem Value} {g : Int → Int → Bool}
    (rule : ∀ (i j : Int) (t u : Tok) (s : Shared) (Q : Value → Shared → Prop) (E : Value → Shared → Prop), Q (.bool (g i j)) s → wpAny (model X.prog X.w) X.A (f (.int i t) (.int j u)) Q E s) :
    OpR X f (rI0 fun i j => .bl (g i j)) := by
  intro pins s σ H x y v u Q I rx ry h
  obtain ⟨i, j, rfl, rfl, q⟩ := h
  obtain ⟨t, rfl⟩ := rx
  obtain ⟨t', rfl⟩ := ry
  exact rule i j t t' s _ _ ⟨.bl (g i j), H, I, rfl, q⟩

def CDiv (i j : Int) : Prop := 0 < j ∧ j < 1073741824
def CPow (i j : Int) : Prop := 0 ≤ j ∧ j ≤ 1000000 ∧ i.natAbs < 2 ^ 64
def CMul (i j : Int) : Prop := (-(2 ^ 64) < i ∧ i < 2 ^ 64) ∨ (-(2 ^ 64) < j ∧ j < 2 ^ 64)
theorem CMul.ok {i j : Int} (h : CMul i j) : IntMulOk i j := by
  rcases h with ⟨h1, h2⟩ | ⟨h1, h2⟩
  · exact .of_left (intBits_le_64 h1 h2)
  · exact .of_right (intBits_le_64 h1 h2)

theorem op_add : OpR X (binaryOp .Add) (rI0 fun i j => .int (i + j)) := opI0 fun _ _ _ _ _ _ _ q => add_int q
theorem op_sub : OpR X (binaryOp .Sub) (rI0 fun i j => .int (i - j)) := opI0 fun _ _ _ _ _ _ _ q => sub_int q
theorem op_mul : OpR X (binaryOp .Mult) (rI CMul fun i j => .int (i * j)) := opI fun _ _ _ _ _ _ _ hc q => mul_int q hc.ok
/-- // by a positive divisor -/
theorem op_fdiv : OpR X (binaryOp .FloorDiv) (rI CDiv fun i j => .int (i / j)) := opI fun i j _ _ _ _ _ hc q => by
  have h1 : (0 : Int) < j := hc.1
  have h2 : j < 1073741824 := hc.2
  exact floordiv_int (by omega) (by rw [Int.fdiv_eq_ediv_of_nonneg i (by omega)]; exact q) (.inl (PyProof.noPylong_small (by omega)))
/-- % by a positive divisor of any size -/
theorem op_mod : OpR X (binaryOp .Mod) (rI (fun _ j => 0 < j) fun i j => .int (i % j)) := opI fun i j _ _ _ _ _ hc q => by
  have h1 : (0 : Int) < j := hc
  exact mod_int' (by omega) (by rw [Int.fmod_eq_emod_of_nonneg i (by omega)]; exact q)
theorem op_pow : OpR X (binaryOp .Pow) (rI CPow fun i j => .int (i ^ j.toNat)) := opI fun _ _ _ _ _ _ _ hc q => pow_int_small hc.1 hc.2.1 hc.2.2 q


theorem unI {f : Value → Sem Value} {g : Int → Int}
    (rule : ∀ (i : Int) (t : Tok) (s : Shared) (Q : Value → Shared → Prop) (E : Value → Shared → Prop), Q (.int (g i) s.toks) { s with toks := s.toks + 1 } → wpAny (model X.prog X.w) X.A (f (.int i t)) Q E s) :
    UnR X f (rU fun i => .int (g i)) := by
  intro pins s σ H x v Q I rx h
  obtain ⟨i, rfl, q⟩ := h
  obtain ⟨t, rfl⟩ := rx
  exact rule i t s _ _ ⟨.int (g i), H, I.tok _, ⟨_, rfl⟩, q⟩
theorem un_neg : UnR X (unaryOp .USub) (rU fun i => .int (-i)) := unI fun _ _ _ _ _ q => neg_int q

/-! ### bools among ints: n += (a < b) -/
end

/-! ### comparisons -/
/-- the scalars that == tells apart as data does -/
def scal : V → V → Bool
  | .non, .non => true | .non, .int _ => true | .int _, .non => true | .non, .bl _ => true | .bl _, .non => true | .non, .str _ => true | .str _, .non => true
  | .int _, .int _ => true | .bl _, .bl _ => true | .str _, .str _ => true | .byt _, .byt _ => true
  | .int _, .str _ => true | .str _, .int _ => true | .bl _, .str _ => true | .str _, .bl _ => true
  | _, _ => false
def rEq : R2 := fun x y H Q => scal x y = true ∧ Q (.bl (decide (x = y))) H
def rNe : R2 := fun x y H Q => scal x y = true ∧ Q (.bl (!decide (x = y))) H

theorem dec_int {i j : Int} : decide (V.int i = V.int j) = (i == j) := by
  rw [Bool.eq_iff_iff]
  simp
theorem dec_bl {i j : Bool} : decide (V.bl i = V.bl j) = (i == j) := by
  rw [Bool.eq_iff_iff]
  simp
theorem dec_str {i j : Str} : decide (V.str i = V.str j) = (i == j) := by
  rw [Bool.eq_iff_iff]
  simp
theorem dec_byt {i j : Array UInt8} : decide (V.byt i = V.byt j) = (i.toList == j.toList) := by
  rw [Bool.eq_iff_iff]
  cases i
  cases j
  simp

section
variable {X : Cx} {a b c : Expr} {ta tb tc : TE} {pos : Pos}
theorem fin_bl {pins : List (Addr × Obj)} {σ : St} {H : Hp} {s : Shared} {Q : VK} {k k' : Bool} (I : Inv X pins σ H s) (q : Q (.bl k) H) (e : k = k') : EP X pins σ Q (.bool k') s := by
  subst e
  exact ⟨.bl k, H, I, rfl, q⟩
theorem op_eq : OpR X (compareOp .Eq) rEq := by
  intro pins s σ H x y v u Q I rx ry h
  obtain ⟨hs, q⟩ := h
  cases x with
  | non =>
    cases rx
    cases y with
    | non => cases ry; exact PySem.EqNone.eq_none_none (fin_bl I q (by simp))
    | bl j => cases ry; exact PySem.EqNone.eq_none_bool (fin_bl I q (by simp))
    | int j => obtain ⟨t', rfl⟩ := ry; exact PySem.EqNone.eq_none_int (fin_bl I q (by simp))
    | str j => obtain ⟨t', rfl⟩ := ry; exact PySem.EqNone.eq_none_str (fin_bl I q (by simp))
    | _ => exact absurd (show false = true from hs) Bool.false_ne_true
  | bl i =>
    cases rx
    cases y with
    | non => cases ry; exact PySem.EqNone.eq_bool_none (fin_bl I q (by simp))
    | bl j => cases ry; exact eq_bool (fin_bl I q dec_bl)
    | str j => obtain ⟨t', rfl⟩ := ry; exact PySem.EqMixed.eq_bool_str (fin_bl I q (by simp))
    | _ => exact absurd (show false = true from hs) Bool.false_ne_true
  | int i =>
    obtain ⟨t, rfl⟩ := rx
    cases y with
    | non => cases ry; exact PySem.EqNone.eq_int_none (fin_bl I q (by simp))
    | int j => obtain ⟨t', rfl⟩ := ry; exact eq_int (fin_bl I q dec_int)
    | str j => obtain ⟨t', rfl⟩ := ry; exact PySem.EqMixed.eq_int_str (fin_bl I q (by simp))
    | _ => exact absurd (show false = true from hs) Bool.false_ne_true
  | str i =>
    obtain ⟨t, rfl⟩ := rx
    cases y with
    | non => cases ry; exact PySem.EqNone.eq_str_none (fin_bl I q (by simp))
    | bl j => cases ry; exact PySem.EqMixed.eq_str_bool (fin_bl I q (by simp))
    | int j => obtain ⟨t', rfl⟩ := ry; exact PySem.EqMixed.eq_str_int (fin_bl I q (by simp))
    | str j => obtain ⟨t', rfl⟩ := ry; exact eq_str (fin_bl I q dec_str)
    | _ => exact absurd (show false = true from hs) Bool.false_ne_true
  | byt i =>
    obtain ⟨t, rfl⟩ := rx
    cases y with
    | byt j => obtain ⟨t', rfl⟩ := ry; exact PySem.W.eq_bytes (fin_bl I q dec_byt)
    | _ => exact absurd (show false = true from hs) Bool.false_ne_true
  | _ => cases y <;> exact absurd (show false = true from hs) Bool.false_ne_true
theorem op_ne : OpR X (compareOp .NotEq) rNe := by
  intro pins s σ H x y v u Q I rx ry h
  obtain ⟨hs, q⟩ := h
  cases x with
  | non =>
    cases rx
    cases y with
    | non => cases ry; exact PySem.EqNone.ne_none_none (fin_bl I q (by simp))
    | bl j => cases ry; exact PySem.EqNone.ne_none_bool (fin_bl I q (by simp))
    | int j => obtain ⟨t', rfl⟩ := ry; exact PySem.EqNone.ne_none_int (fin_bl I q (by simp))
    | str j => obtain ⟨t', rfl⟩ := ry; exact PySem.EqNone.ne_none_str (fin_bl I q (by simp))
    | _ => exact absurd (show false = true from hs) Bool.false_ne_true
  | bl i =>
    cases rx
    cases y with
    | non => cases ry; exact PySem.EqNone.ne_bool_none (fin_bl I q (by simp))
    | bl j => cases ry; exact ne_bool (fin_bl I q (congrArg not dec_bl))
    | str j => obtain ⟨t', rfl⟩ := ry; exact PySem.EqMixed.ne_bool_str (fin_bl I q (by simp))
    | _ => exact absurd (show false = true from hs) Bool.false_ne_true
  | int i =>
    obtain ⟨t, rfl⟩ := rx
    cases y with
    | non => cases ry; exact PySem.EqNone.ne_int_none (fin_bl I q (by simp))
    | int j => obtain ⟨t', rfl⟩ := ry; exact ne_int (fin_bl I q (congrArg not dec_int))
    | str j => obtain ⟨t', rfl⟩ := ry; exact PySem.EqMixed.ne_int_str (fin_bl I q (by simp))
    | _ => exact absurd (show false = true from hs) Bool.false_ne_true
  | str i =>
    obtain ⟨t, rfl⟩ := rx
    cases y with
    | non => cases ry; exact PySem.EqNone.ne_str_none (fin_bl I q (by simp))
    | bl j => cases ry; exact PySem.EqMixed.ne_str_bool (fin_bl I q (by simp))
    | int j => obtain ⟨t', rfl⟩ := ry; exact PySem.EqMixed.ne_str_int (fin_bl I q (by simp))
    | str j => obtain ⟨t', rfl⟩ := ry; exact ne_str (fin_bl I q (congrArg not dec_str))
    | _ => exact absurd (show false = true from hs) Bool.false_ne_true
  | byt i =>
    obtain ⟨t, rfl⟩ := rx
    cases y with
    | byt j => obtain ⟨t', rfl⟩ := ry; exact PySem.W.ne_bytes (fin_bl I q (congrArg not dec_byt))
    | _ => exact absurd (show false = true from hs) Bool.false_ne_true
  | _ => cases y <;> exact absurd (show false = true from hs) Bool.false_ne_true

theorem op_lt : OpR X (compareOp .Lt) (rI0 fun i j => .bl (decide (i < j))) := opB0 fun _ _ _ _ _ _ _ q => lt_int q
theorem op_le : OpR X (compareOp .LtE) (rI0 fun i j => .bl (decide (i ≤ j))) := opB0 fun _ _ _ _ _ _ _ q => le_int q
theorem op_gt : OpR X (compareOp .Gt) (rI0 fun i j => .bl (decide (j < i))) := opB0 fun _ _ _ _ _ _ _ q => gt_int q

/-- is None, is not None: the right side a value none -/
theorem op_isN : OpR X (compareOp .Is) (fun x y H Q => y = .non ∧ Q (.bl (decide (x = .non))) H) := by
  intro pins s σ H x y v u Q I rx ry h
  obtain ⟨rfl, q⟩ := h
  cases ry
  refine is_none_gen (fin_bl I q ?_)
  cases x <;> first
    | (cases rx; rfl)
    | (obtain ⟨t, rfl⟩ := rx; rfl)



theorem nomark (b : Expr) {op : CmpOp} (h : op ≠ .In := by decide) (h2 : op ≠ .NotIn := by decide) : behindInMarks op b = false := by
  have e1 : (op == CmpOp.In) = false := by cases op <;> first | rfl | exact absurd rfl h
  have e2 : (op == CmpOp.NotIn) = false := by cases op <;> first | rfl | exact absurd rfl h2
  cases b <;> simp [behindInMarks, e1, e2]
/-- a comparison as a value; hm: nomark b, or (for in, not in) by with_unfolding_all rfl -/
theorem pe_cmpR {op : CmpOp} {r : R2} (ho : OpR X (compareOp op) r) (ha : PE X a ta) (hb : PE X b tb) (hm : behindInMarks op b = false) : PE X (.Compare a [op] [b] pos) (tOp r ta tb) := by
  intro pins s σ H Q I h
  exact wpAny_Compare1 (binT ha hb I h fun v u s2 x y H2 I2 rx ry q => ho pins s2 σ H2 x y v u Q I2 rx ry q) hm
/-- a reading of a value as a test -/
def tTest (t : TE) : TT := fun σ H Q => t σ H fun x H' => ∃ k, x = .bl k ∧ Q k H'
theorem pt_cmpR {op : CmpOp} {r : R2} (ho : OpR X (compareOp op) r) (ha : PE X a ta) (hb : PE X b tb) (hm : behindInMarks op b = false) : PT X (.Compare a [op] [b] pos) (tTest (tOp r ta tb)) := by
  intro pins s σ H Q I h
  refine wpAny_isTrue_Compare1 (thn (ha pins s σ H _ I h) fun v s1 ⟨x, H1, I1, r1, q1⟩ => thn (hb pins s1 σ H1 _ I1 q1) fun u s2 ⟨y, H2, I2, r2, q2⟩ =>
    thn (ho pins s2 σ H2 x y v u _ I2 r1 r2 q2) fun c s3 ⟨z, H3, I3, r3, k, e, q3⟩ => ?_) hm
  subst e
  cases r3
  exact wpAny_truthy_bool ⟨H3, I3, q3⟩
/-- a op1 b op2 c -/
def tChain (r r' : R2) (ta tb tc : TE) : TE := fun σ H Q => ta σ H fun x H1 => tb σ H1 fun y H2 => r x y H2 fun z H3 => ∃ k, z = .bl k ∧
  (if k = true then tc σ H3 fun w' H4 => r' y w' H4 Q else Q (.bl false) H3)
theorem pe_chain {op op' : CmpOp} {r r' : R2} (ho : OpR X (compareOp op) r) (ho' : OpR X (compareOp op') r') (ha : PE X a ta) (hb : PE X b tb) (hc : PE X c tc)
    (hm : lastMarks [op, op'] [b, c] = false := by with_unfolding_all rfl) : PE X (.Compare a [op, op'] [b, c] pos) (tChain r r' ta tb tc) := by
  intro pins s σ H Q I h
  refine Compare_chain (thn (ha pins s σ H _ I h) fun v s1 ⟨x, H1, I1, r1, q1⟩ => chain_link (thn (hb pins s1 σ H1 _ I1 q1) fun u s2 ⟨y, H2, I2, r2, q2⟩ =>
    thn (ho pins s2 σ H2 x y v u _ I2 r1 r2 q2) fun d s3 ⟨z, H3, I3, r3, k, e, q3⟩ => ?_)) hm
  subst e
  cases r3
  refine wpAny_truthy_bool ?_
  cases k with
  | false => exact ite_ff ⟨.bl false, H3, I3, rfl, q3⟩
  | true => exact ite_tt (chain_last (thn (hc pins s3 σ H3 _ I3 q3) fun w' s4 ⟨z', H4, I4, r4, q4⟩ => ho' pins s4 σ H4 y z' u w' Q I4 r2 r4 q4))

/-! ### truth -/
theorem line63 : (sizeLine : Nat) < 2 ^ 63 := by rw [sizeLine_eq]; decide

/-! ### strs and bytes -/
theorem op_add_str : OpR X (binaryOp .Add) (fun x y H Q => ∃ i j, x = .str i ∧ y = .str j ∧ i.length + j.length ≤ sizeLine ∧ Q (.str (i ++ j)) H) := by
  intro pins s σ H x y v u Q I rx ry h
  obtain ⟨i, j, rfl, rfl, hz, q⟩ := h
  obtain ⟨t, rfl⟩ := rx
  obtain ⟨t', rfl⟩ := ry
  exact add_str (fun t' tk => ⟨.str (i ++ j), H, I.tok _, ⟨_, rfl⟩, q⟩) hz


/-! ### scalar builtins, by CallR -/
theorem vals1 {x : V} {us : List Value} (r : Vals [x] us) : ∃ u, us = [u] ∧ RelV x u := by
  cases r with
  | cons r1 r2 => cases r2; exact ⟨_, rfl, r1⟩
theorem vals2 {x y : V} {us : List Value} (r : Vals [x, y] us) : ∃ u w', us = [u, w'] ∧ RelV x u ∧ RelV y w' := by
  cases r with
  | cons r1 r2 =>
    cases r2 with
    | cons r3 r4 => cases r4; exact ⟨_, _, rfl, r1, r3⟩
theorem call_int1 : CallR X (.type "int") (fun xs H Q => (∃ i, xs = [.int i] ∧ Q (.int i) H) ∨ ∃ k, xs = [.bl k] ∧ Q (.int (if k then 1 else 0)) H) := by
  intro pins s σ H xs us Q I r h
  rcases h with ⟨i, rfl, q⟩ | ⟨k, rfl, q⟩
  · obtain ⟨u, rfl, t, rfl⟩ := vals1 r
    exact call_int_int ⟨.int i, H, I, ⟨_, rfl⟩, q⟩
  · obtain ⟨u, rfl, r1⟩ := vals1 r
    cases r1
    exact call_int_bool ⟨.int (if k then 1 else 0), H, I.tok _, ⟨_, rfl⟩, q⟩
end
end L2

namespace L2
open PySem PySem.Spec PyProof.Rows

/-! ### an instance, its attributes a map -/
structure ObjM (h : Heap) (x dx C : Addr) (mA : Str → Option Value) : Prop where
  obj : h.get? x = some (PySem.W.instObj C dx)
  ns : h.Ns1 dx mA
  ne : dx ≠ x

theorem lookIn_ns {h : Heap} {dx : Addr} {mA : Str → Option Value} (n : h.Ns1 dx mA) : ∃ od, h.get? dx = some od ∧ ∀ name, PySem.W.lookIn name od = some (mA name) := by
  obtain ⟨o, es, ep, ho, hd, hk, _, hm⟩ := n
  refine ⟨o, ho, fun name => ?_⟩
  have e := hm name
  unfold nsFind findBy at e
  rw [← Array.find?_toList] at e
  unfold PySem.W.lookIn
  rw [hd]
  dsimp only
  split
  · rename_i y q
    rw [q] at e
    exact congrArg some e
  · rename_i q
    rw [q] at e
    have a : es.toList.any (·.refKey) = false := by
      rw [List.any_eq_false]
      intro y hy
      obtain ⟨z, t, hkey⟩ := hk y (Array.mem_toList_iff.mp hy)
      simp [DictEntry.refKey, hkey]
    have a' : ¬ es.toList.any (·.refKey) = true := by rw [a]; exact Bool.false_ne_true
    rw [if_neg a']
    exact congrArg some e

theorem ObjM.look {h : Heap} {x dx C : Addr} {mA : Str → Option Value} (I : ObjM h x dx C mA) : ∃ od, PySem.W.InstAt h x (PySem.W.instObj C dx) C (some od) ∧ ∀ name, PySem.W.lookIn name od = some (mA name) :=
  let ⟨od, ho, hl⟩ := lookIn_ns I.ns
  ⟨od, ⟨I.obj, rfl, rfl, ho⟩, hl⟩

section
variable {prog : Program} {w : World} {A : Around} {E : Value → Shared → Prop} {s : Shared} {K : PySem.W.Frag} {x dx C f : Addr} {mA : Str → Option Value} {name : Str} {v : Value}

theorem get_map {expr : Bool} {Q : Value → Shared → Prop} (X : K.In s.heap) (I : ObjM s.heap x dx C mA) (hg : PySem.W.plainGet K C name = true) (hh : PySem.W.hasDictIn K C = true)
    (ha : PySem.W.findIn K (.ref C) name = some none) (hv : mA name = some v) (hv' : PySem.W.handedIn v = true) (h : Q v { s with toks := s.toks + 1 }) :
    wpAny (model prog w) A (getAttr (.ref x) name expr) Q E s := by
  obtain ⟨od, J, hl⟩ := I.look
  exact PySem.W.get_value X J (PySem.W.plainGet_of hg).1 (PySem.W.findObj_own hh ha rfl (by rw [hl, hv])) hv' h


theorem get_meth {pl : Sem Bool} {Q : Value × List Value → Shared → Prop} (X : K.In s.heap) (I : ObjM s.heap x dx C mA) (hg : PySem.W.plainGet K C name = true)
    (hf : PySem.W.findIn K (.ref C) name = some (some (.ref f))) (ht : PySem.W.isFn K (.ref f) = true) (hv : mA name = none) (h : Q (.ref f, [.ref x]) s) :
    wpAny (model prog w) A (getMethod (.ref x) name pl) Q E s := by
  obtain ⟨od, J, hl⟩ := I.look
  exact PySem.W.method_fn X J (PySem.W.plainGet_of hg).1 (PySem.W.plainGet_of hg).2 hf (beq_iff_eq.mp ht) (by show (PySem.W.lookIn name od).map (·.isSome) = some false; rw [hl, hv]; rfl) h

theorem set_map {ns : List Str} {Q : Unit → Shared → Prop} (X : K.In s.heap) (I : ObjM s.heap x dx C mA)
    (hs : PySem.W.findIn K (.ref C) "__setattr__" = some (some (.builtin "object.__setattr__"))) (hp : PySem.W.plainOver K C = true) (ht : PySem.W.takerIn K C name = some none) (hh : PySem.W.hasDictIn K C = true)
    (hw : PySem.Within mA ns) (hsz : ns.length ≤ sizeLine)
    (h : ∀ h', ObjM h' x dx C (fun y => if y = name then some v else mA y) → Heap.SameBut dx s.heap h' → Q () { s with heap := h', toks := s.toks + 2 }) :
    wpAny (model prog w) A (setAttr (.ref x) name v) Q E s := by
  obtain ⟨od, J, hl⟩ := I.look
  refine PySem.W.set_plain X J hs (PySem.W.osa_open (s := { s with toks := s.toks + 1 }) (r := none) X J hp ht fun b => ?_)
  obtain ⟨cd, hc, hd'⟩ := PySem.W.any_some hh
  have hx : s.heap.get? x = some ⟨.ref C, some dx, .plain, #[]⟩ := I.obj
  refine wpAny_bind (wpAny_pure (wpAny_bind (wpAny_bind (wpAny_loadPart hx (wpAny_bind (PySem.W.Looks.here (s := { s with toks := s.toks + 1 }) (PySem.W.looks_clsIn X hc) ?_))))))
  rw [hd']
  refine wpAny_pure (a := some dx) (wpAny_bind (wpAny_pure (wpAny_bind ?_)))
  refine wpAny_nsSet1 (s := { s with toks := s.toks + 1 }) I.ns fun h' hn2 hs2 => ?_
  obtain ⟨oD, esD, epD, hoD, hdD, hcD⟩ := hn2.count (PySem.Within.cons name v hw)
  refine wpAny_bind (wpAny_lookBehind hoD (by rw [hdD]; exact pastItsLine_dict (Nat.le_trans hcD (by rw [List.length_cons]; omega))) ?_)
  exact wpAny_pure (h _ ⟨(hs2.2 _ (Ne.symm I.ne)).trans I.obj, hn2, I.ne⟩ hs2)

/-- C(..): the dict at the heap's end, the instance behind it; then its __init__ -/
theorem make_map {R : Result → Shared → Prop} {vs : List Value} {kw : List (Str × Value)} (X : K.In s.heap) (hm : PySem.W.makesIn K C = true)
    (hi : PySem.W.findIn K (.ref C) "__init__" = some (some (.ref f))) (hf : PySem.W.typeIn K (.ref f) = some (.type "function"))
    (h : codeAny (model prog w) (A.under (.builtin "type.__call__" ⟨.ref C :: vs, kw⟩)) (.call (.ref f) ⟨.ref (s.heap.objs.size + 1) :: vs, kw⟩) (PySem.W.InitBack (s.heap.objs.size + 1) R)
      { s with heap := (s.heap.push PySem.W.emptyDict).push (PySem.W.instObj C s.heap.objs.size) }) :
    codeAny (model prog w) A (.call (.ref C) ⟨vs, kw⟩) R s := by
  obtain ⟨hh, g, d, t, os⟩ := s
  exact PySem.W.make_core (PySem.W.makes_of X hm) (PySem.W.looks_findIn X hi) (fun self => PySem.W.bind_fn X self hf) (.inl rfl) h
/-- C() where there is no __init__ but object's -/
theorem make_map0 {R : Result → Shared → Prop} (X : K.In s.heap) (hm : PySem.W.makesIn K C = true)
    (hi : PySem.W.findIn K (.ref C) "__init__" = some (some (.builtin "object.__init__")))
    (hb : ∀ self, PySem.W.Looks (model prog w) s.heap (bindSpecial (.builtin "object.__init__") self) (.builtin "object.__init__", [self]))
    (h : codeAny (model prog w) (A.under (.builtin "type.__call__" ⟨[.ref C], []⟩)) (.call (.builtin "object.__init__") ⟨[.ref (s.heap.objs.size + 1)], []⟩) (PySem.W.InitBack (s.heap.objs.size + 1) R)
      { s with heap := (s.heap.push PySem.W.emptyDict).push (PySem.W.instObj C s.heap.objs.size) }) :
    codeAny (model prog w) A (.call (.ref C) ⟨[], []⟩) R s := by
  obtain ⟨hh, g, d, t, os⟩ := s
  exact PySem.W.make_core (PySem.W.makes_of X hm) (PySem.W.looks_findIn X hi) hb (.inr ⟨rfl, rfl⟩) h
end

/-! ### the attributes as a list of pairs -/
def putF (f : Str) (v : V) : List (Str × V) → List (Str × V)
  | [] => [(f, v)]
  | (g, x) :: r => if g = f then (g, v) :: r else (g, x) :: putF f v r
theorem lookup_putF (f g : Str) (v : V) : ∀ fs : List (Str × V), (putF f v fs).lookup g = if g = f then some v else fs.lookup g
  | [] => by
    show List.lookup g [(f, v)] = _
    by_cases h : g = f
    · have hb : (g == f) = true := beq_iff_eq.mpr h
      simp only [List.lookup, hb, if_pos h]
    · have hb : (g == f) = false := beq_eq_false_iff_ne.mpr h
      simp only [List.lookup, hb, if_neg h]
  | (k, x) :: r => by
    have ih := lookup_putF f g v r
    rw [show putF f v ((k, x) :: r) = (if k = f then (k, v) :: r else (k, x) :: putF f v r) from rfl]
    by_cases hk : k = f
    · rw [if_pos hk]
      by_cases h : g = k
      · have hb : (g == k) = true := beq_iff_eq.mpr h
        simp only [List.lookup, hb, if_pos (h.trans hk)]
      · have hb : (g == k) = false := beq_eq_false_iff_ne.mpr h
        simp only [List.lookup, hb, if_neg (fun e : g = f => h (e.trans hk.symm))]
    · rw [if_neg hk]
      by_cases h : g = k
      · have hb : (g == k) = true := beq_iff_eq.mpr h
        simp only [List.lookup, hb, if_neg (fun e : g = f => hk (h.symm.trans e))]
      · have hb : (g == k) = false := beq_eq_false_iff_ne.mpr h
        simp only [List.lookup, hb]
        exact ih
theorem keys_putF (f : Str) (v : V) : ∀ fs : List (Str × V), f ∈ (putF f v fs).map (·.1) ∧ ∀ g, g ∈ fs.map (·.1) → g ∈ (putF f v fs).map (·.1)
  | [] => ⟨by simp [putF], fun g h => by simp at h⟩
  | (k, x) :: r => by
    obtain ⟨i1, i2⟩ := keys_putF f v r
    rw [show putF f v ((k, x) :: r) = (if k = f then (k, v) :: r else (k, x) :: putF f v r) from rfl]
    by_cases hk : k = f
    · rw [if_pos hk]
      subst hk
      exact ⟨by simp, fun g h => by simpa using h⟩
    · rw [if_neg hk]
      refine ⟨?_, fun g h => ?_⟩
      · rw [List.map_cons]
        exact List.mem_cons_of_mem _ i1
      · rw [List.map_cons] at h ⊢
        rcases List.mem_cons.mp h with e | e
        · exact List.mem_cons.mpr (.inl e)
        · exact List.mem_cons_of_mem _ (i2 g e)
theorem length_putF (f : Str) (v : V) : ∀ fs : List (Str × V), (putF f v fs).length ≤ fs.length + 1
  | [] => by simp [putF]
  | (k, x) :: r => by
    have ih := length_putF f v r
    rw [show putF f v ((k, x) :: r) = (if k = f then (k, v) :: r else (k, x) :: putF f v r) from rfl]
    by_cases hk : k = f
    · rw [if_pos hk, List.length_cons, List.length_cons]; omega
    · rw [if_neg hk, List.length_cons, List.length_cons]; omega

theorem RelO.some_of {v : V} {o : Option Value} (r : RelO (some v) o) : ∃ u, o = some u ∧ RelV v u := by
  cases o with
  | none => exact (show False from r).elim
  | some u => exact ⟨u, rfl, r⟩
theorem RelO.none_of {o : Option Value} (r : RelO none o) : o = none := by
  cases o with
  | none => rfl
  | some u => exact (show False from r).elim
theorem handed_of {v : V} {u : Value} (r : RelV v u) : PySem.W.handedIn u = true := by
  cases v with
  | non => cases (show u = Value.none from r); rfl
  | bl b => cases (show u = Value.bool b from r); rfl
  | int i => obtain ⟨t, e⟩ := (show ∃ t, u = Value.int i t from r); cases e; rfl
  | str x => obtain ⟨t, e⟩ := (show ∃ t, u = Value.str x t from r); cases e; rfl
  | byt b => obtain ⟨t, e⟩ := (show ∃ t, u = Value.bytes b t from r); cases e; rfl
  | flt b => obtain ⟨t, e⟩ := (show ∃ t, u = Value.float b t from r); cases e; rfl
  | ref a => cases (show u = Value.ref a from r); rfl
  | ty n => cases (show u = Value.type n from r); rfl

section
variable {P : Program} {w : World} {H H' : Hp} {h h' : Heap} {a C dx : Addr} {fs fs' : List (Str × V)}
theorem ins_get (hok : HOk P w H h) (e : H a = some (.ins C dx fs)) : ∃ mA, ObjM h a dx C mA ∧ (∀ f, RelO (fs.lookup f) (mA f)) ∧ PySem.Within mA (fs.map (·.1)) ∧ fs.length ≤ 1000 ∧ H dx = some (.own a) := by
  obtain ⟨d, z, ne, ob, mA, n, r, q⟩ := (show ObjOk P w H h a (.ins C dx fs) from hok a _ e)
  exact ⟨mA, ⟨ob, n, ne⟩, r, q, z, d⟩
end

/-! ### what of the text a class must have -/
structure Cls (K : PySem.W.Frag) (C : Addr) : Prop where
  pg : PySem.W.plainGet K C Str.empty = true
  hd : PySem.W.hasDictIn K C = true
  po : PySem.W.plainOver K C = true
  sa : PySem.W.findIn K (.ref C) "__setattr__" = some (some (.builtin "object.__setattr__"))
theorem Cls.get {K : PySem.W.Frag} {C : Addr} (c : Cls K C) (f : Str) : PySem.W.plainGet K C f = true := c.pg
/-- no class of it has the name -/
def NoAttr (K : PySem.W.Frag) (C : Addr) (f : Str) : Prop := PySem.W.findIn K (.ref C) f = some none
theorem NoAttr.taker {K : PySem.W.Frag} {C : Addr} {f : Str} (n : NoAttr K C f) : PySem.W.takerIn K C f = some none := by
  unfold PySem.W.takerIn
  rw [show PySem.W.findIn K (.ref C) f = some none from n]
  rfl
/-- a method: a plain def of the class or of one above it -/
structure Meth (K : PySem.W.Frag) (C : Addr) (m : Str) (f : Addr) : Prop where
  at_ : PySem.W.findIn K (.ref C) m = some (some (.ref f))
  fn : PySem.W.isFn K (.ref f) = true
  kp : PySem.W.keepIn K (.ref f) = true

section
variable {X : Cx} {pins : List (Addr × Obj)} {σ : St} {H : Hp} {s : Shared} {a C dx : Addr} {fs : List (Str × V)} {f : Str} {v : V} {A : Around} {E : Value → Shared → Prop}

theorem getattr_ok {b : Bool} {Q : Value → Shared → Prop} (I : Inv X pins σ H s) (e : H a = some (.ins C dx fs)) (c : Cls X.K C) (n : NoAttr X.K C f) (l : fs.lookup f = some v)
    (h : ∀ u s', Inv X pins σ H s' → RelV v u → Q u s') : wpAny (model X.prog X.w) A (getAttr (.ref a) f b) Q E s := by
  obtain ⟨mA, O, r, _, _, _⟩ := ins_get I.hok e
  obtain ⟨u, hu, ru⟩ := RelO.some_of (v := v) (o := mA f) (by rw [← l]; exact r f)
  exact get_map I.kIn O (c.get f) c.hd n hu (handed_of ru) (h u _ (I.tok _) ru)


theorem getmeth_ok {m : Str} {g : Addr} {pl : Sem Bool} {Q : Value × List Value → Shared → Prop} (I : Inv X pins σ H s) (e : H a = some (.ins C dx fs)) (c : Cls X.K C) (k : Meth X.K C m g) (l : fs.lookup m = none)
    (h : Q (.ref g, [.ref a]) s) : wpAny (model X.prog X.w) A (getMethod (.ref a) m pl) Q E s := by
  obtain ⟨mA, O, r, _, _, _⟩ := ins_get I.hok e
  have hn : mA m = none := RelO.none_of (by rw [← l]; exact r m)
  exact get_meth I.kIn O (c.get m) k.at_ k.fn hn h

theorem setattr_ok {y : V} {u : Value} {Q : Unit → Shared → Prop} (I : Inv X pins σ H s) (e : H a = some (.ins C dx fs)) (c : Cls X.K C) (n : NoAttr X.K C f) (hl : fs.length < 1000) (ry : RelV y u)
    (h : ∀ s', Inv X pins σ (upd H a (.ins C dx (putF f y fs))) s' → Q () s') : wpAny (model X.prog X.w) A (setAttr (.ref a) f u) Q E s := by
  obtain ⟨mA, O, r, wi, _, ho⟩ := ins_get I.hok e
  have hz : (fs.map (·.1)).length ≤ sizeLine := by rw [List.length_map, sizeLine_eq]; omega
  refine set_map I.kIn O c.sa c.po n.taker c.hd wi hz fun h' O' sb => h _ ?_
  have hd : ∃ o, h'.get? dx = some o := let ⟨o, _, _, e', _⟩ := O'.ns; ⟨o, e'⟩
  refine I.write (x := a) (e := dx) (by rw [e]; exact True.intro) (.inr ho) (fun b q hb z => (sb.2 b hb).trans z) hd ?_
  refine ⟨by rw [upd_ne O.ne]; exact ho, ?_, O.ne, O'.obj, _, O'.ns, fun g => ?_, fun g hg => ?_⟩
  · have := length_putF f y fs; omega
  · show RelO ((putF f y fs).lookup g) (if g = f then some u else mA g)
    rw [lookup_putF]
    by_cases q : g = f
    · rw [if_pos q, if_pos q]; exact ry
    · rw [if_neg q, if_neg q]; exact r g
  · by_cases q : g = f
    · rw [q]; exact (keys_putF f y fs).1
    · refine (keys_putF f y fs).2 g (wi g fun z => hg ?_)
      show (if g = f then some u else mA g) = none
      rw [if_neg q]; exact z

/-- a new instance, tracked, without attributes -/
theorem Inv.made (I : Inv X pins σ H s) : Inv X pins σ (upd (upd H s.heap.objs.size (.own (s.heap.objs.size + 1))) (s.heap.objs.size + 1) (.ins C s.heap.objs.size []))
    { s with heap := (s.heap.push PySem.W.emptyDict).push (PySem.W.instObj C s.heap.objs.size) } := by
  have e1 : (s.heap.push PySem.W.emptyDict).get? s.heap.objs.size = some PySem.W.emptyDict := Heap.get?_push_size s.heap rfl
  have e2 : ((s.heap.push PySem.W.emptyDict).push (PySem.W.instObj C s.heap.objs.size)).get? (s.heap.objs.size + 1) = some (PySem.W.instObj C s.heap.objs.size) := by
    have := Heap.get?_push_size (s.heap.push PySem.W.emptyDict) (o := PySem.W.instObj C s.heap.objs.size) rfl
    rwa [Heap.size_push] at this
  have e3 : (s.heap.push PySem.W.emptyDict).Ns s.heap.objs.size (fun _ => none) := ⟨PySem.W.emptyDict, #[], _, e1, rfl, (fun e he => absurd he (by simp)), fun _ => rfl⟩
  have I1 := I.laid (a := s.heap.objs.size) (o := .own (s.heap.objs.size + 1)) (h' := s.heap.push PySem.W.emptyDict) (t' := s.toks) (fun b u q => Heap.get?_push_of_some _ q) (Nat.le_refl _) ⟨_, e1⟩
  refine I1.laid (a := s.heap.objs.size + 1) (o := .ins C s.heap.objs.size []) (t' := s.toks) (fun b u q => Heap.get?_push_of_some _ q) (Nat.le_of_eq (Heap.size_push _ _)) ?_
  have ne : s.heap.objs.size ≠ s.heap.objs.size + 1 := Nat.ne_of_lt (Nat.lt_succ_self _)
  refine ⟨by rw [upd_ne ne, upd_same], Nat.zero_le _, ne, e2, fun _ => none, (Heap.Ns1.of_empty e3).at fun o q => Heap.get?_push_of_some _ q, fun _ => True.intro, fun y hy => absurd rfl hy⟩

/-- e.f where nothing but the object is asked: through attributeBase (super) and the last hold -/
theorem attr_of {prog : Program} {w : World} {env : Env} {e : Expr} {f : Str} {pos : Pos} {s : Shared} {Q : Value → Shared → Prop} (hb : attributeBase e f env (eval e env) = eval e env)
    (h : wpAny (model prog w) A (eval e env) (fun o s₁ => wpAny (model prog w) A (getAttr o f true) Q E s₁) E s) : wpAny (model prog w) A (eval (.Attribute e f pos) env) Q E s :=
  Attribute_any_ h (by rw [arm_eval_Attribute, hb])
end

/-! ### readings and rules -/
/-- e.f, an attribute of the instance -/
def tFld (K : PySem.W.Frag) (ta : TE) (f : Str) : TE := fun σ H Q => ta σ H fun x H1 => ∃ a C dx fs v, x = .ref a ∧ H1 a = some (.ins C dx fs) ∧ Cls K C ∧ NoAttr K C f ∧ fs.lookup f = some v ∧ Q v H1
/-- e.f = value -/
def sFld (K : PySem.W.Frag) (ta tv : TE) (f : Str) : TS := fun D σ H => tv σ H fun y H1 => ta σ H1 fun x H2 => ∃ a C dx fs, x = .ref a ∧ H2 a = some (.ins C dx fs) ∧ Cls K C ∧ NoAttr K C f ∧ fs.length < 1000 ∧
  D.nx σ (upd H2 a (.ins C dx (putF f y fs)))

section
variable {X : Cx} {o e value : Expr} {f : Str} {pos pos' tpos : Pos} {ta tv : TE}
theorem pe_fld (he : PE X e ta) (hb : attributeBase e f X.env (eval e X.env) = eval e X.env) : PE X (.Attribute e f pos) (tFld X.K ta f) := by
  intro pins s σ H Q I h
  refine attr_of hb (thn (he pins s σ H _ I h) fun u s1 ⟨x, H1, I1, rx, a, C, dx, fs, v, ex, ea, c, n, l, q⟩ => ?_)
  subst ex
  obtain rfl : u = Value.ref a := rx
  exact getattr_ok I1 ea c n l fun u' s2 I2 ru => ⟨v, H1, I2, ru, q⟩
theorem ps_fld (ha : PE X o ta) (hv : PE X value tv) (hs : swapsWith value (some (.Attribute o f pos')) pos.line X.env = pure false) : PS X (.Assign [.Attribute o f pos'] value pos) (sFld X.K ta tv f) := by
  intro pins s σ H D I h
  refine plainObj_wpAny_Assign_Attribute (thn (hv pins s σ H _ I h) fun u s1 ⟨y, H1, I1, ry, q⟩ => thn (ha pins s1 σ H1 _ I1 q) fun ov s2 ⟨x, H2, I2, rx, a, C, dx, fs, ex, ea, c, n, l, q2⟩ => ?_) hs
  subst ex
  obtain rfl : ov = Value.ref a := rx
  exact setattr_ok I2 ea c n l ry fun s3 I3 => ⟨σ, _, I3, q2⟩

/-- what is between an instance and its method: the tree of a method call -/
theorem methcall_of {pl : Sem Bool} {m : Str} {apos : Pos} {args : List Expr} {pins : List (Addr × Obj)} {s : Shared} {σ : St} {H : Hp} {Q : Value → Shared → Prop} {te : TE} (he : PE X e te) (I : Inv X pins σ H s)
    (h : te σ H fun x H1 => ∃ a C dx fs g, x = .ref a ∧ H1 a = some (.ins C dx fs) ∧ Cls X.K C ∧ Meth X.K C m g ∧ fs.lookup m = none ∧
      ∀ s1, Inv X pins σ H1 s1 → wpAny (model X.prog X.w) X.A (callWith pos (.ref g) [.ref a] (backTo pos (starEach args X.env)) (backToKw pos (keywordEach [] X.env))) Q X.xe s1)
    (ht : eval (.Call (.Attribute e m apos) args [] pos) X.env = (do
      let ov ← eval e X.env
      standAt apos.atName
      let (f, first) ← holding [ov] (getMethod ov m pl)
      callWith pos f first (backTo pos (starEach args X.env)) (backToKw pos (keywordEach [] X.env)))) :
    wpAny (model X.prog X.w) X.A (eval (.Call (.Attribute e m apos) args [] pos) X.env) Q X.xe s := by
  refine PySem.W.methodCall_KW (pl := pl) (thn (he pins s σ H _ I h) fun u s1 ⟨x, H1, I1, rx, a, C, dx, fs, g, ex, ea, c, k, l, q⟩ => ?_) ht
  subst ex
  obtain rfl : u = Value.ref a := rx
  exact getmeth_ok I1 ea c k l (q s1 I1)
end

/-! ### isinstance -/
section
variable {X : Cx} {pins : List (Addr × Obj)} {σ : St} {H : Hp} {s : Shared} {A : Around} {E : Value → Shared → Prop} {Q : Value → Shared → Prop} {c : Value} {b : Bool}
/-- the type of a value, as the fragment's deciders take it; for an instance its class -/
inductive TyOf (K : PySem.W.Frag) (H : Hp) : V → Value → Prop where
  | non : TyOf K H .non (.type "NoneType")
  | bl (x : Bool) : TyOf K H (.bl x) (.type "bool")
  | int (i : Int) : TyOf K H (.int i) (.type "int")
  | str (x : Str) : TyOf K H (.str x) (.type "str")
  | flt (x : UInt64) : TyOf K H (.flt x) (.type "float")
  | lst {a : Addr} {xs : List V} (e : H a = some (.lst xs)) : TyOf K H (.ref a) (.type "list")
  | frz {a : Addr} {o : Obj} {xs : List V} (e : H a = some (.frz o (.lst xs))) : TyOf K H (.ref a) (.type "list")
  | tup {a : Addr} {xs : List V} (e : H a = some (.tup xs)) : TyOf K H (.ref a) (.type "tuple")
  | dK {a : Addr} {kvs : List (Key × V)} (e : H a = some (.dK kvs)) : TyOf K H (.ref a) (.type "dict")
  | dT {a : Addr} {kvs : List (List Key × V)} (e : H a = some (.dT kvs)) : TyOf K H (.ref a) (.type "dict")
  | ins {a C dx : Addr} {fs : List (Str × V)} (e : H a = some (.ins C dx fs)) (cl : Cls K C) (ha : PySem.W.findIn K (.ref C) "__class__" = some (some (.builtin "object.__class__")))
      (hn : PySem.W.specialIn K (.builtin "object.__class__") "__get__" = some (some (.builtin "getset_descriptor.__get__"))) (htk : PySem.W.takesIn K (.builtin "object.__class__") = some true)
      (hm : PySem.W.mroIn K C (.type "object") = some true) : TyOf K H (.ref a) (.ref C)
/-- isinstance(x, c) for one class c, a built-in or an own one: kitOne's answer -/
theorem isinst_ok {x : V} {u t : Value} (I : Inv X pins σ H s) (rx : RelV x u) (ty : TyOf X.K H x t) (e : PySem.W.kitOne X.K t c = some b) (h : ∀ tk, Q (.bool b) { s with toks := tk }) :
    wpAny (model X.prog X.w) A (call (.builtin "isinstance") [u, c]) Q E s := by
  cases ty with
  | non => cases (show u = Value.none from rx); exact PySem.W.kia_one PySem.W.kitx_none I.kIn True.intro e (fun z => nomatch z) h
  | bl y => cases (show u = Value.bool y from rx); exact PySem.W.kia_one PySem.W.kitx_bool I.kIn True.intro e (fun z => nomatch z) h
  | int i => obtain ⟨t, q⟩ := (show ∃ t, u = Value.int i t from rx); cases q; exact PySem.W.kia_one PySem.W.kitx_int I.kIn True.intro e (fun z => nomatch z) h
  | str y => obtain ⟨t, q⟩ := (show ∃ t, u = Value.str y t from rx); cases q; exact PySem.W.kia_one PySem.W.kitx_str I.kIn True.intro e (fun z => nomatch z) h
  | flt y => obtain ⟨t, q⟩ := (show ∃ t, u = Value.float y t from rx); cases q; exact PySem.W.kia_one PySem.W.kitx_float I.kIn True.intro e (fun z => nomatch z) h
  | @lst a xs ea =>
    cases (show u = Value.ref a from rx)
    obtain ⟨_, _, n, _, h1⟩ := (show ObjOk X.prog X.w H s.heap a (.lst xs) from I.hok a _ ea)
    exact PySem.W.kia_one PySem.W.kitx_list I.kIn ⟨_, h1, rfl⟩ e (fun z => nomatch z) h
  | @frz a ob xs ea =>
    cases (show u = Value.ref a from rx)
    obtain ⟨_, _, _, n, _, h1⟩ := (show ObjOk X.prog X.w H s.heap a (.frz ob (.lst xs)) from I.hok a _ ea)
    exact PySem.W.kia_one PySem.W.kitx_list I.kIn ⟨_, h1, rfl⟩ e (fun z => nomatch z) h
  | @tup a xs ea =>
    cases (show u = Value.ref a from rx)
    obtain ⟨_, _, _, p⟩ := (show ObjOk X.prog X.w H s.heap a (.tup xs) from I.hok a _ ea)
    obtain ⟨o, h1, h2, _⟩ := p
    exact PySem.W.kia_one PySem.W.kitx_tuple I.kIn ⟨o, h1, h2⟩ e (fun z => nomatch z) h
  | @dK a kvs ea =>
    cases (show u = Value.ref a from rx)
    obtain ⟨_, _, vs, _, p⟩ := (show ObjOk X.prog X.w H s.heap a (.dK kvs) from I.hok a _ ea)
    obtain ⟨o, es, ep, h1, h2, _⟩ := p
    exact PySem.W.kia_one PySem.W.kitx_dict I.kIn ⟨o, h1, h2.1⟩ e (fun z => nomatch z) h
  | @dT a kvs ea =>
    cases (show u = Value.ref a from rx)
    obtain ⟨_, _, xs, _, o, es, ep, h1, h2, _⟩ := (show ObjOk X.prog X.w H s.heap a (.dT kvs) from I.hok a _ ea)
    exact PySem.W.kia_one PySem.W.kitx_dict I.kIn ⟨o, h1, h2.1⟩ e (fun z => nomatch z) h
  | @ins a C dx fs ea cl ha hn htk hm =>
    cases (show u = Value.ref a from rx)
    obtain ⟨mA, O, _⟩ := ins_get I.hok ea
    obtain ⟨od, J, _⟩ := O.look
    exact PySem.W.kia_one (PySem.W.kitx_own (cl.get _) cl.hd ha hn htk hm) I.kIn J e (fun z => nomatch z) h
end
end L2

namespace L2
open PySem PySem.Spec PyProof.Rows

/-! ### room -/
structure Room (k : Nat) (A : Around) : Prop where
  hd : A.handled = none
  dp : A.depth + 3 * k + 5 < recursionLimit
  un : A.units + 16 * k + 200 < cLine
theorem Room.mono {j k : Nat} {A : Around} (r : Room k A) (h : j ≤ k) : Room j A := ⟨r.hd, by have := r.dp; omega, by have := r.un; omega⟩
theorem Room.deeper {k : Nat} {A : Around} (r : Room (k + 1) A) (env : Env) : Room k (A.deeper env) :=
  ⟨r.hd, by have := r.dp; show A.depth + 1 + 3 * k + 5 < _; omega, by have := r.un; show A.units + 3 + 16 * k + 200 < _; omega⟩
theorem make_depth {A : Around} {C : Addr} {us : List Value} {kw : List (Str × Value)} : (A.under (.builtin "type.__call__" ⟨.ref C :: us, kw⟩)).depth = A.depth + 1 := by
  first | rfl | simp [Around.under, Code.weight, Code.isCreation, Code.isGuard, Code.isCaller, Code.frames, Code.isFrame, guardIds]
theorem make_units {A : Around} {C : Addr} {us : List Value} {kw : List (Str × Value)} : (A.under (.builtin "type.__call__" ⟨.ref C :: us, kw⟩)).units = A.units + 1 := by
  first | rfl | simp [Around.under, Code.cUnits, Code.frames, Code.isFrame]
theorem Room.make {k : Nat} {A : Around} (r : Room (k + 1) A) (C : Addr) (us : List Value) (kw : List (Str × Value)) : Room k (A.under (.builtin "type.__call__" ⟨.ref C :: us, kw⟩)) :=
  ⟨r.hd, by have := r.dp; rw [make_depth]; omega, by have := r.un; rw [make_units]; omega⟩
theorem Room.depth {k : Nat} {A : Around} (r : Room k A) : A.depth < recursionLimit := by have := r.dp; omega
theorem Room.units {k : Nat} {A : Around} (r : Room k A) : A.units + 64 < cLine := by have := r.un; omega
theorem Room.units0 {k : Nat} {A : Around} (r : Room k A) : A.units < cLine := by have := r.un; omega

/-! ### argument lists and displays -/
def tNil : TA := fun _ H Q => Q [] H
def tCons (ta : TE) (tr : TA) : TA := fun σ H Q => ta σ H fun x H1 => tr σ H1 fun xs H2 => Q (x :: xs) H2
section
variable {X : Cx} {e : Expr} {es : List Expr} {te : TE} {t : TA} {pos : Pos}
theorem pa_nil : PA X [] tNil := fun _ _ _ _ H Q I h => Calls.spliced_nil ⟨[], H, I, .nil, h⟩
theorem pa_cons (ha : PE X e te) (hr : PA X es t) (hs : starEach (e :: es) X.env = (false, eval e X.env) :: starEach es X.env := by rfl) : PA X (e :: es) (tCons te t) := by
  intro pos pins s σ H Q I h
  rw [hs]
  show wpAny _ _ (spliced ((false, eval e X.env) :: backTo pos (starEach es X.env))) _ _ s
  refine Calls.spliced_cons (thn (ha pins s σ H _ I h) fun u s1 ⟨x, H1, I1, r1, q1⟩ => ?_)
  exact thn (hr pos pins s1 σ H1 _ I1 q1) fun us s2 ⟨xs, H2, I2, r2, q2⟩ => ⟨x :: xs, H2, I2, .cons r1 r2, q2⟩

/-- a tuple, a list of written items -/
def tTup (t : TA) : TE := fun σ H Q => t σ H fun xs H1 => xs.length ≤ sizeLine ∧ ∀ p, H1 p = none → Q (.ref p) (upd H1 p (.tup xs))
def tLst (t : TA) : TE := fun σ H Q => t σ H fun xs H1 => xs.length ≤ sizeLine ∧ ∀ p, H1 p = none → Q (.ref p) (upd H1 p (.lst xs))
theorem pe_tup {x1} (h : PA X es t) : PE X (.Tuple es x1 pos) (tTup t) := by
  intro pins s σ H Q I hq
  refine wpAny_Tuple_spliced (thn (h pos pins s σ H _ I hq) fun us s1 ⟨xs, H1, I1, r, z, q⟩ => ⟨by rw [← r.length]; exact z, ?_⟩)
  have hf : H1 s1.heap.objs.size = none := I1.hok.fresh (Nat.le_refl _)
  refine ⟨.ref s1.heap.objs.size, upd H1 s1.heap.objs.size (.tup xs), I1.laid (t' := s1.toks) (fun b u e => Heap.get?_push_of_some _ e) (Nat.le_refl _) ?_, rfl, q _ hf⟩
  exact ⟨z, us, r, ⟨_, Heap.get?_push_size _ rfl, rfl, _, rfl⟩⟩
theorem pe_lst (h : PA X es t) : PE X (.List es pos) (tLst t) := by
  intro pins s σ H Q I hq
  refine wpAny_List_spliced (thn (h pos pins s σ H _ I hq) fun us s1 ⟨xs, H1, I1, r, z, q⟩ => ⟨by rw [← r.length]; exact z, ?_⟩)
  have hf : H1 s1.heap.objs.size = none := I1.hok.fresh (Nat.le_refl _)
  refine ⟨.ref s1.heap.objs.size, upd H1 s1.heap.objs.size (.lst xs), I1.laid (t' := s1.toks) (fun b u e => Heap.get?_push_of_some _ e) (Nat.le_refl _) ?_, rfl, q _ hf⟩
  exact ⟨z, us, 0, r, Heap.get?_push_size _ rfl⟩
end

/-! ### what a def promises -/
/-- a def's promise: the bound arguments in the parameters' order, the heap, the wanted end, the wanted exception -/
abbrev Sp := List V → Hp → VK → XK → Prop
/-- how an exception lies behind a call (file 08 gives it): the callers' frames, abstract heap and state ahead of the call, the wish, the exception, the state -/
abbrev CXT := List Env → Hp → Shared → XK → Value → Shared → Prop

/-- the state at a call -/
structure Env0 (P : Program) (w : World) (K : PySem.W.Frag) (mg : Str → Option Value) (base : Heap) (A : Around) (outer : List Env) (s : Shared) (H : Hp) : Prop where
  frames : A.frames = some outer
  mod : Mod K mg base
  bs : ∀ b o, base.get? b = some o → s.heap.get? b = some o ∧ H b = none
  bsz : base.objs.size ≤ s.heap.objs.size
  funs : s.heap.FunFrames base outer
  frf : ∀ b ∈ frs outer, H b = none
  hok : HOk P w H s.heap
  bare : AllBare s.gens
/-- a call's end -/
def CE (outer : List Env) (P : Program) (w : World) (H : Hp) (s : Shared) (Q : VK) (u : Value) (s' : Shared) : Prop :=
  ∃ v H', s'.os = s.os ∧ AllBare s'.gens ∧ Un (frs outer) [] H H' s.heap s'.heap ∧ HOk P w H' s'.heap ∧ RelV v u ∧ Q v H'
def CR (CX : CXT) (outer : List Env) (P : Program) (w : World) (H : Hp) (s : Shared) (Q : VK) (E : XK) (r : Result) (s' : Shared) : Prop :=
  match r with
  | .ok (.ret u) => CE outer P w H s Q u s'
  | .ok _ => False
  | .error e => CX outer H s E e s'
structure FnOk (P : Program) (w : World) (K : PySem.W.Frag) (mg : Str → Option Value) (base : Heap) (CX : CXT) (k : Nat) (f : Addr) (fd : FuncData) (ps : List Str) (sp : Sp) : Prop where
  len : ∀ vs H Q E, sp vs H Q E → vs.length = ps.length
  run : ∀ (A : Around) (outer : List Env) (s : Shared) (H : Hp) (args : Args) (us : List Value) (vs : List V) (Q : VK) (E : XK), Room k A → Env0 P w K mg base A outer s H → BindsTo s fd args (ps.zip us) → Vals vs us → sp vs H Q E →
    codeAny (model P w) A (.call (.ref f) args) (CR CX outer P w H s Q E) s

theorem Env0.make {P : Program} {w : World} {K : PySem.W.Frag} {mg : Str → Option Value} {base : Heap} {A : Around} {outer : List Env} {s : Shared} {H : Hp} (e : Env0 P w K mg base A outer s H) (C : Addr) (us : List Value) (kw : List (Str × Value)) :
    Env0 P w K mg base (A.under (.builtin "type.__call__" ⟨.ref C :: us, kw⟩)) outer s H := ⟨by first | exact e.frames | (simpa [Around.under, Code.envs, Code.isFrame, pushEnvs] using e.frames), e.mod, e.bs, e.bsz, e.funs, e.frf, e.hok, e.bare⟩

section
variable {X : Cx} {pins : List (Addr × Obj)} {σ : St} {H : Hp} {s s' : Shared}
/-- from a body: what a callee wants -/
theorem Inv.env0 (I : Inv X pins σ H s) : Env0 X.prog X.w X.K X.mg X.base X.A X.stack s H :=
  ⟨I.ok.frames, I.ok.mod, I.bs, Nat.le_trans I.ok.bsz I.sz, I.stack, I.stkFree, I.hok, I.bare⟩
/-- behind a call -/
theorem Inv.after {Q : VK} {u : Value} (I : Inv X pins σ H s) (h : CE X.stack X.prog X.w H s Q u s') : EP X pins σ Q u s' := by
  obtain ⟨v, H', os, bare, un, hok, r, q⟩ := h
  obtain ⟨hh, g, d, t, os'⟩ := s'
  obtain rfl : os' = s.os := os
  exact ⟨v, H', I.call (h' := hh) (g' := g) (d' := d) (t' := t) (ch := []) un hok bare (fun b z => absurd z (by simp)), r, q⟩
end

/-! ### calls -/
/-- f(..): the written arguments, then the defaults dvs; E: what is wanted of an exception -/
def tCall (sp : Sp) (dvs : List V) (E : XK) (t : TA) : TE := fun σ H Q => t σ H fun vs H1 => sp (vs ++ dvs) H1 Q E
/-- o.m(..) of an instance of the class at C -/
def tMeth (C : Addr) (m : Str) (sp : Sp) (dvs : List V) (E : XK) (ta : TE) (t : TA) : TE := fun σ H Q => ta σ H fun x H1 => ∃ a dx fs, x = .ref a ∧ H1 a = some (.ins C dx fs) ∧ fs.lookup m = none ∧
  t σ H1 fun vs H2 => sp (x :: (vs ++ dvs)) H2 Q E
/-- C(..): a new instance and its dict, then __init__ -/
def tMake (C : Addr) (sp : Sp) (dvs : List V) (E : XK) (t : TA) : TE := fun σ H Q => t σ H fun vs H1 => ∀ x dx, H1 x = none → H1 dx = none → dx ≠ x →
  sp (.ref x :: (vs ++ dvs)) (upd (upd H1 dx (.own x)) x (.ins C dx [])) (fun v H2 => v = .non ∧ Q (.ref x) H2) E

/-- how the parameters are bound: us the positional arguments, kw the keywords' values by name, ds the defaults that fill up -/
def Binds (K : PySem.W.Frag) (fd : FuncData) (ps : List Str) (ds : List Value) : Prop :=
  ∀ (s : Shared) (us : List Value), K.In s.heap → (us ++ ds).length = ps.length → BindsTo s fd ⟨us, []⟩ (ps.zip (us ++ ds))
/-- every parameter is given -/
theorem Binds.all {K : PySem.W.Frag} {fd : FuncData} {ps : List Str} (h : ∀ us : List Value, us.length = ps.length → bindArgs fd ⟨us, []⟩ = pure (ps.zip us)) : Binds K fd ps [] := fun s us _ hl => by
  rw [List.append_nil] at hl ⊢
  exact .of_eq (h us hl)

/-- an exception of a callee reaches what this body wants of exceptions -/
def Passes (CX : CXT) (X : Cx) (E : XK) : Prop := ∀ (pins : List (Addr × Obj)) (σ : St) (H : Hp) (s : Shared) (e : Value) (s' : Shared), Inv X pins σ H s → CX X.stack H s E e s' → X.xe e s'

section
variable {X : Cx} {CX : CXT} {k : Nat} {f C : Addr} {fd : FuncData} {ps : List Str} {sp : Sp} {dvs : List V} {ds : List Value} {E : XK} {x m : Str} {p pos apos : Pos} {e o : Expr} {es : List Expr} {ta : TE} {t : TA}

/-- the callee runs -/
theorem run_fn {pins : List (Addr × Obj)} {σ : St} {H : Hp} {s : Shared} {Q : VK} {us : List Value} {vs : List V} (F : FnOk X.prog X.w X.K X.mg X.base CX k f fd ps sp) (hr : Room k X.A) (hb : Binds X.K fd ps ds) (hd : Vals dvs ds) (hx : Passes CX X E)
    (I : Inv X pins σ H s) (r : Vals vs us) (h : sp (vs ++ dvs) H Q E) : wpAny (model X.prog X.w) X.A (call (.ref f) us) (EP X pins σ Q) X.xe s := by
  have r2 : Vals (vs ++ dvs) (us ++ ds) := r.append hd
  have hl : (us ++ ds).length = ps.length := by rw [← r2.length]; exact F.len _ _ _ _ h
  refine wpAny_call (codeAny_mono (F.run X.A X.stack s H ⟨us, []⟩ (us ++ ds) (vs ++ dvs) Q E hr I.env0 (hb s us I.kIn hl) r2 h) fun r s' hq => ?_)
  cases r with
  | error e => exact hx pins σ H s e s' I hq
  | ok fl =>
    cases fl with
    | ret u => exact I.after hq
    | next => exact False.elim hq
    | brk => exact False.elim hq
    | cont => exact False.elim hq

theorem pe_call (F : FnOk X.prog X.w X.K X.mg X.base CX k f fd ps sp) (hr : Room k X.A) (hg : Gl X x) (hm : X.mg x = some (.ref f)) (hk : PySem.W.keepIn X.K (.ref f) = true) (hb : Binds X.K fd ps ds) (hd : Vals dvs ds) (hx : Passes CX X E)
    (ha : PA X (e :: es) t) (hdb : (x == ("__debug__" : Str)) = false := by decide) (he : starEach (e :: es) X.env = (false, eval e X.env) :: starEach es X.env := by rfl) (hpl : (backTo pos (starEach es X.env)).any (·.1) = false := by rfl) :
    PE X (.Call (.Name x p) (e :: es) [] pos) (tCall sp dvs E t) := by
  intro pins s σ H Q I h
  refine wpAny_Call_Name_kw (ld_glob I hg hm ?_ hdb)
  refine PySem.W.callWith_K (h₀ := X.base) I.ok.mod.kin hk (thn (ha pos pins s σ H _ I h) fun us s1 ⟨vs, H1, I1, r, q⟩ => ⟨I1.kIn, ?_⟩) he hpl
  exact run_fn F hr hb hd hx I1 r q

/-- o.m(e, ..) -/
theorem pe_meth {pl : Sem Bool} (he : PE X o ta) (c : Cls X.K C) (hm : Meth X.K C m f) (F : FnOk X.prog X.w X.K X.mg X.base CX k f fd ps sp) (hr : Room k X.A) (hb : Binds X.K fd ps ds) (hd : Vals dvs ds) (hx : Passes CX X E) (ha : PA X (e :: es) t)
    (hst : starEach (e :: es) X.env = (false, eval e X.env) :: starEach es X.env := by rfl) (hpl : (backTo pos (starEach es X.env)).any (·.1) = false := by rfl)
    (ht : eval (.Call (.Attribute o m apos) (e :: es) [] pos) X.env = (do
      let ov ← eval o X.env
      standAt apos.atName
      let (f, first) ← holding [ov] (getMethod ov m pl)
      callWith pos f first (backTo pos (starEach (e :: es) X.env)) (backToKw pos (keywordEach [] X.env))) := by rfl) :
    PE X (.Call (.Attribute o m apos) (e :: es) [] pos) (tMeth C m sp dvs E ta t) := by
  intro pins s σ H Q I h
  refine PySem.W.methodCall_KW (pl := pl) (thn (he pins s σ H _ I h) fun u s1 ⟨x, H1, I1, rx, a, dx, fs, ex, ea, l, q⟩ => ?_) ht
  subst ex
  obtain rfl : u = Value.ref a := rx
  refine getmeth_ok I1 ea c hm l ?_
  refine PySem.W.callWith_K (first := [.ref a]) (h₀ := X.base) I.ok.mod.kin hm.kp (thn (ha pos pins s1 σ H1 _ I1 q) fun us s2 ⟨vs, H2, I2, r, q2⟩ => ⟨I2.kIn, ?_⟩) hst hpl
  exact run_fn (us := .ref a :: us) (vs := .ref a :: vs) F hr hb hd hx I2 (.cons rfl r) q2

/-- what a class must have to be made -/
structure Mk (K : PySem.W.Frag) (C f : Addr) : Prop where
  makes : PySem.W.makesIn K C = true
  init : PySem.W.findIn K (.ref C) "__init__" = some (some (.ref f))
  fn : PySem.W.isFn K (.ref f) = true
  kp : PySem.W.keepIn K (.ref C) = true

theorem run_make {pins : List (Addr × Obj)} {σ : St} {H : Hp} {s : Shared} {Q : VK} {us : List Value} {vs : List V} (M : Mk X.K C f) (F : FnOk X.prog X.w X.K X.mg X.base CX k f fd ps sp) (hr : Room (k + 1) X.A) (hb : Binds X.K fd ps ds) (hd : Vals dvs ds)
    (hx : Passes CX X E) (I : Inv X pins σ H s) (r : Vals vs us)
    (h : ∀ x dx, H x = none → H dx = none → dx ≠ x → sp (.ref x :: (vs ++ dvs)) (upd (upd H dx (.own x)) x (.ins C dx [])) (fun v H2 => v = .non ∧ Q (.ref x) H2) E) :
    wpAny (model X.prog X.w) X.A (call (.ref C) us) (EP X pins σ Q) X.xe s := by
  have hq := h (s.heap.objs.size + 1) s.heap.objs.size (I.hok.fresh (Nat.le_succ _)) (I.hok.fresh (Nat.le_refl _)) (Nat.ne_of_lt (Nat.lt_succ_self _))
  have I2 := Inv.made (C := C) I
  have r2 : Vals (V.ref (s.heap.objs.size + 1) :: (vs ++ dvs)) (Value.ref (s.heap.objs.size + 1) :: (us ++ ds)) := .cons rfl (r.append hd)
  have hl : (Value.ref (s.heap.objs.size + 1) :: us ++ ds).length = ps.length := by
    have e := r2.length
    rw [F.len _ _ _ _ hq] at e
    exact e.symm
  refine wpAny_call (make_map (f := f) I.kIn M.makes M.init (beq_iff_eq.mp M.fn) (codeAny_mono (F.run _ X.stack _ _ ⟨Value.ref (s.heap.objs.size + 1) :: us, []⟩ (Value.ref (s.heap.objs.size + 1) :: (us ++ ds)) _ _ E (hr.make C us [])
    (I2.env0.make C us []) (hb _ (Value.ref (s.heap.objs.size + 1) :: us) I2.kIn hl) r2 hq) fun r s' hq' => ?_))
  cases r with
  | error e => exact hx pins σ _ _ e s' I2 hq'
  | ok fl =>
    cases fl with
    | ret u =>
      obtain ⟨v, H', I3, rv, ev, q3⟩ := I2.after hq'
      subst ev
      exact ⟨rv, ⟨V.ref (s.heap.objs.size + 1), H', I3, rfl, q3⟩⟩
    | next => exact False.elim hq'
    | brk => exact False.elim hq'
    | cont => exact False.elim hq'
theorem pe_make (M : Mk X.K C f) (F : FnOk X.prog X.w X.K X.mg X.base CX k f fd ps sp) (hr : Room (k + 1) X.A) (hg : Gl X x) (hm : X.mg x = some (.ref C)) (hb : Binds X.K fd ps ds) (hd : Vals dvs ds) (hx : Passes CX X E)
    (ha : PA X (e :: es) t) (hdb : (x == ("__debug__" : Str)) = false := by decide) (he : starEach (e :: es) X.env = (false, eval e X.env) :: starEach es X.env := by rfl) (hpl : (backTo pos (starEach es X.env)).any (·.1) = false := by rfl) :
    PE X (.Call (.Name x p) (e :: es) [] pos) (tMake C sp dvs E t) := by
  intro pins s σ H Q I h
  refine wpAny_Call_Name_kw (ld_glob I hg hm ?_ hdb)
  refine PySem.W.callWith_K (h₀ := X.base) I.ok.mod.kin M.kp (thn (ha pos pins s σ H _ I h) fun us s1 ⟨vs, H1, I1, r, q⟩ => ⟨I1.kIn, ?_⟩) he hpl
  exact run_make M F hr hb hd hx I1 r q
theorem pe_make0 (M : Mk X.K C f) (F : FnOk X.prog X.w X.K X.mg X.base CX k f fd ps sp) (hr : Room (k + 1) X.A) (hg : Gl X x) (hm : X.mg x = some (.ref C)) (hb : Binds X.K fd ps ds) (hd : Vals dvs ds) (hx : Passes CX X E)
    (hdb : (x == ("__debug__" : Str)) = false := by decide) : PE X (.Call (.Name x p) [] [] pos) (tMake C sp dvs E tNil) := by
  intro pins s σ H Q I h
  refine wpAny_Call_Name_kw (ld_glob I hg hm ?_ hdb)
  exact PySem.W.callWith_K0 I.kIn M.kp (run_make (us := []) M F hr hb hd hx I .nil h)
end

/-! ### keywords -/
section
variable {X : Cx} {CX : CXT} {k : Nat} {f C : Addr} {fd : FuncData} {ps ks : List Str} {sp : Sp} {E : XK} {x m : Str} {p pos apos kpos : Pos} {e o : Expr} {es : List Expr} {kws : List Keyword} {te ta : TE} {t tk : TA} {nm : Option Str}

variable {g : List Value → List Value → List Value} {gV : List V → List V → List V}
end

/-! ### a def's body keeps its promise -/
/-- names: the parameters first -/
structure FnScope (N P : List Str) (sc : Scope) : Prop where
  kind : sc.kind = .function
  co : sc.isCoroutine = false
  gen : sc.isGenerator = false
  nd : N.Nodup
  pre : N.take P.length = P
  par : ∀ x ∈ P, sc.names.lookup x = some .local ∨ sc.names.lookup x = some .cell
  nofree : ∀ y ∈ sc.names, y.2 ≠ .free

theorem bindL_out {kindOf : Str → Option NameKind} {x : Str} : ∀ {binds : List (Str × Value)} {m : Str → Option Value}, (∀ v, (x, v) ∉ binds) → bindL kindOf binds m x = m x
  | [], _, _ => rfl
  | (n, v) :: r, m, h => by
    unfold bindL
    rw [bindL_out fun w hw => h w (List.mem_cons_of_mem _ hw)]
    split
    · have : x ≠ n := by rintro rfl; exact h v List.mem_cons_self
      simp [this]
    · rfl
theorem bindC_out {kindOf : Str → Option NameKind} {x : Str} : ∀ {binds : List (Str × Value)} {m : Str → Option Value}, (∀ v, (x, v) ∉ binds) → bindC kindOf binds m x = m x
  | [], _, _ => rfl
  | (n, v) :: r, m, h => by
    unfold bindC
    rw [bindC_out fun w hw => h w (List.mem_cons_of_mem _ hw)]
    split
    · rfl
    · have : x ≠ n := by rintro rfl; exact h v List.mem_cons_self
      simp [this]
theorem bindL_get {kindOf : Str → Option NameKind} {x : Str} {v : Value} : ∀ {P : List Str} {vs : List Value} {i : Nat} {m : Str → Option Value}, P.Nodup → P[i]? = some x → vs[i]? = some v → kindOf x = some .local →
    bindL kindOf (P.zip vs) m x = some v
  | [], _, _, _, _, h, _, _ => by simp at h
  | _ :: _, [], _, _, _, _, h, _ => by simp at h
  | p :: P, w :: vs, 0, m, nd, h1, h2, hk => by
    simp at h1 h2; subst h1; subst h2
    show bindL kindOf ((p, w) :: P.zip vs) m p = _
    unfold bindL
    rw [bindL_out fun v hv => (List.nodup_cons.mp nd).1 (List.of_mem_zip hv).1, if_pos hk]
    simp
  | p :: P, w :: vs, i + 1, m, nd, h1, h2, hk => by
    show bindL kindOf ((p, w) :: P.zip vs) m x = _
    unfold bindL
    exact bindL_get (i := i) (List.nodup_cons.mp nd).2 (by simpa using h1) (by simpa using h2) hk
theorem bindC_get {kindOf : Str → Option NameKind} {x : Str} {v : Value} : ∀ {P : List Str} {vs : List Value} {i : Nat} {m : Str → Option Value}, P.Nodup → P[i]? = some x → vs[i]? = some v → kindOf x ≠ some .local →
    bindC kindOf (P.zip vs) m x = some v
  | [], _, _, _, _, h, _, _ => by simp at h
  | _ :: _, [], _, _, _, _, h, _ => by simp at h
  | p :: P, w :: vs, 0, m, nd, h1, h2, hk => by
    simp at h1 h2; subst h1; subst h2
    show bindC kindOf ((p, w) :: P.zip vs) m p = _
    unfold bindC
    rw [bindC_out fun v hv => (List.nodup_cons.mp nd).1 (List.of_mem_zip hv).1, if_neg hk]
    simp
  | p :: P, w :: vs, i + 1, m, nd, h1, h2, hk => by
    show bindC kindOf ((p, w) :: P.zip vs) m x = _
    unfold bindC
    exact bindC_get (i := i) (List.nodup_cons.mp nd).2 (by simpa using h1) (by simpa using h2) hk

/-- the names' values at the entry -/
def start (N : List Str) (vs : List V) : St := vs.map some ++ List.replicate (N.length - vs.length) none

/-- the context of a def's body, at its entry; an exception leaves the frame, then lies as CX says -/
def cxOf (CX : CXT) (P : Program) (w : World) (K : PySem.W.Frag) (mg : Str → Option Value) (base : Heap) (N : List Str) (qual : Str) (scope : Scope) (f : Addr) (cd : Value) (A : Around) (outer : List Env) (s : Shared) (H : Hp) (E : XK) : Cx where
  prog := P
  w := w
  K := K
  mg := mg
  base := base
  A := A.deeper (envOfC qual scope s.heap.objs.size f cd)
  N := N
  s₀ := s
  H₀ := H
  env := envOfC qual scope s.heap.objs.size f cd
  outer := outer
  stack := envOfC qual scope s.heap.objs.size f cd :: outer
  ex := []
  calm := true
  fn := fun _ => true
  pn := []
  xe := fun e s' => wpAny (model P w) (A.deeper (envOfC qual scope s.heap.objs.size f cd)) (leaving (envOfC qual scope s.heap.objs.size f cd) e) (fun _ s'' => CX outer H s E e s'') (fun e' s'' => CX outer H s E e' s'') s'

theorem cell_has {sc : Scope} {n : Nat} {x : Str} (h : sc.names.lookup x = some .cell) : ∃ c, (cellsFrom n sc.names []).lookup x = some c := by
  have q := PySem.W.cellsFrom_some sc.names n [] (.inl h)
  exact Option.isSome_iff_exists.mp q

theorem inv_start {CX : CXT} {P : Program} {w : World} {K : PySem.W.Frag} {mg : Str → Option Value} {base : Heap} {N ps : List Str} {qual : Str} {scope : Scope} {f : Addr} {cd : Value} {A : Around} {outer : List Env} {s s1 : Shared} {H : Hp} {E : XK} {us : List Value} {vs : List V}
    (S : FnScope N ps scope) (hd : A.handled = none) (e0 : Env0 P w K mg base A outer s H) (hl : vs.length = ps.length) (r : Vals vs us)
    (x : InCallC s s.heap.objs.size (bindL (envOfC qual scope s.heap.objs.size f cd).kindOf (ps.zip us) fun _ => none) (cellsFrom (s.heap.objs.size + 1) scope.names []) (bindC (envOfC qual scope s.heap.objs.size f cd).kindOf (ps.zip us) fun _ => none) s1) :
    Inv (cxOf CX P w K mg base N qual scope f cd A outer s H E) [] (start N vs) H s1 := by
  have hpl : ps.length ≤ N.length := by have := congrArg List.length S.pre; rw [List.length_take] at this; omega
  obtain ⟨h1, tk, rfl, hk⟩ := x.done
  have noA : ∀ b : Addr, b ∉ (cxOf CX P w K mg base N qual scope f cd A outer s H E).ex := fun b z => absurd (show b ∈ ([] : List Addr) from z) (by simp)
  refine ⟨⟨e0.mod, S.kind, rfl, rfl, Nat.le_refl _, fun y z c h1 h2 => ?_, fun y hy => ?_, fun y c _ h => ?_, fun _ => hd, Around.frames_deeper e0.frames, .inr ⟨rfl, rfl⟩, fun b z => absurd z (noA b), e0.bs, e0.bsz, fun b _ _ => noA b, fun b z => absurd z (noA b), e0.funs, e0.frf⟩,
    rfl, e0.bare, Un.kept hk, ⟨_, x.toInCall.ns, fun i y v h1 h2 h3 => ?_⟩, fun y c h => ⟨_, x.cell y c h⟩, e0.hok.fresh (Nat.le_refl _), fun y c h => ?_, fun p hp => absurd (show p ∈ ([] : List (Addr × Obj)) from hp) (by simp), e0.hok.kept hk, ?_⟩
  · exact name_of_addr x.apart (PySem.mem_of_lookup h1) (PySem.mem_of_lookup h2)
  · have hy : scope.names.lookup y = some .cell ∨ scope.names.lookup y = some .free := hy
    rcases hy with hy | hy
    · exact cell_has hy
    · exact absurd rfl (S.nofree _ (PySem.mem_of_lookup hy))
  · exact Nat.le_of_lt (x.above y c (PySem.mem_of_lookup h))
  · have hi : i < vs.length := by
      unfold start at h2
      by_cases hi : i < vs.length
      · exact hi
      · rw [List.getElem?_append_right (by simpa using hi)] at h2
        rw [List.getElem?_replicate] at h2
        split at h2 <;> cases h2
    have ha : vs[i]? = some v := by
      unfold start at h2
      rw [List.getElem?_append_left (by simpa using hi), List.getElem?_map] at h2
      cases e : vs[i]? with
      | none => rw [e] at h2; cases h2
      | some a => rw [e] at h2; cases h2; rfl
    obtain ⟨u, hu, rv⟩ := r.get ha
    have hp : ps[i]? = some y := by
      rw [← S.pre, List.getElem?_take_of_lt (by omega)]; exact h1
    have ndP : ps.Nodup := by rw [← S.pre]; exact S.nd.sublist (List.take_sublist _ _)
    refine ⟨u, rv, ?_⟩
    rcases S.par y (List.mem_of_getElem? hp) with k | k
    · exact .inl ⟨k, bindL_get ndP hp hu k⟩
    · obtain ⟨c, e⟩ := cell_has (n := s.heap.objs.size + 1) k
      refine .inr ⟨.inl k, c, e, ?_⟩
      have q := x.cell y c e
      rw [bindC_get ndP hp hu (by show scope.names.lookup y ≠ _; rw [k]; decide)] at q
      exact q
  · exact e0.hok.fresh (Nat.le_of_lt (x.above y c (PySem.mem_of_lookup h)))
  · unfold start
    show _ = N.length
    rw [List.length_append, List.length_map, List.length_replicate]
    omega

/-- THE RULE: a def (or a method) of the text, by its body. The body's reading t is chosen for each entry; it is run at the parameters' values -/
theorem fn_of {CX : CXT} {P : Program} {w : World} {K : PySem.W.Frag} {mg : Str → Option Value} {base : Heap} {k : Nat} {f : Addr} {name qual : Str} {params : Arguments} {body : List Stmt} {scope : Scope} {dV kV doc pm cdv ct oc : Value} {an od : Option Addr}
    {osl : Array (Option Value)} {N ps : List Str} {sp : Sp} (lk : K.lookup f = some ⟨oc, od, .func (PySem.W.fnOf name qual params body scope dV kV doc pm an cdv ct), osl⟩) (hcd : PySem.W.codeIn K cdv qual = true) (S : FnScope N ps scope)
    (len : ∀ vs H Q E, sp vs H Q E → vs.length = ps.length)
    (hbody : ∀ (A : Around) (outer : List Env) (s : Shared) (H : Hp) (vs : List V) (Q : VK) (E : XK), Room k (A.deeper (envOfC qual scope s.heap.objs.size f cdv)) → sp vs H Q E →
      ∃ t, PSs (cxOf CX P w K mg base N qual scope f cdv A outer s H E) body t ∧ t { nx := fun _ H' => Q .non H', rt := Q } (start N vs) H) :
    FnOk P w K mg base CX (k + 1) f (PySem.W.fnOf name qual params body scope dV kV doc pm an cdv ct) ps sp := by
  refine ⟨len, fun A outer s H args us vs Q E hr e0 hb r hsp => ?_⟩
  have hl := len _ _ _ _ hsp
  have KX : K.In s.heap := e0.mod.kin.keeps fun b o e => (e0.bs b o e).1
  have lim : s.heap.NoLimit := e0.mod.nolimit.keeps fun b o e => (e0.bs b o e).1
  have hkind : ∀ y ∈ ps.zip us, scope.names.lookup y.1 = some .local ∨ (scope.names.lookup y.1 = some .cell ∧ ((cellsFrom (s.heap.objs.size + 1) scope.names []).lookup y.1).isSome = true) := fun ⟨n, v⟩ hy => by
    rcases S.par n (List.of_mem_zip hy).1 with q | q
    · exact .inl q
    · exact .inr ⟨q, PySem.W.cellsFrom_some _ _ _ (.inl q)⟩
  refine codeAny_call_function hr.depth (KX _ _ lk) rfl S.co S.gen rfl (PySem.W.codeRec_of KX hcd) (hb _ _ _ _ ?_)
  refine wpAny_newFunctionEnv_cells S.kind hkind fun env he s1 x => ?_
  subst he
  refine ⟨lim.keeps x.toInCall.keep, codeAny_func ?_⟩
  obtain ⟨t, ht, hq⟩ := hbody A outer s H vs Q E (hr.deeper _) hsp
  have I : Inv (cxOf CX P w K mg base N qual scope f cdv A outer s H E) [] (start N vs) H s1 := inv_start S hr.hd e0 hl r x
  refine wpAny_mono (ht [] s1 (start N vs) H _ I hq) (fun fl s' hs => ?_) fun e s' hs => hs
  have fin : ∀ {σ' : St} {H' : Hp} {v : V} {u : Value}, Inv (cxOf CX P w K mg base N qual scope f cdv A outer s H E) [] σ' H' s' → RelV v u → Q v H' → CE outer P w H s Q u s' :=
    fun {σ' H' v u} J rv q => ⟨v, H', J.os, J.bare, J.base, J.hok, rv, q⟩
  cases fl with
  | ret u =>
    obtain ⟨v, σ', H', J, rv, q⟩ := hs
    exact fin J rv q
  | next =>
    obtain ⟨σ', H', J, q⟩ := hs
    exact fin (v := V.non) (u := Value.none) J rfl q
  | brk =>
    obtain ⟨_, _, _, q⟩ := hs
    exact False.elim q
  | cont =>
    obtain ⟨_, _, _, q⟩ := hs
    exact False.elim q
end L2

namespace L2
open PySem PySem.Spec PyProof.Rows
section
variable {X : Cx} {x : Str} {p pos : Pos} {e : Expr} {es : List Expr} {t : TA} {id T : String} {r : List V → Hp → VK → Prop}

def tCB (r : List V → Hp → VK → Prop) (t : TA) : TE := fun σ H Q => t σ H fun vs H1 => r vs H1 Q
/-- f(e, ..), f a built-in function -/
theorem pe_callB (hc : CallR X (.builtin id) r) (hg : Gl X x) (hm : X.mg x = none) (hv : bootBuiltins x = some (.builtin id)) (ha : PA X (e :: es) t) (hn : x ≠ "__name__" := by decide) (hdb : (x == ("__debug__" : Str)) = false := by decide)
    (he : starEach (e :: es) X.env = (false, eval e X.env) :: starEach es X.env := by rfl) (hpl : (backTo pos (starEach es X.env)).any (·.1) = false := by rfl) : PE X (.Call (.Name x p) (e :: es) [] pos) (tCB r t) := by
  intro pins s σ H Q I h
  refine wpAny_Call_Name_kw (ld_blt I hg hm hv ?_ hn hdb)
  exact PyProof.Rows.callWith_builtin1 (thn (ha pos pins s σ H _ I h) fun us s1 ⟨vs, H1, I1, r1, q1⟩ => hc pins s1 σ H1 vs us Q I1 r1 q1) he hpl
/-- T(e, ..), T a built-in type -/
theorem pe_callTy (hc : CallR X (.type T) r) (hg : Gl X x) (hm : X.mg x = none) (hv : bootBuiltins x = some (.type T)) (ha : PA X (e :: es) t) (hn : x ≠ "__name__" := by decide) (hdb : (x == ("__debug__" : Str)) = false := by decide)
    (he : starEach (e :: es) X.env = (false, eval e X.env) :: starEach es X.env := by rfl) (hpl : (backTo pos (starEach es X.env)).any (·.1) = false := by rfl) : PE X (.Call (.Name x p) (e :: es) [] pos) (tCB r t) := by
  intro pins s σ H Q I h
  refine wpAny_Call_Name_kw (ld_blt I hg hm hv ?_ hn hdb)
  exact PyProof.Rows.callWith_type1 (thn (ha pos pins s σ H _ I h) fun us s1 ⟨vs, H1, I1, r1, q1⟩ => hc pins s1 σ H1 vs us Q I1 r1 q1) he hpl
end
end L2

namespace HT
open PySem PyProof.Rows



section
open PySem.SeqAt
open PySem.AutoSeq1 (wpAny_loadPart')
open PySem.MeetsSeq PySem.MeetsSeq2 PySem.MeetsSeq3

end

section
variable {prog : Program} {w : World} {A : Around} {E : Value → Shared → Prop} {s : Shared}



/-! ### t[a:b], not the whole -/
/-- a slice's bound as a place among n (d where it is left out) -/
def sIx (n d : Nat) : Option Int → Nat
  | none => d
  | some v => if v < 0 then (v + (n : Int)).toNat else min v.toNat n
theorem sIx_none (n d : Nat) : sIx n d none = d := rfl
theorem sIx_nat (n d k : Nat) : sIx n d (some (k : Int)) = min k n := by
  show (if (k : Int) < 0 then ((k : Int) + (n : Int)).toNat else min (k : Int).toNat n) = min k n
  rw [if_neg (by omega), Int.toNat_natCast]

end
end HT

namespace L2
open PySem PySem.Spec PyProof.Rows

/-! ### the parts of a slice -/
abbrev TO := St → Hp → (Option Int → Hp → Prop) → Prop
/-- a slice's part (left out, or an int) -/
def PO (X : Cx) (e : Option Expr) (t : TO) : Prop :=
  ∀ (pins : List (Addr × Obj)) (s : Shared) (σ : St) (H : Hp) (Q : Option Int → Hp → Prop), Inv X pins σ H s → t σ H Q →
    wpAny (model X.prog X.w) X.A (evalPart e X.env) (fun u s' => ∃ o H', Inv X pins σ H' s' ∧ IsPart u o ∧ Q o H') X.xe s
def tNoPart : TO := fun _ H Q => Q none H
def tPart (t : TE) : TO := fun σ H Q => t σ H fun x H1 => ∃ i, x = .int i ∧ Q (some i) H1

theorem intsAre_of {ns : List Int} : ∀ {us : List Value}, Vals (ns.map V.int) us → IntsAre us ns := by
  induction ns with
  | nil => intro us r; rw [List.map_nil] at r; cases r; exact .nil
  | cons n ns ih =>
    intro us r
    rw [List.map_cons] at r
    cases r with
    | cons r1 r2 =>
      obtain ⟨t, e⟩ := r1
      subst e
      exact .cons n t (ih r2)

section
variable {X : Cx} {e : Expr} {te : TE} {lo hi : Option Expr} {tl th : TO} {pos p2 : Pos}

theorem po_none : PO X none tNoPart := by
  intro pins s σ H Q I h
  rw [evalPart_none]
  exact wpAny_pure ⟨none, H, I, .none, h⟩
theorem po_some (h : PE X e te) : PO X (some e) (tPart te) := by
  intro pins s σ H Q I hw
  rw [evalPart_some]
  refine thn (h pins s σ H _ I hw) fun u s1 ⟨x, H1, I1, r1, q1⟩ => ?_
  obtain ⟨i, rfl, q⟩ := q1
  obtain ⟨t, rfl⟩ := r1
  exact ⟨some i, H1, I1, .int i t, q⟩

/-- what a slice of a value is, by values: the slice object stands at sl -/
def SlR (X : Cx) (r : V → Option Int → Option Int → Hp → VK → Prop) : Prop :=
  ∀ (pins : List (Addr × Obj)) (s : Shared) (σ : St) (H : Hp) (x : V) (v vl vu : Value) (lo hi : Option Int) (sl : Addr) (Q : VK), Inv X pins σ H s → RelV x v → s.heap.IsSliceOf sl vl vu .none → IsPart vl lo → IsPart vu hi → r x lo hi H Q →
    ∃ T id, typeLookup (.type T) "__getitem__" = pure (some (.builtin id)) ∧ s.TypeIs v T ∧ wpAny (model X.prog X.w) X.A (getItem v (.ref sl)) (EP X pins σ Q) X.xe s
def tSl (r : V → Option Int → Option Int → Hp → VK → Prop) (te : TE) (tl th : TO) : TE := fun σ H Q => te σ H fun x H1 => tl σ H1 fun l H2 => th σ H2 fun u H3 => r x l u H3 Q
/-- a[lo:hi], any a -/
theorem pe_slice {r : V → Option Int → Option Int → Hp → VK → Prop} (hr : SlR X r) (he : PE X e te) (hl : PO X lo tl) (hu : PO X hi th) : PE X (.Subscript e (.Slice lo hi none p2) pos) (tSl r te tl th) := by
  intro pins s σ H Q I h
  refine Subscript_ (thn (he pins s σ H _ I h) fun v s1 ⟨x, H1, I1, r1, q1⟩ => ?_)
  refine wpAny_Slice (thn (hl pins s1 σ H1 _ I1 q1) fun vl s2 ⟨l, H2, I2, pl, q2⟩ => thn (hu pins s2 σ H2 _ I2 q2) fun vu s3 ⟨u, H3, I3, pu, q3⟩ => ?_)
  rw [evalPart_none]
  refine wpAny_pure ?_
  have I4 : Inv X pins σ H3 { s3 with heap := s3.heap.push { cls := .type "slice", data := .fields #[vl, vu, .none] } } := I3.kept (t' := s3.toks) fun b ob q => Heap.get?_push_of_some _ q
  obtain ⟨T, id, hT, ht, hg⟩ := hr pins { s3 with heap := s3.heap.push { cls := .type "slice", data := .fields #[vl, vu, .none] } } σ H3 x v vl vu l u s3.heap.objs.size Q I4 r1 (Heap.IsSliceOf.new ..) pl pu q3
  show wpAny (model X.prog X.w) X.A (subscriptTail e (.Slice lo hi none p2) v (.ref s3.heap.objs.size)) (EP X pins σ Q) X.xe { s3 with heap := s3.heap.push { cls := .type "slice", data := .fields #[vl, vu, .none] } }
  exact tail_any (ops := [.ref s3.heap.objs.size, v]) ht hT hg (by with_unfolding_all rfl)

/-- the items of xs[lo:hi] -/
def cutV (xs : List V) (lo hi : Option Int) : List V := (xs.drop (HT.sIx xs.length 0 lo)).take (HT.sIx xs.length xs.length hi - HT.sIx xs.length 0 lo)
theorem cutV_length (xs : List V) (lo hi : Option Int) : (cutV xs lo hi).length ≤ xs.length := by
  unfold cutV
  rw [List.length_take, List.length_drop]
  omega

/-! ### t < u, t + u -/
end
end L2

namespace L2
open PySem PySem.Spec PyProof.Rows

/-! ### places -/
/-- the place that an index of any sign means -/
def ixN (n : Nat) (i : Int) : Option Nat := if 0 ≤ i then (if i < n then some i.toNat else none) else if -(n : Int) ≤ i then some (i + n).toNat else none
def atI {α : Type} (xs : List α) (i : Int) : Option α := (ixN xs.length i).bind fun j => xs[j]?
theorem ixN_seq {n : Nat} {i : Int} {j : Nat} (h : ixN n i = some j) : seqIndex? i n = some j ∧ j < n ∧ -(n : Int) ≤ i ∧ i < n := by
  unfold ixN at h
  by_cases h0 : 0 ≤ i
  · rw [if_pos h0] at h
    by_cases h1 : i < n
    · rw [if_pos h1] at h
      have e : i.toNat = j := Option.some.inj h
      exact ⟨by rw [seqIndex_of h0 h1, e], by omega, by omega, h1⟩
    · rw [if_neg h1] at h; cases h
  · rw [if_neg h0] at h
    by_cases h1 : -(n : Int) ≤ i
    · rw [if_pos h1] at h
      have e : (i + n).toNat = j := Option.some.inj h
      exact ⟨by rw [seqIndex_neg (by omega) h1, e], by omega, h1, by omega⟩
    · rw [if_neg h1] at h; cases h
theorem atI_get {α : Type} {xs : List α} {i : Int} {v : α} (h : atI xs i = some v) : ∃ j, seqIndex? i xs.length = some j ∧ xs[j]? = some v ∧ j < xs.length ∧ -(xs.length : Int) ≤ i ∧ i < xs.length := by
  unfold atI at h
  cases e : ixN xs.length i with
  | none => rw [e] at h; cases h
  | some j =>
    rw [e] at h
    obtain ⟨h1, h2, h3, h4⟩ := ixN_seq e
    exact ⟨j, h1, h, h2, h3, h4⟩
theorem atI_nat {α : Type} {xs : List α} {j : Nat} {v : α} (h : xs[j]? = some v) : atI xs (j : Int) = some v := by
  have hj : j < xs.length := (List.getElem?_eq_some_iff.mp h).1
  have e : ixN xs.length (j : Int) = some j := by
    unfold ixN
    rw [if_pos (by omega), if_pos (by omega)]; simp
  unfold atI; rw [e]; exact h
theorem atI_last {α : Type} (xs : List α) (v : α) : atI (xs ++ [v]) (-1) = some v := by
  have hl : (xs ++ [v]).length = xs.length + 1 := by simp
  have e : ixN (xs ++ [v]).length (-1) = some xs.length := by
    unfold ixN
    rw [hl, if_neg (by decide), if_pos (by omega)]
    congr 1
    omega
  unfold atI
  rw [e]
  show (xs ++ [v])[xs.length]? = some v
  simp

/-! ### what may be subscripted -/
/-- what stands as an index of a plain subscript -/
def PlainIx (b : Expr) : Prop := ∀ o i, subscripted b false o i = operate [o, i] (getItem o i)
/-- a subscript by values -/
def IxR (X : Cx) (r : R2) : Prop :=
  ∀ (value slice : Expr) (pins : List (Addr × Obj)) (s : Shared) (σ : St) (H : Hp) (x y : V) (v u : Value) (Q : VK), Inv X pins σ H s → RelV x v → RelV y u → r x y H Q →
    subscripted slice false v u = operate [v, u] (getItem v u) → wpAny (model X.prog X.w) X.A (subscriptTail value slice v u) (EP X pins σ Q) X.xe s
/-- a call of a builtin's method by values: the receiver, the arguments -/
def MtR (X : Cx) (id : String) (r : V → List V → Hp → VK → Prop) : Prop :=
  ∀ (pins : List (Addr × Obj)) (s : Shared) (σ : St) (H : Hp) (x : V) (xs : List V) (v : Value) (us : List Value) (Q : VK), Inv X pins σ H s → RelV x v → Vals xs us → r x xs H Q →
    wpAny (model X.prog X.w) X.A (call (.builtin id) (v :: us)) (EP X pins σ Q) X.xe s
section
variable {X : Cx} {a b : Expr} {ta tb : TE} {pos : Pos}
/-- a[b] -/
theorem pe_ix {r : R2} (hr : IxR X r) (ha : PE X a ta) (hb : PE X b tb) (hs : PlainIx b) : PE X (.Subscript a b pos) (tOp r ta tb) := by
  intro pins s σ H Q I h
  exact Subscript_ (binT ha hb I h fun v u s2 x y H2 I2 rx ry q => hr a b pins s2 σ H2 x y v u Q I2 rx ry q (hs _ _))

def rIxL (K : PySem.W.Frag) : R2 := fun x y H Q => ∃ p xs i v, x = .ref p ∧ y = .int i ∧ SqL K H p xs ∧ atI xs i = some v ∧ Q v H
def rIxT (K : PySem.W.Frag) : R2 := fun x y H Q => ∃ p xs i v, x = .ref p ∧ y = .int i ∧ SqT K H p xs ∧ atI xs i = some v ∧ Q v H
def rIxS : R2 := fun x y H Q => ∃ z i c, x = .str z ∧ y = .int i ∧ z.length ≤ sizeLine ∧ atI z.cps.toList i = some c ∧ Q (.str ⟨#[c]⟩) H
theorem ix_list : IxR X (rIxL X.K) := by
  intro value slice pins s σ H x y v u Q I rx ry h hs
  obtain ⟨p, xs, i, z, rfl, rfl, hq, he, q⟩ := h
  cases rx
  obtain ⟨t, rfl⟩ := ry
  obtain ⟨its, r, pl, hz⟩ := I.list hq
  obtain ⟨j, h1, h2, h3, h4, h5⟩ := atI_get he
  obtain ⟨w, ew, rw'⟩ := r.get h2
  have hl := r.length
  have hn := line63
  have fin : EP X pins σ Q w s := ⟨z, H, I, rw', q⟩
  by_cases h0 : 0 ≤ i
  · have hj : i.toNat = j := by
      rw [seqIndex_of h0 h5] at h1
      exact Option.some.inj h1
    exact item_listR pl.isList h0 (by omega) (by rw [hj]; simpa using ew) fin hs
  · have hj : (i + (its.toArray.size : Int)).toNat = j := by
      rw [seqIndex_neg (by omega) h4] at h1
      rw [List.size_toArray, ← hl]
      exact Option.some.inj h1
    exact subscriptTail_builtinR (x := w) pl.isList.typeIs slot_list_getitem.lookup
      (wpAny_getItem_list_neg (Q := fun r s' => r = w ∧ EP X pins σ Q r s') pl.isList (by omega) (by rw [List.size_toArray] <;> omega) (by omega) (by rw [hj]; simpa using ew) ⟨rfl, fin⟩) hs
theorem ix_tup : IxR X (rIxT X.K) := by
  intro value slice pins s σ H x y v u Q I rx ry h hs
  obtain ⟨p, xs, i, z, rfl, rfl, hq, he, q⟩ := h
  cases rx
  obtain ⟨t, rfl⟩ := ry
  obtain ⟨its, r, pl, hz⟩ := I.tuple hq
  obtain ⟨j, h1, h2, h3, h4, h5⟩ := atI_get he
  obtain ⟨w, ew, rw'⟩ := r.get h2
  have hl := r.length
  have hn := line63
  have fin : EP X pins σ Q w s := ⟨z, H, I, rw', q⟩
  exact subscriptTail_builtinR (x := w) pl.typeIs slot_tuple_getitem.lookup
    (getItem_tuple (j := j) (Q := fun r s' => r = w ∧ EP X pins σ Q r s') pl (by omega) (by omega) (by rw [List.size_toArray, ← hl]; exact h1) (by simpa using ew) ⟨rfl, fin⟩) hs
theorem ix_str : IxR X rIxS := by
  intro value slice pins s σ H x y v u Q I rx ry h hs
  obtain ⟨z, i, c, rfl, rfl, hz, he, q⟩ := h
  obtain ⟨t, rfl⟩ := rx
  obtain ⟨t', rfl⟩ := ry
  obtain ⟨j, h1, h2, h3, h4, h5⟩ := atI_get he
  have hl : z.cps.toList.length = z.length := by simp [Str.length]
  rw [hl] at h1 h4 h5
  have hn := line63
  exact tail_any (typeIs_str s z t) slot_str_getitem.lookup (getItem_str (c := c) (by
    have e1 : decide (i < -(2 ^ 63 : Int)) = false := decide_eq_false (by omega)
    have e2 : decide (i ≥ 2 ^ 63) = false := decide_eq_false (by omega)
    rw [e1, e2, Bool.or_false]) (by rw [h1]; simpa using h2) ⟨.str ⟨#[c]⟩, H, I.tok _, ⟨_, rfl⟩, q⟩) hs

/-! ### xs[i] = v, any sign -/
/-- the list's object behind a store -/
theorem mapSeq_set (its : List Value) (n j : Nat) (u : Value) : Obj.mapSeq (·.setIfInBounds j u) { cls := .type "list", data := .seq its.toArray n } = { cls := .type "list", data := .seq (its.set j u).toArray n } := by
  simp [Obj.mapSeq]
theorem Inv.lst {pins : List (Addr × Obj)} {σ : St} {H : Hp} {s : Shared} {p : Addr} {xs : List V} (I : Inv X pins σ H s) (h : H p = some (.lst xs)) :
    ∃ (its : List Value) (n : Nat), Vals xs its ∧ s.heap.get? p = some { cls := .type "list", data := .seq its.toArray n } ∧ xs.length ≤ sizeLine := by
  obtain ⟨z, its, n, r, e⟩ := I.hok p _ h
  exact ⟨its, n, r, e, z⟩
/-- the list at p is written by an update of its object -/
theorem Inv.lstUpd {pins : List (Addr × Obj)} {σ : St} {H : Hp} {s : Shared} {p : Addr} {xs ys : List V} {its its' : List Value} {n n' : Nat} {f : Obj → Obj} (I : Inv X pins σ H s) (h : H p = some (.lst xs))
    (ho : s.heap.get? p = some { cls := .type "list", data := .seq its.toArray n }) (hf : f { cls := .type "list", data := .seq its.toArray n } = { cls := .type "list", data := .seq its'.toArray n' }) (r : Vals ys its') (hz : ys.length ≤ sizeLine) (t : Nat) :
    Inv X pins σ (upd H p (.lst ys)) { s with heap := s.heap.update p f, toks := t } := by
  have e : (s.heap.update p f).get? p = some { cls := .type "list", data := .seq its'.toArray n' } := by
    rw [Heap.get?_update_self f ho (by rw [hf] <;> rfl), hf]
  refine I.write (x := p) (e := p) (by rw [h]; trivial) (.inl rfl) (fun b u hb q => (Heap.get?_update_other _ _ (Ne.symm hb)).trans q) ⟨_, e⟩ ?_
  exact ⟨hz, its', n', r, e⟩
def rSetL : V → V → V → Hp → (Hp → Prop) → Prop := fun o i v H Q => ∃ p xs k j, o = .ref p ∧ i = .int k ∧ H p = some (.lst xs) ∧ ixN xs.length k = some j ∧ Q (upd H p (.lst (xs.set j v)))
theorem set_list : PSet X rSetL := by
  intro pins s σ H o i v ov iv u Q I ro ri rv h
  obtain ⟨p, xs, k, j, rfl, rfl, hp, hj, q⟩ := h
  cases ro
  obtain ⟨t, rfl⟩ := ri
  obtain ⟨its, n, r, ho, hz⟩ := I.lst hp
  obtain ⟨h1, h2, h3, h4⟩ := ixN_seq hj
  have hl := r.length
  have hn := line63
  have I' : Inv X pins σ (upd H p (.lst (xs.set j v))) { s with heap := s.heap.update p (Obj.mapSeq (·.setIfInBounds j u)) } :=
    I.lstUpd hp ho (mapSeq_set its n j u) (r.set rv j) (by rw [List.length_set]; exact hz) s.toks
  by_cases h0 : 0 ≤ k
  · have hk : k.toNat = j := by
      rw [seqIndex_of h0 h4] at h1
      exact Option.some.inj h1
    exact PySem.W.ki_setAt ho h0 (by omega) (by rw [List.size_toArray, ← hl]; exact h4) (by rw [hk]; exact ⟨_, I', q⟩)
  · have hk : (k + (its.toArray.size : Int)).toNat = j := by
      rw [seqIndex_neg (by omega) h3] at h1
      rw [List.size_toArray, ← hl]
      exact Option.some.inj h1
    exact PySem.W.ki_setBack ho (by omega) (by rw [List.size_toArray, ← hl]; exact h3) (by omega) (by rw [hk]; exact ⟨_, I', q⟩)

/-! ### slices -/
theorem slice_bounds (lo hi : Option Int) (n : Nat) : (sliceBounds lo hi none n).1 = ((HT.sIx n 0 lo : Nat) : Int) ∧ (sliceBounds lo hi none n).2.1 = ((HT.sIx n n hi : Nat) : Int) ∧ (sliceBounds lo hi none n).2.2 = 1 := by
  refine ⟨?_, ?_, rfl⟩
  · cases lo with
    | none => simp [sliceBounds, HT.sIx]
    | some i =>
      simp only [sliceBounds, HT.sIx, Option.getD_none, show (1 : Int) > 0 by decide, if_true]
      by_cases h : i < 0
      · simp only [h, if_true] <;> omega
      · simp only [h, if_false] <;> omega
  · cases hi with
    | none => simp [sliceBounds, HT.sIx]
    | some i =>
      simp only [sliceBounds, HT.sIx, Option.getD_none, show (1 : Int) > 0 by decide, if_true]
      by_cases h : i < 0
      · simp only [h, if_true] <;> omega
      · simp only [h, if_false] <;> omega
theorem slicePick_cut (its : List Value) (lo hi : Option Int) : slicePick its.toArray lo hi none = ((its.drop (HT.sIx its.length 0 lo)).take (HT.sIx its.length its.length hi - HT.sIx its.length 0 lo)).toArray := by
  obtain ⟨h1, h2, h3⟩ := slice_bounds lo hi its.toArray.size
  unfold slicePick
  rw [h1, h2, h3]
  simp only [sliceRange_one, pick_run, List.size_toArray] <;> rfl
/-- xs[lo:hi] of a list: a new list -/
def rSlL (K : PySem.W.Frag) : V → Option Int → Option Int → Hp → VK → Prop := fun x lo hi H Q => ∃ a xs, x = .ref a ∧ SqL K H a xs ∧ ∀ p, H p = none → Q (.ref p) (upd H p (.lst (cutV xs lo hi)))
theorem sl_list : SlR X (rSlL X.K) := by
  intro pins s σ H x v vl vu lo hi sl Q I rx hs pl pu h
  obtain ⟨a, xs, rfl, hx, q⟩ := h
  cases rx
  obtain ⟨its, r, ht, hz⟩ := I.list hx
  have hlen := r.length
  refine ⟨"list", _, slot_list_getitem.lookup, ht.isList.typeIs, ?_⟩
  refine wpAny_getItem_list_slice ht.isList hs pl pu .none (by simp) ?_ (by rw [List.size_toArray] <;> omega)
  rw [slicePick_cut, ← hlen]
  refine ⟨.ref s.heap.objs.size, _, I.laid (t' := s.toks) (o := .lst (cutV xs lo hi)) (fun b ob q => Heap.get?_push_of_some _ q) (Nat.le_refl _) ?_, rfl, q _ (I.hok.fresh (Nat.le_refl _))⟩
  exact ⟨Nat.le_trans (cutV_length xs lo hi) hz, _, 0, (r.drop (HT.sIx xs.length 0 lo)).take (HT.sIx xs.length xs.length hi - HT.sIx xs.length 0 lo), Heap.get?_push_size _ rfl⟩

/-! ### in, not in: flat items -/
def flatV : V → Bool
  | .non => true
  | .bl _ => true
  | .int _ => true
  | .str _ => true
  | _ => false
/-- == of flat values -/
def eqV : V → V → Bool
  | .non, .non => true
  | .bl a, .bl b => a == b
  | .bl a, .int b => (if a then 1 else 0) == b
  | .int a, .bl b => a == (if b then 1 else 0)
  | .int a, .int b => a == b
  | .str a, .str b => a == b
  | _, _ => false
theorem eqAt_V {A : Around} {s : Shared} {y x : V} {u v : Value} (ry : RelV y u) (rx : RelV x v) (fy : flatV y = true) (fx : flatV x = true) : SeqAt.EqAt A s u v (eqV y x) := by
  cases y with
  | non =>
    cases ry
    cases x with
    | non => cases rx; exact SeqAt.EqAt.same _
    | bl b => cases rx; exact SeqAt.EqAt.none_bool b
    | int b => obtain ⟨t, rfl⟩ := rx; exact SeqAt.EqAt.none_int b t
    | str b => obtain ⟨t, rfl⟩ := rx; exact SeqAt.EqAt.none_str b t
    | _ => exact absurd (show false = true from fx) Bool.false_ne_true
  | bl a =>
    cases ry
    cases x with
    | non => cases rx; exact SeqAt.EqAt.bool_none a
    | bl b => cases rx; exact SeqAt.EqAt.bool_bool a b
    | int b => obtain ⟨t, rfl⟩ := rx; exact SeqAt.EqAt.bool_int a b t
    | str b => obtain ⟨t, rfl⟩ := rx; exact SeqAt.EqAt.bool_str a b t
    | _ => exact absurd (show false = true from fx) Bool.false_ne_true
  | int a =>
    obtain ⟨t', rfl⟩ := ry
    cases x with
    | non => cases rx; exact SeqAt.EqAt.int_none a t'
    | bl b => cases rx; exact SeqAt.EqAt.int_bool a t' b
    | int b => obtain ⟨t, rfl⟩ := rx; exact SeqAt.EqAt.int_int a t' b t
    | str b => obtain ⟨t, rfl⟩ := rx; exact SeqAt.EqAt.int_str a t' b t
    | _ => exact absurd (show false = true from fx) Bool.false_ne_true
  | str a =>
    obtain ⟨t', rfl⟩ := ry
    cases x with
    | non => cases rx; exact SeqAt.EqAt.str_none a t'
    | bl b => cases rx; exact SeqAt.EqAt.str_bool a t' b
    | int b => obtain ⟨t, rfl⟩ := rx; exact SeqAt.EqAt.str_int a t' b t
    | str b => obtain ⟨t, rfl⟩ := rx; exact SeqAt.EqAt.str_str a t' b t
    | _ => exact absurd (show false = true from fx) Bool.false_ne_true
  | _ => exact absurd (show false = true from fy) Bool.false_ne_true
/-- the items' answers, read off the values (a value's own answer does not lean on its token) -/
def eqU (x : V) (u : Value) : Bool := match u with
  | .none => eqV .non x
  | .bool b => eqV (.bl b) x
  | .int i _ => eqV (.int i) x
  | .str z _ => eqV (.str z) x
  | _ => false
theorem eqU_of {x y : V} {u : Value} (r : RelV y u) (f : flatV y = true) : eqU x u = eqV y x := by
  cases y with
  | non => cases r; rfl
  | bl b => cases r; rfl
  | int i => obtain ⟨t, rfl⟩ := r; rfl
  | str z => obtain ⟨t, rfl⟩ := r; rfl
  | _ => exact absurd (show false = true from f) Bool.false_ne_true
theorem any_eqU {x : V} : ∀ {xs : List V} {us : List Value}, Vals xs us → xs.all flatV = true → us.any (eqU x) = xs.any fun y => eqV y x
  | _, _, .nil, _ => rfl
  | y :: xs, u :: us, .cons r t, f => by
    rw [List.all_cons, Bool.and_eq_true] at f
    rw [List.any_cons, List.any_cons, eqU_of r f.1, any_eqU t f.2]
theorem mem_eqAt {A : Around} {s : Shared} {x : V} {v : Value} (rx : RelV x v) (fx : flatV x = true) : ∀ {xs : List V} {us : List Value}, Vals xs us → xs.all flatV = true → ∀ u ∈ us, SeqAt.EqAt A s u v (eqU x u)
  | _, _, .nil, _ => fun u hu => by cases hu
  | y :: xs, u :: us, .cons r t, f => fun u' hu => by
    rw [List.all_cons, Bool.and_eq_true] at f
    rcases List.mem_cons.mp hu with rfl | hu
    · rw [eqU_of r f.1]; exact eqAt_V r rx f.1 fx
    · exact mem_eqAt rx fx t f.2 u' hu
def inV (x : V) (xs : List V) : Bool := xs.any fun y => eqV y x
/-- x in a list or tuple of flat items -/
def rIn (K : PySem.W.Frag) (neg : Bool) : R2 := fun x y H Q => ∃ p xs, y = .ref p ∧ (SqL K H p xs ∨ SqT K H p xs) ∧ flatV x = true ∧ xs.all flatV = true ∧ Q (.bl (if neg then !inV x xs else inV x xs)) H
theorem op_in_seq : OpR X (compareOp .In) (rIn X.K false) := by
  intro pins s σ H x y v u Q I rx ry h
  obtain ⟨p, xs, rfl, hq, fx, fs, q⟩ := h
  cases ry
  rcases hq with hq | hq
  · obtain ⟨its, r, pl, hz⟩ := I.list hq
    refine SeqAt.in_listAt (eqU x) pl.isList (fun w hw => mem_eqAt rx fx r fs w (by simpa using hw)) ⟨.bl _, H, I, rfl, ?_⟩
    rw [show its.toArray.any (eqU x) = its.any (eqU x) by simp, any_eqU r fs]
    exact q
  · obtain ⟨its, r, pl, hz⟩ := I.tuple hq
    refine SeqAt.in_tupleAt (eqU x) pl (fun w hw => mem_eqAt rx fx r fs w (by simpa using hw)) ⟨.bl _, H, I, rfl, ?_⟩
    rw [show its.toArray.any (eqU x) = its.any (eqU x) by simp, any_eqU r fs]
    exact q
theorem op_notIn_seq : OpR X (compareOp .NotIn) (rIn X.K true) := by
  intro pins s σ H x y v u Q I rx ry h
  obtain ⟨p, xs, rfl, hq, fx, fs, q⟩ := h
  cases ry
  rcases hq with hq | hq
  · obtain ⟨its, r, pl, hz⟩ := I.list hq
    refine SeqAt.notIn_listAt (eqU x) pl.isList (fun w hw => mem_eqAt rx fx r fs w (by simpa using hw)) ⟨.bl _, H, I, rfl, ?_⟩
    rw [show its.toArray.any (eqU x) = its.any (eqU x) by simp, any_eqU r fs]
    exact q
  · obtain ⟨its, r, pl, hz⟩ := I.tuple hq
    refine SeqAt.notIn_tupleAt (eqU x) pl (fun w hw => mem_eqAt rx fx r fs w (by simpa using hw)) ⟨.bl _, H, I, rfl, ?_⟩
    rw [show its.toArray.any (eqU x) = its.any (eqU x) by simp, any_eqU r fs]
    exact q
theorem op_notIn_str : OpR X (compareOp .NotIn) (fun x y H Q => ∃ i j, x = .str i ∧ y = .str j ∧ Q (.bl (!(!(Builtin.Str.occurrences j i 0 j.length 1).isEmpty))) H) := by
  intro pins s σ H x y v u Q I rx ry h
  obtain ⟨i, j, rfl, rfl, q⟩ := h
  obtain ⟨t, rfl⟩ := rx
  obtain ⟨t', rfl⟩ := ry
  exact notIn_str ⟨.bl _, H, I, rfl, q⟩

/-! ### len, list(x), tuple(x) of any list or tuple that is read -/
theorem call_len_seq : CallR X (.builtin "len") (fun xs H Q => ∃ p ys, xs = [.ref p] ∧ (SqL X.K H p ys ∨ SqT X.K H p ys) ∧ Q (.int ys.length) H) := by
  intro pins s σ H xs us Q I r h
  obtain ⟨p, ys, rfl, hq, q⟩ := h
  obtain ⟨u, rfl, rx⟩ := vals1 r
  cases rx
  have hn := line63
  rcases hq with hq | hq
  · obtain ⟨its, r', pl, hz⟩ := I.list hq
    have hlen := r'.length
    exact Calls.call_len_list pl.isList (by simp only [List.size_toArray] <;> omega) ⟨.int ys.length, H, I.tok _, ⟨s.toks + 1, by rw [List.size_toArray, hlen]⟩, q⟩
  · obtain ⟨its, r', pl, hz⟩ := I.tuple hq
    have hlen := r'.length
    exact len_tuple pl (by simp only [List.size_toArray] <;> omega) ⟨.int ys.length, H, I.tok _, ⟨s.toks + 1, by rw [List.size_toArray, hlen]⟩, q⟩
theorem call_len_str : CallR X (.builtin "len") (fun xs H Q => ∃ z, xs = [.str z] ∧ z.length ≤ sizeLine ∧ Q (.int z.length) H) := by
  intro pins s σ H xs us Q I r h
  obtain ⟨z, rfl, hz, q⟩ := h
  obtain ⟨u, rfl, t, rfl⟩ := vals1 r
  have hn := line63
  exact len_str (by omega) ⟨.int z.length, H, I.tok _, ⟨_, rfl⟩, q⟩
theorem call_list_of : CallR X (.type "list") (fun xs H Q => ∃ p ys, xs = [.ref p] ∧ (SqL X.K H p ys ∨ SqT X.K H p ys) ∧ ∀ l, H l = none → Q (.ref l) (upd H l (.lst ys))) := by
  intro pins s σ H xs us Q I r h
  obtain ⟨p, ys, rfl, hq, q⟩ := h
  obtain ⟨u, rfl, rx⟩ := vals1 r
  cases rx
  have fin : ∀ (its : List Value), Vals ys its → ys.length ≤ sizeLine → ∀ (h' : Heap) (c' : Nat), (∀ b o', s.heap.get? b = some o' → h'.get? b = some o') →
      h'.get? s.heap.objs.size = some { cls := .type "list", dict := none, data := .seq its.toArray c', slots := #[] } → EP X pins σ Q (.ref s.heap.objs.size) { s with heap := h' } := fun its r' hz h' c' kp e =>
    ⟨.ref s.heap.objs.size, _, I.laid (t' := s.toks) kp (Nat.le_refl _) (show ObjOk X.prog X.w _ h' _ (.lst ys) from ⟨hz, its, c', r', e⟩), rfl, q _ (I.hok.fresh (Nat.le_refl _))⟩
  rcases hq with hq | hq
  · obtain ⟨its, r', pl, hz⟩ := I.list hq
    have hlen := r'.length
    obtain ⟨o, ho, hc, n, hd⟩ := pl.isList
    exact call_list_seq p (.inl rfl) ho hc hd (fun h' c' kp e => fin its r' hz h' c' kp e) (by simp only [List.size_toArray] <;> omega)
  · obtain ⟨its, r', pl, hz⟩ := I.tuple hq
    have hlen := r'.length
    obtain ⟨o, ho, hc, n, hd⟩ := pl
    exact call_list_seq p (.inr rfl) ho hc hd (fun h' c' kp e => fin its r' hz h' c' kp e) (by simp only [List.size_toArray] <;> omega)

/-! ### the call of a builtin's method: o.m(..) -/
/-- the value is of that builtin type -/
def tyV (K : PySem.W.Frag) (T : String) (x : V) (H : Hp) : Prop := match x with
  | .str _ => T = "str"
  | .int _ => T = "int"
  | .ref p => (T = "list" ∧ ∃ xs, SqL K H p xs) ∨ (T = "tuple" ∧ ∃ o, K.lookup p = some o ∧ o.cls = .type "tuple" ∧ o.dict = none) ∨
      (T = "dict" ∧ ((∃ kvs, H p = some (.dK kvs)) ∨ ∃ kvs, H p = some (.dT kvs))) ∨ (T = "set" ∧ ∃ S n, H p = some (.set S n))
  | _ => False
theorem tyV_is {pins : List (Addr × Obj)} {σ : St} {H : Hp} {s : Shared} {T : String} {x : V} {v : Value} (I : Inv X pins σ H s) (r : RelV x v) (ty : tyV X.K T x H) :
    s.TypeIs v T ∧ ∀ a, v = .ref a → ∃ ob, s.heap.get? a = some ob ∧ ob.dict = none := by
  cases x with
  | str z =>
    obtain ⟨t, rfl⟩ := r
    cases (show T = "str" from ty)
    exact ⟨typeIs_str s z t, fun _ e => nomatch e⟩
  | int i =>
    obtain ⟨t, rfl⟩ := r
    cases (show T = "int" from ty)
    exact ⟨typeIs_int s i t, fun _ e => nomatch e⟩
  | ref p =>
    cases r
    rcases ty with ⟨rfl, xs, hq⟩ | ⟨rfl, o, hk, hc, hd⟩ | ⟨rfl, hk⟩ | ⟨rfl, S, n, hk⟩
    · obtain ⟨its, _, pl, _⟩ := I.list hq
      refine ⟨pl.isList.typeIs, fun a e => ?_⟩
      cases e
      obtain ⟨o, n, e, c, hd, _⟩ := pl
      exact ⟨o, e, hd⟩
    · refine ⟨⟨o, I.kIn p o hk, hc⟩, fun a e => ?_⟩
      cases e
      exact ⟨o, I.kIn _ o hk, hd⟩
    · have z : ∃ o, s.heap.get? p = some o ∧ o.ExactDict := by
        rcases hk with ⟨kvs, hk⟩ | ⟨kvs, hk⟩
        · obtain ⟨_, _, _, _, o, _, _, e, ex, _⟩ := I.hok p _ hk
          exact ⟨o, e, ex⟩
        · obtain ⟨_, _, _, _, o, _, _, e, ex, _⟩ := I.hok p _ hk
          exact ⟨o, e, ex⟩
      obtain ⟨o, e, ex⟩ := z
      refine ⟨⟨o, e, ex.1⟩, fun a e2 => ?_⟩
      cases e2
      exact ⟨o, e, ex.2.1⟩
    · obtain ⟨o, _, _, _, e, ex, _⟩ := I.hok p _ hk
      refine ⟨⟨o, e, ex.1⟩, fun a e2 => ?_⟩
      cases e2
      exact ⟨o, e, ex.2.1⟩
  | _ => exact False.elim ty
def tBM (K : PySem.W.Frag) (T : String) (r : V → List V → Hp → VK → Prop) (to : TE) (t : TA) : TE := fun σ H Q => to σ H fun x H1 => tyV K T x H1 ∧ t σ H1 fun xs H2 => r x xs H2 Q
variable {o e : Expr} {es : List Expr} {to : TE} {t : TA} {name : Str} {apos cpos : Pos} {T id : String} {r : V → List V → Hp → VK → Prop}
theorem pe_bm (pa : PlainAttrs T) (slot : Slot T name id) (hty : typeOf (.builtin id) = pure (.type "method_descriptor")) (hm : MtR X id r) (ho : PE X o to) (ha : PA X (e :: es) t)
    (hbase : attributeBase o name X.env (eval o X.env) = eval o X.env := by rfl)
    (hfew : ((backTo cpos (starEach (e :: es) X.env)).all (fun x => !x.1) && (backToKw cpos (keywordEach [] X.env)).all (fun x => x.1.isSome)
      && decide ((e :: es).length + ([] : List Keyword).length + (if ([] : List Keyword).isEmpty then 0 else 1) < 30)) = true := by rfl)
    (hline : (apos.endLine == cpos.line) = true := by rfl) (hs : starEach (e :: es) X.env = (false, eval e X.env) :: starEach es X.env := by rfl) (hplain : (backTo cpos (starEach es X.env)).any (·.1) = false := by rfl) :
    PE X (.Call (.Attribute o name apos) (e :: es) [] cpos) (tBM X.K T r to t) := by
  intro pins s σ H Q I h
  refine wpAny_Call_method_late hbase hfew hline rfl (thn (ho pins s σ H _ I h) fun v s1 ⟨x, H1, I1, r1, ty, q1⟩ => ?_)
  obtain ⟨h1, h2⟩ := tyV_is I1 r1 ty
  refine ⟨T, id, pa, slot, hty, h1, h2, ?_⟩
  have hA := ha cpos pins s1 σ H1 _ I1 q1
  rw [hs] at hA ⊢
  refine Calls.callWith_builtin (by show (false || (backTo cpos (starEach es X.env)).any (·.1)) = false; rw [hplain] <;> rfl) (Calls.evalArgs_plain ?_)
  exact thn hA fun us s2 ⟨vs, H2, I2, r2, q2⟩ => hm pins s2 σ H2 x vs v us Q I2 r1 r2 q2
/- xs.append(e), list.index on a module's tuple .. are MtR facts of 06m -/
end
end L2

namespace L2
open PySem PySem.Spec PyProof.Rows

def MtM (X : Cx) (id : String) (r : V → List V → Hp → VK → Prop) : Prop :=
  ∀ (pins : List (Addr × Obj)) (s : Shared) (σ : St) (H : Hp) (x : V) (xs : List V) (v : Value) (us : List Value) (Q : VK), Inv X pins σ H s → RelV x v → Vals xs us → r x xs H Q →
    wpAny (model X.prog X.w) X.A (call (.builtin id) (v :: us)) (EP X pins σ Q) X.xe s

/-! ### lists of values -/
theorem Vals.one : ∀ {x : V} {us : List Value}, Vals [x] us → ∃ u, us = [u] ∧ RelV x u
  | _, _, .cons r .nil => ⟨_, rfl, r⟩
theorem Vals.reverse {xs : List V} {us : List Value} (h : Vals xs us) : Vals xs.reverse us.reverse := by
  induction h with
  | nil => exact .nil
  | cons r t ih => rw [List.reverse_cons, List.reverse_cons]; exact Vals.append ih (.cons r .nil)
theorem Vals.rep {xs : List V} {us : List Value} (h : Vals xs us) : ∀ k : Nat, Vals (List.replicate k xs).flatten (List.replicate k us).flatten
  | 0 => .nil
  | k + 1 => by
    rw [List.replicate_succ, List.replicate_succ, List.flatten_cons, List.flatten_cons]
    exact Vals.append h (Vals.rep h k)

section
variable {X : Cx} {pins : List (Addr × Obj)} {σ : St} {H : Hp} {s : Shared} {l b : Addr} {xs ys zs : List V}

/-! ### the two steps: a tracked list is rewritten, a new list is laid -/
theorem Inv.lset {its its' : List Value} {n : Nat} {f : Array Value → Array Value} {t' : Nat} (I : Inv X pins σ H s) (hH : H l = some (.lst xs))
    (e : s.heap.get? l = some { cls := .type "list", data := .seq its.toArray n }) (hf : f its.toArray = its'.toArray) (hv : Vals ys its') (hz : ys.length ≤ sizeLine) :
    Inv X pins σ (upd H l (.lst ys)) { s with heap := s.heap.update l (Obj.mapSeq f), toks := t' } := by
  have q := PySem.IsL.update e f
  rw [hf] at q
  refine I.write (x := l) (e := l) (by rw [hH]; exact trivial) (.inl rfl) (fun b' u hb hu => (Heap.get?_update_other s.heap (Obj.mapSeq f) (Ne.symm hb)).trans hu) ⟨_, q⟩ ?_
  exact ⟨hz, its', _, hv, q⟩
theorem Inv.lnew {its : List Value} {t' : Nat} (I : Inv X pins σ H s) (hv : Vals ys its) (hz : ys.length ≤ sizeLine) :
    Inv X pins σ (upd H s.heap.objs.size (.lst ys)) { s with heap := s.heap.push { cls := .type "list", data := .seq its.toArray }, toks := t' } :=
  I.laid (fun _ _ q => Heap.get?_push_of_some _ q) (Nat.le_refl _) ⟨hz, its, 0, hv, Heap.get?_push_size _ rfl⟩
theorem Inv.fresh (I : Inv X pins σ H s) : H s.heap.objs.size = none := I.hok.fresh (Nat.le_refl _)
theorem Inv.lstM (I : Inv X pins σ H s) (hH : H l = some (.lst xs)) : xs.length ≤ sizeLine ∧ ∃ (its : List Value) (n : Nat), Vals xs its ∧ xs.length = its.length ∧ s.heap.get? l = some { cls := .type "list", data := .seq its.toArray n } := by
  obtain ⟨z, its, n, r, e⟩ := I.hok l _ hH
  exact ⟨z, its, n, r, r.length, e⟩

theorem notLongL {n : Nat} (h : n ≤ sizeLine) : Builtin.List.listTooLong n = false := by
  unfold Builtin.List.listTooLong
  exact decide_eq_false (by omega)
end

section
variable {X : Cx}

/-! ### methods -/
def rAppend : V → List V → Hp → VK → Prop := fun x vs H Q => ∃ l xs y, x = .ref l ∧ vs = [y] ∧ H l = some (.lst xs) ∧ xs.length < sizeLine ∧ Q .non (upd H l (.lst (xs ++ [y])))
theorem mt_append : MtM X "list.append" rAppend := by
  intro pins s σ H x vs v us Q I rx rv h
  obtain ⟨l, xs, y, rfl, rfl, hH, hz, q⟩ := h
  cases rx
  obtain ⟨u, rfl, ru⟩ := rv.one
  obtain ⟨z, its, n, r, hl, e⟩ := I.lstM hH
  refine call_meets F.slot_list_append ⟨_, e, rfl⟩ F.entry_list_append (F.args_list_append_2 _ _) (PySem.list_append l its.toArray n u (by rw [List.size_toArray]; omega)) ⟨e, ?_⟩
  refine ⟨.non, _, I.lset (its' := its ++ [u]) hH e (by simp) (r.append (.cons ru .nil)) ?_, rfl, q⟩
  rw [List.length_append, List.length_singleton]
  omega

def rExtend : V → List V → Hp → VK → Prop := fun x vs H Q => ∃ l b xs zs, x = .ref l ∧ vs = [.ref b] ∧ H l = some (.lst xs) ∧ H b = some (.lst zs) ∧ xs.length + zs.length ≤ sizeLine ∧ Q .non (upd H l (.lst (xs ++ zs)))
theorem mt_extend : MtM X "list.extend" rExtend := by
  intro pins s σ H x vs v us Q I rx rv h
  obtain ⟨l, b, xs, zs, rfl, rfl, hH, hB, hz, q⟩ := h
  cases rx
  obtain ⟨u, rfl, ru⟩ := rv.one
  cases ru
  obtain ⟨z, its, n, r, hl, e⟩ := I.lstM hH
  obtain ⟨z2, its2, n2, r2, hl2, e2⟩ := I.lstM hB
  have hsz : its.toArray.size + its2.toArray.size ≤ sizeLine := by rw [List.size_toArray, List.size_toArray]; omega
  have hlong : ¬ (!its.toArray.isEmpty && Builtin.List.listTooLong (its.toArray.size + its2.toArray.size)) = true := by
    rw [notLongL hsz, Bool.and_false]
    exact Bool.false_ne_true
  refine call_meets F.slot_list_extend ⟨_, e, rfl⟩ F.entry_list_extend (F.args_list_extend_2 _ _)
    (AutoSeq1.list_extend_list_list_0 l its.toArray n b its2.toArray n2 hlong (by rw [List.size_toArray]; omega) (by omega)) ⟨e, e2, ?_⟩
  refine ⟨.non, _, I.lset (its' := its ++ its2) hH e (by simp) (r.append r2) ?_, rfl, q⟩
  rw [List.length_append]
  omega





/-! ### list + list, list += list, list * int -/
def rCat : R2 := fun x y H Q => ∃ l b xs zs, x = .ref l ∧ y = .ref b ∧ H l = some (.lst xs) ∧ H b = some (.lst zs) ∧ xs.length + zs.length ≤ sizeLine ∧ ∀ p, H p = none → Q (.ref p) (upd H p (.lst (xs ++ zs)))
theorem op_cat : OpR X (binaryOp .Add) rCat := by
  intro pins s σ H x y v u Q I rx ry h
  obtain ⟨l, b, xs, zs, rfl, rfl, hH, hB, hz, q⟩ := h
  cases rx
  cases ry
  obtain ⟨z, its, n, r, hl, e⟩ := I.lstM hH
  obtain ⟨z2, its2, n2, r2, hl2, e2⟩ := I.lstM hB
  refine PySem.P.add_list e e2 ?_ (by rw [List.size_toArray, List.size_toArray]; omega)
  have ea : its.toArray ++ its2.toArray = (its ++ its2).toArray := by simp
  rw [ea]
  exact ⟨.ref _, _, I.lnew (t' := s.toks) (r.append r2) (by rw [List.length_append]; omega), rfl, q _ I.fresh⟩
theorem len_rep {α : Type} (xs : List α) (k : Nat) : (List.replicate k xs).flatten.length = k * xs.length := by
  induction k with
  | zero => simp
  | succ k ih => rw [List.replicate_succ, List.flatten_cons, List.length_append, ih, Nat.succ_mul, Nat.add_comm]

/-! ### del xs[i] -/
end

/-! ### xs[a:b] = ys -/
section
variable {prog : Program} {w : World} {A : Around} {E : Value → Shared → Prop} {s : Shared}
end

section
variable {X : Cx}
end
end L2

namespace Att
open PySem PySem.W PySem.Calls PyProof.Rows

/-! ### the script -/
theorem ints_of_wellAll {P : Params} {h : Heap} : ∀ (ns : List Int) (vs : List Value), WellAll P h vs (ns.map WData.int) → IntsAre vs ns := by
  intro ns
  induction ns with
  | nil =>
    intro vs w
    rw [List.map_nil] at w
    cases w
    exact .nil
  | cons n ns ih =>
    intro vs w
    rw [List.map_cons] at w
    cases w with
    | cons a b =>
      cases a
      exact .cons _ _ (ih _ b)

theorem script_of {l : OpenLaw} {n : Nat} (hn : l.most = some n) {P : Params} {h : Heap} {args : List WData} {vals : List Value}
    (hpre : l.row.toRowW.claim.pre args = true) (hwl : WellAll P h vals args) :
    ∃ a vs ns, vals = [Value.ref a] ∧ args = [WData.list (ns.map WData.int)] ∧ h.get? a = some { cls := .type "list", data := .seq vs.toArray } ∧ IntsAre vs ns ∧ ns.length ≤ n := by
  have hsh : WShape.hasAll [] args [.list .int] = true := (pre_splitW hpre).1
  have hc : l.pre.holds [] { args := args } = true := (pre_splitW hpre).2
  obtain ⟨d, r, rfl, h1, h2⟩ := hasAllW_cons hsh
  obtain rfl := hasAllW_nil h2
  obtain ⟨xs, rfl, h3⟩ := hasW_list h1
  obtain ⟨ns, rfl⟩ := items_int h3
  have hlen : ns.length ≤ n := by
    unfold OpenLaw.pre at hc
    have h4 : (WTm.not (.lt (.lit (.int (n : Int))) (.len (.arg 0)))).holds [] { args := [.list (ns.map .int)] } = true := by
      have h4 := (holds_andW hc).1
      rw [hn] at h4
      exact h4
    have h5 := condW_of h4 (w_not (w_lt w_lit (w_len_list (w_arg rfl))))
    rw [List.length_map] at h5
    refine Nat.le_of_not_lt fun q => ?_
    have q' : (n : Int) < ((ns.length : Nat) : Int) := by omega
    first
      | (rw [decide_eq_true q'] at h5; exact absurd h5 (by decide))
      | (simp at h5; omega)
  cases hwl with
  | cons w1 w2 =>
    cases w2
    cases w1 with
    | list ho hall => exact ⟨_, _, ns, rfl, rfl, ho, ints_of_wellAll ns _ hall, hlen⟩

theorem post_true (l : OpenLaw) (args : List WData) : l.row.toRowW.claim.post args (.bool true) args = true :=
  postW_of (r := l.row.toRowW) (X := (true == true))
    (show WShape.has [] (.bool true) .bool = true by first | rfl | decide | simp [WShape.has, WShape.arms, WShape.armsAll])
    (show (WTm.eq .res (.lit (.bool true))).value [] { args := args, res := some (.bool true), after := args } = some (.bool (true == true)) from w_eq_bool (w_res rfl) w_lit) rfl

/-! ### the attachment: holds_open's last premise (the goal 'hc' behind k_head) from a wpAny of the law's body -/

/-- the same from a codeAny of the CALL (for a layer whose function contracts speak of calls) -/
theorem attach_call {l : OpenLaw} {n : Nat} {q : Program} {loose : List Str} {XP : (Str → Option Value) → Heap → Prop} {YP : World → Heap → Prop} {d : DefRec}
    (hn : l.most = some n) (hdf : d.params.defaults = [])
    (call : ∀ (w : World) (s₀ s₁ : Shared) (mg mb : Str → Option Value) (fa : Addr) (o : Obj) (pm cd doc : Value) (a : Addr) (vs : List Value) (ns : List Int),
      Ground q loose [] XP w s₀ mg mb s₁.heap → YP w s₁.heap →
      s₁.heap.get? fa = some o → o.data = .func (docDef d.name d.params d.body d.scope pm cd doc) → s₁.heap.CodeRec cd d.name → mg d.name = some (.ref fa) →
      s₁.heap.get? a = some { cls := .type "list", data := .seq vs.toArray } → IntsAre vs ns → ns.length ≤ n → s₁.gens = #[] →
      codeAny (model l.prog w) callerA (.call (.ref fa) ⟨[.ref a], []⟩) (fun r s' => r = .ok (.ret (.bool true)) ∧ OldK s₁.heap s'.heap ∧ s'.os = s₁.os ∧ AllBare s'.gens) s₁) :
    WalkO q loose XP YP l.row.toRowW d [] (fun f vs => PySem.call f vs) := by
  intro w s₀ s₁ mg mb G Y fa o pm cd doc dV kV ho hd hcd hD hmg hg args vals as hpre hlay hrd hwl hlo
  obtain rfl : dV = .none := Dflts.none hD hdf
  obtain rfl : kV = .none := Dflts.noKw hD
  obtain ⟨a, vs, ns, rfl, rfl, hobj, hints, hlen⟩ := script_of hn hpre hwl
  refine enter_call (codeAny_mono (call w s₀ s₁ mg mb fa o pm cd doc a vs ns G Y ho (fd_plain hd) hcd hmg hobj hints hlen hg) fun r s' hq => ?_)
  obtain ⟨rfl, h2, h3, h4⟩ := hq
  exact ⟨.inl ⟨.bool true, .bool true, [], rfl, fun _ => rfl, .bool true, post_true l _, fun _ => ⟨List.Pairwise.nil, fun _ hm => (nomatch hm)⟩⟩, h2, h3, h4⟩


/-! ### rules over ANY heap (no ledger) from facts about the written part K: the library's own take a ledger (News) for what they write -/
section
variable {prog : Program} {w : World} {A : Around} {E : Value → Shared → Prop} {s : Shared} {K : Frag}





/-! the whole heap as the ledger: makes every rule that writes through a ledger a rule over any heap -/

end
end Att

namespace L2
open PySem PySem.Spec PyProof.Rows

theorem vals_ints : ∀ {vs : List Value} {ns : List Int}, IntsAre vs ns → Vals (ns.map V.int) vs
  | _, _, .nil => .nil
  | _, _, .cons n t h => .cons ⟨t, rfl⟩ (vals_ints h)

/-- nothing is tracked but the script, known to the object (or it is an object of the module) -/
def Only (H : Hp) : Prop := ∀ b, H b = none ∨ ∃ o xs, H b = some (.frz o (.lst xs))

/-- THE HEAD: the law's promise, at the heap behind the top. F, the promise of the law's def, may use that base is part of the heap (so K.In base, base.Ns mainGlobals mg stand in Mod) -/
theorem law_call {P : Program} {w : World} {K : PySem.W.Frag} {mg mb : Str → Option Value} {CX : CXT} {k : Nat} {fa a : Addr} {fd : FuncData} {x : Str} {sp : Sp} {s₁ : Shared} {vs : List Value} {ns : List Int}
    (KX : K.In s₁.heap) (hns : s₁.heap.Ns mainGlobals mg) (hb : s₁.heap.Ns builtinsNs mb) (hbb : ∀ x : Str, x ≠ "__name__" → mb x = bootBuiltins x) (hlim : s₁.heap.NoLimit) (hg : s₁.gens = #[])
    (ha : s₁.heap.get? a = some { cls := .type "list", data := .seq vs.toArray }) (hi : IntsAre vs ns) (hl : ns.length ≤ sizeLine) (hr : Room k callerA)
    (F : ∀ base : Heap, K.In base → base.Ns mainGlobals mg → FnOk P w K mg base CX k fa fd [x] sp) (hbind : ∀ (s : Shared) (u : Value), BindsTo s fd ⟨[u], []⟩ [(x, u)])
    (hsp : ∀ H : Hp, Only H → SqL K H a (ns.map V.int) → sp [.ref a] H (fun v _ => v = .bl true) fun _ _ _ => False)
    (hCX : ∀ H e s', CX [] H s₁ (fun _ _ _ => False) e s' → False) :
    codeAny (model P w) callerA (.call (.ref fa) ⟨[.ref a], []⟩) (fun r s' => r = .ok (.ret (.bool true)) ∧ OldK s₁.heap s'.heap ∧ s'.os = s₁.os ∧ AllBare s'.gens) s₁ := by
  have rv := vals_ints hi
  have lenV := hi.length
  -- from an abstract heap in which nothing but the script may be tracked
  have core : ∀ H : Hp, Only H → SqL K H a (ns.map V.int) → HOk P w H s₁.heap → (∀ b, H b ≠ none → b = a) → (H a ≠ none → K.lookup a = none) →
      codeAny (model P w) callerA (.call (.ref fa) ⟨[.ref a], []⟩) (fun r s' => r = .ok (.ret (.bool true)) ∧ OldK s₁.heap s'.heap ∧ s'.os = s₁.os ∧ AllBare s'.gens) s₁ := by
    intro H hO hS hok hA hK
    have base_of : ∀ {b : Addr} {o : Obj}, s₁.heap.get? b = some o → H b = none → (hidT s₁.heap H).get? b = some o := fun e n => hidT_get e n
    have noA : ∀ {b : Addr} {o : Obj} {es : Array DictEntry} {ep : Nat}, s₁.heap.get? b = some o → o.data = .dict es ep → H b = none := fun {b o es ep} e d => by
      cases q : H b with
      | none => rfl
      | some u =>
        have e' : b = a := hA b (by rw [q]; simp)
        subst e'
        rw [ha] at e; cases e
        have d' : Data.seq vs.toArray _ = Data.dict es ep := d
        cases d'
    have nsK : ∀ {b : Addr} {m : Str → Option Value}, s₁.heap.Ns b m → (hidT s₁.heap H).Ns b m := fun {b m} ⟨o, es, ep, e, d, r⟩ => ⟨o, es, ep, base_of e (noA e d), d, r⟩
    have hKb : K.In (hidT s₁.heap H) := fun b o e => base_of (KX b o e) (by
      cases q : H b with
      | none => rfl
      | some u =>
        have e' : b = a := hA b (by rw [q]; simp)
        subst e'
        rw [hK (by rw [q]; simp)] at e; cases e)
    have hM : Mod K mg (hidT s₁.heap H) := ⟨hKb, nsK hns, ⟨mb, nsK hb, hbb⟩, let ⟨mc, h1, h2⟩ := hlim; ⟨mc, nsK h1, h2⟩⟩
    have e0 : Env0 P w K mg (hidT s₁.heap H) callerA [] s₁ H := ⟨rfl, hM, fun b o e => of_hidT e, Nat.le_of_eq (hidT_size _ _), trivial, fun b hb => absurd (show b ∈ ([] : List Addr) from hb) (by simp), hok, .of_eq hg⟩
    refine codeAny_mono ((F _ hKb (nsK hns)).run callerA [] s₁ H ⟨[.ref a], []⟩ [.ref a] [.ref a] _ _ hr e0 (hbind s₁ (.ref a)) (.cons rfl .nil) (hsp H hO hS)) fun r s' h => ?_
    cases r with
    | error e => exact (hCX H e s' h).elim
    | ok fl =>
      cases fl with
      | next => exact False.elim h
      | brk => exact False.elim h
      | cont => exact False.elim h
      | ret u =>
        obtain ⟨v, H', os, bare, un, hok', r', q⟩ := h
        have q' : v = .bl true := q
        subst q'
        obtain rfl : u = Value.bool true := r'
        refine ⟨rfl, OldK.of_keep fun b o e => ?_, os, bare⟩
        cases q : H b with
        | none => exact un.keep b o e q (by intro z; exact absurd (show b ∈ ([] : List Addr) from z) (by simp)) (by simp)
        | some u =>
          rcases hO b with z | ⟨ob, xs, z⟩
          · rw [q] at z; cases z
          · have z2 := un.frzs b ob _ z
            obtain ⟨e1, _⟩ := hok b _ z
            obtain ⟨e2, _⟩ := hok' b _ z2
            rw [e] at e1; cases e1
            exact e2
  cases hk : K.lookup a with
  | some o =>
    -- the script is one of the module's own objects
    have e := KX a o hk
    rw [ha] at e
    cases e
    refine core (fun _ => none) (fun _ => .inl rfl) (.inr ⟨_, vs.toArray, _, hk, rfl, rfl, rfl, by rw [List.size_toArray, lenV]; exact hl, by simpa using rv⟩) (fun b u z => by have z' : (none : Option HO) = some u := z; cases z') (fun b z => absurd rfl z) fun z => absurd rfl z
  | none =>
    refine core (fun b => if b = a then some (.frz { cls := .type "list", data := .seq vs.toArray } (.lst (ns.map V.int))) else none) (fun b => ?_) (.inl (.inr ⟨{ cls := .type "list", data := .seq vs.toArray }, if_pos rfl⟩)) (fun b u z => ?_) (fun b z => ?_) fun _ => hk
    · by_cases hb : b = a
      · exact .inr ⟨_, _, if_pos hb⟩
      · exact .inl (if_neg hb)
    · by_cases hb : b = a
      · have z' := (if_pos hb).symm.trans z
        cases z'
        subst hb
        exact ⟨ha, by rw [List.length_map]; exact hl, vs, _, rv, ha⟩
      · have z' := (if_neg hb).symm.trans z
        cases z'
    · by_cases hb : b = a
      · exact hb
      · exact absurd (if_neg hb) z
end L2

namespace L2
open PySem PySem.Spec PyProof.Rows


/-- the goal that k_head leaves (case hc), from the law's promise. F gives the function object fd (K's own) once, then the promise over every base -/
theorem walk_of {l : PySem.W.OpenLaw} {n k : Nat} {q : Program} {loose : List Str} {XP : (Str → Option Value) → Heap → Prop} {YP : World → Heap → Prop} {d : DefRec} {K : Params → PySem.W.Frag} {CX : World → CXT} {sp : World → Sp} {x : Str}
    (hn : l.most = some n) (hn2 : n ≤ sizeLine) (hdf : d.params.defaults = []) (hr : Room k callerA)
    (hY : ∀ (w : World) (h : Heap), YP w h → (K w.params).In h)
    (F : ∀ (w : World) (mg : Str → Option Value) (fa : Addr) (h : Heap), (K w.params).In h → h.Ns mainGlobals mg → mg d.name = some (.ref fa) →
      ∃ fd : FuncData, (∀ (s : Shared) (u : Value), BindsTo s fd ⟨[u], []⟩ [(x, u)]) ∧
        ∀ base : Heap, (K w.params).In base → base.Ns mainGlobals mg → FnOk l.prog w (K w.params) mg base (CX w) k fa fd [x] (sp w))
    (hsp : ∀ (w : World) (H : Hp) (a : Addr) (ns : List Int), ns.length ≤ n → Only H → SqL (K w.params) H a (ns.map V.int) → sp w [.ref a] H (fun v _ => v = .bl true) fun _ _ _ => False)
    (hCX : ∀ (w : World) (H : Hp) (s : Shared) (e : Value) (s' : Shared), CX w [] H s (fun _ _ _ => False) e s' → False) :
    PySem.W.WalkO q loose XP YP l.row.toRowW d [] (fun f vs => PySem.call f vs) := by
  refine Att.attach_call hn hdf fun w s₀ s₁ mg mb fa o pm cd doc a vs ns G Y ho hd hcd hmg hobj hints hlen hg => ?_
  have KX := hY w _ Y
  obtain ⟨fd, hb, hF⟩ := F w mg fa _ KX G.T.g hmg
  exact law_call KX G.T.g G.T.b G.T.builtins G.T.nolimit hg hobj hints (Nat.le_trans hlen hn2) hr hF hb (fun H hO hS => hsp w H a ns hlen hO hS) fun H e s' => hCX w H s₁ e s'
end L2

/- THE LAST THEOREM (shape; LID, My.* are yours):
   My.Adr: a structure of the addresses that your layer names (classes, functions); My.Txt K t: a structure (Prop) of the equations over K;
   My.txt_mk : {K} {implicit addresses ..} (e1 : nsIn K mainGlobals "law" = some (some (.ref f))) (e2 : K.lookup f = some ⟨oc, od, .func (fnOf "law" "law" params body scope dV kV doc pm an cdv ct), sl⟩) (e3 : codeIn K cdv "law" = true) .. : ∃ t, My.Txt K t

theorem PySem.Challenge.cw_LID_holds : PySem.Challenge.rw_LID.Holds := by
  w_on; o_law; k_head; (case hw => w_witness2)
  k_fill
  refine L2.walk_of (l := PySem.Challenge.rw_LID) (n := 63) (k := 40) (x := "script") (CX := fun w => ..) (sp := fun _ => My.sp_law) rfl (by decide) rfl ⟨rfl, by decide, by decide⟩ (fun w h Y => PySem.W.kIn_of Y) ?F ?S ?C
  case F =>
    intro w mg fa h KX G hmg
    have T : ∃ t, My.Txt (L2.KOf KX) t := by
      dsimp only [L2.KOf]                          -- K must stand as «<heap const> w.params» for k_is
      refine' My.txt_mk ?e1 ?e2 ?e3 ..
      (case e1 => PySem.W.k_is)                    -- in the order: a name -> its address -> its object -> its parts
      (case e2 => PySem.W.k_is)
      ..
    obtain ⟨t, T⟩ := T
    have e0 := hmg.symm.trans (PySem.W.mg_of KX G T.law)
    cases e0                                       -- fa is the law's own address
    exact ⟨_, fun s u => .of_eq rfl, fun base kb nb => My.law_fn T kb nb⟩     -- if «.of_eq rfl» comes too early: refine' ⟨_, ?b, fun base kb nb => My.law_fn T kb nb⟩; exact fun s u => .of_eq rfl
  case S => exact fun w H a ns hl hO hS => ..
  case C => exact ..
(the tactic k_is has no namespace: write k_is) -/

/-! SHORT WORDS over the layer: a def of the text, its body, what a loop and a test want. -/
namespace L2
open PySem PySem.Spec PyProof.Rows

/-! ### the text by places -/
/-- the j-th statement of a class's body -/
def inClass (s : Stmt) (j : Nat) : Stmt := match s with
  | .ClassDef _ _ _ body _ _ _ _ _ _ _ => body.getD j (.Pass ⟨0, 0, 0, 0⟩)
  | _ => .Pass ⟨0, 0, 0, 0⟩
def defArgs (s : Stmt) : Arguments := match s with
  | .FunctionDef _ a _ _ _ _ _ _ _ _ => a
  | _ => { posonlyargs := [], args := [], vararg := none, kwonlyargs := [], kw_defaults := [], kwarg := none, defaults := [] }
def defBody (s : Stmt) : List Stmt := match s with
  | .FunctionDef _ _ b _ _ _ _ _ _ _ => b
  | _ => []
def defScope (s : Stmt) : Scope := match s with
  | .FunctionDef _ _ _ _ _ _ sc _ _ _ => sc
  | _ => { kind := .function, names := [], isGenerator := false, isCoroutine := false }

/-! ### no exception leaves a def -/
abbrev CX0 : CXT := fun _ _ _ _ _ _ => False
abbrev E0 : XK := fun _ _ _ => False
theorem pass0 {X : Cx} : Passes CX0 X E0 := fun _ _ _ _ _ _ _ h => h.elim

/-! ### a def (or method) of the text as it stands behind the top -/
structure Fun (K : PySem.W.Frag) (x qual : Str) (st : Stmt) (f : Addr) (fd : FuncData) : Prop where
  ex : ∃ (oc : Value) (od : Option Addr) (kV doc pm : Value) (an : Option Addr) (cdv ct : Value) (osl : Array (Option Value)),
    fd = PySem.W.fnOf x qual (defArgs st) (defBody st) (defScope st) .none kV doc pm an cdv ct ∧ K.lookup f = some ⟨oc, od, .func fd, osl⟩ ∧ PySem.W.codeIn K cdv qual = true
  kp : PySem.W.keepIn K (.ref f) = true
section
variable {P : Program} {w : World} {K : PySem.W.Frag} {mg : Str → Option Value} {base : Heap}
/-- THE RULE for a def: its body as a term of rules, and the reading of that term -/
theorem Fun.ok {x qual : Str} {st : Stmt} {f : Addr} {fd : FuncData} {N ps : List Str} {k : Nat} {sp : Sp} (F : Fun K x qual st f fd) (S : FnScope N ps (defScope st)) (len : ∀ vs H Q E, sp vs H Q E → vs.length = ps.length)
    (hbody : ∀ (cdv : Value) (A : Around) (outer : List Env) (s : Shared) (H : Hp) (vs : List V) (Q : VK) (E : XK), Room k (A.deeper (envOfC qual (defScope st) s.heap.objs.size f cdv)) → sp vs H Q E →
      ∃ t, PSs (cxOf CX0 P w K mg base N qual (defScope st) f cdv A outer s H E).nox (defBody st) t ∧ t { nx := fun _ H' => Q .non H', rt := Q } (start N vs) H) : FnOk P w K mg base CX0 (k + 1) f fd ps sp := by
  obtain ⟨oc, od, kV, doc, pm, an, cdv, ct, osl, rfl, lk, hcd⟩ := F.ex
  refine fn_of lk hcd S len fun A outer s H vs Q E hr hsp => ?_
  obtain ⟨t, h, q⟩ := hbody cdv A outer s H vs Q E hr hsp
  exact ⟨t, h.nox, q⟩
/-- how its arguments bind (no defaults): h is «fun _ _ _ _ _ _ us hl => match us, hl with | [_, _], _ => rfl», one _ a parameter -/
theorem Fun.binds {x qual : Str} {st : Stmt} {f : Addr} {fd : FuncData} {ps : List Str} (F : Fun K x qual st f fd)
    (h : ∀ (kV doc pm : Value) (an : Option Addr) (cdv ct : Value) (us : List Value), us.length = ps.length → bindArgs (PySem.W.fnOf x qual (defArgs st) (defBody st) (defScope st) .none kV doc pm an cdv ct) ⟨us, []⟩ = pure (ps.zip us)) : Binds K fd ps [] := by
  obtain ⟨oc, od, kV, doc, pm, an, cdv, ct, osl, rfl, lk, hcd⟩ := F.ex
  exact .all (h kV doc pm an cdv ct)
theorem fun_mk {x qual : Str} {st : Stmt} {f : Addr} {oc : Value} {od an : Option Addr} {osl : Array (Option Value)} {kV doc pm cdv ct : Value} (l : K.lookup f = some ⟨oc, od, .func (PySem.W.fnOf x qual (defArgs st) (defBody st) (defScope st) .none kV doc pm an cdv ct), osl⟩)
    (c : PySem.W.codeIn K cdv qual = true) (k : PySem.W.keepIn K (.ref f) = true) : Fun K x qual st f (PySem.W.fnOf x qual (defArgs st) (defBody st) (defScope st) .none kV doc pm an cdv ct) := ⟨⟨oc, od, kV, doc, pm, an, cdv, ct, osl, rfl, l, c⟩, k⟩
end
theorem hu_of {A : Around} {k : Nat} (hr : Room k A) : A.units + 1 < cLine := Nat.lt_of_le_of_lt (Nat.add_le_add_left (by decide : 1 ≤ 64) _) hr.units
theorem small1000 {n : Nat} (h : n ≤ 1000) : n < sizeLine := Nat.lt_of_le_of_lt h (by decide)

/-! ### expressions in short: the name that stands in the i-th slot -/
section
variable {X : Cx}
theorem pv (i : Nat) {x : Str} {pos : Pos} (hN : X.N[i]? = some x := by rfl) (hv : Vis X.env.scope x := by first | exact Or.inl rfl | exact Or.inr (Or.inl rfl) | exact Or.inr (Or.inr rfl)) (hd : (x == ("__debug__" : Str)) = false := by decide)
    (hcd : (x == ("__classdict__" : Str)) = false := by decide) : PE X (.Name x pos) (tVar i) := pe_var hN hv hd hcd
end

/-! ### tests -/
theorem iteF {A B : Prop} (h : B) : if false = true then A else B := by
  rw [if_neg Bool.false_ne_true]
  exact h
theorem iteT {A B : Prop} (h : A) : if true = true then A else B := by
  rw [if_pos rfl]
  exact h
theorem ite2 {c A B : Prop} [Decidable c] (h1 : c → A) (h2 : ¬ c → B) : if c then A else B := by
  by_cases h : c
  · rw [if_pos h]
    exact h1 h
  · rw [if_neg h]
    exact h2 h

/-! ### heaps -/
/-- all that was tracked is as it was -/
def Same (H H' : Hp) : Prop := ∀ b o, H b = some o → H' b = some o
theorem Same.trans {H H1 H2 : Hp} (a : Same H H1) (b : Same H1 H2) : Same H H2 := fun c o h => b c o (a c o h)
theorem Same.free {H H' : Hp} (e : Same H H') {l : Addr} (h : H' l = Option.none) : H l = Option.none := by
  cases q : H l with
  | none => rfl
  | some o =>
    rw [e l o q] at h
    cases h
theorem Same.seq {K : PySem.W.Frag} {H H' : Hp} {a : Addr} {xs : List V} (e : Same H H') (h : SqL K H a xs) : SqL K H' a xs := by
  rcases h with (h | ⟨o, h⟩) | h
  · exact .inl (.inl (e _ _ h))
  · exact .inl (.inr ⟨o, e _ _ h⟩)
  · exact .inr h

end L2

namespace L2
open PySem PySem.Spec PyProof.Rows
/-! ### lists of pairs as tables -/
section
variable {κ : Type} [DecidableEq κ]
def valV (kvs : List (κ × V)) (k : κ) : Option V := (kvs.find? fun kv => decide (kv.1 = k)).map (·.2)
/-- in its place, or at the end -/
def putK (kvs : List (κ × V)) (k : κ) (v : V) : List (κ × V) :=
  if (kvs.any fun kv => decide (kv.1 = k)) = true then kvs.map (fun kv => if kv.1 = k then (kv.1, v) else kv) else kvs ++ [(k, v)]

theorem valV_pos {p : κ × V} {r : List (κ × V)} {k : κ} (e : p.1 = k) : valV (p :: r) k = some p.2 := by simp [valV, List.find?_cons, e]
theorem valV_neg {p : κ × V} {r : List (κ × V)} {k : κ} (e : ¬ p.1 = k) : valV (p :: r) k = valV r k := by simp [valV, List.find?_cons, e]
theorem valV_any (k : κ) : ∀ kvs : List (κ × V), (kvs.any fun kv => decide (kv.1 = k)) = (valV kvs k).isSome
  | [] => rfl
  | p :: r => by
    rw [List.any_cons]
    by_cases e : p.1 = k
    · simp only [valV_pos e, decide_eq_true e, Bool.true_or, Option.isSome_some]
    · rw [valV_neg e, decide_eq_false e, Bool.false_or]; exact valV_any k r
theorem valV_map (k j : κ) (y : V) : ∀ kvs : List (κ × V), valV (kvs.map fun kv => if kv.1 = k then (kv.1, y) else kv) j = (valV kvs j).map fun x => if j = k then y else x
  | [] => rfl
  | p :: r => by
    have ih := valV_map k j y r
    rw [List.map_cons]
    by_cases h : p.1 = k
    · rw [if_pos h]
      by_cases e : p.1 = j
      · rw [valV_pos (p := (p.1, y)) e, valV_pos e, Option.map_some, if_pos (e.symm.trans h)]
      · rw [valV_neg (p := (p.1, y)) e, valV_neg e, ih]
    · rw [if_neg h]
      by_cases e : p.1 = j
      · rw [valV_pos (p := p) e, valV_pos e, Option.map_some, if_neg (fun z => h (e.trans z))]
      · rw [valV_neg (p := p) e, valV_neg e, ih]
theorem valV_snoc (k j : κ) (y : V) : ∀ kvs : List (κ × V), valV kvs k = none → valV (kvs ++ [(k, y)]) j = if j = k then some y else valV kvs j
  | [], _ => by
    by_cases e : k = j
    · rw [if_pos e.symm]; exact valV_pos (p := (k, y)) e
    · rw [if_neg (fun z => e z.symm)]; exact valV_neg (p := (k, y)) e
  | p :: r, hn => by
    rw [List.cons_append]
    have hk : ¬ p.1 = k := fun z => by rw [valV_pos z] at hn; cases hn
    rw [valV_neg hk] at hn
    have ih := valV_snoc k j y r hn
    by_cases e : p.1 = j
    · rw [valV_pos e, valV_pos e, if_neg (fun z => hk (e.trans z))]
    · rw [valV_neg e, valV_neg e, ih]
theorem valV_put (kvs : List (κ × V)) (k j : κ) (y : V) : valV (putK kvs k y) j = if j = k then some y else valV kvs j := by
  unfold putK
  by_cases a : (kvs.any fun kv => decide (kv.1 = k)) = true
  · rw [if_pos a, valV_map]
    rw [valV_any] at a
    by_cases e : j = k
    · obtain ⟨x, hx⟩ := Option.isSome_iff_exists.mp a
      rw [if_pos e, e, hx, Option.map_some, if_pos rfl]
    · rw [if_neg e]
      cases valV kvs j with
      | none => rfl
      | some x => rw [Option.map_some, if_neg e]
  · rw [if_neg a]
    refine valV_snoc k j y kvs ?_
    rw [valV_any] at a
    cases q : valV kvs k with
    | none => rfl
    | some x => rw [q] at a; exact (a rfl).elim
theorem length_putK (kvs : List (κ × V)) (k : κ) (v : V) : (putK kvs k v).length ≤ kvs.length + 1 := by
  unfold putK
  split
  · rw [List.length_map]; omega
  · rw [List.length_append, List.length_cons, List.length_nil]; omega

theorem RelO.isSome_eq {o : Option V} {u : Option Value} (r : RelO o u) : o.isSome = u.isSome := by
  cases o with
  | none => cases u with
    | none => rfl
    | some _ => exact (show False from r).elim
  | some _ => cases u with
    | none => exact (show False from r).elim
    | some _ => rfl
theorem RelO.getD {o : Option V} {u : Option Value} {d : V} {d' : Value} (r : RelO o u) (rd : RelV d d') : RelV (o.getD d) (u.getD d') := by
  cases o with
  | none => cases u with
    | none => exact rd
    | some _ => exact (show False from r).elim
  | some _ => cases u with
    | none => exact (show False from r).elim
    | some _ => exact r

/-- raw tables of the same keys -/
theorem KV.val {kvs : List (κ × V)} {vs : List (κ × Value)} (r : KV kvs vs) (k : κ) : RelO (valV kvs k) (valueAt vs k) := by
  unfold KV at r
  induction r with
  | nil => exact True.intro
  | @cons p q ps qs h t ih =>
    obtain ⟨h1, h2⟩ := h
    by_cases e : p.1 = k
    · have e' : q.1 = k := h1.symm.trans e
      have b : valueAt (q :: qs) k = some q.2 := by simp [valueAt, List.find?_cons, e']
      rw [valV_pos e, b]; exact h2
    · have e' : ¬ q.1 = k := fun z => e (h1.trans z)
      have b : valueAt (q :: qs) k = valueAt qs k := by simp [valueAt, List.find?_cons, e']
      rw [valV_neg e, b]; exact ih
theorem KV.any {kvs : List (κ × V)} {vs : List (κ × Value)} (r : KV kvs vs) (k : κ) : (kvs.any fun kv => decide (kv.1 = k)) = vs.any fun kv => decide (kv.1 = k) := by
  unfold KV at r
  induction r with
  | nil => rfl
  | cons h t ih => rw [List.any_cons, List.any_cons, ih, h.1]
theorem KV.repl {kvs : List (κ × V)} {vs : List (κ × Value)} (r : KV kvs vs) (k : κ) {y : V} {u : Value} (ry : RelV y u) :
    KV (kvs.map fun kv => if kv.1 = k then (kv.1, y) else kv) (vs.map fun kv => if kv.1 = k then (kv.1, u) else kv) := by
  unfold KV at r ⊢
  induction r with
  | nil => exact .nil
  | @cons p q ps qs h t ih =>
    rw [List.map_cons, List.map_cons]
    refine .cons ?_ ih
    obtain ⟨h1, h2⟩ := h
    by_cases e : p.1 = k
    · rw [if_pos e, if_pos (h1.symm.trans e)]; exact ⟨h1, ry⟩
    · rw [if_neg e, if_neg (fun z => e (h1.trans z))]; exact ⟨h1, h2⟩
theorem KV.put {kvs : List (κ × V)} {vs : List (κ × Value)} (r : KV kvs vs) (k : κ) {y : V} {u : Value} (ry : RelV y u) : KV (putK kvs k y) (stored vs k u) := by
  unfold putK stored
  rw [r.any k]
  by_cases e : (vs.any fun kv => decide (kv.1 = k)) = true
  · rw [if_pos e, if_pos e]; exact r.repl k ry
  · rw [if_neg e, if_neg e]; exact Paired.snoc r ⟨rfl, ry⟩
theorem KV.length {kvs : List (κ × V)} {vs : List (κ × Value)} (r : KV kvs vs) : kvs.length = vs.length := Paired.length r
end


/-! ### a tracked dict, its keys ints and texts or tuples of these -/
theorem kV_is {P : Program} {w : World} {k : Key} {u : Value} (r : RelV (kV k) u) : (mixKind P w).is k u = true := by
  cases k with
  | inl i => obtain ⟨t, e⟩ := (show ∃ t, u = Value.int i t from r); subst e; exact mixKind_int P w i t
  | inr x => obtain ⟨t, e⟩ := (show ∃ t, u = Value.str x t from r); subst e; exact mixKind_str P w x t
theorem items_are {P : Program} {w : World} : ∀ {ks : List Key} {us : List Value}, Vals (ks.map kV) us → ItemsAre (mixKind P w) ks us
  | [], _, r => by rw [List.map_nil] at r; cases r; exact .nil
  | k :: ks, _, r => by
    rw [List.map_cons] at r
    cases r with
    | cons h t => exact .cons (kV_is h) (items_are t)

/-- raw entries of a dict with tuple keys -/
abbrev KT (H : Hp) : List (List Key × V) → List (List Key × Addr × Value) → Prop := Paired fun p q => p.1 = q.1 ∧ H q.2.1 = some (.tup (p.1.map kV)) ∧ RelV p.2 q.2.2
theorem KT.val {H : Hp} {kvs : List (List Key × V)} {xs : List (List Key × Addr × Value)} (r : KT H kvs xs) (k : List Key) : RelO (valV kvs k) ((atKey xs k).map (·.2)) := by
  induction r with
  | nil => exact True.intro
  | @cons p q ps qs h t ih =>
    obtain ⟨h1, _, h2⟩ := h
    by_cases e : p.1 = k
    · have e' : q.1 = k := h1.symm.trans e
      have b : atKey (q :: qs) k = some q.2 := by simp [atKey, List.find?_cons, e']
      rw [valV_pos e, b]; exact h2
    · have e' : ¬ q.1 = k := fun z => e (h1.trans z)
      have b : atKey (q :: qs) k = atKey qs k := by simp [atKey, List.find?_cons, e']
      rw [valV_neg e, b]; exact ih
theorem KT.repl {H : Hp} {kvs : List (List Key × V)} {xs : List (List Key × Addr × Value)} (r : KT H kvs xs) (k : List Key) {y : V} {u : Value} (ry : RelV y u) :
    KT H (kvs.map fun kv => if kv.1 = k then (kv.1, y) else kv) (xs.map (putAt k u)) := by
  induction r with
  | nil => exact .nil
  | @cons p q ps qs h t ih =>
    rw [List.map_cons, List.map_cons]
    refine .cons ?_ ih
    obtain ⟨h1, h2, h3⟩ := h
    unfold putAt
    by_cases e : p.1 = k
    · rw [if_pos e, if_pos (h1.symm.trans e)]; exact ⟨h1, h2, ry⟩
    · rw [if_neg e, if_neg (fun z => e (h1.trans z))]; exact ⟨h1, h2, h3⟩
theorem KT.put {H : Hp} {kvs : List (List Key × V)} {xs : List (List Key × Addr × Value)} (r : KT H kvs xs) (k : List Key) {b : Addr} {y : V} {u : Value} (hb : H b = some (.tup (k.map kV))) (ry : RelV y u) :
    KT H (putK kvs k y) (storedH xs k b u) := by
  have e : (kvs.any fun kv => decide (kv.1 = k)) = (atKey xs k).isSome := by
    rw [valV_any, (r.val k).isSome_eq, Option.isSome_map]
  unfold putK storedH
  rw [e]
  by_cases q : (atKey xs k).isSome = true
  · rw [if_pos q, if_pos q]; exact r.repl k ry
  · rw [if_neg q, if_neg q]; exact Paired.snoc r ⟨rfl, hb, ry⟩
theorem KT.keeps {H H' : Hp} {kvs : List (List Key × V)} {xs : List (List Key × Addr × Value)} (r : KT H kvs xs) (ht : ∀ b ys, H b = some (.tup ys) → H' b = some (.tup ys)) : KT H' kvs xs :=
  Paired.mapP r fun _ _ z => ⟨z.1, ht _ _ z.2.1, z.2.2⟩

section
variable {P : Program} {w : World} {H : Hp} {h : Heap} {a : Addr}
theorem rd_of {u : HO} (ok : HOk P w H h) (e : Rd H a u) : ObjOk P w H h a u := e.ok ok
theorem dk_rd {kvs : List (Key × V)} (ok : HOk P w H h) (e : Rd H a (.dK kvs)) : kvs.length ≤ sizeLine ∧ (a == sysModules) = false ∧ ∃ vs, KV kvs vs ∧ h.DictOf (mixKind P w) a vs :=
  show ObjOk P w H h a (.dK kvs) from rd_of ok e
theorem dk_of {kvs : List (Key × V)} (ok : HOk P w H h) (e : H a = some (.dK kvs)) : kvs.length ≤ sizeLine ∧ (a == sysModules) = false ∧ ∃ vs, KV kvs vs ∧ h.DictOf (mixKind P w) a vs := dk_rd ok (.inl e)
/-- a tracked tuple of ints and texts is a key -/
theorem key_of {ks : List Key} (ok : HOk P w H h) (e : H a = some (.tup (ks.map kV))) : (tupleKind (mixKind P w)).is h ks a := by
  obtain ⟨_, its, r, o, h1, h2, n, h3⟩ := (show ObjOk P w H h a (.tup (ks.map kV)) from ok a _ e)
  exact ⟨o, its.toArray, n, h1, h2, h3, by simpa using items_are r⟩
theorem dt_rd {kvs : List (List Key × V)} (ok : HOk P w H h) (e : Rd H a (.dT kvs)) : kvs.length ≤ sizeLine ∧ (a == sysModules) = false ∧
    ∃ xs, KT H kvs xs ∧ h.DictOfH (tupleKind (mixKind P w)) a xs := by
  obtain ⟨z, y, xs, r, o, es, ep, h1, h2, h3, h4, h5⟩ := (show ObjOk P w H h a (.dT kvs) from rd_of ok e)
  refine ⟨z, y, xs, r, o, es, ep, h1, h2, h3, h4, fun x hx => ?_, h5⟩
  have all : ∀ {l : List (List Key × V)} {m : List (List Key × Addr × Value)}, KT H l m → ∀ x ∈ m, (tupleKind (mixKind P w)).is h x.1 x.2.1 := by
    intro l m q
    induction q with
    | nil => intro x hx; exact nomatch hx
    | @cons p q ps qs hq t ih =>
      intro x hx
      rcases List.mem_cons.mp hx with e | hx
      · subst e
        exact key_of ok (by rw [← hq.1]; exact hq.2.1)
      · exact ih x hx
  exact all r x hx
theorem dt_of {kvs : List (List Key × V)} (ok : HOk P w H h) (e : H a = some (.dT kvs)) : kvs.length ≤ sizeLine ∧ (a == sysModules) = false ∧
    ∃ xs, KT H kvs xs ∧ h.DictOfH (tupleKind (mixKind P w)) a xs := dt_rd ok (.inl e)
end

/-- what the dict at a holds at the key y -/
def DGet (H : Hp) (a : Addr) (y : V) (r : Option V) : Prop :=
  (∃ kvs k, Rd H a (.dK kvs) ∧ y = kV k ∧ r = valV kvs k) ∨ ∃ kvs k b, Rd H a (.dT kvs) ∧ y = .ref b ∧ H b = some (.tup (k.map kV)) ∧ r = valV kvs k
/-- the heap behind a[y] = v -/
def DPut (H : Hp) (a : Addr) (y v : V) (H' : Hp) : Prop :=
  (∃ kvs k, H a = some (.dK kvs) ∧ y = kV k ∧ kvs.length < sizeLine ∧ H' = upd H a (.dK (putK kvs k v))) ∨
  ∃ kvs k b, H a = some (.dT kvs) ∧ y = .ref b ∧ H b = some (.tup (k.map kV)) ∧ kvs.length < sizeLine ∧ H' = upd H a (.dT (putK kvs k v))
theorem DGet.t {H : Hp} {a b : Addr} {kvs : List (List Key × V)} {k : List Key} (e : H a = some (.dT kvs)) (eb : H b = some (.tup (k.map kV))) : DGet H a (.ref b) (valV kvs k) := .inr ⟨kvs, k, b, .inl e, rfl, eb, rfl⟩
theorem DPut.t {H : Hp} {a b : Addr} {kvs : List (List Key × V)} {k : List Key} {v : V} (e : H a = some (.dT kvs)) (eb : H b = some (.tup (k.map kV))) (hl : kvs.length < sizeLine) :
    DPut H a (.ref b) v (upd H a (.dT (putK kvs k v))) := .inr ⟨kvs, k, b, e, rfl, eb, hl, rfl⟩


section
variable {X : Cx} {pins : List (Addr × Obj)} {σ : St} {H : Hp} {s : Shared} {a : Addr} {y v : V} {u r : Value} {o : Option V} {A : Around} {E : Value → Shared → Prop}

theorem Inv.big (I : Inv X pins σ H s) : sysModules < s.heap.objs.size := by
  have h : mainGlobals < s.heap.objs.size := (I.mod.glob.keeps I.bk).lt
  exact Nat.lt_trans (by decide) h

/-- a dict's object is replaced -/
theorem d_write {h' : Heap} {t' : Nat} {ob : HO} (I : Inv X pins σ H s) (mu : Mut (H a)) (hs : Heap.SameBut a s.heap h') (he : ∃ q, h'.get? a = some q) (new : ObjOk X.prog X.w (upd H a ob) h' a ob) :
    Inv X pins σ (upd H a ob) { s with heap := h', toks := t' } :=
  I.write (x := a) (e := a) mu (.inl rfl) (fun b q hb z => (hs.2 b hb).trans z) he new
theorem dk_new {P : Program} {w : World} {H' : Hp} {h' : Heap} {kvs : List (Key × V)} {vs : List (Key × Value)} (z : kvs.length ≤ sizeLine) (hd : (a == sysModules) = false) (rel : KV kvs vs) (dd : h'.DictOf (mixKind P w) a vs) :
    ObjOk P w H' h' a (.dK kvs) := ⟨z, hd, vs, rel, dd⟩
/-- d[y] = v -/
theorem d_setItem {H' : Hp} {Q : Unit → Shared → Prop} (hu : A.units + 1 < cLine) (I : Inv X pins σ H s) (g : DPut H a y v H') (ry : RelV y u) (rv : RelV v r) (h : ∀ s', Inv X pins σ H' s' → Q () s') :
    wpAny (model X.prog X.w) A (setItem (.ref a) u r) Q E s := by
  rcases g with ⟨kvs, k, e, ey, l, eH⟩ | ⟨kvs, k, b, e, ey, eb, l, eH⟩
  · subst ey eH
    obtain ⟨z, hd, vs, rel, dd⟩ := dk_of I.hok e
    have hz : vs.length ≤ sizeLine := by rw [← rel.length]; exact z
    have hl : (putK kvs k v).length ≤ sizeLine := by have := length_putK kvs k v; omega
    refine wpAny_setItem_pairs (hsz := hz) (kV_is ry) dd fun h' dd' hs => h _ ?_
    have he : ∃ q, h'.get? a = some q := let ⟨q, _, _, hq, _⟩ := dd'; ⟨q, hq⟩
    exact d_write I (by rw [e]; exact True.intro) hs he (dk_new hl hd (rel.put k rv) dd')
  · subst ey eH
    cases (show u = Value.ref b from ry)
    obtain ⟨z, hd, xs, rel, dd⟩ := dt_of I.hok e
    have hz : xs.length ≤ sizeLine := by rw [← Paired.length rel]; exact z
    have hl : (putK kvs k v).length ≤ sizeLine := by have := length_putK kvs k v; omega
    refine wpAny_setItem_heap (hsz := hz) (tupleKind_room_in1 hu) (key_of I.hok eb) dd fun h' dd' hs => h _ ?_
    obtain ⟨q, es, ep, hq, h2, h3, h4, _, h5⟩ := dd'
    refine d_write I (by rw [e]; exact True.intro) hs ⟨q, hq⟩ ⟨hl, hd, _, (rel.put k eb rv).keeps fun c ys ec => ?_, q, es, ep, hq, h2, h3, h4, h5⟩
    rw [upd_ne (ne_of ec e (fun z => nomatch z))]
    exact ec
end

section
variable {X : Cx} {pins : List (Addr × Obj)} {σ : St} {H : Hp} {s : Shared} {a : Addr} {kvs : List (Key × V)} {k : Key} {u : Value} {A : Around} {E : Value → Shared → Prop}
end


/-! ### readings and rules -/


/-- d[y] = v -/
def sDPut (td ty tv : TE) : TS := fun D σ H => tv σ H fun v H1 => td σ H1 fun x H2 => ty σ H2 fun y H3 => ∃ a H4, x = .ref a ∧ DPut H3 a y v H4 ∧ D.nx σ H4

section
variable {X : Cx} {o i e value : Expr} {pos pos' tpos : Pos} {td ty tv : TE}
theorem ps_dput (hu : X.A.units + 1 < cLine) (ho : PE X o td) (hi : PE X i ty) (hv : PE X value tv) (hs : swapsWith value (some (.Subscript o i pos')) pos.line X.env = pure false) :
    PS X (.Assign [.Subscript o i pos'] value pos) (sDPut td ty tv) := by
  intro pins s σ H D I h
  refine wpAny_Assign_Subscript (thn (hv pins s σ H _ I h) fun r s1 ⟨v, H1, I1, rv, q1⟩ => thn (ho pins s1 σ H1 _ I1 q1) fun u s2 ⟨x, H2, I2, rx, q2⟩ => thn (hi pins s2 σ H2 _ I2 q2) fun iv s3 ⟨y, H3, I3, ry, a, H4, ex, g, q3⟩ => ?_) hs
  subst ex
  obtain rfl : u = Value.ref a := rx
  exact d_setItem hu I3 g ry rv fun s4 I4 => ⟨σ, H4, I4, q3⟩
end


/-! ### displays -/
theorem dt_empty {P : Program} {w : World} {H : Hp} (h : Heap) (hb : sysModules < h.objs.size) : ObjOk P w H (h.push { cls := .type "dict", data := .dict #[] }) h.objs.size (.dT []) :=
  ⟨Nat.zero_le _, beq_eq_false_iff_ne.mpr (Ne.symm (Nat.ne_of_lt hb)), [], .nil, _, #[], 0, Heap.get?_push_size _ rfl, ⟨rfl, rfl, rfl⟩, rfl, rfl, List.nodup_nil⟩
def tDNewT : TE := fun _ H Q => ∀ p, H p = none → Q (.ref p) (upd H p (.dT []))
section
variable {X : Cx} {pos : Pos}
theorem pe_dnewT : PE X (.Dict [] [] pos) tDNewT := fun pins s σ H Q I h =>
  wpAny_Dict_empty ⟨.ref s.heap.objs.size, _, I.laid (a := s.heap.objs.size) (o := .dT []) (t' := s.toks) (fun _ _ q => Heap.get?_push_of_some _ q) (Nat.le_refl _) (dt_empty s.heap I.big), rfl, h _ (I.hok.fresh (Nat.le_refl _))⟩
end




/-! ### methods -/
structure M2 (X : Cx) (o : Expr) (m : Str) (apos : Pos) (e f : Expr) (cpos : Pos) : Prop where
  base : attributeBase o m X.env (eval o X.env) = eval o X.env
  few : ((backTo cpos (starEach [e, f] X.env)).all (fun x => !x.1) && (backToKw cpos (keywordEach [] X.env)).all (fun x => x.1.isSome)
    && decide (([e, f] : List Expr).length + ([] : List Keyword).length + (if ([] : List Keyword).isEmpty then 0 else 1) < 30)) = true
  line : (apos.endLine == cpos.line) = true
  trees : backTo cpos (starEach [e, f] X.env) = [(false, eval e X.env), (false, eval f X.env)]

/-- a is a dict, whatever its keys -/
def IsD (H : Hp) (a : Addr) : Prop := (∃ kvs, Rd H a (.dK kvs)) ∨ ∃ kvs, Rd H a (.dT kvs)
theorem isD_at {X : Cx} {pins : List (Addr × Obj)} {σ : St} {H : Hp} {s : Shared} {a : Addr} (I : Inv X pins σ H s) (d : IsD H a) :
    s.TypeIs (.ref a) "dict" ∧ (∀ b, Value.ref a = .ref b → ∃ ob, s.heap.get? b = some ob ∧ ob.dict = none) ∧ (a == sysModules) = false := by
  rcases d with ⟨kvs, e⟩ | ⟨kvs, e⟩
  · obtain ⟨_, hd, vs, _, dd⟩ := dk_rd I.hok e
    refine ⟨dd.typeIs, fun b q => ?_, hd⟩
    cases q
    obtain ⟨ob, _, _, h1, h2, _⟩ := dd
    exact ⟨ob, h1, h2.2.1⟩
  · obtain ⟨_, hd, xs, _, dd⟩ := dt_rd I.hok e
    refine ⟨dd.typeIs, fun b q => ?_, hd⟩
    cases q
    obtain ⟨ob, _, _, h1, h2, _⟩ := dd
    exact ⟨ob, h1, h2.2.1⟩

section
variable {X : Cx} {pins : List (Addr × Obj)} {σ : St} {H : Hp} {s : Shared} {a : Addr} {y d : V} {u r : Value} {o : Option V} {A : Around} {E : Value → Shared → Prop}
/-- d.get(y, x) -/
theorem d_get2 {Q : Value → Shared → Prop} (hu : A.units + 1 < cLine) (I : Inv X pins σ H s) (g : DGet H a y o) (ry : RelV y u) (rd : RelV d r) (h : ∀ w' s', Inv X pins σ H s' → RelV (o.getD d) w' → Q w' s') :
    wpAny (model X.prog X.w) A (call (.builtin "dict.get") [.ref a, u, r]) Q E s := by
  rcases g with ⟨kvs, k, e, ey, l⟩ | ⟨kvs, k, b, e, ey, eb, l⟩
  · subst ey
    obtain ⟨z, hd, vs, rel, dd⟩ := dk_rd I.hok e
    refine call_meetsIn PySem.F.slot_dict_get dd.typeIs PySem.F.entry_dict_get (PySem.F.args_dict_get_3 _ _ _) (meets_dict_get_default (mixKind X.prog X.w) a (kV_is ry) hd r) ⟨_, dd.mapOf, h _ _ (I.tok _) ?_⟩
    rw [l]
    exact (rel.val k).getD rd
  · subst ey
    cases (show u = Value.ref b from ry)
    obtain ⟨z, hd, xs, rel, dd⟩ := dt_rd I.hok e
    refine call_meetsIn PySem.F.slot_dict_get dd.typeIs PySem.F.entry_dict_get (PySem.F.args_dict_get_3 _ _ _) (meetsH_dict_get_default (tupleKind (mixKind X.prog X.w)) a b hd r) ⟨tupleKind_room_in1 hu, k, xs, key_of I.hok eb, dd, h _ _ (I.tok _) ?_⟩
    rw [l]
    exact (rel.val k).getD rd
end

def tDGet2 (td ty tx : TE) : TE := fun σ H Q => td σ H fun x H1 => ∃ a, x = .ref a ∧ IsD H1 a ∧ ty σ H1 fun y H2 => tx σ H2 fun z H3 => ∃ o, DGet H3 a y o ∧ Q (o.getD z) H3
section
variable {X : Cx} {o e f : Expr} {apos cpos : Pos} {td ty tx : TE}
theorem pe_dget2 (hu : X.A.units + 1 < cLine) (ho : PE X o td) (he : PE X e ty) (hf : PE X f tx) (m : M2 X o "get" apos e f cpos) : PE X (.Call (.Attribute o "get" apos) [e, f] [] cpos) (tDGet2 td ty tx) := by
  intro pins s σ H Q I h
  refine wpAny_Call_method m.base m.few m.line PySem.F.plainAttrs_dict PySem.F.slot_dict_get PySem.F.type_dict_get (thn (ho pins s σ H _ I h) fun u s1 ⟨x, H1, I1, rx, a, ex, d, q1⟩ => ?_)
  subst ex
  obtain rfl : u = Value.ref a := rx
  obtain ⟨t1, t2, _⟩ := isD_at I1 d
  refine ⟨t1, t2, ?_⟩
  rw [m.trees]
  refine Calls.callWith_builtin rfl (Calls.evalArgs_plain (Calls.spliced_cons (thn (he pins s1 σ H1 _ I1 q1) fun iv s2 ⟨y, H2, I2, ry, q2⟩ =>
    Calls.spliced_cons (thn (hf pins s2 σ H2 _ I2 q2) fun fv s3 ⟨z, H3, I3, rz, ov, g, q3⟩ => Calls.spliced_nil ?_))))
  exact d_get2 hu I3 g ry rz fun w' s4 I4 rw' => ⟨_, H3, I4, rw', q3⟩
end

/-! ### dict(d): a copy -/
section
variable {X : Cx} {pins : List (Addr × Obj)} {σ : St} {H : Hp} {s : Shared} {a : Addr} {kvs : List (Key × V)} {A : Around} {E : Value → Shared → Prop}
end


section
variable {X : Cx} {pins : List (Addr × Obj)} {σ : St} {H : Hp} {s : Shared} {a : Addr} {y : V} {u : Value} {A : Around} {E : Value → Shared → Prop}
end
end L2

namespace L2
open PySem PySem.Spec PyProof.Rows
section
variable {X : Cx}
end

/-! ### a dict's pairs: keys that differ -/
section
variable {κ : Type} [DecidableEq κ]
end
end L2


namespace L2
open PySem PySem.Spec PyProof.Rows

/-! ### list comprehensions: one clause, tests, any target -/
/-- the cells that a block takes from the frame around it -/
def clo (cells : List (Str × Addr)) : List (Str × NameKind) → List (Str × Addr) → List (Str × Addr)
  | [], cs => cs
  | (n, k) :: r, cs => clo cells r (if k == NameKind.free then (match cells.lookup n with | some a => (n, a) :: cs | none => cs) else cs)
theorem clo_loop {env : Env} : ∀ (names : List (Str × NameKind)) (cs : List (Str × Addr)), (∀ y ∈ names, y.2 = .free → ∃ c, env.cells.lookup y.1 = some c) →
    (forIn names cs fun (x : Str × NameKind) (r : List (Str × Addr)) => if (x.2 == NameKind.free) = true then (do let a ← cellOf env x.1; pure (ForInStep.yield ((x.1, a) :: r))) else (pure (ForInStep.yield r) : Sem (ForInStep (List (Str × Addr)))))
      = (pure (clo env.cells names cs) : Sem (List (Str × Addr)))
  | [], cs, _ => rfl
  | (n, k) :: r, cs, h => by
    have ih := clo_loop (env := env) r
    rw [List.forIn_cons]
    unfold clo
    cases hk : (k == NameKind.free) with
    | false =>
      simp only [Bool.false_eq_true, if_false]
      show (forIn r cs _ : Sem _) = _
      exact ih cs fun y hy => h y (List.mem_cons_of_mem _ hy)
    | true =>
      obtain ⟨c, hc⟩ := h (n, k) List.mem_cons_self (by simpa using hk)
      have hc' : env.cells.lookup n = some c := hc
      have e : cellOf env n = pure c := by unfold cellOf; rw [hc']
      simp only [if_true, e, hc']
      show (forIn r ((n, c) :: cs) _ : Sem _) = _
      exact ih _ fun y hy => h y (List.mem_cons_of_mem _ hy)
theorem clo_is {scope : Scope} {env : Env} (h : ∀ y ∈ scope.names, y.2 = .free → ∃ c, env.cells.lookup y.1 = some c) : closureFor scope env = pure (clo env.cells scope.names []) := by
  unfold closureFor
  have q := clo_loop (env := env) scope.names [] h
  refine Eq.trans ?_ (congrArg (fun z : Sem (List (Str × Addr)) => z >>= fun cs => pure cs) q)
  rfl
theorem clo_mem {cells : List (Str × Addr)} : ∀ (names : List (Str × NameKind)) (cs : List (Str × Addr)), (∀ p ∈ cs, cells.lookup p.1 = some p.2) → ∀ p ∈ clo cells names cs, cells.lookup p.1 = some p.2
  | [], cs, h, p, hp => h p hp
  | (n, k) :: r, cs, h, p, hp => by
    unfold clo at hp
    refine clo_mem r _ (fun q hq => ?_) p hp
    split at hq
    · split at hq
      · rename_i a e
        rcases List.mem_cons.mp hq with rfl | hq
        · exact e
        · exact h q hq
      · exact h q hq
    · exact h q hq
theorem clo_sub {cells : List (Str × Addr)} {names : List (Str × NameKind)} {x : Str} {c : Addr} (e : (clo cells names []).lookup x = some c) : cells.lookup x = some c :=
  clo_mem names [] (fun _ z => nomatch z) (x, c) (PySem.mem_of_lookup e)
theorem clo_keeps {cells : List (Str × Addr)} : ∀ (names : List (Str × NameKind)) (cs : List (Str × Addr)) (p : Str × Addr), p ∈ cs → p ∈ clo cells names cs
  | [], cs, p, hp => hp
  | (n, k) :: r, cs, p, hp => by
    unfold clo
    refine clo_keeps r _ p ?_
    split
    · split
      · exact List.mem_cons_of_mem _ hp
      · exact hp
    · exact hp
theorem clo_has {cells : List (Str × Addr)} {x : Str} {c : Addr} (hc : cells.lookup x = some c) : ∀ (names : List (Str × NameKind)) (cs : List (Str × Addr)), (x, NameKind.free) ∈ names → (x, c) ∈ clo cells names cs
  | [], _, h => nomatch h
  | (n, k) :: r, cs, h => by
    unfold clo
    rcases List.mem_cons.mp h with e | h
    · cases e
      refine clo_keeps r _ _ ?_
      rw [hc]
      simp
    · exact clo_has hc r _ h
theorem lookup_some_of_mem {x : Str} {c : Addr} : ∀ {l : List (Str × Addr)}, (x, c) ∈ l → ∃ d, l.lookup x = some d
  | [], h => nomatch h
  | (y, d) :: r, h => by
    rw [List.lookup_cons]
    cases e : (x == y) with
    | true => exact ⟨d, rfl⟩
    | false =>
      rcases List.mem_cons.mp h with z | z
      · cases z
        simp at e
      · exact lookup_some_of_mem z
theorem relabel_look {env : Env} : ∀ {names : List (Str × NameKind)} {x : Str} {k : NameKind},
    (names.map fun (n, k) => if (k == NameKind.free && env.scope.kind == .function && env.kindOf n == some .cell) then (n, NameKind.cell) else (n, k)).lookup x = some k →
      names.lookup x = some k ∨ (k = .cell ∧ names.lookup x = some .free)
  | [], _, _, h => by simp at h
  | (n, k0) :: r, x, k, h => by
    have ih := @relabel_look env r x k
    rw [List.map_cons] at h
    rw [List.lookup_cons]
    by_cases c : (k0 == NameKind.free && env.scope.kind == .function && env.kindOf n == some .cell) = true
    · have h' := h
      simp only [c, if_true] at h'
      rw [List.lookup_cons] at h'
      cases e : (x == n) with
      | true =>
        rw [e] at h'
        have c1 : k0 = .free := by
          simp only [Bool.and_eq_true] at c
          simpa using c.1.1
        refine .inr ⟨(Option.some.inj h').symm, ?_⟩
        rw [c1]
      | false =>
        rw [e] at h'
        exact ih h'
    · have h' := h
      simp only [c, Bool.false_eq_true, if_false] at h'
      rw [List.lookup_cons] at h'
      cases e : (x == n) with
      | true =>
        rw [e] at h'
        exact .inl h'
      | false =>
        rw [e] at h'
        exact ih h'
theorem relabel_free {env : Env} : ∀ {names : List (Str × NameKind)} {x : Str}, names.lookup x = some .free →
    (names.map fun (n, k) => if (k == NameKind.free && env.scope.kind == .function && env.kindOf n == some .cell) then (n, NameKind.cell) else (n, k)).lookup x = some .cell ∨
    (names.map fun (n, k) => if (k == NameKind.free && env.scope.kind == .function && env.kindOf n == some .cell) then (n, NameKind.cell) else (n, k)).lookup x = some .free
  | [], _, h => by simp at h
  | (n, k0) :: r, x, h => by
    have ih := @relabel_free env r x
    rw [List.map_cons]
    rw [List.lookup_cons] at h
    by_cases c : (k0 == NameKind.free && env.scope.kind == .function && env.kindOf n == some .cell) = true
    · simp only [c, if_true, List.lookup_cons]
      cases e : (x == n) with
      | true => exact .inl rfl
      | false =>
        rw [e] at h
        exact ih h
    · simp only [c, Bool.false_eq_true, if_false, List.lookup_cons]
      cases e : (x == n) with
      | true =>
        rw [e] at h
        exact .inr h
      | false =>
        rw [e] at h
        exact ih h

/-- what a block's scope must be like: sc the frame's scope around it -/
def compOk (sc scope : Scope) : Bool :=
  scope.kind == .function && scope.names.all fun y => y.2 != .cell && (y.2 != .local || scope.names.lookup y.1 == some .local) && (y.2 != .free || (sc.names.lookup y.1 == some .cell || sc.names.lookup y.1 == some .free))
structure CompScope (sc scope : Scope) : Prop where
  kind : scope.kind = .function
  cell : ∀ y ∈ scope.names, y.2 ≠ .cell
  own : ∀ y ∈ scope.names, y.2 = .local → scope.names.lookup y.1 = some .local
  free : ∀ y ∈ scope.names, y.2 = .free → sc.names.lookup y.1 = some .cell ∨ sc.names.lookup y.1 = some .free
theorem CompScope.of {sc scope : Scope} (h : compOk sc scope = true) : CompScope sc scope := by
  unfold compOk at h
  rw [Bool.and_eq_true, List.all_eq_true] at h
  obtain ⟨h1, h2⟩ := h
  have h3 : ∀ y ∈ scope.names, (y.2 ≠ .cell ∧ (y.2 ≠ .local ∨ scope.names.lookup y.1 = some .local)) ∧ (y.2 ≠ .free ∨ (sc.names.lookup y.1 = some .cell ∨ sc.names.lookup y.1 = some .free)) := fun y hy => by
    have q := h2 y hy
    simpa [Bool.and_eq_true, Bool.or_eq_true] using q
  refine ⟨by simpa using h1, fun y hy => (h3 y hy).1.1, fun y hy e => ?_, fun y hy e => ?_⟩
  · exact (h3 y hy).1.2.resolve_left fun n => n e
  · exact (h3 y hy).2.resolve_left fun n => n e

/-- the context of a block -/
def cxB (X : Cx) (NC : List Str) (scope : Scope) (s3 : Shared) (H3 : Hp) (fp : List Addr) : Cx :=
  { X with N := NC, s₀ := s3, H₀ := H3, env := compEnvC scope (clo X.env.cells scope.names []) s3.heap.objs.size X.env, outer := X.stack, ex := fp, fn := fun _ => false, pn := [], xe := fun _ _ => False }
/-- the names at a block's entry: its own (none yet), then those of the frame, by their places there -/
def capt (own : Nat) (ix : List Nat) (σ : St) : St := List.replicate own none ++ ix.map fun j => (σ[j]?).getD none
/-- the caught names cs stand at the places ix of the frame -/
def Caps (X : Cx) (scope : Scope) : List Str → List Nat → Prop
  | [], [] => True
  | x :: cs, j :: js => (X.N[j]? = some x ∧ (X.env.kindOf x = some .cell ∨ X.env.kindOf x = some .free) ∧ scope.names.lookup x = some .free) ∧ Caps X scope cs js
  | _, _ => False
theorem Caps.len {X : Cx} {scope : Scope} : ∀ {cs : List Str} {js : List Nat}, Caps X scope cs js → cs.length = js.length
  | [], [], _ => rfl
  | _ :: _, _ :: _, h => by rw [List.length_cons, List.length_cons, Caps.len h.2]
  | [], _ :: _, h => h.elim
  | _ :: _, [], h => h.elim
theorem Caps.at {X : Cx} {scope : Scope} : ∀ {cs : List Str} {js : List Nat} {i : Nat} {x : Str}, Caps X scope cs js → cs[i]? = some x →
    ∃ j, js[i]? = some j ∧ X.N[j]? = some x ∧ (X.env.kindOf x = some .cell ∨ X.env.kindOf x = some .free) ∧ scope.names.lookup x = some .free
  | [], [], _, _, _, e => by simp at e
  | x :: _, j :: _, 0, _, h, e => by simp at e; subst e; exact ⟨j, rfl, h.1⟩
  | _ :: _, _ :: _, i + 1, _, h, e => by
    obtain ⟨j, e1, r⟩ := Caps.at (i := i) h.2 (by simpa using e)
    exact ⟨j, by simpa using e1, r⟩
  | [], _ :: _, _, _, h, _ => h.elim
  | _ :: _, [], _, _, h, _ => h.elim

/-- the tests of a clause -/
def tTrue : TT := fun _ H Q => Q true H
def PTs (Y : Cx) (ifs : List Expr) (t : TT) : Prop :=
  ∀ (pins : List (Addr × Obj)) (s : Shared) (σ : St) (H : Hp) (Q : Bool → Hp → Prop), Inv Y pins σ H s → t σ H Q →
    wpAny (model Y.prog Y.w) Y.A (forIn ifs true fun c r => if r = true then do let ok ← isTrue c Y.env (eval c Y.env); pure (ForInStep.yield ok) else pure (ForInStep.yield r)) (TP Y pins σ Q) Y.xe s
theorem pts_nil {Y : Cx} : PTs Y [] tTrue := fun _ _ _ H _ I h => wpAny_tests_nil ⟨H, I, h⟩
theorem pts_one {Y : Cx} {c : Expr} {t : TT} (h : PT Y c t) : PTs Y [c] t := fun pins s σ H Q I q => wpAny_tests_one (h pins s σ H Q I q)

/-- what is asked of a comprehension whose iterator has come and whose list stands at p: W the word by the turn, a measure, the list so far, the block's names, the heap; N what a turn is to reach -/
def CompW (g : TG) (tc : TT) (te : TE) (own : Nat) (ix : List Nat) (σ : St) (J : It) (p : Addr) (H1 : Hp) (QQ : Hp → Prop) : Prop :=
  ∃ W : Nat → Nat → List V → St → Hp → Prop, (∃ m, W 0 m [] (capt own ix σ) (upd H1 p (.lst []))) ∧ ∀ i m ys σ2 H2, W i m ys σ2 H2 → H2 p = some (.lst ys) ∧
    ((J.stop i H2 ∧ QQ H2) ∨ (J.go i H2 ∧ ys.length < sizeLine ∧ ∀ x H3, J.yld i H2 x H3 → ∃ N : List V → St → Hp → Prop, (∀ ys' σ' H', N ys' σ' H' → ∃ m', m' < m ∧ W (i + 1) m' ys' σ' H') ∧
      g x σ2 H3 fun σ4 H4 => tc σ4 H4 fun b H5 => if b = true then te σ4 H5 fun y H6 => H6 p = some (.lst ys) ∧ N (ys ++ [y]) σ4 (upd H6 p (.lst (ys ++ [y]))) else N ys σ4 H5))
/-- a list comprehension's reading -/
def tComp (wi : TI) (g : TG) (tc : TT) (te : TE) (own : Nat) (ix : List Nat) : TE := fun σ H Q => wi σ H fun J H1 => ∀ p, H1 p = none → CompW g tc te own ix σ J p H1 (Q (.ref p))

/-- a turn of the loop, the store of the target among it -/
theorem comp_loop {prog : Program} {w : World} {A : Around} {R : Result → Shared → Prop} {s : Shared} {elt target iter : Expr} {ifs : List Expr} {scope : Scope} {pos : Pos} {it acc : Value} {env : Env} (I : Nat → Shared → Prop)
    (turn : ∀ n s, I n s → wpAny (model prog w) A (pyNext it) (fun r s₁ => (r = none ∧ R (.ok .next) s₁) ∨ ∃ v, r = some v ∧
      wpAny (model prog w) A (letOwnedTupleGo target it v) (fun _ s₂ => wpAny (model prog w) A (assign target env v) (fun _ s₃ =>
        wpAny (model prog w) A (forIn ifs true fun c r => if r = true then do let ok ← isTrue c env (eval c env); pure (ForInStep.yield ok) else pure (ForInStep.yield r)) (fun ok s₄ =>
          (ok = true ∧ wpAny (model prog w) A (eval elt env) (fun x s₅ => wpAny (model prog w) A (call (.builtin "list.append") [acc, x]) (fun _ s₆ => ∃ m, m < n ∧ I m s₆) (fun _ _ => False) s₅) (fun _ _ => False) s₄) ∨
          (ok = false ∧ ∃ m, m < n ∧ I m s₄)) (fun _ _ => False) s₃) (fun _ _ => False) s₂) (fun _ _ => False) s₁) (fun _ _ => False) s)
    (n : Nat) (h : I n s) : codeAny (model prog w) A (.compLoop (.ListComp elt [⟨target, iter, ifs, 0⟩] scope pos) 0 it acc env) R s := by
  refine codeAny_loop rfl I (fun n s hI => ?_) n h
  show wpAny _ A ((compTurn (.ListComp elt [⟨target, iter, ifs, 0⟩] scope pos) 0 it acc env).onRaise (fun x => do noteFrame x env; theTreesLotGoes x)) _ _ s
  refine wpAny_noted ?_
  rw [compTurn_list]
  have no : ∀ (e : Value) (s' : Shared), False → notedBy (model prog w) A env (fun e s' => R (.error e) s') e s' := fun _ _ f => f.elim
  refine wpAny_bind (wpAny_standAt (wpAny_bind (wpAny_mono (turn n s hI) (fun r s₁ h₁ => ?_) no)))
  rcases h₁ with ⟨rfl, h₁⟩ | ⟨v, rfl, h₁⟩
  · exact wpAny_pure h₁
  refine wpAny_bind (wpAny_mono h₁ (fun _ s₂ h₂ => ?_) no)
  refine wpAny_bind (wpAny_mono h₂ (fun _ s₃ h₃ => ?_) no)
  refine wpAny_bind (wpAny_mono h₃ (fun ok s₄ h₄ => ?_) no)
  rcases h₄ with ⟨rfl, h₄⟩ | ⟨rfl, h₄⟩
  · refine wpAny_bind (wpAny_bind (wpAny_mono h₄ (fun x s₅ h₅ => ?_) no))
    exact wpAny_bind (wpAny_mono h₅ (fun _ s₆ h₆ => wpAny_pure (wpAny_pure ⟨rfl, h₆⟩)) no)
  · exact wpAny_pure ⟨rfl, h₄⟩

section
variable {X : Cx} {pins : List (Addr × Obj)} {σ : St} {H H' : Hp} {s s' : Shared}
/-- a block's entry: s3 the state with the new list laid, h4 the heap with the block's own names laid behind it -/
theorem block_start {NC own cs : List Str} {ix : List Nat} {scope : Scope} {fp : List Addr} {h4 : Heap} {t4 : Nat} (I : Inv X pins σ H s) (S : CompScope X.env.scope scope) (hN : NC = own ++ cs) (hc : Caps X scope cs ix)
    (hf : ∀ b ∈ fp, FpOk X pins H b) (hl : ∀ b ∈ fp, b < s.heap.objs.size) (hns : h4.Ns s.heap.objs.size fun _ => none) (hk : ∀ b o, s.heap.get? b = some o → h4.get? b = some o) :
    Inv (cxB X NC scope s H fp) [] (capt own.length ix σ) H { s with heap := h4, toks := t4 } := by
  have cs_has : ∀ y ∈ scope.names, y.2 = .free → ∃ c, X.env.cells.lookup y.1 = some c := fun y hy e => I.ok.has y.1 (S.free y hy e)
  have len := hc.len
  refine ⟨⟨I.ok.mod, S.kind, I.ok.glob, I.ok.blt, Nat.le_refl _, fun x y c e1 e2 => I.ok.inj x y c (clo_sub e1) (clo_sub e2), fun x hx => ?_, fun _ _ z => (nomatch z), I.ok.hd, I.ok.frames, .inl rfl, fun b hb => ⟨Nat.ne_of_lt (hl b hb), fun x c e => (hf b hb).2.2.2.2.1 x c (clo_sub e)⟩,
      I.bs, Nat.le_trans I.ok.bsz I.sz, fun b o e hb => ?_, fun b hb z => ?_, I.stack, I.stkFree⟩, rfl, I.bare, Un.kept hk, ⟨_, hns, fun i x v e1 e2 e3 => ?_⟩, fun x c e => ?_, I.hok.fresh (Nat.le_refl _), fun x c e => I.freeC x c (clo_sub e), fun p hp => ?_, I.hok.kept hk, ?_⟩
  · -- a cell for each caught name
    have hx' : (relabel scope X.env).names.lookup x = some .cell ∨ (relabel scope X.env).names.lookup x = some .free := hx
    have q : scope.names.lookup x = some .free := by
      rcases hx' with h | h
      · rcases relabel_look h with h | ⟨_, h⟩
        · exact absurd rfl (S.cell _ (PySem.mem_of_lookup h))
        · exact h
      · rcases relabel_look h with h | ⟨z, _⟩
        · exact h
        · cases z
    obtain ⟨c, hc'⟩ := cs_has (x, .free) (PySem.mem_of_lookup q) rfl
    exact lookup_some_of_mem (clo_has hc' scope.names [] (PySem.mem_of_lookup q))
  · rcases (hf b hb).2.2.2.1 with z | z
    · exact I.ok.noex b o e z
    · exact absurd (Nat.lt_of_lt_of_le (Heap.lt_size e) (Nat.le_trans I.ok.bsz z)) (Nat.lt_irrefl _)
  · rcases List.mem_cons.mp (I.stkSub b z) with z | z
    · exact (hf b hb).2.1 z
    · exact (hf b hb).2.2.1 z
  · -- the caught names' values
    have e1' : (own ++ cs)[i]? = some x := hN ▸ e1
    have hi : own.length ≤ i := by
      by_cases hi : own.length ≤ i
      · exact hi
      · unfold capt at e2
        rw [List.getElem?_append_left (by rw [List.length_replicate]; omega), List.getElem?_replicate, if_pos (by omega)] at e2
        cases e2
    rw [List.getElem?_append_right hi] at e1'
    obtain ⟨j, ej, en, kx, fx⟩ := hc.at e1'
    have e2' : (σ[j]?).getD none = some v := by
      unfold capt at e2
      rw [List.getElem?_append_right (by rw [List.length_replicate]; omega), List.length_replicate, List.getElem?_map, ej] at e2
      exact Option.some.inj e2
    have e2'' : σ[j]? = some (some v) := by
      cases z : σ[j]? with
      | none => rw [z] at e2'; cases e2'
      | some o => rw [z] at e2'; exact congrArg some e2'
    obtain ⟨m, _, hl'⟩ := I.loc
    obtain ⟨u, ru, l⟩ := hl' j x v en e2'' (kx.elim (fun z => .inr (.inl z)) fun z => .inr (.inr z))
    refine ⟨u, ru, .inr ⟨relabel_free fx, ?_⟩⟩
    rcases l with ⟨k, _⟩ | ⟨_, c, e, z⟩
    · rcases kx with k' | k' <;> rw [k] at k' <;> cases k'
    · obtain ⟨d, hd⟩ := lookup_some_of_mem (clo_has e scope.names [] (PySem.mem_of_lookup fx))
      have e' := clo_sub hd
      rw [e] at e'
      cases e'
      obtain ⟨o, ho, dd⟩ := z
      exact ⟨c, hd, o, hk c o ho, dd⟩
  · obtain ⟨v, o, ho, dd⟩ := I.cell x c (clo_sub e)
    exact ⟨v, o, hk c o ho, dd⟩
  · exact absurd (show p ∈ ([] : List (Addr × Obj)) from hp) (by simp)
  · show (capt own.length ix σ).length = NC.length
    rw [hN]
    unfold capt
    rw [List.length_append, List.length_append, List.length_replicate, List.length_map, len]
/-- .. and its end: the frame around it goes on -/
theorem block_end {NC : List Str} {scope : Scope} {fp : List Addr} {σ' : St} {h' : Heap} (I : Inv X pins σ H s) (hf : ∀ b ∈ fp, FpOk X pins H b) (J : Inv (cxB X NC scope s H fp) [] σ' H' s') (hs : Heap.SameBut s.heap.objs.size s'.heap h') : Inv X pins σ H' { s' with heap := h' } := by
  obtain ⟨hh, g, d, t, os⟩ := s'
  have hos : os = s.os := J.os
  subst hos
  have nC : H' s.heap.objs.size = none := J.free
  have un : Un (frs X.stack) fp H H' s.heap hh := J.base
  have out : ∀ b o, s.heap.get? b = some o → b ≠ s.heap.objs.size := fun b o e => Nat.ne_of_lt (Heap.lt_size e)
  have un' : Un (frs X.stack) fp H H' s.heap h' := ⟨fun b o e n hb hx => (hs.2 b (out b o e)).trans (un.keep b o e n hb hx), fun b o e n hb hx => let ⟨sl, q⟩ := un.slot b o e n hb hx; ⟨sl, (hs.2 b (out b o e)).trans q⟩, un.free,
    fun b o e hx => let ⟨o', q⟩ := un.there b o e hx; ⟨o', (hs.2 b (out b o e)).trans q⟩, un.tups, un.frzs, un.tbls⟩
  have hok : HOk X.prog X.w H' h' := fun b u e => by
    refine (J.hok b u e).stay (fun c v hc q => (hs.2 c ?_).trans q) (fun _ q => q) fun _ _ q => q
    rintro rfl
    rcases hc with rfl | hc
    · rw [nC] at e; cases e
    · rw [nC] at hc; cases hc
  have q := Inv.call (s := s) (h' := h') (g' := g) (d' := d) (t' := t) (ch := fp) I un' hok J.bare fun b hb => ⟨(hf b hb).2.2.2.1, (hf b hb).2.1, (hf b hb).2.2.2.2.1, (hf b hb).2.2.2.2.2⟩
  exact q
end
/-- the block from the new list on: what is wanted behind its last turn is told by fin -/
theorem comp_core {X : Cx} {elt tg iter : Expr} {ifs : List Expr} {scope : Scope} {pos : Pos} {NC own cs : List Str} {ix : List Nat} {g : TG} {tc : TT} {te : TE} (hc : X.calm = true) (S : CompScope X.env.scope scope) (hN : NC = own ++ cs) (hcap : Caps X scope cs ix)
    (hg : ∀ s3 H3 fp, PG (cxB X NC scope s3 H3 fp) tg g) (ht : ∀ s3 H3 fp, PTs (cxB X NC scope s3 H3 fp) ifs tc) (he : ∀ s3 H3 fp, PE (cxB X NC scope s3 H3 fp) elt te)
    {pins : List (Addr × Obj)} {σ : St} {H2 : Hp} {s2 : Shared} {it : Addr} {fp : List Addr} {tn : Nat → Heap → Prop} {J : It} (I2 : Inv X pins σ H2 s2) (T : Turn X.prog X.w X.K tg J fp it tn) (st2 : tn 0 s2.heap) (f2 : ∀ b ∈ fp, FpOk X pins H2 b) {QQ : Addr → Hp → Prop} {E : Value → Shared → Prop}
    {RR : Value → Addr → Result → Shared → Prop}
    (h2 : ∀ p, H2 p = none → CompW g tc te own.length ix σ J p H2 (QQ p))
    (fin : ∀ s3 H3 σ5 H5 s6, Inv X pins σ H3 s3 → (∀ b ∈ fp, FpOk X pins H3 b) → Inv (cxB X NC scope s3 H3 fp) [] σ5 H5 s6 → QQ s2.heap.objs.size H5 → RR (.ref s2.heap.objs.size) s3.heap.objs.size (.ok .next) s6) :
    wpAny (model X.prog X.w) X.A (newList []) (fun acc s3 => wpAny (model X.prog X.w) X.A (newFunctionEnv scope X.env.globals (clo X.env.cells scope.names []) [] X.env.qual none .none (some X.env)) (fun cenv s4 =>
      codeAny (model X.prog X.w) X.A (.compStart (.ListComp elt [⟨tg, iter, ifs, 0⟩] scope pos) 0 (.ref it) acc { cenv with scope := relabel scope X.env }) (RR acc cenv.locals) s4) E s3) E s2 := by
  have lt2 : ∀ b ∈ fp, b < s2.heap.objs.size := fun b hb => let ⟨_, e, _⟩ := T.obj _ _ st2 b hb; Heap.lt_size e
  obtain ⟨W, ⟨m0, w0⟩, turn⟩ := h2 _ I2.fresh
  refine wpAny_newObj_type ?_
  have I3 : Inv X pins σ (upd H2 s2.heap.objs.size (.lst [])) { s2 with heap := s2.heap.push { cls := .type "list", dict := none, data := .seq ([] : List Value).toArray } } := I2.lnew (t' := s2.toks) .nil (Nat.zero_le _)
  have f3 : ∀ b ∈ fp, FpOk X pins (upd H2 s2.heap.objs.size (.lst [])) b := fun b hb => ⟨by rw [upd_ne (Nat.ne_of_lt (lt2 b hb))]; exact (f2 b hb).1, (f2 b hb).2⟩
  have st3 : tn 0 (s2.heap.push { cls := .type "list", dict := none, data := .seq ([] : List Value).toArray }) := T.keep _ _ _ st2 fun b hb o e => Heap.get?_push_of_some _ e
  have lt3 : ∀ b ∈ fp, b < (s2.heap.push { cls := .type "list", dict := none, data := .seq ([] : List Value).toArray }).objs.size := fun b hb => by rw [Heap.size_push]; exact Nat.lt_succ_of_lt (lt2 b hb)
  refine wpAny_newFunctionEnv S.cell (fun _ z => nomatch z) (fun h4 hns hsb => ?_) S.kind
  dsimp only at hns hsb ⊢
  have hk4 : ∀ b o, (s2.heap.push { cls := .type "list", dict := none, data := .seq ([] : List Value).toArray }).get? b = some o → h4.get? b = some o := fun b o e =>
    hsb.extBut b o (Nat.ne_of_lt (Heap.lt_size e)) (Heap.get?_push_of_some _ e)
  have J0 := block_start (t4 := s2.toks + ([] : List (Str × Value)).length) I3 S hN hcap f3 lt3 hns hk4
  have st4 : tn 0 h4 := T.keep _ _ _ st3 fun b hb o e => hk4 b o e
  have fB : ∀ {H' : Hp}, (∀ b ∈ fp, H' b = none) → ∀ b ∈ fp, FpOk (cxB X NC scope { s2 with heap := s2.heap.push { cls := .type "list", dict := none, data := .seq ([] : List Value).toArray } } (upd H2 s2.heap.objs.size (.lst [])) fp) [] H' b := fun hn b hb => by
    refine ⟨hn b hb, Nat.ne_of_lt (lt3 b hb), fun z => ?_, .inl hb, fun x c e => (f3 b hb).2.2.2.2.1 x c (clo_sub e), fun p hp => absurd (show p ∈ ([] : List (Addr × Obj)) from hp) (by simp)⟩
    rcases List.mem_cons.mp (I3.stkSub b z) with z | z
    · exact (f3 b hb).2.1 z
    · exact (f3 b hb).2.2.1 z
  have loop : ∀ s4 : Shared, s4 = { s2 with heap := h4, toks := s2.toks + ([] : List (Str × Value)).length } →
      codeAny (model X.prog X.w) X.A (.compLoop (.ListComp elt [⟨tg, iter, ifs, 0⟩] scope pos) 0 (.ref it) (.ref s2.heap.objs.size) (compEnvC scope (clo X.env.cells scope.names []) (s2.heap.push { cls := .type "list", dict := none, data := .seq ([] : List Value).toArray }).objs.size X.env))
        (RR (.ref s2.heap.objs.size) (s2.heap.push { cls := .type "list", dict := none, data := .seq ([] : List Value).toArray }).objs.size) s4 := by
    rintro s4 rfl
    refine comp_loop (fun n s' => ∃ i ys σ' H', Inv (cxB X NC scope { s2 with heap := s2.heap.push { cls := .type "list", dict := none, data := .seq ([] : List Value).toArray } } (upd H2 s2.heap.objs.size (.lst [])) fp) [] σ' H' s' ∧ tn i s'.heap ∧ (∀ b ∈ fp, H' b = none) ∧ W i n ys σ' H') ?_ m0
      ⟨0, [], _, _, J0, st4, fun b hb => (f3 b hb).1, w0⟩
    rintro n s5 ⟨i, ys, σ5, H5, J5, st5, fr5, w5⟩
    obtain ⟨hp5, alt⟩ := turn i n ys σ5 H5 w5
    rcases alt with ⟨stop, qn⟩ | ⟨go, hz, step⟩
    · refine thn (T.done (cxB X NC scope _ _ fp) rfl rfl rfl hc i [] s5 σ5 H5 _ J5 (fB fr5) st5 stop) fun r s6 ⟨hr, J6⟩ => .inl ⟨hr, ?_⟩
      exact fin _ _ _ _ _ I3 f3 J6 qn
    · refine thn (T.item (cxB X NC scope _ _ fp) rfl rfl rfl hc i [] s5 σ5 H5 _ J5 (fB fr5) st5 go) fun r s6 ⟨u, hr, h6⟩ => .inr ⟨u, hr, ?_⟩
      refine thn h6 fun _ s7 ⟨x, H7, J7, r7, y7, st7, fr7⟩ => ?_
      have J7' := J7.pinned (fB fr7) (T.obj _ _ st7)
      obtain ⟨N, hN', q7⟩ := step x H7 y7
      refine thn (hg _ _ fp _ s7 σ5 H7 x u _ J7' r7 q7) fun _ s8 ⟨σ8, H8, J8, q8⟩ => ?_
      refine thn (ht _ _ fp _ s8 σ8 H8 _ J8 q8) fun ok s9 ⟨H9, J9, q9⟩ => ?_
      have again : ∀ {σa : St} {Ha : Hp} {sa : Shared} {ya : List V} {ma : Nat}, Inv (cxB X NC scope { s2 with heap := s2.heap.push { cls := .type "list", dict := none, data := .seq ([] : List Value).toArray } } (upd H2 s2.heap.objs.size (.lst [])) fp) ([] ++ pinsAt fp s7.heap) σa Ha sa → ma < n → W (i + 1) ma ya σa Ha →
          ∃ m, m < n ∧ ∃ i ys σ' H', Inv (cxB X NC scope { s2 with heap := s2.heap.push { cls := .type "list", dict := none, data := .seq ([] : List Value).toArray } } (upd H2 s2.heap.objs.size (.lst [])) fp) [] σ' H' sa ∧ tn i sa.heap ∧ (∀ b ∈ fp, H' b = none) ∧ W i m ys σ' H' := fun {σa Ha sa ya ma} Ja hm wa => by
        refine ⟨ma, hm, i + 1, ya, σa, Ha, Ja.unpinned, T.keep _ _ _ st7 fun b hb o e => (Ja.pin (b, o) (List.mem_append_right _ (List.mem_append_right _ (mem_pinsAt hb e)))).1, fun b hb => ?_, wa⟩
        obtain ⟨o, e, d⟩ := T.obj _ _ st7 b hb
        exact (Ja.pin (b, o) (List.mem_append_right _ (List.mem_append_right _ (mem_pinsAt hb e)))).2.1
      cases ok with
      | false =>
        obtain ⟨m', hm, w'⟩ := hN' _ _ _ (show N ys σ8 H9 from q9)
        exact .inr ⟨rfl, again J9 hm w'⟩
      | true =>
        refine .inl ⟨rfl, thn (he _ _ fp _ s9 σ8 H9 _ J9 q9) fun yv s10 ⟨y, H10, J10, r10, hp10, n10⟩ => ?_⟩
        obtain ⟨m', hm, w'⟩ := hN' _ _ _ n10
        refine thn (mt_append _ s10 σ8 H10 (.ref s2.heap.objs.size) [y] (.ref s2.heap.objs.size) [yv] (fun _ Hz => Hz = upd H10 s2.heap.objs.size (.lst (ys ++ [y]))) J10 rfl (.cons r10 .nil) ⟨_, ys, y, rfl, rfl, hp10, hz, rfl⟩) fun _ s11 ⟨_, H11, J11, _, e11⟩ => ?_
        subst e11
        exact again J11 hm w'
  exact codeAny_compStart_list (loop _ rfl) (T.self X.A 0 _ _ _ st4 (loop _ rfl))
/-- [elt for tg in iter if ..] -/
theorem pe_comp {X : Cx} {elt tg iter : Expr} {ifs : List Expr} {scope : Scope} {pos : Pos} {NC own cs : List Str} {ix : List Nat} {wi : TI} {g : TG} {tc : TT} {te : TE} (hc : X.calm = true) (S : CompScope X.env.scope scope) (hN : NC = own ++ cs) (hcap : Caps X scope cs ix)
    (hi : PI X tg iter wi) (hg : ∀ s3 H3 fp, PG (cxB X NC scope s3 H3 fp) tg g) (ht : ∀ s3 H3 fp, PTs (cxB X NC scope s3 H3 fp) ifs tc) (he : ∀ s3 H3 fp, PE (cxB X NC scope s3 H3 fp) elt te)
    (hs : ∀ x, foldedSetIterable iter X.env x = pure x := by intro _; rfl) : PE X (.ListComp elt [⟨tg, iter, ifs, 0⟩] scope pos) (tComp wi g tc te own.length ix) := by
  intro pins s σ H Q I h
  rw [eval_ListComp]
  have has : ∀ y ∈ scope.names, y.2 = .free → ∃ c, X.env.cells.lookup y.1 = some c := fun y hy e => I.ok.has y.1 (S.free y hy e)
  refine wpAny_comprehension_free (use := none) rfl hs (clo_is has) S.kind S.own (thn (hi pins s σ H _ I h) fun v s1 h1 => thn h1 fun itv s2 h2 => ?_)
  obtain ⟨it, fp, tn, J, H2, e, I2, T, st2, f2, h2⟩ := h2
  subst e
  refine comp_core hc S hN hcap hg ht he I2 T st2 f2 (QQ := fun p => Q (.ref p)) (RR := fun acc C => compPost (model X.prog X.w) X.A X.xe none (EP X pins σ Q) acc C) h2 fun s3 H3 σ5 H5 s6 I3 f3 J6 qn => ?_
  obtain ⟨m6, hn6, _⟩ := J6.loc
  exact ⟨m6, hn6, fun h7 hs7 => ⟨.ref s2.heap.objs.size, H5, block_end I3 f3 J6 hs7, rfl, qn⟩⟩
/-- x = [elt for ..]: the value is stored before the block's names are let go -/
theorem ps_comp {X : Cx} {elt tg iter : Expr} {ifs : List Expr} {scope : Scope} {pos py spos : Pos} {NC own cs : List Str} {ix : List Nat} {wi : TI} {g : TG} {tc : TT} {te : TE} {y : Str} {j : Nat} (hnd : X.N.Nodup) (hj : X.N[j]? = some y) (hy : X.env.scope.names.lookup y = some .local) (hc : X.calm = true) (S : CompScope X.env.scope scope) (hN : NC = own ++ cs) (hcap : Caps X scope cs ix)
    (hi : PI X tg iter wi) (hg : ∀ s3 H3 fp, PG (cxB X NC scope s3 H3 fp) tg g) (ht : ∀ s3 H3 fp, PTs (cxB X NC scope s3 H3 fp) ifs tc) (he : ∀ s3 H3 fp, PE (cxB X NC scope s3 H3 fp) elt te)
    (hsw : swapsWith (.ListComp elt [⟨tg, iter, ifs, 0⟩] scope pos) (some (.Name y py)) spos.line X.env = pure true := by rfl) (hs : ∀ x, foldedSetIterable iter X.env x = pure x := by intro _; rfl) :
    PS X (.Assign [.Name y py] (.ListComp elt [⟨tg, iter, ifs, 0⟩] scope pos) spos) (tAsg (tComp wi g tc te own.length ix) (gName j)) := by
  intro pins s σ H D I h
  rw [exec_Assign_Name_used _ _ _ _ hsw]
  refine wpAny_bind (wpAny_standAt (wpAny_bind ?_))
  show wpAny _ X.A (comprehension (.ListComp elt [⟨tg, iter, ifs, 0⟩] scope pos) scope X.env _ (newList []) false (eval iter X.env) (some (assign (.Name y py) X.env)) >>= fun _ => _) _ _ s
  have has : ∀ y ∈ scope.names, y.2 = .free → ∃ c, X.env.cells.lookup y.1 = some c := fun y hy e => I.ok.has y.1 (S.free y hy e)
  refine wpAny_bind (thn (wpAny_comprehension_free (use := some (assign (.Name y py) X.env)) (Q := fun _ s' => SP X pins D .next s') rfl hs (clo_is has) S.kind S.own (thn (hi pins s σ H _ I h) fun v s1 h1 => thn h1 fun itv s2 h2 => ?_)) fun _ s' hq => wpAny_pure (wpAny_pure hq))
  obtain ⟨it, fp, tn, J, H2, e, I2, T, st2, f2, h2⟩ := h2
  subst e
  refine comp_core hc S hN hcap hg ht he I2 T st2 f2 (QQ := fun p H' => D.nx (σ.set j (some (.ref p))) H') (RR := fun acc C => compPost (model X.prog X.w) X.A X.xe (some (assign (.Name y py) X.env)) (fun _ s' => SP X pins D .next s') acc C) h2 fun s3 H3 σ5 H5 s6 I3 f3 J6 qn => ?_
  obtain ⟨m6, hn6, _⟩ := J6.loc
  have I6 := block_end I3 f3 J6 (Heap.SameBut.refl ..)
  show wpAny _ X.A (assign (.Name y py) X.env (.ref s2.heap.objs.size)) _ _ s6
  refine wpAny_assign_Name (store_ok2 (v := .ref s2.heap.objs.size) I6 hnd hj (.inl hy) rfl (fun s7 I7 ⟨a, hs7, ha⟩ => ?_) (.inr hy))
  have hCa : s3.heap.objs.size ≠ a := by
    rcases ha with ha | ha
    · rw [ha]; exact Ne.symm (Nat.ne_of_lt I3.lt)
    · obtain ⟨v, q⟩ := I3.cell y a ha
      exact Ne.symm (Nat.ne_of_lt q.lt)
  refine ⟨m6, hn6.sameBut hs7 hCa, fun h8 hs8 => ?_⟩
  have nC : H5 s3.heap.objs.size = none := J6.free
  have I8 : Inv X pins (σ.set j (some (.ref s2.heap.objs.size))) H5 { s7 with heap := h8, toks := s7.toks } := by
    refine I7.turned (it := s3.heap.objs.size) (fun b o hb e => (hs8.2 b hb).trans e) nC (Ne.symm (Nat.ne_of_lt I3.lt)) (.inr I3.sz) (fun x c e z => ?_) (fun p hp z => ?_)
    · obtain ⟨v, q⟩ := I3.cell x c e
      exact absurd (z ▸ q.lt) (Nat.lt_irrefl _)
    · exact absurd (z ▸ Heap.lt_size (I3.pin p hp).1) (Nat.lt_irrefl _)
  exact ⟨_, H5, I8, qn⟩
end L2

namespace L2
open PySem PySem.Spec PyProof.Rows

/-! ### isinstance -/
theorem call_isinst {X : Cx} : CallR X (.builtin "isinstance") (fun xs H Q => ∃ x c cv t b, xs = [x, c] ∧ (∀ u, RelV c u → u = cv) ∧ TyOf X.K H x t ∧ PySem.W.kitOne X.K t cv = some b ∧ Q (.bl b) H) := by
  intro pins s σ H xs us Q I r h
  obtain ⟨x, c, cv, t, b, rfl, hc, ty, e, q⟩ := h
  obtain ⟨u, z, rfl, rx, rc⟩ := vals2 r
  cases hc z rc
  exact isinst_ok I rx ty e fun tk => ⟨.bl b, H, I.tok tk, rfl, q⟩
theorem ty_is {n : String} : ∀ u, RelV (.ty n) u → u = .type n := fun _ h => h
theorem ref_is {a : Addr} : ∀ u, RelV (.ref a) u → u = .ref a := fun _ h => h

/-! ### sum -/
theorem call_sum {X : Cx} (hc : X.calm = true) : CallR X (.builtin "sum") (fun xs H Q => ∃ p, ∃ ns : List Int, xs = [.ref p] ∧ SqL X.K H p (ns.map V.int) ∧ Q (.int ns.sum) H) := by
  intro pins s σ H xs us Q I r h
  obtain ⟨p, ns, rfl, hq, q⟩ := h
  obtain ⟨u, rfl, rx⟩ := vals1 r
  cases rx
  obtain ⟨its, rv, pl, hz⟩ := I.list hq
  have hi : IntsAre its ns := intsAre_of rv
  obtain ⟨ys, ey⟩ := hi.allInts.items
  have hl : s.heap.IsList p (intItems ys) := ey ▸ pl.isList
  have es : preSum (numAt ys) ys.size = ns.sum := by
    have e1 := hi.numsOf
    have e2 : numsOf (intItems ys).toList = ns := by rw [← ey]; exact e1
    rw [nums_intItems] at e2
    rw [preSum_eq, List.take_of_length_le (by simp), e2]
  refine sum_intListG (I.ok.hd hc) hl fun h' tk t' hk => ?_
  exact ⟨.int ns.sum, H, I.kept hk, ⟨t', by rw [es]⟩, q⟩

/-! ### == and != of lists of flat items -/
def eqL : List V → List V → Bool
  | [], [] => true
  | x :: xs, y :: ys => eqV x y && eqL xs ys
  | _, _ => false
theorem eqL_len : ∀ {xs ys : List V}, xs.length ≠ ys.length → eqL xs ys = false
  | [], [], h => absurd rfl h
  | [], _ :: _, _ => rfl
  | _ :: _, [], _ => rfl
  | x :: xs, y :: ys, h => by
    unfold eqL
    rw [eqL_len (xs := xs) (ys := ys) fun e => h (by rw [List.length_cons, List.length_cons, e]), Bool.and_false]
theorem eqL_all : ∀ {xs ys : List V}, xs.length = ys.length → ∀ e : Nat → Bool, (∀ j x y, xs[j]? = some x → ys[j]? = some y → e j = eqV x y) → (List.range xs.length).all e = eqL xs ys
  | [], [], _, _, _ => rfl
  | [], _ :: _, h, _, _ => by simp at h
  | _ :: _, [], h, _, _ => by simp at h
  | x :: xs, y :: ys, h, e, he => by
    have ih := eqL_all (xs := xs) (ys := ys) (by simpa using h) (fun j => e (j + 1)) fun j a b ha hb => he (j + 1) a b (by simpa using ha) (by simpa using hb)
    unfold eqL
    rw [List.length_cons, List.range_succ_eq_map, List.all_cons, List.all_map, he 0 x y rfl rfl, ← ih]
    rfl
def eqAtJ (its js : List Value) (xs ys : List V) (j : Nat) : Bool := match xs[j]?, ys[j]? with
  | some x, some y => eqV x y
  | _, _ => true
theorem lists_at {X : Cx} {pins : List (Addr × Obj)} {s : Shared} {σ : St} {H : Hp} {A : Around} {xs ys : List V} {its js : List Value} (r1 : Vals xs its) (r2 : Vals ys js) (f1 : xs.all flatV = true) (f2 : ys.all flatV = true) (hl : xs.length = ys.length) :
    ∀ j (h1 : j < its.toArray.size) (h2 : j < js.toArray.size), SeqAt.EqAt A s its.toArray[j] js.toArray[j] (eqAtJ its js xs ys j) := fun j h1 h2 => by
  have l1 := r1.length
  have l2 := r2.length
  rw [List.size_toArray] at h1 h2
  have e1 : xs[j]? = some xs[j] := List.getElem?_eq_getElem (by omega)
  have e2 : ys[j]? = some ys[j] := List.getElem?_eq_getElem (by omega)
  obtain ⟨u, hu, ru⟩ := r1.get e1
  obtain ⟨v, hv, rv⟩ := r2.get e2
  have eu : its.toArray[j] = u := by rw [List.getElem_toArray]; exact (List.getElem?_eq_some_iff.mp hu).2
  have ev : js.toArray[j] = v := by rw [List.getElem_toArray]; exact (List.getElem?_eq_some_iff.mp hv).2
  rw [eu, ev]
  unfold eqAtJ
  rw [e1, e2]
  exact eqAt_V ru rv (List.all_eq_true.mp f1 _ (List.getElem_mem _)) (List.all_eq_true.mp f2 _ (List.getElem_mem _))
def rEqL (K : PySem.W.Frag) (neg : Bool) : R2 := fun x y H Q => ∃ a b xs ys, x = .ref a ∧ y = .ref b ∧ SqL K H a xs ∧ SqL K H b ys ∧ xs.all flatV = true ∧ ys.all flatV = true ∧ Q (.bl (if neg then !eqL xs ys else eqL xs ys)) H
theorem op_eqL {X : Cx} (hu : X.A.units < cLine) : OpR X (compareOp .Eq) (rEqL X.K false) := by
  intro pins s σ H x y v u Q I rx ry h
  obtain ⟨a, b, xs, ys, rfl, rfl, h1, h2, f1, f2, q⟩ := h
  cases rx
  cases ry
  obtain ⟨its, r1, p1, z1⟩ := I.list h1
  obtain ⟨js, r2, p2, z2⟩ := I.list h2
  have l1 := r1.length
  have l2 := r2.length
  by_cases hl : xs.length = ys.length
  · refine SeqAt.eq_listAt p1.isList p2.isList (by rw [List.size_toArray, List.size_toArray]; omega) hu (lists_at (X := X) (pins := pins) (σ := σ) (H := H) r1 r2 f1 f2 hl) ?_
    refine ⟨.bl (eqL xs ys), H, I, ?_, q⟩
    show Value.bool _ = Value.bool _
    rw [List.size_toArray, ← l1, eqL_all hl]
    intro j x y e1 e2
    unfold eqAtJ
    rw [e1, e2]
  · refine SeqAt.eq_list_lengthsAt p1.isList p2.isList (by simp only [List.size_toArray, bne_iff_ne, ne_eq]; omega) hu ?_
    exact ⟨.bl (eqL xs ys), H, I, by rw [eqL_len hl]; rfl, q⟩

/-! ### xs[::-1] -/
def tRev (K : PySem.W.Frag) (te : TE) (tk : TE) : TE := fun σ H Q => te σ H fun x H1 => tk σ H1 fun k H2 => k = .int (-1) ∧ ∃ a xs, x = .ref a ∧ SqL K H2 a xs ∧ ∀ p, H2 p = none → Q (.ref p) (upd H2 p (.lst xs.reverse))
theorem pe_rev {X : Cx} {e k : Expr} {te tk : TE} {p2 pos : Pos} (he : PE X e te) (hk : PE X k tk) : PE X (.Subscript e (.Slice none none (some k) p2) pos) (tRev X.K te tk) := by
  intro pins s σ H Q I h
  refine Subscript_ (thn (he pins s σ H _ I h) fun v s1 ⟨x, H1, I1, r1, q1⟩ => ?_)
  refine wpAny_Slice ?_
  rw [evalPart_none]
  refine wpAny_pure (wpAny_pure ?_)
  rw [evalPart_some]
  refine thn (hk pins s1 σ H1 _ I1 q1) fun vk s2 ⟨z, H2, I2, r2, hz, a, xs, ex, hx, q⟩ => ?_
  subst hz ex
  cases r1
  obtain ⟨t, rfl⟩ := r2
  have I4 : Inv X pins σ H2 { s2 with heap := s2.heap.push { cls := .type "slice", data := .fields #[.none, .none, .int (-1) t] } } := I2.kept (t' := s2.toks) fun b ob q => Heap.get?_push_of_some _ q
  obtain ⟨its, r, ht, hz⟩ := I4.list hx
  have hlen := r.length
  refine tail_any (ops := [.ref a, .ref s2.heap.objs.size]) ht.isList.typeIs slot_list_getitem.lookup ?_ (by with_unfolding_all rfl)
  refine wpAny_getItem_list_slice ht.isList (Heap.IsSliceOf.new ..) .none .none (.int (-1) t) (by decide) ?_ (by rw [List.size_toArray] <;> omega)
  refine ⟨.ref _, _, I4.laid (t' := s2.toks) (o := .lst xs.reverse) (fun b ob q => Heap.get?_push_of_some _ q) (Nat.le_refl _) ?_, rfl, q _ (I4.hok.fresh (Nat.le_refl _))⟩
  refine ⟨by rw [List.length_reverse]; exact hz, its.reverse, 0, r.reverse, ?_⟩
  rw [PySem.W.krv_pick]
  exact Heap.get?_push_size _ rfl

/-! ### xs.count(x) -/

/-! ### comprehensions over ranges and lists, by a word over the turn, the list so far, the heap -/
abbrev caps (ix : List Nat) (σ : St) : St := ix.map fun j => (σ[j]?).getD none
theorem comp_range {lo : Int} {n : Nat} {tc : TT} {te : TE} {σ : St} {ix : List Nat} {QQ : Hp → Prop} {H1 : Hp} {p : Addr} (Pv : Nat → List V → Hp → Prop) (h0 : Pv 0 [] (upd H1 p (.lst [])))
    (hp : ∀ i ys H, i ≤ n → Pv i ys H → H p = some (.lst ys) ∧ ys.length ≤ i) (hn : n ≤ sizeLine)
    (hs : ∀ i ys H, i < n → Pv i ys H → tc (some (.int (lo + i)) :: caps ix σ) H fun b H5 => if b = true then te (some (.int (lo + i)) :: caps ix σ) H5 fun y H6 => H6 p = some (.lst ys) ∧
      (some (.int (lo + i)) :: caps ix σ) = (some (.int (lo + i)) :: caps ix σ) ∧ Pv (i + 1) (ys ++ [y]) (upd H6 p (.lst (ys ++ [y]))) else (some (.int (lo + i)) :: caps ix σ) = (some (.int (lo + i)) :: caps ix σ) ∧ Pv (i + 1) ys H5)
    (hd : ∀ ys H, Pv n ys H → QQ H) :
    CompW (gName 0) tc te 1 ix σ (Itr lo n) p H1 QQ := by
  refine ⟨fun i m ys σ2 H2 => m = n - i ∧ i ≤ n ∧ (∃ o, σ2 = o :: caps ix σ) ∧ Pv i ys H2, ⟨n, by simp, Nat.zero_le _, ⟨none, rfl⟩, h0⟩, ?_⟩
  rintro i m ys σ2 H2 ⟨rfl, hi, ⟨o, rfl⟩, pv⟩
  obtain ⟨hp2, hl2⟩ := hp i ys H2 hi pv
  refine ⟨hp2, ?_⟩
  by_cases hlt : i < n
  · refine .inr ⟨hlt, by omega, fun x H3 y => ?_⟩
    obtain ⟨e, y⟩ := y
    subst e y
    exact ⟨fun ys' σ' H' => σ' = (some (.int (lo + i)) :: caps ix σ) ∧ Pv (i + 1) ys' H', fun ys' σ' H' ⟨e, q⟩ => ⟨n - (i + 1), by omega, rfl, hlt, ⟨_, e⟩, q⟩, hs i ys _ hlt pv⟩
  · have e : i = n := by omega
    subst e
    exact .inl ⟨Nat.le_refl _, hd ys H2 pv⟩
theorem comp_list {K : PySem.W.Frag} {a : Addr} {xs : List V} {tc : TT} {te : TE} {σ : St} {ix : List Nat} {QQ : Hp → Prop} {H1 : Hp} {p : Addr} (Pv : Nat → List V → Hp → Prop) (h0 : Pv 0 [] (upd H1 p (.lst [])))
    (hp : ∀ i ys H, i ≤ xs.length → Pv i ys H → H p = some (.lst ys) ∧ ys.length ≤ i ∧ SqL K H a xs) (hn : xs.length ≤ sizeLine)
    (hs : ∀ i x ys H, xs[i]? = some x → Pv i ys H → tc (some x :: caps ix σ) H fun b H5 => if b = true then te (some x :: caps ix σ) H5 fun y H6 => H6 p = some (.lst ys) ∧
      (some x :: caps ix σ) = (some x :: caps ix σ) ∧ Pv (i + 1) (ys ++ [y]) (upd H6 p (.lst (ys ++ [y]))) else (some x :: caps ix σ) = (some x :: caps ix σ) ∧ Pv (i + 1) ys H5)
    (hd : ∀ ys H, Pv xs.length ys H → QQ H) :
    CompW (gName 0) tc te 1 ix σ (Itl K a) p H1 QQ := by
  refine ⟨fun i m ys σ2 H2 => m = xs.length - i ∧ i ≤ xs.length ∧ (∃ o, σ2 = o :: caps ix σ) ∧ Pv i ys H2, ⟨xs.length, by simp, Nat.zero_le _, ⟨none, rfl⟩, h0⟩, ?_⟩
  rintro i m ys σ2 H2 ⟨rfl, hi, ⟨o, rfl⟩, pv⟩
  obtain ⟨hp2, hl2, hq2⟩ := hp i ys H2 hi pv
  refine ⟨hp2, ?_⟩
  by_cases hlt : i < xs.length
  · refine .inr ⟨⟨xs, xs[i], hq2, by simp [hlt]⟩, by omega, fun x H3 y => ?_⟩
    obtain ⟨e, y⟩ := y
    subst e
    exact ⟨fun ys' σ' H' => σ' = (some x :: caps ix σ) ∧ Pv (i + 1) ys' H', fun ys' σ' H' ⟨e, q⟩ => ⟨xs.length - (i + 1), by omega, rfl, hlt, ⟨_, e⟩, q⟩, hs i x ys _ (y xs hq2) pv⟩
  · have e : i = xs.length := by omega
    subst e
    exact .inl ⟨⟨xs, hq2, Nat.le_refl _⟩, hd ys H2 pv⟩
end L2

namespace L2
open PySem PySem.Spec PyProof.Rows

/-! ### a def of the text with its promise, in one -/
structure Cal (P : Program) (w : World) (K : PySem.W.Frag) (mg : Str → Option Value) (base : Heap) (k : Nat) (x : Str) (ps : List Str) (sp : Sp) : Prop where
  ex : ∃ f fd, FnOk P w K mg base CX0 k f fd ps sp ∧ Binds K fd ps [] ∧ PySem.W.keepIn K (.ref f) = true ∧ mg x = some (.ref f)
theorem pe_callC {X : Cx} {k : Nat} {x : Str} {ps : List Str} {sp : Sp} {e : Expr} {es : List Expr} {p pos : Pos} {t : TA} (C : Cal X.prog X.w X.K X.mg X.base k x ps sp) (hr : Room k X.A) (hg : Gl X x) (ha : PA X (e :: es) t)
    (hdb : (x == ("__debug__" : Str)) = false := by decide) (he : starEach (e :: es) X.env = (false, eval e X.env) :: starEach es X.env := by rfl) (hpl : (backTo pos (starEach es X.env)).any (·.1) = false := by rfl) :
    PE X (.Call (.Name x p) (e :: es) [] pos) (tCall sp [] E0 t) := by
  obtain ⟨f, fd, F, b, kp, hm⟩ := C.ex
  exact pe_call F hr hg hm kp b .nil pass0 ha hdb he hpl
/-- a def as it stands behind the top: how it binds, its name -/
structure Def (K : PySem.W.Frag) (mg : Str → Option Value) (x : Str) (st : Stmt) (ps : List Str) : Prop where
  ex : ∃ f fd, Fun K x x st f fd ∧ Binds K fd ps [] ∧ mg x = some (.ref f)
theorem Def.cal {P : Program} {w : World} {K : PySem.W.Frag} {mg : Str → Option Value} {base : Heap} {k : Nat} {x : Str} {st : Stmt} {ps : List Str} {sp : Sp} (D : Def K mg x st ps) (h : ∀ f fd, Fun K x x st f fd → FnOk P w K mg base CX0 k f fd ps sp) : Cal P w K mg base k x ps sp := by
  obtain ⟨f, fd, F, b, m⟩ := D.ex
  exact ⟨f, fd, h f fd F, b, F.kp, m⟩
/-- a module's constant -/
def GInt (mg : Str → Option Value) (x : Str) (i : Int) : Prop := ∃ t, mg x = some (.int i t)
def GStr (mg : Str → Option Value) (x : Str) (z : Str) : Prop := ∃ t, mg x = some (.str z t)
theorem pe_gint {X : Cx} {x : Str} {i : Int} {pos : Pos} (h : GInt X.mg x i) (hg : Gl X x) (hd : (x == ("__debug__" : Str)) = false := by decide) : PE X (.Name x pos) (tC (.int i)) := by
  obtain ⟨t, e⟩ := h
  exact pe_glob hg e ⟨t, rfl⟩ hd
theorem pe_gstr {X : Cx} {x : Str} {i : Str} {pos : Pos} (h : GStr X.mg x i) (hg : Gl X x) (hd : (x == ("__debug__" : Str)) = false := by decide) : PE X (.Name x pos) (tC (.str i)) := by
  obtain ⟨t, e⟩ := h
  exact pe_glob hg e ⟨t, rfl⟩ hd
/-- a built-in type's name -/
theorem pe_ty {X : Cx} {x : Str} {pos : Pos} (T : String) (hg : Gl X x) (hm : X.mg x = none) (hv : bootBuiltins x = some (.type T)) (hn : x ≠ "__name__" := by decide) (hd : (x == ("__debug__" : Str)) = false := by decide) : PE X (.Name x pos) (tC (.ty T)) :=
  pe_bltn (v := .ty T) hg hm hv rfl hn hd
/-- the rules that name the fragment, with it told (a block's reading may not name the block's context) -/
theorem ix_listK {X : Cx} {K : PySem.W.Frag} (h : X.K = K) : IxR X (rIxL K) := h ▸ ix_list
theorem same_new {H : Hp} {p : Addr} (h : H p = none) (o : HO) : Same H (upd H p o) := fun b u q => by rw [upd_ne (ne_of_none q h)]; exact q
theorem le_line {n : Nat} (h : n ≤ 1000) : n ≤ sizeLine := Nat.le_of_lt (small1000 h)
/-- an item of a list of ints -/
theorem at_int {ns : List Int} {i : Nat} {n : Int} (h : ns[i]? = some n) : atI (ns.map V.int) (i : Int) = some (.int n) := atI_nat (by rw [List.getElem?_map, h]; rfl)
theorem at_intI {ns : List Int} {i : Int} (h0 : 0 ≤ i) (h : i < ns.length) : atI (ns.map V.int) i = some (.int (ns.getD i.toNat 0)) := by
  have e : ((i.toNat : Nat) : Int) = i := by omega
  have q := at_int (ns := ns) (i := i.toNat) (n := ns.getD i.toNat 0) (by rw [List.getElem?_eq_getElem (by omega), List.getD_eq_getElem?_getD, List.getElem?_eq_getElem (by omega)]; rfl)
  rw [e] at q
  exact q
theorem item_int {ns : List Int} {i : Nat} {y : V} (h : (ns.map V.int)[i]? = some y) : ∃ n, ns[i]? = some n ∧ y = .int n := by
  rw [List.getElem?_map] at h
  cases e : ns[i]? with
  | none => rw [e] at h; cases h
  | some n => rw [e] at h; exact ⟨n, rfl, (Option.some.inj h).symm⟩
theorem ix_of {n : Nat} {k : Int} (h0 : 0 ≤ k) (h : k < n) : ixN n k = some k.toNat := by
  unfold ixN
  first
    | (rw [if_pos h0, if_pos h]; done)
    | (simp [h0, h]; done)
    | (simp [h0, h]; omega)
theorem room_u {k : Nat} {A : Around} (hr : Room k A) : A.units < cLine := hr.units0
example : bootBuiltins "int" = some (.type "int") := by rfl
end L2

namespace L2
open PySem PySem.Spec PyProof.Rows

/-! ### enumerate(xs), its pairs unpacked by the target -/
def Ite (K : PySem.W.Frag) (a : Addr) : It :=
  ⟨fun i H => ∃ xs x, SqL K H a xs ∧ xs[i]? = some x,
   fun i H x H' => ∃ t y, x = .ref t ∧ H t = none ∧ (∀ xs, SqL K H a xs → xs[i]? = some y) ∧ H' = upd H t (.tup [.int i, y]),
   fun i H => ∃ xs, SqL K H a xs ∧ xs.length ≤ i⟩
theorem turn_enum {P : Program} {w : World} {K : PySem.W.Frag} {elts : List Expr} {k : Nat} {tp : Pos} (a e it : Addr) (hei : e ≠ it) :
    Turn P w K (.Tuple elts k tp) (Ite K a) [e, it] e (fun i h => (∃ old, IsEnum h e it i old) ∧ h.IsListIter it a i) where
  mem := by simp
  obj := fun i h st b hb => by
    obtain ⟨⟨old, he⟩, o, ho, c, d⟩ := st
    rcases List.mem_cons.mp hb with rfl | hb
    · exact ⟨_, he, fun v z => by
        have z' : Data.fields _ = Data.cell v := z
        cases z'⟩
    · have eb : b = it := by simpa using hb
      subst eb
      exact ⟨o, ho, fun v z => by rw [d] at z; cases z⟩
  keep := fun i h h' st kk => by
    obtain ⟨⟨old, he⟩, hit⟩ := st
    exact ⟨⟨old, kk e (by simp) _ he⟩, hit.at fun o x => kk it (by simp) o x⟩
  item := by
    intro X hP hw hK hc i pins s σ H E I hf st hg
    subst hP hw hK
    obtain ⟨⟨old, he⟩, hit⟩ := st
    obtain ⟨xs, x, hq, hx⟩ := hg
    obtain ⟨its, rv, p, hz⟩ := I.list hq
    obtain ⟨u, hu, ru⟩ := rv.get hx
    obtain ⟨e0, e1, e2, e3, e4, e5⟩ := hf e (by simp)
    obtain ⟨i0, i1, i2, i3, i4, i5⟩ := hf it (by simp)
    refine wpAny_pyNext_enum_item he hit p.isList (x := u) (by simpa using hu) hei fun h1 ho hit1 hT hsz hk => ⟨_, rfl, ?_⟩
    refine wpAny_letOwnedTupleGo_enum ho fun h2 he2 hs2 => ?_
    have hs2' : Heap.SameBut e h1 h2 := hs2
    have helt : e < s.heap.objs.size := Heap.lt_size he
    have hnT : H s.heap.objs.size = none := I.hok.fresh (Nat.le_refl _)
    have up : ∀ b o, b ≠ e → b ≠ it → s.heap.get? b = some o → h2.get? b = some o := fun b o h3 h4 q => (hs2'.2 b h3).trans (hk b o h3 h4 q)
    have nch : ∀ b, b ∉ [e, it] → b ≠ e ∧ b ≠ it := fun b hb => ⟨fun z => hb (by simp [z]), fun z => hb (by simp [z])⟩
    have ntr : ∀ b o, H b = some o → b ≠ e ∧ b ≠ it := fun b o q => ⟨fun z => by (rw [z, e0] at q; cases q), fun z => by (rw [z, i0] at q; cases q)⟩
    have htup : h2.get? s.heap.objs.size = some { cls := .type "tuple", data := .seq #[.int i s.toks, u] } := (hs2'.2 _ (Nat.ne_of_gt helt)).trans hT
    have I1 : Inv X pins σ (upd H s.heap.objs.size (.tup [.int i, x])) { s with heap := h2, gens := s.gens, drawn := s.drawn, toks := s.toks + 1 } := by
      refine I.step (ch := [e, it]) (fun b hb => ?_) (fun b o _ _ hb q _ => up b o (nch b hb).1 (nch b hb).2 q) (fun b o _ _ hb q _ => ⟨o.slots, up b o (nch b hb).1 (nch b hb).2 q⟩) (fun b o _ q n => by rw [upd_ne (Nat.ne_of_lt (Heap.lt_size q))]; exact n)
        (fun b o hb q => ⟨o, up b o (nch b hb).1 (nch b hb).2 q⟩) (fun b xs q => by rw [upd_ne (ne_of_none q hnT)]; exact q) (fun b o u q => by rw [upd_ne (ne_of_none q hnT)]; exact q) (fun b ps q => ⟨#[], by rw [upd_ne (ne_of_none q hnT), q]; simp⟩)
        (fun m hm => ?_) (fun b o q => ?_) I.bare
      · rcases List.mem_cons.mp hb with rfl | hb
        · exact ⟨e3, e1, e4, e5⟩
        · have eb : b = it := by simpa using hb
          subst eb
          exact ⟨i3, i1, i4, i5⟩
      · obtain ⟨o, es, ep, hoL, r⟩ := hm
        exact ⟨o, es, ep, up _ o (Ne.symm e1) (Ne.symm i1) hoL, r⟩
      · by_cases hb : b = s.heap.objs.size
        · subst hb
          rw [upd_same] at q
          cases q
          exact ⟨le_line (by show 2 ≤ 1000; decide), [.int i s.toks, u], .cons ⟨_, rfl⟩ (.cons ru .nil), _, htup, rfl, _, rfl⟩
        · rw [upd_ne hb] at q
          refine (I.hok b o q).stay (fun c v hc2 q2 => ?_) (fun c q2 => by rw [upd_ne (ne_of_none q2 hnT)]; exact q2) (fun c xs q2 => by rw [upd_ne (ne_of_none q2 hnT)]; exact q2)
          rcases hc2 with rfl | hc2
          · exact up _ v (ntr _ _ q).1 (ntr _ _ q).2 q2
          · exact up _ v (ntr _ _ hc2).1 (ntr _ _ hc2).2 q2
    refine ⟨.ref s.heap.objs.size, _, I1, rfl, ⟨_, x, rfl, hnT, fun ys hy => by rw [I.list_inj hy hq]; exact hx, rfl⟩, ⟨⟨u, ?_⟩, ?_⟩, fun b hb => ?_⟩
    · have ei : ((i + 1 : Nat) : Int) = (i : Int) + 1 := by omega
      rw [ei]
      exact he2
    · exact hit1.at fun o q => (hs2'.2 it hei.symm).trans q
    · have hbl : b < s.heap.objs.size := by
        rcases List.mem_cons.mp hb with rfl | hb
        · exact helt
        · have eb : b = it := by simpa using hb
          subst eb
          obtain ⟨o, q, _⟩ := hit
          exact Heap.lt_size q
      rw [upd_ne (Nat.ne_of_lt hbl)]
      exact (hf b hb).1
  done := by
    intro X hP hw hK hc i pins s σ H E I hf st hg
    subst hP hw hK
    obtain ⟨⟨old, he⟩, hit⟩ := st
    obtain ⟨xs, hq, hx⟩ := hg
    obtain ⟨its, rv, p, hz⟩ := I.list hq
    obtain ⟨i0, i1, i2, i3, i4, i5⟩ := hf it (by simp)
    have hl := rv.length
    exact wpAny_pyNext_enum_end (I.ok.hd hc) he hit p.isList (by simp; omega) fun h' eb => ⟨rfl, I.turned (t' := s.toks) (fun b o hb q => eb b o hb q) i0 i1 i3 i4 i5⟩
  self := fun _ _ _ _ _ st h => by
    obtain ⟨⟨old, he⟩, _⟩ := st
    exact wpAny_pyIter_enum he h
def iEnum (K : PySem.W.Frag) (ta : TA) : TI := fun σ H R => ta σ H fun vs H1 => ∃ a, vs = [.ref a] ∧ (∃ xs, SqL K H1 a xs) ∧ R (Ite K a) H1
theorem pi_enum {X : Cx} {a : Expr} {ta : TA} {p pos tp : Pos} {elts : List Expr} {k : Nat} (hg : Gl X "enumerate") (hm : X.mg "enumerate" = none) (ha : PA X [a] ta) (hs : starEach [a] X.env = [(false, eval a X.env)] := by rfl) :
    PI X (.Tuple elts k tp) (.Call (.Name "enumerate" p) [a] [] pos) (iEnum X.K ta) := by
  intro pins s σ H R I h
  refine Call_ (ld_blt I hg hm (show bootBuiltins "enumerate" = some (.type "enumerate") from rfl) (PyProof.Rows.callWith_type1 (thn (ha pos pins s σ H _ I h) fun us s1 ⟨vs, H1, I1, r1, q1⟩ => ?_) hs rfl))
  obtain ⟨a, ev, ⟨xs, hq⟩, q⟩ := q1
  subst ev
  obtain ⟨u, rfl, rx⟩ := vals1 r1
  cases rx
  obtain ⟨its, rv, pl, hz⟩ := I1.list hq
  refine call_enumerate_list pl.isList fun h' he hit hsz hk => ?_
  refine wpAny_pyIter_enum he ?_
  have I2 : Inv X pins σ H1 { s1 with heap := h' } := I1.kept (t' := s1.toks) hk
  refine ⟨_, [s1.heap.objs.size + 1, s1.heap.objs.size], _, _, H1, rfl, I2, turn_enum a _ _ (Nat.succ_ne_self _), ⟨⟨_, he⟩, hit⟩, fun b hb => ?_, q⟩
  rcases List.mem_cons.mp hb with rfl | hb
  · exact I1.fpOk (Nat.le_succ _) (I1.hok.fresh (Nat.le_succ _))
  · have eb : b = s1.heap.objs.size := by simpa using hb
    subst eb
    exact I1.fpOk (Nat.le_refl _) (I1.hok.fresh (Nat.le_refl _))
end L2

namespace L2
open PySem PySem.Spec PyProof.Rows
/-! ### a method, a class of the text with their promises, in one -/
structure MCal (P : Program) (w : World) (K : PySem.W.Frag) (mg : Str → Option Value) (base : Heap) (k : Nat) (C : Addr) (m : Str) (ps : List Str) (sp : Sp) : Prop where
  ex : ∃ f fd, FnOk P w K mg base CX0 k f fd ps sp ∧ Binds K fd ps [] ∧ Meth K C m f
  cl : Cls K C
theorem pe_methC {X : Cx} {k : Nat} {C : Addr} {m : Str} {ps : List Str} {sp : Sp} {e o : Expr} {es : List Expr} {apos pos : Pos} {ta : TE} {t : TA} {pl : Sem Bool} (M : MCal X.prog X.w X.K X.mg X.base k C m ps sp) (hr : Room k X.A) (he : PE X o ta) (ha : PA X (e :: es) t)
    (hst : starEach (e :: es) X.env = (false, eval e X.env) :: starEach es X.env := by rfl) (hpl : (backTo pos (starEach es X.env)).any (·.1) = false := by rfl)
    (ht : eval (.Call (.Attribute o m apos) (e :: es) [] pos) X.env = (do
      let ov ← eval o X.env
      standAt apos.atName
      let (f, first) ← holding [ov] (getMethod ov m pl)
      callWith pos f first (backTo pos (starEach (e :: es) X.env)) (backToKw pos (keywordEach [] X.env))) := by rfl) :
    PE X (.Call (.Attribute o m apos) (e :: es) [] pos) (tMeth C m sp [] E0 ta t) := by
  obtain ⟨f, fd, F, b, hm⟩ := M.ex
  exact pe_meth he M.cl hm F hr b .nil pass0 ha hst hpl ht
structure KCal (P : Program) (w : World) (K : PySem.W.Frag) (mg : Str → Option Value) (base : Heap) (k : Nat) (x : Str) (C : Addr) (ps : List Str) (sp : Sp) : Prop where
  ex : ∃ f fd, Mk K C f ∧ FnOk P w K mg base CX0 k f fd ps sp ∧ Binds K fd ps [] ∧ mg x = some (.ref C)
theorem pe_makeC {X : Cx} {k : Nat} {x : Str} {C : Addr} {ps : List Str} {sp : Sp} {e : Expr} {es : List Expr} {p pos : Pos} {t : TA} (M : KCal X.prog X.w X.K X.mg X.base k x C ps sp) (hr : Room (k + 1) X.A) (hg : Gl X x) (ha : PA X (e :: es) t)
    (hdb : (x == ("__debug__" : Str)) = false := by decide) (he : starEach (e :: es) X.env = (false, eval e X.env) :: starEach es X.env := by rfl) (hpl : (backTo pos (starEach es X.env)).any (·.1) = false := by rfl) :
    PE X (.Call (.Name x p) (e :: es) [] pos) (tMake C sp [] E0 t) := by
  obtain ⟨f, fd, mk, F, b, hm⟩ := M.ex
  exact pe_make mk F hr hg hm b .nil pass0 ha hdb he hpl
end L2

namespace L2
open PySem PySem.Spec PyProof.Rows
/-! ### range(lo, hi) of any ints -/
/-! ### min(xs) of ints: one of them -/
end L2

namespace L2
open PySem PySem.Spec PyProof.Rows

/-! ### exceptions of own classes: how one lies, flies, is caught -/
theorem ObjOk.is {P : Program} {w : World} {H : Hp} {h : Heap} {a : Addr} {o : HO} (x : ObjOk P w H h a o) : ∃ ob, h.get? a = some ob := by
  cases o with
  | lst xs => obtain ⟨_, _, _, _, e⟩ := x; exact ⟨_, e⟩
  | tup xs => obtain ⟨_, _, _, _, e, _⟩ := x; exact ⟨_, e⟩
  | dK kvs => obtain ⟨_, _, _, _, _, _, _, e, _⟩ := x; exact ⟨_, e⟩
  | dT kvs => obtain ⟨_, _, _, _, _, _, _, e, _⟩ := x; exact ⟨_, e⟩
  | set S n => obtain ⟨_, _, _, _, e, _⟩ := x; exact ⟨_, e⟩
  | ins C dx fs => obtain ⟨_, _, _, e, _⟩ := x; exact ⟨_, e⟩
  | own y => exact x
  | xd fs => obtain ⟨_, ⟨_, _, _, e, _⟩, _⟩ := x; exact ⟨_, e⟩
  | rng lo hi => obtain ⟨_, _, _, e⟩ := x; exact ⟨_, e⟩
  | frz ob u => exact ⟨_, x.1⟩
  | tbl ps => exact ⟨_, x⟩
  | met f y => exact ⟨_, x⟩
  | ext φ => exact x.2.1
/-- the object of an exception: class, own dict, context; no traceback yet, or one whose last entry isn't in flight; fx: what is true of the records that turn -/
def XOb (h : Heap) (e : Addr) (c : Value) (d : Option Addr) (ctx : Value) (fx : Addr → Prop) : Prop :=
  ∃ oe vs, h.get? e = some oe ∧ oe.cls = c ∧ oe.dict = d ∧ oe.data = .fields vs ∧ 1 < vs.size ∧ vs[2]? = some ctx ∧ fx e ∧
    (vs[1]? = some .none ∨ ∃ T oT ts, vs[1]? = some (.ref T) ∧ T ≠ e ∧ h.get? T = some oT ∧ oT.data = .fields ts ∧ ts[3]? = some .none ∧ fx T)
theorem XOb.imp {h : Heap} {e : Addr} {c : Value} {d : Option Addr} {ctx : Value} {fx fy : Addr → Prop} (x : XOb h e c d ctx fx) (f : ∀ b, fx b → fy b) : XOb h e c d ctx fy := by
  obtain ⟨oe, vs, he, hc, hdd, hd, hz, h2, fe, ht⟩ := x
  refine ⟨oe, vs, he, hc, hdd, hd, hz, h2, f _ fe, ?_⟩
  rcases ht with h1 | ⟨T, oT, ts, h1, hTe, hT, hdT, h3, fT⟩
  · exact .inl h1
  · exact .inr ⟨T, oT, ts, h1, hTe, hT, hdT, h3, f _ fT⟩
/-- a record of our own that may turn: FpOk, but «not there at the entry» in the place of «younger than the entry» -/
def FxOk (X : Cx) (pins : List (Addr × Obj)) (H : Hp) (b : Addr) : Prop :=
  H b = none ∧ b ≠ X.env.locals ∧ b ∉ X.fs ∧ (b ∈ X.ex ∨ X.s₀.heap.get? b = none) ∧ (∀ x c, X.env.cells.lookup x = some c → c ≠ b) ∧ ∀ p ∈ X.pn ++ pins, p.1 ≠ b
section
variable {X : Cx} {pins : List (Addr × Obj)} {σ : St} {H H' : Hp} {s : Shared} {h' : Heap}
theorem Inv.fxOk {b : Addr} (I : Inv X pins σ H s) (hb : s.heap.get? b = none) (hn : H' b = none) : FxOk X pins H' b := by
  have no : ∀ {a : Addr} {o : Obj}, s.heap.get? a = some o → a ≠ b := fun {a o} q z => by rw [z, hb] at q; cases q
  refine ⟨hn, fun z => ?_, fun z => ?_, ?_, fun x c e => ?_, fun p hp => no (I.pin p hp).1⟩
  · obtain ⟨m, ⟨o, es, ep, ho, _⟩, _⟩ := I.loc
    exact no ho z.symm
  · obtain ⟨_, o, ho, _⟩ := I.ok.funs.mem z
    have n1 : b ∉ X.ex := fun y => I.ok.exfs b y z
    obtain ⟨o', e'⟩ := I.base.there b o ho n1
    exact no e' rfl
  · by_cases hx : b ∈ X.ex
    · exact .inl hx
    · refine .inr ?_
      cases q : X.s₀.heap.get? b with
      | none => rfl
      | some o =>
        obtain ⟨o', e'⟩ := I.base.there b o q hx
        exact absurd rfl (no e')
  · obtain ⟨v, o, ho, _⟩ := I.cell x c e
    exact no ho
/-- the step, with records that were not there at the entry -/
theorem Inv.stepN {g' : Array GenState} {t' : Nat} {d' : Drawn} {ch : List Addr} (I : Inv X pins σ H s)
    (hch : ∀ b ∈ ch, (b ∈ X.ex ∨ X.s₀.heap.get? b = none) ∧ b ≠ X.env.locals ∧ (∀ x c, X.env.cells.lookup x = some c → c ≠ b) ∧ ∀ p ∈ X.pn ++ pins, p.1 ≠ b)
    (keep : ∀ b o, b ≠ X.env.locals → b ∉ X.fs → b ∉ ch → s.heap.get? b = some o → H b = none → h'.get? b = some o)
    (slot : ∀ b o, b ≠ X.env.locals → b ∈ X.fs → b ∉ ch → s.heap.get? b = some o → H b = none → ∃ sl, h'.get? b = some { o with slots := sl }) (free : ∀ b o, b ∉ ch → s.heap.get? b = some o → H b = none → H' b = none)
    (there : ∀ b o, b ∉ ch → s.heap.get? b = some o → ∃ o', h'.get? b = some o')
    (tups : ∀ b xs, H b = some (.tup xs) → H' b = some (.tup xs)) (frzs : ∀ b o u, H b = some (.frz o u) → H' b = some (.frz o u)) (tbls : ∀ b ps, H b = some (.tbl ps) → ∃ more, H' b = some (.tbl (ps ++ more)))
    (ns : ∀ m, s.heap.Ns X.env.locals m → h'.Ns X.env.locals m) (hok : HOk X.prog X.w H' h') (hg : AllBare g') :
    Inv X pins σ H' { s with heap := h', gens := g', drawn := d', toks := t' } := by
  have neL : ∀ b o, X.s₀.heap.get? b = some o → b ≠ X.env.locals := fun b o e => Nat.ne_of_lt (Nat.lt_of_lt_of_le (Heap.lt_size e) I.ok.above)
  have neC : ∀ b o, X.s₀.heap.get? b = some o → b ∉ X.ex → b ∉ ch := fun b o e hx hb => by
    rcases (hch b hb).1 with z | z
    · exact hx z
    · rw [e] at z; cases z
  have cellK : ∀ x c, X.env.cells.lookup x = some c → ∀ v, s.heap.IsCell c v → h'.IsCell c v := fun x c e v ⟨o, ho, hd⟩ => by
    have nch : c ∉ ch := fun z => (hch c z).2.2.1 x c e rfl
    by_cases hc : c ∈ X.fs
    · obtain ⟨sl, q⟩ := slot c o (I.cne x c e) hc nch ho (I.freeC x c e)
      exact ⟨_, q, hd⟩
    · exact ⟨o, keep c o (I.cne x c e) hc nch ho (I.freeC x c e), hd⟩
  refine ⟨I.ok, I.os, hg, ⟨fun b o e n hb hx => ?_, fun b o e n hb hx => ?_, fun b o e n hx => ?_, fun b o e hx => ?_, fun b xs e => tups b xs (I.base.tups b xs e), fun b o xs e => frzs b o xs (I.base.frzs b o xs e), fun b ps e => ?_⟩, ?_, fun x c e => ?_, ?_, fun x c e => ?_, fun p hp => ?_, hok, I.len⟩
  · exact keep b o (neL b o e) hb (neC b o e hx) (I.base.keep b o e n hb hx) (I.base.free b o e n hx)
  · obtain ⟨sl, e1⟩ := I.base.slot b o e n hb hx
    obtain ⟨sl', e2⟩ := slot b _ (neL b o e) hb (neC b o e hx) e1 (I.base.free b o e n hx)
    exact ⟨sl', e2⟩
  · obtain ⟨o', e1⟩ := I.base.there b o e hx
    exact free b o' (neC b o e hx) e1 (I.base.free b o e n hx)
  · obtain ⟨o', e1⟩ := I.base.there b o e hx
    exact there b o' (neC b o e hx) e1
  · obtain ⟨m1, e1⟩ := I.base.tbls b ps e
    obtain ⟨m2, e2⟩ := tbls b _ e1
    exact ⟨m1 ++ m2, by rw [e2, Array.append_assoc]⟩
  · obtain ⟨m, hn, hl⟩ := I.loc
    refine ⟨m, ns m hn, fun i x v e1 e2 e3 => ?_⟩
    obtain ⟨u, r, l⟩ := hl i x v e1 e2 e3
    refine ⟨u, r, ?_⟩
    rcases l with l | ⟨k, c, e, z⟩
    · exact .inl l
    · exact .inr ⟨k, c, e, cellK x c e _ z⟩
  · obtain ⟨v, z⟩ := I.cell x c e
    exact ⟨v, cellK x c e v z⟩
  · obtain ⟨m, ⟨o, _, _, ho, _⟩, _⟩ := I.loc
    exact free _ o (fun z => (hch _ z).2.1 rfl) ho I.free
  · obtain ⟨v, o, ho, hd⟩ := I.cell x c e
    exact free c o (fun z => (hch c z).2.2.1 x c e rfl) ho (I.freeC x c e)
  · obtain ⟨e, n, ne, nf, d⟩ := I.pin p hp
    have nch : p.1 ∉ ch := fun z => (hch p.1 z).2.2.2 p hp rfl
    exact ⟨keep p.1 p.2 ne nf nch e n, free p.1 p.2 nch e n, ne, nf, d⟩
theorem Inv.callN {g' : Array GenState} {t' : Nat} {d' : Drawn} {ch : List Addr} (I : Inv X pins σ H s) (u : Un (frs X.stack) ch H H' s.heap h') (hok : HOk X.prog X.w H' h') (hg : AllBare g')
    (hch : ∀ b ∈ ch, (b ∈ X.ex ∨ X.s₀.heap.get? b = none) ∧ b ≠ X.env.locals ∧ (∀ x c, X.env.cells.lookup x = some c → c ≠ b) ∧ ∀ p ∈ X.pn ++ pins, p.1 ≠ b) :
    Inv X pins σ H' { s with heap := h', gens := g', drawn := d', toks := t' } := by
  obtain ⟨m, ⟨o, es, ep, ho, r⟩, _⟩ := id I.loc
  obtain ⟨sl, hL⟩ := u.any ho I.free fun z => (hch _ z).2.1 rfl
  exact I.stepN (ch := ch) hch (fun b o hL hb hc e n => u.keep b o e n (fun z => (List.mem_cons.mp (I.stkSub b z)).elim hL hb) hc) (fun b o _ _ hc e n => u.any e n hc) (fun b o hc e n => u.free b o e n hc) (fun b o hc e => u.there b o e hc) u.tups u.frzs u.tbls (fun m' hm => by
    obtain ⟨o', es', ep', ho', r'⟩ := hm
    rw [ho] at ho'; cases ho'
    exact ⟨_, es', ep', hL, r'⟩) hok hg

/-- the entry of this frame, laid and let go -/
theorem note_tail {M : Model} {A' : Around} {e : Addr} {oe : Obj} {vs : Array Value} {head ctx : Value} {hadNext : Bool} {E E' : Value → Shared → Prop} {K : Unit → Shared → Prop} (I : Inv X pins σ H s) (hst : X.stack = X.env :: X.outer) (hfr : X.env.frame = some X.env.locals)
    (he : s.heap.get? e = some oe) (hd : oe.data = .fields vs) (hz : 1 < vs.size) (h2 : vs[2]? = some ctx) (fe : FxOk X pins H e)
    (h : ∀ h', Inv X pins σ H { s with heap := h' } → XOb h' e oe.cls oe.dict ctx (FxOk X pins H) → K () { s with heap := h' }) :
    wpAny M X.A (do let a ← frameOf X.env; let pl ← entryPlaceOf X.env.locals hadNext; let b ← EntryCells.newEntry head a .none (rawInt X.env.locals) .none pl; setField (.ref e) 1 b)
      (fun _ s2 => wpAny M A' (setFlight (.ref e) none) K E' s2) E s := by
  have hl : s.heap.FunFrames X.base (X.env :: X.outer) := by rw [← hst]; exact I.stack
  have hfs : X.A.frames = some (X.env :: X.outer) := by rw [← hst]; exact I.ok.frames
  have een : e ∉ (X.env :: X.outer).filterMap (·.frame) := fun hb => by
    have hb' : e ∈ frs X.stack := by rw [hst]; exact hb
    rcases List.mem_cons.mp (I.stkSub e hb') with z | z
    · exact fe.2.1 z
    · exact fe.2.2.1 z
  refine wpAny_bind (wpAny_frameOf_fun hfs hl hfr fun h1 s1 => ?_)
  refine wpAny_bind (wpAny_entryPlaceOf fun pl place => ?_)
  unfold EntryCells.newEntry
  unfold newFields
  refine wpAny_bind (wpAny_newObj_type ?_ (place.sizeOk5 _ _ _ _ _))
  have he1 : h1.get? e = some oe := (s1.2.1 e een).trans he
  generalize hO : ({ cls := .type "traceback", dict := none, data := .fields ([head, .ref X.env.locals, .none, rawInt X.env.locals, .none] ++ (if pl.isEmpty then List.replicate 6 Value.none else pl)).toArray } : Obj) = O
  have dO : ∃ ts, O.data = .fields ts ∧ 3 < ts.size := by
    refine ⟨_, by rw [← hO], ?_⟩
    rw [List.size_toArray, List.length_append, List.length_cons, List.length_cons, List.length_cons, List.length_cons, List.length_cons]
    omega
  obtain ⟨ts, hts, hts3⟩ := dO
  have he2 := Heap.get?_push_of_some (h := h1) O he1
  refine wpAny_setField he2 hd hz ?_
  have hTe : h1.objs.size ≠ e := Nat.ne_of_gt (Heap.lt_size he1)
  have hd3 := Obj.data_mapFields hd (fun z => z.setIfInBounds 1 (Value.ref h1.objs.size))
  have he3 := Heap.get?_update_self (Obj.mapFields fun z => z.setIfInBounds 1 (Value.ref h1.objs.size)) he2 (Obj.isFreed_of_fields hd3)
  have hT3 : ((h1.push O).update e (Obj.mapFields fun z => z.setIfInBounds 1 (Value.ref h1.objs.size))).get? h1.objs.size = some O :=
    (Heap.get?_update_other _ _ (Ne.symm hTe)).trans (Heap.get?_push_size h1 (by rw [← hO]; rfl))
  unfold setFlight
  refine wpAny_bind (wpAny_field he3 hd3 (x := .ref h1.objs.size) (by simp [hz]) ?_)
  rw [if_pos (show (Value.ref h1.objs.size != .none) = true by simp)]
  refine wpAny_setField hT3 hts hts3 ?_
  -- the heap behind it
  generalize hF : ((h1.push O).update e (Obj.mapFields fun z => z.setIfInBounds 1 (Value.ref h1.objs.size))).update h1.objs.size (Obj.mapFields fun z => z.setIfInBounds 3 ((none : Option Addr).elim Value.none fun f => rawInt f)) = h4
  have keep : ∀ b o, b ≠ e → h1.get? b = some o → h4.get? b = some o := fun b o hbe hb => by
    have hbT : h1.objs.size ≠ b := Nat.ne_of_gt (Heap.lt_size hb)
    rw [← hF, Heap.get?_update_other _ _ hbT, Heap.get?_update_other _ _ (Ne.symm hbe)]
    exact Heap.get?_push_of_some _ hb
  have he4 : h4.get? e = some (Obj.mapFields (fun z => z.setIfInBounds 1 (Value.ref h1.objs.size)) oe) := by
    rw [← hF, Heap.get?_update_other _ _ hTe]
    exact he3
  have hd5 := Obj.data_mapFields hts (fun z => z.setIfInBounds 3 ((none : Option Addr).elim Value.none fun f => rawInt f))
  have hT4 : h4.get? h1.objs.size = some (Obj.mapFields (fun z => z.setIfInBounds 3 ((none : Option Addr).elim Value.none fun f => rawInt f)) O) := by
    rw [← hF]
    exact Heap.get?_update_self _ hT3 (Obj.isFreed_of_fields hd5)
  have u : Un (frs X.stack) [e] H H s.heap h4 := by
    refine ⟨fun b o q _ hb hx => keep b o (by simpa using hx) ((s1.2.1 b ?_).trans q), fun b o q _ _ hx => ?_, fun _ _ _ n _ => n, fun b o q hx => ?_, fun _ _ q => q, fun _ _ _ q => q, fun b ps q => ⟨#[], by rw [q]; simp⟩⟩
    · rw [hst] at hb
      exact hb
    · obtain ⟨sl, z⟩ := s1.2.2 b o q
      exact ⟨sl, keep b _ (by simpa using hx) z⟩
    · obtain ⟨sl, z⟩ := s1.2.2 b o q
      exact ⟨_, keep b _ (by simpa using hx) z⟩
  have hok : HOk X.prog X.w H h4 := fun b o z => (I.hok b o z).stay (fun c v hc q => by
    have hs : ∃ w, H c = some w := by
      rcases hc with r | r
      · exact ⟨o, by rw [r]; exact z⟩
      · exact ⟨_, r⟩
    obtain ⟨w, hw⟩ := hs
    refine keep c v (fun y => ?_) ((s1.2.1 c fun y => ?_).trans q)
    · rw [y, fe.1] at hw; cases hw
    · have n := I.stkFree c (by rw [hst]; exact y)
      rw [hw] at n; cases n) (fun _ q => q) fun _ _ q => q
  have I4 : Inv X pins σ H { s with heap := h4 } := I.callN (g' := s.gens) (d' := s.drawn) (t' := s.toks) (ch := [e]) u hok I.bare fun b hb => by
    have z : b = e := by simpa using hb
    subst z
    exact ⟨fe.2.2.2.1, fe.2.1, fe.2.2.2.2.1, fe.2.2.2.2.2⟩
  have gT : s.heap.get? h1.objs.size = none := Heap.get?_none_of_le (by rw [s1.1]; exact Nat.le_refl _)
  have nT : H h1.objs.size = none := I.hok.fresh (by rw [s1.1]; exact Nat.le_refl _)
  refine h h4 I4 ⟨_, _, he4, Obj.cls_mapFields _ _, ?_, hd3, by simpa using hz, ?_, fe, .inr ⟨h1.objs.size, _, _, by simp [hz], hTe, hT4, hd5, ?_, I.fxOk gT nT⟩⟩
  · obtain ⟨c0, d0, dt, sl⟩ := oe
    cases dt <;> rfl
  · rw [Array.getElem?_setIfInBounds_ne (by decide)]
    exact h2
  · rw [Array.getElem?_setIfInBounds_self_of_lt hts3]
    rfl

/-- an exception is noted in this frame and let go: at a def's end, at an except clause -/
theorem note_land {M : Model} {A' : Around} {e : Addr} {c ctx : Value} {d : Option Addr} {E E' : Value → Shared → Prop} {K : Unit → Shared → Prop} (I : Inv X pins σ H s) (hst : X.stack = X.env :: X.outer) (hfr : X.env.frame = some X.env.locals)
    (x : XOb s.heap e c d ctx (FxOk X pins H)) (h : ∀ h', Inv X pins σ H { s with heap := h' } → XOb h' e c d ctx (FxOk X pins H) → K () { s with heap := h' }) :
    wpAny M X.A (noteFrame (.ref e) X.env) (fun _ s2 => wpAny M A' (setFlight (.ref e) none) K E' s2) E s := by
  obtain ⟨oe, vs, he, hc, hdd, hd, hz, h2, fe, ht⟩ := x
  subst hc hdd
  unfold noteFrame
  simp only [hfr]
  rcases ht with h1 | ⟨T, oT, ts, h1, hTe, hT, hdT, h3, fT⟩
  · refine wpAny_bind (wpAny_field he hd h1 ?_)
    rw [if_neg (show ¬ (Value.none != .none) = true by decide)]
    exact note_tail I hst hfr he hd hz h2 fe h
  · refine wpAny_bind (wpAny_field he hd h1 ?_)
    rw [if_pos (show (Value.ref T != .none) = true by simp)]
    refine wpAny_bind (wpAny_field hT hdT h3 ?_)
    rw [if_neg (show ¬ (Value.none == rawInt X.env.locals) = true by simp [rawInt])]
    refine wpAny_bind (wpAny_setField hT hdT (Array.getElem?_eq_some_iff.mp h3).1 ?_)
    rw [Heap.update_setField_same s.heap T oT ts 3 .none hT hdT h3]
    exact note_tail I hst hfr he hd hz h2 fe h
/-- let go once more: nothing changes -/
theorem land_again {M : Model} {A' : Around} {e : Addr} {c ctx : Value} {d : Option Addr} {E' : Value → Shared → Prop} {K : Unit → Shared → Prop} {fx : Addr → Prop} (x : XOb s.heap e c d ctx fx) (h : K () s) : wpAny M A' (setFlight (.ref e) none) K E' s := by
  obtain ⟨oe, vs, he, hc, hdd, hd, hz, h2, fe, ht⟩ := x
  unfold setFlight
  rcases ht with h1 | ⟨T, oT, ts, h1, hTe, hT, hdT, h3, fT⟩
  · refine wpAny_bind (wpAny_field he hd h1 ?_)
    rw [if_neg (show ¬ (Value.none != .none) = true by decide)]
    exact wpAny_pure h
  · refine wpAny_bind (wpAny_field he hd h1 ?_)
    rw [if_pos (show (Value.ref T != .none) = true by simp)]
    refine wpAny_setField hT hdT (Array.getElem?_eq_some_iff.mp h3).1 ?_
    show K () { s with heap := s.heap.update T (Obj.mapFields fun z => z.setIfInBounds 3 .none) }
    rw [Heap.update_setField_same s.heap T oT ts 3 .none hT hdT h3]
    exact h
end

/-! ### behind a call that raised -/
def CX1 (P : Program) (w : World) : CXT := fun outer H s E v s' => ∃ e c d ctx H', v = .ref e ∧ s'.os = s.os ∧ AllBare s'.gens ∧ Un (frs outer) [] H H' s.heap s'.heap ∧ HOk P w H' s'.heap ∧
  XOb s'.heap e c d ctx (fun b => s.heap.get? b = none ∧ H' b = none) ∧ E c d H'
/-- what a body wants of an exception that leaves it, by the names' values -/
def Wish (X : Cx) (W : St → XK) : Prop := ∀ (pins : List (Addr × Obj)) (σ : St) (H : Hp) (s : Shared) (e : Addr) (c : Value) (d : Option Addr) (ctx : Value), Inv X pins σ H s → XOb s.heap e c d ctx (FxOk X pins H) → W σ c d H → X.xe (.ref e) s
theorem Wish.pass {X : Cx} {W : St → XK} {pins : List (Addr × Obj)} {σ : St} {H : Hp} {s s' : Shared} {v : Value} (hW : Wish X W) (I : Inv X pins σ H s) (h : CX1 X.prog X.w X.stack H s (W σ) v s') : X.xe v s' := by
  obtain ⟨e, c, d, ctx, H', rfl, os, bare, un, hok, x, hw⟩ := h
  exact hW pins σ H' s' e c d ctx (I.call' os un hok bare fun b z => absurd z (by simp)) (x.imp fun b q => I.fxOk q.1 q.2) hw
theorem wish_fn {P : Program} {w : World} {K : PySem.W.Frag} {mg : Str → Option Value} {base : Heap} {N : List Str} {qual : Str} {scope : Scope} {f : Addr} {cd : Value} {A : Around} {outer : List Env} {s0 : Shared} {H0 : Hp} {E : XK} :
    Wish (cxOf (CX1 P w) P w K mg base N qual scope f cd A outer s0 H0 E) (fun _ => E) := by
  intro pins σ H s e c d ctx I x hw
  show wpAny _ _ (leaving _ (.ref e)) _ _ s
  unfold leaving
  refine wpAny_bind (note_land I rfl rfl x fun h' I' x' => ?_)
  refine ⟨e, c, d, ctx, H, rfl, I'.os, I'.bare, I'.base, I'.hok, x'.imp fun b fb => ⟨?_, fb.1⟩, hw⟩
  rcases fb.2.2.2.1 with z | z
  · exact nomatch (show b ∈ ([] : List Addr) from z)
  · exact z
/-- a def that may raise, called -/
def tCallX (sp : Sp) (W : St → XK) (t : TA) : TE := fun σ H Q => t σ H fun vs H1 => sp vs H1 Q (W σ)
structure CalX (P : Program) (w : World) (K : PySem.W.Frag) (mg : Str → Option Value) (base : Heap) (k : Nat) (x : Str) (ps : List Str) (sp : Sp) : Prop where
  ex : ∃ f fd, FnOk P w K mg base (CX1 P w) k f fd ps sp ∧ Binds K fd ps [] ∧ PySem.W.keepIn K (.ref f) = true ∧ mg x = some (.ref f)
theorem Def.calX {P : Program} {w : World} {K : PySem.W.Frag} {mg : Str → Option Value} {base : Heap} {k : Nat} {x : Str} {st : Stmt} {ps : List Str} {sp : Sp} (D : Def K mg x st ps) (h : ∀ f fd, Fun K x x st f fd → FnOk P w K mg base (CX1 P w) k f fd ps sp) : CalX P w K mg base k x ps sp := by
  obtain ⟨f, fd, F, b, m⟩ := D.ex
  exact ⟨f, fd, h f fd F, b, F.kp, m⟩
section
variable {X : Cx} {k : Nat} {f : Addr} {fd : FuncData} {ps : List Str} {sp : Sp} {x : Str} {p pos : Pos} {e : Expr} {es : List Expr} {t : TA} {W : St → XK}
theorem run_fnX {pins : List (Addr × Obj)} {σ : St} {H : Hp} {s : Shared} {Q : VK} {us : List Value} {vs : List V} (F : FnOk X.prog X.w X.K X.mg X.base (CX1 X.prog X.w) k f fd ps sp) (hr : Room k X.A) (hb : Binds X.K fd ps []) (hW : Wish X W)
    (I : Inv X pins σ H s) (r : Vals vs us) (h : sp vs H Q (W σ)) : wpAny (model X.prog X.w) X.A (call (.ref f) us) (EP X pins σ Q) X.xe s := by
  have hl : (us ++ []).length = ps.length := by rw [List.append_nil, ← r.length]; exact F.len _ _ _ _ h
  have b := hb s us I.kIn hl
  rw [List.append_nil] at b
  refine wpAny_call (codeAny_mono (F.run X.A X.stack s H ⟨us, []⟩ us vs Q (W σ) hr I.env0 b r h) fun q s' hq => ?_)
  cases q with
  | error v => exact hW.pass I hq
  | ok fl =>
    cases fl with
    | ret u => exact I.after hq
    | next => exact False.elim hq
    | brk => exact False.elim hq
    | cont => exact False.elim hq
theorem pe_callX (C : CalX X.prog X.w X.K X.mg X.base k x ps sp) (hr : Room k X.A) (hW : Wish X W) (hg : Gl X x) (ha : PA X (e :: es) t)
    (hdb : (x == ("__debug__" : Str)) = false := by decide) (he : starEach (e :: es) X.env = (false, eval e X.env) :: starEach es X.env := by rfl) (hpl : (backTo pos (starEach es X.env)).any (·.1) = false := by rfl) :
    PE X (.Call (.Name x p) (e :: es) [] pos) (tCallX sp W t) := by
  intro pins s σ H Q I h
  obtain ⟨f, fd, F, b, kp, hm⟩ := C.ex
  refine wpAny_Call_Name_kw (ld_glob I hg hm ?_ hdb)
  refine PySem.W.callWith_K (h₀ := X.base) I.ok.mod.kin kp (thn (ha pos pins s σ H _ I h) fun us s1 ⟨vs, H1, I1, r, q⟩ => ⟨I1.kIn, ?_⟩) he hpl
  exact run_fnX F hr b hW I1 r q
end
/-- a def's body that may raise -/
theorem Fun.okX {P : Program} {w : World} {K : PySem.W.Frag} {mg : Str → Option Value} {base : Heap} {x qual : Str} {st : Stmt} {f : Addr} {fd : FuncData} {N ps : List Str} {k : Nat} {sp : Sp} (F : Fun K x qual st f fd) (S : FnScope N ps (defScope st)) (len : ∀ vs H Q E, sp vs H Q E → vs.length = ps.length)
    (hbody : ∀ (cdv : Value) (A : Around) (outer : List Env) (s : Shared) (H : Hp) (vs : List V) (Q : VK) (E : XK), Room k (A.deeper (envOfC qual (defScope st) s.heap.objs.size f cdv)) → sp vs H Q E →
      ∃ t, PSs (cxOf (CX1 P w) P w K mg base N qual (defScope st) f cdv A outer s H E) (defBody st) t ∧ t { nx := fun _ H' => Q .non H', rt := Q } (start N vs) H) : FnOk P w K mg base (CX1 P w) (k + 1) f fd ps sp := by
  obtain ⟨oc, od, kV, doc, pm, an, cdv, ct, osl, rfl, lk, hcd⟩ := F.ex
  exact fn_of lk hcd S len fun A outer s H vs Q E hr hsp => hbody cdv A outer s H vs Q E hr hsp

/-! ### raise C(..) -/
/-- an own exception class without an __init__ of its own, as the fragment has it -/
structure XCls (K : PySem.W.Frag) (x : Str) (mg : Str → Option Value) (C : Addr) : Prop where
  at_ : mg x = some (.ref C)
  ex : ∃ bm newId initId B, PySem.W.excIn K C bm newId = true ∧ ExcBaseFacts B newId initId bm
theorem exc_obj {K : PySem.W.Frag} {h : Heap} {C : Addr} {bmB : List Value} {newId : String} (X : K.In h) (q : PySem.W.excIn K C bmB newId = true) :
    ∃ bm N nm qn bs hdct sn sub ab col dd k0 k1 k2 k3 k5 mN, h.get? C = some (excClassObj nm qn C N bs bm hdct sn sub ab col dd k0 k1 k2 k3 k5 newId) ∧ h.Ns N mN ∧ mN "__init__" = none ∧ OwnTail h bmB bm := by
  unfold PySem.W.excIn at q
  split at q
  · rename_i dd cd sl lk
    split at q
    · rename_i C1 bm k0 k1 k2 k3 n k5 hm hsl
      simp only [Bool.and_eq_true, beq_iff_eq, Bool.not_eq_true'] at q
      obtain ⟨⟨⟨⟨⟨e1, e2⟩, hdel⟩, ht⟩, hns⟩, hni⟩ := q
      subst e1 e2
      obtain ⟨nm, bs, mro, ns, qn, hd, sn, sub, ab, col, del⟩ := cd
      simp only at hm hdel hns hni
      subst hm hdel
      obtain ⟨l⟩ := sl
      simp only at hsl
      subst hsl
      exact ⟨bm, ns, nm, qn, bs, hd, sn, sub, ab, col, dd, k0, k1, k2, k3, k5, _, X _ _ lk, .of_isNs (PySem.W.isNs_of_in X hns), PySem.W.nsMap_none_of_in X hns hni, PySem.W.tail_of_in X ht⟩
    · cases q
  · cases q
def tRaise (C : Addr) (W : St → XK) (t : TA) : TS := fun _ σ H => t σ H fun vs H1 => vs.length ≤ sizeLine ∧ W σ (.ref C) none H1
theorem ps_raise {X : Cx} {x : Str} {C : Addr} {W : St → XK} {t : TA} {e : Expr} {es : List Expr} {np cpos pos : Pos} (hW : Wish X W) (hc : X.calm = true) (XC : XCls X.K x X.mg C) (hg : Gl X x) (ha : PA X (e :: es) t)
    (hdb : (x == ("__debug__" : Str)) = false := by decide) (he : starEach (e :: es) X.env = (false, eval e X.env) :: starEach es X.env := by rfl) (hpl : (backTo cpos (starEach es X.env)).any (·.1) = false := by rfl) :
    PS X (.Raise (some (.Call (.Name x np) (e :: es) [] cpos)) none pos) (tRaise C W t) := by
  intro pins s σ H D I h
  obtain ⟨bmB, newId, initId, B, q, FB⟩ := XC.ex
  obtain ⟨bm, N, nm, qn, bs, hdct, sn, sub, ab, col, dd, k0, k1, k2, k3, k5, mN, hC, hN, hni, T⟩ := exc_obj I.mod.kin q
  refine wpAny_Raise_call_subT (C := C) (nm := nm) (q := qn) (N := N) (bs := bs) (bm := bm) (hdct := hdct) (sn := sn) (sub := sub) (ab := ab) (col := col) (dd := dd) (k0 := k0) (k1 := k1) (k2 := k2) (k3 := k3) (k5 := k5) FB (mN := mN)
    (T.hasType FB.hasBase) (I.ok.hd hc) ?_ hni (ld_glob I hg XC.at_ ⟨rfl, ?_⟩ hdb)
  · rw [he]
    show (false || (backTo cpos (starEach es X.env)).any (·.1)) = false
    rw [hpl]
    rfl
  have ha' := ha cpos pins s σ H _ I h
  rw [he] at ha' ⊢
  refine Calls.evalArgs_plain (thn ha' fun us s1 ⟨vs, H1, I1, r, hl, hw⟩ => ⟨rfl, by rw [← r.length]; exact hl, I1.bk _ _ hC, hN.keeps I1.bk, T.keeps I1.bk, fun h' ex hm => ?_⟩)
  obtain ⟨t0, ht, htn, _⟩ := hm.there
  have nH : H1 ex = none := by
    cases z : H1 ex with
    | none => rfl
    | some o =>
      obtain ⟨ob, eo⟩ := (I1.hok ex o z).is
      rw [hm.new] at eo
      cases eo
  exact hW pins σ H1 { s1 with heap := h' } ex (.ref C) none .none (I1.kept (t' := s1.toks) hm.keeps) ⟨_, _, ht, rfl, rfl, rfl, (show (1 : Nat) < 6 from by decide), rfl, I1.fxOk hm.new nH, .inl rfl⟩ hw

/-! ### try: one clause, an own class -/
abbrev Cx.tr (X : Cx) (pn : List (Addr × Obj)) (E : Value → Shared → Prop) : Cx := { X with pn := pn, xe := E }
/-- an except suite (nothing leaves it) -/
abbrev Cx.sup (X : Cx) (e : Addr) : Cx := { X with A := X.A.mark (some (.ref e)), calm := false, xe := fun _ _ => False }
section
variable {X : Cx} {pins pins' pn : List (Addr × Obj)} {σ : St} {H : Hp} {s : Shared} {E : Value → Shared → Prop} {e : Addr}
theorem Cx.Ok.tr (ok : X.Ok) : (X.tr pn E).Ok := ⟨ok.mod, ok.kind, ok.glob, ok.blt, ok.above, ok.inj, ok.has, ok.cab, ok.hd, ok.frames, ok.stk, ok.exf, ok.bs, ok.bsz, ok.noex, ok.exfs, ok.funs, ok.frf⟩
theorem Cx.Ok.untr (ok : (X.tr pn E).Ok) : X.Ok := ⟨ok.mod, ok.kind, ok.glob, ok.blt, ok.above, ok.inj, ok.has, ok.cab, ok.hd, ok.frames, ok.stk, ok.exf, ok.bs, ok.bsz, ok.noex, ok.exfs, ok.funs, ok.frf⟩
theorem Inv.tr (I : Inv X pins σ H s) : Inv (X.tr (X.pn ++ pins) E) [] σ H s := ⟨I.ok.tr, I.os, I.bare, I.base, I.loc, I.cell, I.free, I.freeC, fun p hp => I.pin p (by simpa using hp), I.hok, I.len⟩
theorem Inv.untr (I : Inv (X.tr (X.pn ++ pins) E) pins' σ H s) : Inv X pins σ H s := ⟨I.ok.untr, I.os, I.bare, I.base, I.loc, I.cell, I.free, I.freeC, fun p hp => I.pin p (List.mem_append_left _ hp), I.hok, I.len⟩
theorem FxOk.untr {b : Addr} (f : FxOk (X.tr (X.pn ++ pins) E) pins' H b) : FxOk X pins H b := ⟨f.1, f.2.1, f.2.2.1, f.2.2.2.1, f.2.2.2.2.1, fun p hp => f.2.2.2.2.2 p (List.mem_append_left _ hp)⟩
theorem SP.untr {D : Ends} {f : Flow} (h : SP (X.tr (X.pn ++ pins) E) pins' D f s) : SP X pins D f s := by
  cases f with
  | next => obtain ⟨σ', H', I, q⟩ := h; exact ⟨σ', H', I.untr, q⟩
  | brk => obtain ⟨σ', H', I, q⟩ := h; exact ⟨σ', H', I.untr, q⟩
  | cont => obtain ⟨σ', H', I, q⟩ := h; exact ⟨σ', H', I.untr, q⟩
  | ret u => obtain ⟨v, σ', H', I, r, q⟩ := h; exact ⟨v, σ', H', I.untr, r, q⟩
theorem Cx.Ok.sup (ok : X.Ok) : (X.sup e).Ok := ⟨ok.mod, ok.kind, ok.glob, ok.blt, ok.above, ok.inj, ok.has, ok.cab, (fun z => nomatch z), ok.frames, ok.stk, ok.exf, ok.bs, ok.bsz, ok.noex, ok.exfs, ok.funs, ok.frf⟩
theorem Inv.sup (I : Inv X pins σ H s) : Inv (X.sup e) pins σ H s := ⟨I.ok.sup, I.os, I.bare, I.base, I.loc, I.cell, I.free, I.freeC, I.pin, I.hok, I.len⟩
/-- (X.Ok: the calm of X itself is not to be had from the suite's) -/
theorem Inv.unsup (I : Inv (X.sup e) pins σ H s) (ok : X.Ok) : Inv X pins σ H s := ⟨ok, I.os, I.bare, I.base, I.loc, I.cell, I.free, I.freeC, I.pin, I.hok, I.len⟩

/-- an exception that was caught, tracked: its class, its dict -/
def exO (e : Addr) (c : Value) (d : Option Addr) : HO := .ext fun h => ∃ oe vs, h.get? e = some oe ∧ oe.cls = c ∧ oe.dict = d ∧ oe.data = .fields vs
theorem Inv.track {c : Value} {d : Option Addr} {oe : Obj} {vs : Array Value} (I : Inv X pins σ H s) (fe : FxOk X pins H e) (he : s.heap.get? e = some oe) (hc : oe.cls = c) (hdd : oe.dict = d) (hd : oe.data = .fields vs) :
    Inv X pins σ (upd H e (exO e c d)) s := by
  have ne : ∀ b u, H b = some u → b ≠ e := fun b u q => ne_of_none q fe.1
  refine ⟨I.ok, I.os, I.bare, ⟨I.base.keep, I.base.slot, fun b o q n hx => ?_, I.base.there, fun b xs q => ?_, fun b o u q => ?_, fun b ps q => ?_⟩, I.loc, I.cell, ?_, fun x c q => ?_, fun p hp => ?_, fun b u q => ?_, I.len⟩
  · rw [upd_ne]
    · exact I.base.free b o q n hx
    · rintro rfl
      rcases fe.2.2.2.1 with z | z
      · exact hx z
      · rw [q] at z; cases z
  · have z := I.base.tups b xs q
    rw [upd_ne (ne _ _ z)]; exact z
  · have z := I.base.frzs b o u q
    rw [upd_ne (ne _ _ z)]; exact z
  · obtain ⟨m, z⟩ := I.base.tbls b ps q
    exact ⟨m, by rw [upd_ne (ne _ _ z)]; exact z⟩
  · rw [upd_ne (Ne.symm fe.2.1)]; exact I.free
  · rw [upd_ne (fe.2.2.2.2.1 x c q)]; exact I.freeC x c q
  · obtain ⟨a1, a2, a3, a4, a5⟩ := I.pin p hp
    exact ⟨a1, by rw [upd_ne (fe.2.2.2.2.2 p hp)]; exact a2, a3, a4, a5⟩
  · by_cases z : b = e
    · subst z
      rw [upd_same] at q
      cases q
      refine ⟨⟨oe, vs, he, hc, hdd, hd⟩, ⟨oe, he⟩, fun h1 h2 p k => ?_⟩
      obtain ⟨o1, v1, p1, p2⟩ := p
      exact ⟨o1, v1, k _ p1, p2⟩
    · rw [upd_ne z] at q
      exact (I.hok b u q).stay (fun _ _ _ y => y) (fun c y => by rw [upd_ne (ne _ _ y)]; exact y) fun c xs y => by rw [upd_ne (ne _ _ y)]; exact y
/-- the names are forgotten (one of them has gone) -/
theorem Inv.forget {h' : Heap} {m' : Str → Option Value} {t' : Nat} (I : Inv X pins σ H s) (hn : h'.Ns X.env.locals m') (hs : Heap.SameBut X.env.locals s.heap h') : Inv X pins (σ.map fun _ => none) H { s with heap := h', toks := t' } := by
  have ne0 : ∀ b o, X.s₀.heap.get? b = some o → b ≠ X.env.locals := fun b o q => Nat.ne_of_lt (Nat.lt_of_lt_of_le (Heap.lt_size q) I.ok.above)
  refine ⟨I.ok, I.os, I.bare, ⟨fun b o q n hb hx => ?_, fun b o q n hb hx => ?_, I.base.free, fun b o q hx => ?_, I.base.tups, I.base.frzs, I.base.tbls⟩, ⟨m', hn, fun i x v _ e2 _ => ?_⟩, fun x c q => ?_, I.free, I.freeC, fun p hp => ?_, fun b u q => ?_, by simpa using I.len⟩
  · exact (hs.2 b (ne0 b o q)).trans (I.base.keep b o q n hb hx)
  · obtain ⟨sl, z⟩ := I.base.slot b o q n hb hx
    exact ⟨sl, (hs.2 b (ne0 b o q)).trans z⟩
  · obtain ⟨o', z⟩ := I.base.there b o q hx
    exact ⟨o', (hs.2 b (ne0 b o q)).trans z⟩
  · rw [List.getElem?_map] at e2
    cases z : σ[i]? with
    | none => rw [z] at e2; cases e2
    | some y => rw [z] at e2; cases e2
  · obtain ⟨v, z⟩ := I.cell x c q
    exact ⟨v, z.sameBut hs (I.cne x c q)⟩
  · obtain ⟨a1, a2, a3, a4, a5⟩ := I.pin p hp
    exact ⟨(hs.2 p.1 a3).trans a1, a2, a3, a4, a5⟩
  · refine (I.hok b u q).stay (fun c v hc y => (hs.2 c fun z => ?_).trans y) (fun _ y => y) fun _ _ y => y
    rcases hc with r | r
    · rw [← r, z, I.free] at q; cases q
    · rw [z, I.free] at r; cases r
end

/-- try .. except C as n (its place i); behind the suite the names are forgotten -/
def tTryA (K : PySem.W.Frag) (Ch : Addr) (i : Nat) (tb : (St → XK) → TS) (ts : TS) : TS := fun D σ H => tb (fun σ' c d H' => ∃ C, c = .ref C ∧ PySem.W.exmOne K (.ref C) (.ref Ch) = some true ∧
  ∀ e, H' e = none → ts { nx := fun σ H => D.nx (σ.map fun _ => none) H, rt := D.rt, bk := fun σ H => D.bk (σ.map fun _ => none) H, ct := fun σ H => D.ct (σ.map fun _ => none) H } (σ'.set i (some (.ref e))) (upd H' e (exO e c d))) D σ H
section
variable {X : Cx} {x n : Str} {Ch : Addr} {i : Nat} {body suite : List Stmt} {b₀ : Stmt} {tb : (St → XK) → TS} {ts : TS} {np hpos pos : Pos}
theorem looks_ty {M : Model} {h : Heap} {e : Addr} {c : Value} {oe : Obj} (he : h.get? e = some oe) (hc : oe.cls = c) : PySem.W.Looks M h (typeOf (.ref e)) c := hc ▸ (PySem.W.Looks.ld he).andThen .now
theorem ps_tryA (hst : X.stack = X.env :: X.outer) (hfr : X.env.frame = some X.env.locals) (hg : Gl X x) (hm : X.mg x = some (.ref Ch)) (hN : X.N.Nodup) (hi : X.N[i]? = some n) (hl : X.env.kindOf n = some .local)
    (hb : ∀ pn E W, Wish (X.tr pn E) W → PassesOwn (model X.prog X.w) X.A X.env E → PSs (X.tr pn E) body (tb W)) (hs : ∀ e, PSs (X.sup e) (b₀ :: suite) ts) (hdb : (x == ("__debug__" : Str)) = false := by decide) :
    PS X (.Try body [.ExceptHandler (some (.Name x np)) (some n) (b₀ :: suite) hpos] [] [] pos) (tTryA X.K Ch i tb ts) := by
  intro pins s σ H D I h
  refine wpAny_Try_except ?_
  refine wpAny_mono (hb (X.pn ++ pins) _ _ ?_ ?_ [] s σ H D I.tr h) (fun f s1 q => ?_) fun e s1 q => q
  · intro pins' σ' H' s' e c d ctx I' x' hw
    obtain ⟨C, rfl, hx, hq⟩ := hw
    have I1 : Inv X pins σ' H' s' := I'.untr
    refine note_land I1 hst hfr (x'.imp fun b fb => fb.untr) fun h2 I2 x2 => ?_
    obtain ⟨oe, vs, he, hc, hdd, hd, _, _, fe, _⟩ := id x2
    refine wpAny_handleBy_cons (codeAny_handlers_test (ld_glob (I2.sup (e := e)) hg hm ?_ hdb)) (by intro q; cases q)
    refine (PySem.W.exm_one I2.kIn (looks_ty he hc) hx).here ?_
    refine codeAny_handlers_suite_as (land_again x2 ?_)
    have I3 := (I2.track fe he hc hdd hd).sup (e := e)
    refine store_ok (X := X.sup e) I3 hN hi (.inl hl) (v := .ref e) rfl (fun s4 I4 => ?_) (.inr hl)
    refine wpAny_mono (hs e pins s4 _ _ _ I4 (hq e fe.1)) (fun f s5 q5 => ?_) fun _ _ z => False.elim z
    have go : ∀ {σ5 : St} {H5 : Hp} {R : Unit → Shared → Prop} {E5 : Value → Shared → Prop}, Inv (X.sup e) pins σ5 H5 s5 → (∀ s6, Inv X pins (σ5.map fun _ => none) H5 s6 → R () s6) →
        wpAny (model X.prog X.w) X.A (do bindName X.env n .none; unbindBehindTheSuite X.env n hpos) R E5 s5 := fun {σ5 H5 R E5} I5 hR => by
      obtain ⟨m5, hn5, _⟩ := I5.loc
      refine wpAny_nameGoes hl hn5 ?_ fun h6 m6 hn6 hs6 => hR _ ((I5.unsup I2.ok).forget hn6 hs6)
      rw [I2.ok.kind]
      rfl
    cases f with
    | next => obtain ⟨σ5, H5, I5, q⟩ := q5; exact go I5 fun s6 I6 => ⟨_, _, I6, q⟩
    | brk => obtain ⟨σ5, H5, I5, q⟩ := q5; exact go I5 fun s6 I6 => ⟨_, _, I6, q⟩
    | cont => obtain ⟨σ5, H5, I5, q⟩ := q5; exact go I5 fun s6 I6 => ⟨_, _, I6, q⟩
    | ret u => obtain ⟨v5, σ5, H5, I5, r5, q⟩ := q5; exact go I5 fun s6 I6 => ⟨v5, _, _, I6, r5, q⟩
  · exact PassesOwn.looking
  · have q' := q.untr
    cases f with
    | next => exact wpAny_execs_nil q'
    | brk => exact q'
    | cont => exact q'
    | ret u => exact q'
end
end L2

namespace L2
open PySem PySem.Spec PyProof.Rows
/-! ### defs that may be called while an exception is handled (nothing in them walks or raises) -/
section
variable {X : Cx} {k : Nat} {f : Addr} {fd : FuncData} {ps : List Str} {sp : Sp} {x : Str} {p pos : Pos} {e : Expr} {es : List Expr} {t : TA}
end
end L2

namespace L2
open PySem PySem.Spec PyProof.Rows

/-! ### texts by their codes -/
def tx (l : List Nat) : Str := ⟨l.toArray⟩
theorem tx_len (l : List Nat) : (tx l).length = l.length := by simp [tx, Str.length]
theorem tx_of (x : Str) : tx x.cps.toList = x := by cases x; rfl
theorem tx_app (l m : List Nat) : tx l ++ tx m = tx (l ++ m) := by
  show (⟨l.toArray ++ m.toArray⟩ : Str) = ⟨(l ++ m).toArray⟩
  rw [List.append_toArray]

/-! ### pieces at a sign -/
def cutAt (c : Nat) : List Nat → List (List Nat)
  | [] => [[]]
  | x :: l => if x = c then [] :: cutAt c l else match cutAt c l with
    | [] => [[x]]
    | p :: r => (x :: p) :: r
theorem cutAt_ne (c : Nat) : ∀ l, cutAt c l ≠ []
  | [] => by simp [cutAt]
  | x :: l => by
    unfold cutAt
    split
    · simp
    · cases cutAt c l <;> simp

/-! ### methods of texts -/
section
variable {X : Cx}
/-- c in z, of one sign c -/
theorem op_notIn1 : OpR X (compareOp .NotIn) (fun x y H Q => ∃ c z, x = .str (tx [c]) ∧ y = .str z ∧ Q (.bl (!decide (c ∈ z.cps.toList))) H) := by
  intro pins s σ H x y v u Q I rx ry h
  obtain ⟨c, z, rfl, rfl, q⟩ := h
  refine op_notIn_str pins s σ H _ _ v u Q I rx ry ⟨tx [c], z, rfl, rfl, ?_⟩
  rw [show (!(Builtin.Str.occurrences z (tx [c]) 0 z.length 1).isEmpty) = decide (c ∈ z.cps.toList) from StrLaws.found_one z c]
  exact q

/-! ### for sign in text -/
def Its (x : Str) : It := ⟨fun i _ => i < x.cps.size, fun i H v H' => H' = H ∧ ∃ c, x.cps[i]? = some c ∧ v = .str (tx [c]), fun i _ => x.cps.size ≤ i⟩
theorem turn_strA {P : Program} {w : World} {K : PySem.W.Frag} {tg : Expr} (x : Str) (t : Tok) (it : Addr) : Turn P w K tg (Its x) [it] it (fun i h => h.IsStrIter it "str_ascii_iterator" x t i) where
  mem := by simp
  obj := fun i h st b hb => by
    have e : b = it := by simpa using hb
    subst e
    obtain ⟨o, e, c, d⟩ := st
    exact ⟨o, e, fun v z => by rw [d] at z; cases z⟩
  keep := fun i h h' st k => by
    obtain ⟨o, e, c, d⟩ := st
    exact ⟨o, k it (by simp) o e, c, d⟩
  item := by
    intro X hP hw hK hc i pins s σ H E I hf st hg
    subst hP hw hK
    obtain ⟨f0, f1, f2, f3, f4, f5⟩ := hf it (by simp)
    have hi : i < x.cps.size := hg
    refine wpAny_pyNext_ascii_item st (c := x.cps[i]) (by simp [hi]) fun h' st' sb => ?_
    have I1 : Inv X pins σ H { s with heap := h', toks := s.toks + 1 } := I.turned (fun b o hb e => (sb.2 b hb).trans e) f0 f1 f3 f4 f5
    obtain ⟨o, e, c, d⟩ := id st'
    exact ⟨_, rfl, go_of (s := { s with heap := h', toks := s.toks + 1 }) e c d (by decide) ⟨.str (tx [x.cps[i]]), H, I1, ⟨_, rfl⟩, ⟨rfl, _, by simp [hi], rfl⟩, st', fun b hb => (hf b hb).1⟩⟩
  done := by
    intro X hP hw hK hc i pins s σ H E I hf st hg
    subst hP hw hK
    obtain ⟨f0, f1, f2, f3, f4, f5⟩ := hf it (by simp)
    have hi : x.cps.size ≤ i := hg
    exact wpAny_pyNext_ascii_end (I.ok.hd hc) st (by simp; omega) fun h' eb => ⟨rfl, I.turned (t' := s.toks) (fun b o hb e => eb b o hb e) f0 f1 f3 f4 f5⟩
  self := fun _ _ _ _ _ st h => wpAny_pyIter_striter_ascii st h
theorem turn_strW {P : Program} {w : World} {K : PySem.W.Frag} {tg : Expr} (x : Str) (t : Tok) (it : Addr) : Turn P w K tg (Its x) [it] it (fun i h => h.IsStrIter it "str_iterator" x t i) where
  mem := by simp
  obj := fun i h st b hb => by
    have e : b = it := by simpa using hb
    subst e
    obtain ⟨o, e, c, d⟩ := st
    exact ⟨o, e, fun v z => by rw [d] at z; cases z⟩
  keep := fun i h h' st k => by
    obtain ⟨o, e, c, d⟩ := st
    exact ⟨o, k it (by simp) o e, c, d⟩
  item := by
    intro X hP hw hK hc i pins s σ H E I hf st hg
    subst hP hw hK
    obtain ⟨f0, f1, f2, f3, f4, f5⟩ := hf it (by simp)
    have hi : i < x.cps.size := hg
    refine wpAny_pyNext_wide_item st (c := x.cps[i]) (by simp [hi]) fun h' st' sb => ?_
    have I1 : Inv X pins σ H { s with heap := h', toks := s.toks + 1 } := I.turned (fun b o hb e => (sb.2 b hb).trans e) f0 f1 f3 f4 f5
    obtain ⟨o, e, c, d⟩ := id st'
    exact ⟨_, rfl, go_of (s := { s with heap := h', toks := s.toks + 1 }) e c d (by decide) ⟨.str (tx [x.cps[i]]), H, I1, ⟨_, rfl⟩, ⟨rfl, _, by simp [hi], rfl⟩, st', fun b hb => (hf b hb).1⟩⟩
  done := by
    intro X hP hw hK hc i pins s σ H E I hf st hg
    subst hP hw hK
    obtain ⟨f0, f1, f2, f3, f4, f5⟩ := hf it (by simp)
    have hi : x.cps.size ≤ i := hg
    exact wpAny_pyNext_wide_end (I.ok.hd hc) st (by simp; omega) fun h' eb => ⟨rfl, I.turned (t' := s.toks) (fun b o hb e => eb b o hb e) f0 f1 f3 f4 f5⟩
  self := fun _ _ _ _ _ st h => wpAny_pyIter_striter_wide st h
def iStr (tl : TE) : TI := fun σ H R => tl σ H fun x H1 => ∃ z, x = .str z ∧ R (Its z) H1
theorem pi_str {tg l : Expr} {tl : TE} (hl : PE X l tl) : PI X tg l (iStr tl) := by
  intro pins s σ H R I h
  refine thn (hl pins s σ H _ I h) fun v s1 ⟨x, H1, I1, r1, q1⟩ => ?_
  obtain ⟨z, e, q⟩ := q1
  subst e
  obtain ⟨t, rfl⟩ := r1
  have fp : ∀ b ∈ [s1.heap.objs.size], FpOk X pins H1 b := fun b hb => by
    have e : b = s1.heap.objs.size := by simpa using hb
    subst e
    exact I1.fpOk (Nat.le_refl _) (I1.hok.fresh (Nat.le_refl _))
  cases ha : z.cps.all (· < 128) with
  | true => exact wpAny_pyIter_ascii ha ⟨s1.heap.objs.size, [s1.heap.objs.size], _, _, H1, rfl, I1.kept (t' := s1.toks) fun b o e => Heap.get?_push_of_some _ e, turn_strA z t _, ⟨_, Heap.get?_push_size _ rfl, rfl, rfl⟩, fp, q⟩
  | false => exact wpAny_pyIter_wide ha ⟨s1.heap.objs.size, [s1.heap.objs.size], _, _, H1, rfl, I1.kept (t' := s1.toks) fun b o e => Heap.get?_push_of_some _ e, turn_strW z t _, ⟨_, Heap.get?_push_size _ rfl, rfl, rfl⟩, fp, q⟩
theorem for_str {l : List Nat} {g : TG} {tb : TS} {D : Ends} {σ : St} {H : Hp} (Pv : Nat → St → Hp → Prop) (h0 : Pv 0 σ H)
    (hs : ∀ i c σ H, l[i]? = some c → Pv i σ H → g (.str (tx [c])) σ H fun σ2 H2 => tb { D with nx := Pv (i + 1), ct := Pv (i + 1), bk := D.nx } σ2 H2) (hd : ∀ σ H, Pv l.length σ H → D.nx σ H) :
    ∃ W : Nat → Nat → St → Hp → Prop, (∃ m, W 0 m σ H) ∧ ∀ i m σ H, W i m σ H →
      ((Its (tx l)).stop i H ∧ D.nx σ H) ∨ ((Its (tx l)).go i H ∧ ∃ N : St → Hp → Prop, (∀ σ' H', N σ' H' → ∃ m', m' < m ∧ W (i + 1) m' σ' H') ∧ ∀ x H', (Its (tx l)).yld i H x H' → g x σ H' fun σ2 H2 => tb { D with nx := N, ct := N, bk := D.nx } σ2 H2) := by
  have hz : (tx l).cps.size = l.length := by simp [tx]
  refine ⟨fun i m σ H => m = l.length - i ∧ i ≤ l.length ∧ Pv i σ H, ⟨l.length, by simp, Nat.zero_le _, h0⟩, ?_⟩
  rintro i m σ H ⟨rfl, hi, p⟩
  by_cases hlt : i < l.length
  · refine .inr ⟨by show i < (tx l).cps.size; omega, Pv (i + 1), fun σ' H' p' => ⟨l.length - (i + 1), by omega, rfl, hlt, p'⟩, fun x H' y => ?_⟩
    obtain ⟨e, c, hc, y⟩ := y
    subst e y
    exact hs i c σ _ (by simpa [tx] using hc) p
  · have e : i = l.length := by omega
    subst e
    exact .inl ⟨by show (tx l).cps.size ≤ l.length; omega, hd σ H p⟩

/-! ### f-strings of plain fields -/
/-- text[lo:hi] -/
def rSlS : V → Option Int → Option Int → Hp → VK → Prop := fun x lo hi H Q => ∃ z, x = .str z ∧ z.length ≤ sizeLine ∧ Q (.str (Txt.slice z lo hi)) H
theorem sl_str : SlR X rSlS := by
  intro pins s σ H x v vl vu lo hi sl Q I rx hs pl pu h
  obtain ⟨z, rfl, hz, q⟩ := h
  obtain ⟨t, rfl⟩ := rx
  refine ⟨"str", _, F.slot_str_getitem.lookup, typeIs_str _ _ _, ?_⟩
  have fin : ∀ t' k, EP X pins σ Q (.str (Txt.slice z lo hi) t') { s with toks := k } := fun t' k => ⟨.str _, H, I.tok k, ⟨t', rfl⟩, q⟩
  cases pl with
  | none =>
    cases pu with
    | none => exact wpAny_getItem_str_slice (l := none) (u := none) (st := none) hs rfl (post_val_or_str ⟨Nat.le_trans (Txt.slice_le z _ _) hz, fin⟩)
    | int j tj => exact wpAny_getItem_str_slice (l := none) (u := some (j, tj)) (st := none) hs rfl (post_val_or_str ⟨Nat.le_trans (Txt.slice_le z _ _) hz, fin⟩)
  | int i ti =>
    cases pu with
    | none => exact wpAny_getItem_str_slice (l := some (i, ti)) (u := none) (st := none) hs rfl (post_val_or_str ⟨Nat.le_trans (Txt.slice_le z _ _) hz, fin⟩)
    | int j tj => exact wpAny_getItem_str_slice (l := some (i, ti)) (u := some (j, tj)) (st := none) hs rfl (post_val_or_str ⟨Nat.le_trans (Txt.slice_le z _ _) hz, fin⟩)
end
end L2

namespace L2
open PySem PySem.Spec PyProof.Rows
/-! ### isinstance of an exception of an own class -/
structure XK1 (K : PySem.W.Frag) (C : Addr) : Prop where
  ga : PySem.W.findIn K (.ref C) "__getattribute__" = some (some (.builtin "BaseException.__getattribute__"))
  gt : PySem.W.findIn K (.ref C) "__getattr__" = some none
  cl : PySem.W.findIn K (.ref C) "__class__" = some (some (.builtin "object.__class__"))
  ob : PySem.W.mroIn K C (.type "object") = some true
  sb : PySem.W.subIn K (.ref C) (.type "BaseException") = some true
  ic : PySem.W.isClsIn K C = true
  hd : PySem.W.hasDictIn K C = true
  gs : PySem.W.specialIn K (.builtin "object.__class__") "__get__" = some (some (.builtin "getset_descriptor.__get__"))
  tk : PySem.W.takesIn K (.builtin "object.__class__") = some true
theorem exc_find {K : PySem.W.Frag} {C : Addr} (Z : XK1 K C) (od : Option Obj) : PySem.W.findObj K C od "__class__" = some (.bind (.builtin "getset_descriptor.__get__") (.builtin "object.__class__")) := by
  obtain ⟨cd, hc⟩ := Option.isSome_iff_exists.mp (show (PySem.W.clsIn K C).isSome = true from Z.ic)
  unfold PySem.W.findObj
  rw [hc, Option.bind_some, Z.cl, Option.bind_some]
  simp [Z.gs, Z.tk]
section
variable {prog : Program} {w : World} {A : Around} {E : Value → Shared → Prop} {K : PySem.W.Frag} {x D : Addr} {ox : Obj} {od : Option Obj}
theorem exc_check {M : Model} {h : Heap} {g : Array GenState} {d : Drawn} {t : Nat} {os : OsState} {nameV : Value} {Q : Unit → Shared → Prop} (Z : XK1 K D) (X : K.In h) (I : PySem.W.InstAt h x ox D od) (hq : Q () ⟨h, g, d, t, os⟩) :
    wpAny M A (checkBuiltinCall "BaseException.__getattribute__" ⟨[.ref x, nameV], []⟩) Q E ⟨h, g, d, t, os⟩ := by
  have hk : builtinKind "BaseException.__getattribute__" = some .slot := by decide +kernel
  have hsplit : splitId "BaseException.__getattribute__" = some ("BaseException", "__getattribute__") := by decide +kernel
  have ha := F.args_bexc_ga (.ref x) nameV
  have L0 := I.type (M := M)
  have L1 := PySem.W.looks_subIn (M := M) X Z.sb
  simp only [checkBuiltinCall, hk, hsplit]
  refine wpAny_bind ?_
  unfold isInstance
  refine wpAny_bind (L0.at (L1.at ?_))
  repeat (first | exact hq | wp_step)
theorem exc_class {s : Shared} {Q : Option Value → Shared → Prop} (Z : XK1 K D) (X : K.In s.heap) (I : PySem.W.InstAt s.heap x ox D od) (h : Q (some (.ref D)) { s with toks := s.toks + 1 }) : wpAny (model prog w) A (getAttr? (.ref x) "__class__") Q E s := by
  obtain ⟨hh, g, d, t, os⟩ := s
  have L0 := I.type (M := model prog w)
  have L1 := PySem.W.looks_findIn (M := model prog w) X Z.ga
  have L2 := PySem.W.looks_findIn (M := model prog w) X Z.gt
  have L3 := PySem.W.looks_find (M := model prog w) X I (exc_find Z od)
  unfold getAttr?
  unfold getAttrBy?
  unfold getAttrBy
  refine wpAny_bind (wpAny_mkText (wpAny_bind (wpAny_attempt (wpAny_holding (wpAny_bind (L0.at (wpAny_bind (L1.at ?_))))))))
  show wpAny _ _ (getAttrByItsOwn _ _ _ _ _ _) _ _ _
  unfold getAttrByItsOwn
  unfold hookBefore
  refine wpAny_bind (L2.at ?_)
  refine wpAny_bind (wpAny_attempt (wpAny_holding ?_))
  show wpAny _ _ (boundAndCalled _ _ _) _ _ _
  unfold boundAndCalled
  refine wpAny_bind (wpAny_of_eq (F.excAttr_ValueError.ga.bind (.ref x)) ?_)
  refine wpAny_call (codeAny_call_builtin F.excAttr_ValueError.ga.plain F.entry_bexc_ga (exc_check Z X I ?_))
  unfold Builtin.«object.__getattribute__»
  refine wpAny_bind (wpAny_of_eq (a := (Value.ref x, [Value.str "__class__" t])) rfl ?_)
  refine wpAny_bind (wpAny_of_eq (a := ("__class__" : Str)) rfl ?_)
  refine wpAny_bind (L0.at (wpAny_bind (L3.at ?_)))
  show wpAny _ _ (holding [Value.builtin "object.__class__"] (call (.builtin "getset_descriptor.__get__") [.builtin "object.__class__", .ref x, .ref D]) >>= ret) _ _ _
  refine wpAny_bind (wpAny_holding (wpAny_call (PySem.W.class_get X I Z.ob ?_)))
  refine wpAny_pure ?_
  exact PySem.W.handed_on rfl (wpAny_pure h)
end
/-- what isinstance asks of an exception -/
theorem kitx_exc {K : PySem.W.Frag} {e D : Addr} (Z : XK1 K D) : PySem.W.KitX K (.ref e) (.ref D) (fun h => ∃ oe vs, h.get? e = some oe ∧ oe.cls = .ref D ∧ oe.dict = none ∧ oe.data = .fields vs) where
  ty := fun M h _ p => by
    obtain ⟨oe, vs, h1, h2, _⟩ := p
    exact looks_ty h1 h2
  it := fun M h X _ => by
    obtain ⟨cd, hc⟩ := Option.isSome_iff_exists.mp (show (PySem.W.clsIn K D).isSome = true from Z.ic)
    unfold PySem.W.clsIn at hc
    split at hc
    · rename_i lk
      intro A' Q' E' s' k q
      unfold isType
      unfold loadHead
      exact wpAny_bind (wpAny_loadPart (k _ _ (X _ _ lk)) (wpAny_pure q))
    · cases hc
  ne := fun h tp dd its n sl X htp => by
    obtain ⟨cd, hc⟩ := Option.isSome_iff_exists.mp (show (PySem.W.clsIn K D).isSome = true from Z.ic)
    refine Bool.eq_false_iff.mpr fun q => ?_
    have e : D = tp := Value.ref.inj (beq_iff_eq.mp q)
    subst e
    unfold PySem.W.clsIn at hc
    split at hc
    · rename_i lk
      have z := (X _ _ lk).symm.trans htp
      cases z
    · cases hc
  ca := fun {prog w A E Q s} X p k => by
    obtain ⟨oe, vs, h1, h2, h3, h4⟩ := p
    refine exc_class (od := none) (ox := oe) Z X ⟨h1, h2, ?_, ?_⟩ k
    · unfold PySem.W.notCls
      rw [h4]
    · rw [h3]
      trivial
/-- isinstance(e, C), e an exception that was caught -/
theorem call_isinstX {X : Cx} {K : PySem.W.Frag} (hK : X.K = K := by rfl) : CallR X (.builtin "isinstance") (fun xs H Q => ∃ e C c cv b, xs = [.ref e, c] ∧ H e = some (exO e (.ref C) none) ∧ XK1 K C ∧ (∀ u, RelV c u → u = cv) ∧ PySem.W.kitOne K (.ref C) cv = some b ∧ Q (.bl b) H) := by
  subst hK
  intro pins s σ H xs us Q I r h
  obtain ⟨e, C, c, cv, b, rfl, he, Z, hc, k, q⟩ := h
  obtain ⟨u, z, rfl, rx, rc⟩ := vals2 r
  cases rx
  cases hc z rc
  obtain ⟨p, _, _⟩ := (show ObjOk X.prog X.w H s.heap e (exO e (.ref C) none) from I.hok e _ he)
  exact PySem.W.kia_one (kitx_exc Z) I.kIn p k (fun z => nomatch z) fun tk => ⟨.bl b, H, I.tok tk, rfl, q⟩
/-- an own class by its name -/
theorem pe_cls {X : Cx} {x : Str} {C : Addr} {pos : Pos} (hg : Gl X x) (hm : X.mg x = some (.ref C)) (hd : (x == ("__debug__" : Str)) = false := by decide) : PE X (.Name x pos) (tC (.ref C)) := pe_glob (v := .ref C) hg hm rfl hd
/-! ### a class whose __init__ may raise -/
structure KCalX (P : Program) (w : World) (K : PySem.W.Frag) (mg : Str → Option Value) (base : Heap) (k : Nat) (x : Str) (C : Addr) (ps : List Str) (sp : Sp) : Prop where
  ex : ∃ f fd, Mk K C f ∧ FnOk P w K mg base (CX1 P w) k f fd ps sp ∧ Binds K fd ps [] ∧ mg x = some (.ref C)
def tMakeX (C : Addr) (sp : Sp) (W : St → XK) (t : TA) : TE := fun σ H Q => t σ H fun vs H1 => ∀ x dx, H1 x = none → H1 dx = none → dx ≠ x →
  sp (.ref x :: vs) (upd (upd H1 dx (.own x)) x (.ins C dx [])) (fun v H2 => v = .non ∧ Q (.ref x) H2) (W σ)
section
variable {X : Cx} {k : Nat} {f C : Addr} {fd : FuncData} {ps : List Str} {sp : Sp} {x : Str} {p pos : Pos} {e : Expr} {es : List Expr} {t : TA} {W : St → XK}
theorem run_makeX {pins : List (Addr × Obj)} {σ : St} {H : Hp} {s : Shared} {Q : VK} {us : List Value} {vs : List V} (M : Mk X.K C f) (F : FnOk X.prog X.w X.K X.mg X.base (CX1 X.prog X.w) k f fd ps sp) (hr : Room (k + 1) X.A) (hb : Binds X.K fd ps [])
    (hW : Wish X W) (I : Inv X pins σ H s) (r : Vals vs us)
    (h : ∀ x dx, H x = none → H dx = none → dx ≠ x → sp (.ref x :: vs) (upd (upd H dx (.own x)) x (.ins C dx [])) (fun v H2 => v = .non ∧ Q (.ref x) H2) (W σ)) :
    wpAny (model X.prog X.w) X.A (call (.ref C) us) (EP X pins σ Q) X.xe s := by
  have hq := h (s.heap.objs.size + 1) s.heap.objs.size (I.hok.fresh (Nat.le_succ _)) (I.hok.fresh (Nat.le_refl _)) (Nat.ne_of_lt (Nat.lt_succ_self _))
  have I2 := Inv.made (C := C) I
  have r2 : Vals (V.ref (s.heap.objs.size + 1) :: vs) (Value.ref (s.heap.objs.size + 1) :: us) := .cons rfl r
  have hl : (Value.ref (s.heap.objs.size + 1) :: us ++ []).length = ps.length := by
    rw [List.append_nil, ← r2.length]
    exact F.len _ _ _ _ hq
  have b := hb _ (Value.ref (s.heap.objs.size + 1) :: us) I2.kIn hl
  rw [List.append_nil] at b
  refine wpAny_call (make_map (f := f) I.kIn M.makes M.init (beq_iff_eq.mp M.fn) (codeAny_mono (F.run _ X.stack _ _ ⟨Value.ref (s.heap.objs.size + 1) :: us, []⟩ (Value.ref (s.heap.objs.size + 1) :: us) _ _ (W σ) (hr.make C us [])
    (I2.env0.make C us []) b r2 hq) fun r s' hq' => ?_))
  cases r with
  | error v => exact hW.pass I2 hq'
  | ok fl =>
    cases fl with
    | ret u =>
      obtain ⟨v, H', I3, rv, ev, q3⟩ := I2.after hq'
      subst ev
      exact ⟨rv, ⟨V.ref (s.heap.objs.size + 1), H', I3, rfl, q3⟩⟩
    | next => exact False.elim hq'
    | brk => exact False.elim hq'
    | cont => exact False.elim hq'
theorem pe_makeX (M : KCalX X.prog X.w X.K X.mg X.base k x C ps sp) (hr : Room (k + 1) X.A) (hW : Wish X W) (hg : Gl X x) (ha : PA X (e :: es) t)
    (hdb : (x == ("__debug__" : Str)) = false := by decide) (he : starEach (e :: es) X.env = (false, eval e X.env) :: starEach es X.env := by rfl) (hpl : (backTo pos (starEach es X.env)).any (·.1) = false := by rfl) :
    PE X (.Call (.Name x p) (e :: es) [] pos) (tMakeX C sp W t) := by
  intro pins s σ H Q I h
  obtain ⟨f, fd, mk, F, b, hm⟩ := M.ex
  refine wpAny_Call_Name_kw (ld_glob I hg hm ?_ hdb)
  refine PySem.W.callWith_K (h₀ := X.base) I.ok.mod.kin mk.kp (thn (ha pos pins s σ H _ I h) fun us s1 ⟨vs, H1, I1, r, q⟩ => ⟨I1.kIn, ?_⟩) he hpl
  exact run_makeX mk F hr b hW I1 r q
end
/-! ### == of two lists with the very same items -/
end L2

namespace L2
open PySem PySem.Spec PyProof.Rows
/-! ### exceptions of own classes as values: made by hand, kept, asked for what they keep -/
section
variable {X : Cx} {x : Str} {C f : Addr} {p pos : Pos} {e : Expr} {es : List Expr} {t : TA}
end
/-! ### a class of the text whose __init__ is a def of its own -/
section
variable {prog : Program} {w : World} {A : Around} {Ex : Value → Shared → Prop} {hp : Heap} {gs : Array GenState} {dr : Drawn} {tk : Nat} {os : OsState}
variable {nm q : Str} {C N fI : Addr} {bs bm bmB : List Value} {hdct : Bool} {sn : List Str} {sub : List Value} {ab : Bool} {col : Option Bool} {dd : Option Addr} {k0 k1 k2 k3 k5 : Option Value} {B newId initId : String} {mN : Str → Option Value} {us : List Value} {oI : Obj}
theorem exc_type_call {Q : Fin → Shared → Prop} (FB : ExcBaseFacts B newId initId bmB) (T : OwnTail hp bmB bm) (cO : hp.get? C = some (excClassObj nm q C N bs bm hdct sn sub ab col dd k0 k1 k2 k3 k5 newId)) (nN : hp.Ns N mN)
    (iN : mN "__init__" = some (.ref fI)) (fO : hp.get? fI = some oI) (fC : oI.cls = .type "function") (sz : us.length ≤ sizeLine)
    (k : ∀ h1 e, Heap.MadeExcOf hp h1 e (.ref C) us → wpAny (model prog w) A (call (.ref fI) (.ref e :: us)) (fun r s1 => r = .none ∧ Q (.done (.ret (.ref e))) s1) Ex ⟨h1, gs, dr, tk, os⟩) :
    wpAny (model prog w) A (Builtin.«type.__call__» ⟨.ref C :: us, []⟩) Q Ex ⟨hp, gs, dr, tk, os⟩ := by
  repeat (first | with_reducible refine wpAny_loadPart_at cO ?_ | with_reducible refine wpAny_madeBy_exc cO ?_ | wp_step)
  refine codeAny_call_builtin_code (Code.quiet_builtin _ FB.quiet) (wpAny_check_new_subT FB T cO (codeAny_exc_new_subT FB T cO ?_ sz))
  show wpAny _ _ _ _ _ _
  have keep : ∀ b o, hp.get? b = some o → ((hp.push { cls := .type "tuple", data := .seq us.toArray }).push { cls := .ref C, data := .fields #[.ref hp.objs.size, .none, .none, .none, .bool false, .none] }).get? b = some o :=
    fun b o z => Heap.get?_push_of_some _ (Heap.get?_push_of_some _ z)
  have cO1 := keep _ _ cO
  have new : ((hp.push { cls := .type "tuple", data := .seq us.toArray }).push { cls := .ref C, data := .fields #[.ref hp.objs.size, .none, .none, .none, .bool false, .none] }).get? (hp.objs.size + 1)
      = some { cls := .ref C, data := .fields #[.ref hp.objs.size, .none, .none, .none, .bool false, .none] } := by heap_get
  have inC : (Value.ref C :: bm).contains (.ref C) = true := by simp
  unfold isInstance
  repeat (first | with_reducible refine wpAny_loadPart_at new ?_ | (with_reducible refine wpAny_isSubtype_exc cO1 ?_; rw [inC]) | wp_step)
  show wpAny _ _ (typeLookup (.ref C) _) _ _ _
  refine wpAny_typeLookup_tail cO1 (nN.keeps keep) (T.keeps keep) FB.mroIs FB.init.lookup ?_
  rw [iN]
  refine wpAny_holding (wpAny_bind ?_)
  unfold bindSpecial
  refine wpAny_bind (wpAny_typeOf (T := "function") ⟨_, keep _ _ fO, fC⟩ ?_)
  rw [if_pos (by decide)]
  refine wpAny_pure (wpAny_bind (wpAny_mono (k _ (hp.objs.size + 1) ⟨keep, Heap.get?_none_of_le (Nat.le_succ _), hp.objs.size, new, Heap.get?_none_of_le (Nat.le_refl _), ?_⟩) (fun r s1 hr => ?_) fun _ _ z => z))
  · exact Heap.get?_push_of_some _ (Heap.get?_push_at rfl rfl)
  · obtain ⟨rfl, hQ⟩ := hr
    wp_walk
    exact hQ
theorem exc_call {Q : Value → Shared → Prop} (FB : ExcBaseFacts B newId initId bmB) (T : OwnTail hp bmB bm) (cO : hp.get? C = some (excClassObj nm q C N bs bm hdct sn sub ab col dd k0 k1 k2 k3 k5 newId)) (nN : hp.Ns N mN)
    (iN : mN "__init__" = some (.ref fI)) (fO : hp.get? fI = some oI) (fC : oI.cls = .type "function") (sz : us.length ≤ sizeLine)
    (k : ∀ h1 e, Heap.MadeExcOf hp h1 e (.ref C) us → wpAny (model prog w) (A.under (.builtin "type.__call__" ⟨.ref C :: us, []⟩)) (call (.ref fI) (.ref e :: us)) (fun r s1 => r = .none ∧ Q (.ref e) s1) Ex ⟨h1, gs, dr, tk, os⟩) :
    wpAny (model prog w) A (call (.ref C) us) Q Ex ⟨hp, gs, dr, tk, os⟩ := by
  have l1 := tc_lookup
  have l2 := tc_bind (.ref C)
  have isT : (⟨hp, gs, dr, tk, os⟩ : Shared).TypeIs (.ref C) "type" := ⟨_, cO, rfl⟩
  refine wpAny_call (codeAny_of_tree ?_)
  show wpAny _ _ (callAny (.ref C) _) _ _ _
  repeat (any_goals (first | assumption | with_reducible refine wpAny_loadPart_at cO ?_ | wp_step))
  refine ⟨rfl, codeAny_call_builtin_at (Code.quiet_builtin _ (by decide +kernel)) entry_typeCall (wpAny_check_type_call_sub cO (exc_type_call FB T cO nN iN fO fC sz fun h1 e m => ?_))⟩
  exact k h1 e m
end
section
variable {prog : Program} {w : World} {A : Around} {E : Value → Shared → Prop} {K : PySem.W.Frag} {x D : Addr} {ox : Obj} {od : Option Obj}
end
end L2

namespace L2
open PySem PySem.Spec PyProof.Rows
/-! ### exceptions that keep values: the rules -/
section
variable {X : Cx} {pins : List (Addr × Obj)} {σ : St} {H : Hp} {s : Shared} {e : Addr}
end
section
variable {X : Cx} {x f : Str} {C g : Addr} {p pos apos : Pos} {e o value : Expr} {es : List Expr} {t : TA} {ta tv : TE}
end
end L2

namespace L2
open PySem PySem.Spec PyProof.Rows
/-! ### more on texts and tuples -/
theorem slice_to {l : List Nat} {i : Int} (h0 : 0 ≤ i) (h1 : i ≤ l.length) : Txt.slice (tx l) none (some i) = tx (l.take i.toNat) := by
  show StrLaws.sliceText (tx l) none (some i) = _
  rw [StrLaws.sliceText_to ⟨h0, h1⟩]
  show tx ((l.drop 0).take (i - 0).toNat) = _
  rw [List.drop_zero, Int.sub_zero]
theorem slice_from {l : List Nat} {i : Int} (h0 : 0 ≤ i) (h1 : i ≤ l.length) : Txt.slice (tx l) (some i) none = tx (l.drop i.toNat) := by
  show StrLaws.sliceText (tx l) (some i) none = _
  rw [StrLaws.sliceText_from ⟨h0, h1⟩]
  show tx ((l.drop i.toNat).take ((l.length : Int) - i).toNat) = _
  rw [List.take_of_length_le (by rw [List.length_drop]; omega)]
section
variable {X : Cx}
theorem op_notIn_K {K : PySem.W.Frag} (hK : X.K = K := by rfl) : OpR X (compareOp .NotIn) (rIn K true) := hK ▸ op_notIn_seq
end
end L2

namespace L2
open PySem PySem.Spec PyProof.Rows
/-! ### things of things: == and != over lists and tuples of lists and tuples -/
section
variable {X : Cx} {pins : List (Addr × Obj)} {σ : St} {H : Hp} {s : Shared}
end
section
variable {X : Cx}
/-! ### xs[lo::k]: some items of the list -/
/-- index of a tuple, K told -/
theorem ix_tupK {K : PySem.W.Frag} (h : X.K = K) : IxR X (rIxT K) := h ▸ ix_tup
end
end L2

namespace L2
open PySem PySem.Spec PyProof.Rows
/-! ### B.m(self, ..): a method called by its class; methods of objects of several classes -/
section
variable {X : Cx} {k : Nat} {m x : Str} {ps : List Str} {sp : Sp} {e : Expr} {es : List Expr} {p apos pos : Pos} {t : TA} {W : St → XK}
end
/-! ### a tuple of the module -/
/-! ### range(a, b, c), c above nought -/
/-! ### a op1 b op2 c op3 d -/
end L2

namespace L2
open PySem PySem.Spec PyProof.Rows
section
variable {X : Cx}
end
end L2

namespace L2
open PySem PySem.Spec PyProof.Rows
/-! ### C() where there is no __init__ but object's -/
structure Mk0 (K : PySem.W.Frag) (mg : Str → Option Value) (x : Str) (C : Addr) : Prop where
  makes : PySem.W.makesIn K C = true
  init : PySem.W.findIn K (.ref C) "__init__" = some (some (.builtin "object.__init__"))
  kp : PySem.W.keepIn K (.ref C) = true
  at_ : mg x = some (.ref C)
def tNew (C : Addr) : TE := fun _ H Q => ∀ y dx, H y = none → H dx = none → dx ≠ y → Q (.ref y) (upd (upd H dx (.own y)) y (.ins C dx []))
theorem pe_new0 {X : Cx} {x : Str} {C : Addr} {p pos : Pos} (M : Mk0 X.K X.mg x C) (hg : Gl X x) (hdb : (x == ("__debug__" : Str)) = false := by decide) : PE X (.Call (.Name x p) [] [] pos) (tNew C) := by
  intro pins s σ H Q I h
  refine wpAny_Call_Name_kw (ld_glob I hg M.at_ ?_ hdb)
  refine PySem.W.callWith_K0 I.kIn M.kp (wpAny_call (make_map0 I.kIn M.makes M.init (fun self => PySem.W.Looks.of_pure (PySem.W.oi_bind self)) ?_))
  have hq := h (s.heap.objs.size + 1) s.heap.objs.size (I.hok.fresh (Nat.le_succ _)) (I.hok.fresh (Nat.le_refl _)) (Nat.ne_of_lt (Nat.lt_succ_self _))
  have I2 := Inv.made (C := C) I
  have Y := PySem.W.makes_of (M := model X.prog X.w) I.kIn M.makes
  have ob : ((s.heap.push PySem.W.emptyDict).push (PySem.W.instObj C s.heap.objs.size)).get? (s.heap.objs.size + 1) = some (PySem.W.instObj C s.heap.objs.size) := by
    have e : (s.heap.push PySem.W.emptyDict).objs.size = s.heap.objs.size + 1 := by rw [Heap.size_push]
    rw [← e]
    exact Heap.get?_push_size _ rfl
  have t1 : PySem.W.Looks (model X.prog X.w) ((s.heap.push PySem.W.emptyDict).push (PySem.W.instObj C s.heap.objs.size)) (typeOf (.ref (s.heap.objs.size + 1))) (.ref C) := (PySem.W.Looks.ld ob).andThen .now
  have t2 : PySem.W.Looks (model X.prog X.w) ((s.heap.push PySem.W.emptyDict).push (PySem.W.instObj C s.heap.objs.size)) (isInstance (.ref (s.heap.objs.size + 1)) (.type "object")) true := t1.andThen (Y.top.keeps fun b o e => Heap.get?_push_of_some _ (Heap.get?_push_of_some _ e))
  obtain ⟨hh, g, d, t, os⟩ := s
  refine codeAny_call_builtin PySem.W.oi_plain PySem.W.entry_oi (@PySem.W.check_slot (model X.prog X.w) _ _ _ "object.__init__" "object" "__init__" (.ref (hh.objs.size + 1)) [] [] _ PySem.W.oi_kind PySem.W.oi_split t2 (PySem.W.oi_args (.ref (hh.objs.size + 1))) ?_)
  rw [PySem.W.oi_run]
  exact wpAny_pure (And.intro rfl ⟨V.ref (hh.objs.size + 1), _, I2, rfl, hq⟩)
end L2

namespace L2
open PySem PySem.Spec PyProof.Rows
/-! ### x (not) in a tuple of texts, for x of any kind; z.upper() -/
theorem strs_flat : ∀ ss : List Str, (ss.map V.str).all flatV = true
  | [] => rfl
  | _ :: r => by show (true && (r.map V.str).all flatV) = true; rw [strs_flat r]; rfl
end L2

namespace L2
open PySem PySem.Spec PyProof.Rows

/-! ### for .. in reversed(xs), a list that stays -/
end L2

/-! Sorting by a tree of questions: what comes out is in order. -/
namespace CRS
open PySem PySem.W PyProof.Rows
section
variable {lt : Nat → Nat → Bool} {V : Nat → Prop}
end
section
variable {O : KeyOrd} {key : Nat → O.α} {N : Nat}
variable {β : Type}
end
end CRS

namespace L2
open PySem PySem.Spec PyProof.Rows PySem.W

/-! ### sorting lists of tuples of ints -/

section
variable {prog : Program} {w : World} {A : Around} {E : Value → Shared → Prop} {s : Shared}
/-! #### tuples of ints -/
end
section
variable {X : Cx}
end
section
variable {X : Cx}
/-! ### the truth of a list in a test -/
end
end L2

namespace L2
open PySem PySem.Spec PyProof.Rows
/-! ### a def with default arguments, all of its arguments given -/
structure FunD (K : PySem.W.Frag) (x qual : Str) (st : Stmt) (f : Addr) (fd : FuncData) : Prop where
  ex : ∃ (oc : Value) (od : Option Addr) (dV kV doc pm : Value) (an : Option Addr) (cdv ct : Value) (osl : Array (Option Value)),
    fd = PySem.W.fnOf x qual (defArgs st) (defBody st) (defScope st) dV kV doc pm an cdv ct ∧ K.lookup f = some ⟨oc, od, .func fd, osl⟩ ∧ PySem.W.codeIn K cdv qual = true
  kp : PySem.W.keepIn K (.ref f) = true
section
variable {P : Program} {w : World} {K : PySem.W.Frag} {mg : Str → Option Value} {base : Heap}
theorem funD_mk {x qual : Str} {st : Stmt} {f : Addr} {oc : Value} {od an : Option Addr} {osl : Array (Option Value)} {dV kV doc pm cdv ct : Value} (l : K.lookup f = some ⟨oc, od, .func (PySem.W.fnOf x qual (defArgs st) (defBody st) (defScope st) dV kV doc pm an cdv ct), osl⟩)
    (c : PySem.W.codeIn K cdv qual = true) (k : PySem.W.keepIn K (.ref f) = true) : FunD K x qual st f (PySem.W.fnOf x qual (defArgs st) (defBody st) (defScope st) dV kV doc pm an cdv ct) := ⟨⟨oc, od, dV, kV, doc, pm, an, cdv, ct, osl, rfl, l, c⟩, k⟩
end
end L2
namespace L2
open PySem PySem.Spec PyProof.Rows
/-- for i, x in enumerate(xs), a list that the body leaves as it is -/
theorem for_enum {K K' : PySem.W.Frag} {a : Addr} {xs : List V} {i1 i2 : Nat} {tb : TS} {D : Ends} {σ : St} {H : Hp} (Pv : Nat → St → Hp → Prop) (h0 : Pv 0 σ H) (hl : ∀ i σ H, i ≤ xs.length → Pv i σ H → SqL K H a xs)
    (hs : ∀ i x σ H t, xs[i]? = some x → Pv i σ H → H t = none → tb { D with nx := Pv (i + 1), ct := Pv (i + 1), bk := D.nx } ((σ.set i1 (some (.int i))).set i2 (some x)) (upd H t (.tup [.int i, x]))) (hd : ∀ σ H, Pv xs.length σ H → D.nx σ H) :
    ∃ W : Nat → Nat → St → Hp → Prop, (∃ m, W 0 m σ H) ∧ ∀ i m σ H, W i m σ H →
      ((Ite K a).stop i H ∧ D.nx σ H) ∨ ((Ite K a).go i H ∧ ∃ N : St → Hp → Prop, (∀ σ' H', N σ' H' → ∃ m', m' < m ∧ W (i + 1) m' σ' H') ∧ ∀ x H', (Ite K a).yld i H x H' → gTup K' 2 (gCons (gName i1) (gCons (gName i2) gNil)) x σ H' fun σ2 H2 => tb { D with nx := N, ct := N, bk := D.nx } σ2 H2) := by
  refine ⟨fun i m σ H => m = xs.length - i ∧ i ≤ xs.length ∧ Pv i σ H, ⟨xs.length, by simp, Nat.zero_le _, h0⟩, ?_⟩
  rintro i m σ H ⟨rfl, hi, p⟩
  have q := hl i σ H hi p
  by_cases hlt : i < xs.length
  · refine .inr ⟨⟨xs, xs[i], q, by simp [hlt]⟩, Pv (i + 1), fun σ' H' p' => ⟨xs.length - (i + 1), by omega, rfl, hlt, p'⟩, fun x H' y => ?_⟩
    obtain ⟨t, z, ex, ht, hz, e3⟩ := y
    subst ex e3
    exact ⟨t, _, rfl, SqT.of upd_same, rfl, _, _, rfl, _, _, rfl, rfl, hs i z σ H t (hz xs q) p ht⟩
  · obtain rfl : i = xs.length := by omega
    exact .inl ⟨⟨xs, q, Nat.le_refl _⟩, hd σ H p⟩
end L2

namespace L2
open PySem PySem.Spec PyProof.Rows

/-! ### zip(xs, ys), its pairs unpacked by the target -/
end L2

namespace L2
open PySem PySem.Spec PyProof.Rows
/-! ### a text told several times -/
theorem rep_cps (l : List Nat) : ∀ n : Nat, (List.replicate n l.toArray).foldl (· ++ ·) #[] = ((List.replicate n l).flatten).toArray := fun n => by
  have go : ∀ (n : Nat) (a : List Nat), (List.replicate n l.toArray).foldl (· ++ ·) a.toArray = (a ++ (List.replicate n l).flatten).toArray := fun n => by
    induction n with
    | zero => intro a; simp
    | succ n ih =>
      intro a
      rw [List.replicate_succ, List.foldl_cons, List.replicate_succ, List.flatten_cons, ← List.append_assoc]
      have e : a.toArray ++ l.toArray = (a ++ l).toArray := by simp
      rw [e]
      exact ih (a ++ l)
  have z := go n []
  simpa using z
theorem op_mul_str {X : Cx} : OpR X (binaryOp .Mult) (fun x y H Q => ∃ (l : List Nat) (n : Int), x = .str (tx l) ∧ y = .int n ∧ 1 ≤ n ∧ n ≤ 1000 ∧ l.length ≤ 1000 ∧ Q (.str (tx (List.replicate n.toNat l).flatten)) H) := by
  intro pins s σ H x y v u Q I rx ry h
  obtain ⟨l, n, rfl, rfl, h1, h2, h3, q⟩ := h
  obtain ⟨t, rfl⟩ := rx
  obtain ⟨t', rfl⟩ := ry
  have hl : (tx l).length = l.length := tx_len l
  have small : l.length * n.toNat ≤ 1000 * 1000 := Nat.mul_le_mul h3 (by omega)
  refine PySem.P.mul_str ?_ (fun _ _ => ?_) (fun _ _ => ?_) ?_
  · rw [decide_eq_false (by omega), decide_eq_false (by omega)]; rfl
  · rw [hl]
    have : (1000 : Int) ≤ (2 ^ 63 - 1) / n := Int.le_ediv_of_mul_le (by omega) (by omega)
    omega
  · rw [hl]
    unfold Builtin.Str.tooLong
    simp only [decide_eq_false_iff_not]
    have := sizeLine_eq
    omega
  · rw [if_neg (by omega)]
    by_cases c : (n == 1 || (tx l).length == 0) = true
    · rw [if_pos c]
      refine ⟨.str (tx (List.replicate n.toNat l).flatten), H, I, ⟨t, ?_⟩, q⟩
      have e : (List.replicate n.toNat l).flatten = l := by
        rcases (Bool.or_eq_true _ _).mp c with z | z
        · have z' : n = 1 := by simpa using z
          subst z'
          simp
        · have z' : l = [] := by
            rw [hl] at z
            exact List.eq_nil_of_length_eq_zero (by simpa using z)
          subst z'
          simp
      rw [e]
    · rw [if_neg c]
      refine ⟨?_, .str (tx (List.replicate n.toNat l).flatten), H, I.tok _, ⟨s.toks, ?_⟩, q⟩
      · have e := rep_cps l n.toNat
        show (⟨(List.replicate n.toNat (tx l).cps).foldl (· ++ ·) #[]⟩ : Str).length ≤ sizeLine
        unfold tx
        rw [e]
        have e2 : (⟨((List.replicate n.toNat l).flatten).toArray⟩ : Str) = tx (List.replicate n.toNat l).flatten := rfl
        rw [e2, tx_len, len_rep, sizeLine_eq, Nat.mul_comm]
        omega
      · show Value.str ⟨(List.replicate n.toNat (tx l).cps).foldl (· ++ ·) #[]⟩ _ = Value.str (tx _) _
        have e := rep_cps l n.toNat
        unfold tx at *
        rw [e]
/-! ### a class whose __init__ has defaults, some of its arguments given -/
structure KCalD (P : Program) (w : World) (K : PySem.W.Frag) (mg : Str → Option Value) (base : Heap) (k : Nat) (x : Str) (C : Addr) (ps : List Str) (dvs : List V) (sp : Sp) : Prop where
  ex : ∃ f fd ds, Mk K C f ∧ FnOk P w K mg base CX0 k f fd ps sp ∧ Binds K fd ps ds ∧ Vals dvs ds ∧ mg x = some (.ref C)
theorem pe_makeD {X : Cx} {k : Nat} {x : Str} {C : Addr} {ps : List Str} {dvs : List V} {sp : Sp} {e : Expr} {es : List Expr} {p pos : Pos} {t : TA} (M : KCalD X.prog X.w X.K X.mg X.base k x C ps dvs sp) (hr : Room (k + 1) X.A) (hg : Gl X x) (ha : PA X (e :: es) t)
    (hdb : (x == ("__debug__" : Str)) = false := by decide) (he : starEach (e :: es) X.env = (false, eval e X.env) :: starEach es X.env := by rfl) (hpl : (backTo pos (starEach es X.env)).any (·.1) = false := by rfl) :
    PE X (.Call (.Name x p) (e :: es) [] pos) (tMake C sp dvs E0 t) := by
  obtain ⟨f, fd, ds, mk, F, b, hd, hm⟩ := M.ex
  exact pe_make mk F hr hg hm b hd pass0 ha hdb he hpl
end L2

namespace L2
open PySem PySem.Spec PyProof.Rows
/-! ### raising while an exception is handled -/
section
variable {prog : Program} {w : World} {A : Around} {E : Value → Shared → Prop} {s : Shared}
end
/-! ### contexts in which something may be handled -/
section
variable {X : Cx} {pins : List (Addr × Obj)} {σ : St} {H : Hp} {s : Shared}
end
end L2

namespace L2
open PySem PySem.Spec PyProof.Rows
/-! ### defs that may be called whether or not an exception is handled; they may walk texts, and raise -/
section
variable {P : Program} {w : World} {K : PySem.W.Frag} {mg : Str → Option Value} {base : Heap} {N ps : List Str} {qual : Str} {scope : Scope} {f : Addr} {cd : Value} {A : Around} {outer : List Env} {s0 : Shared} {H0 : Hp} {E : XK} {k : Nat} {sp : Sp} {x : Str} {st : Stmt} {fd : FuncData}
end
section
variable {X : Cx} {k : Nat} {f : Addr} {fd : FuncData} {ps : List Str} {sp : Sp} {x : Str} {p pos : Pos} {e : Expr} {es : List Expr} {t : TA} {W : St → XK}
end
/-! ### raise C(..), whatever is handled -/
section
variable {prog : Program} {w : World} {A : Around} {E : Value → Shared → Prop} {env : Env}
variable {nm q : Str} {C N : Addr} {bs bm bmB : List Value} {hdct : Bool} {sn : List Str} {sub : List Value} {ab : Bool} {col : Option Bool} {dd : Option Addr} {k0 k1 k2 k3 k5 : Option Value} {B newId initId : String}
end
/-! ### try, one clause: the suite may call what raises -/
section
variable {X : Cx} {x n : Str} {Ch : Addr} {i : Nat} {body suite : List Stmt} {b₀ : Stmt} {tb : (St → XK) → TS} {ts : TS} {np hpos pos : Pos} {pins : List (Addr × Obj)} {σ : St} {H : Hp} {s : Shared} {e : Addr} {oe : Obj}
end
end L2

namespace L2
open PySem PySem.Spec PyProof.Rows PySem.W

/-! ### an untracked thing of ours is tracked -/
section
variable {X : Cx} {pins : List (Addr × Obj)} {σ : St} {H H' : Hp} {s : Shared}
end

/-! ### a call of a lambda -/

/-! ### a lambda is made -/
section
variable {X : Cx} {pins : List (Addr × Obj)} {σ : St} {H : Hp} {s : Shared}
end

/-! ### sorted with a key -/
section
variable {prog : Program} {w : World} {A : Around} {E : Value → Shared → Prop} {s : Shared}
end
section
variable {X : Cx} {pins : List (Addr × Obj)} {σ : St} {H : Hp} {s : Shared}
end
end L2

namespace L2
open PySem PySem.Spec PyProof.Rows PySem.W

/-! ### xs.insert(i, y) -/
section
variable {X : Cx}
end

/-! ### x not in a list of things of things -/

/-! ### the head, where a code's table may grow -/
/-- C(), with an __init__ of its own -/
theorem pe_make0C {X : Cx} {k : Nat} {x : Str} {C : Addr} {ps : List Str} {sp : Sp} {p pos : Pos} (M : KCal X.prog X.w X.K X.mg X.base k x C ps sp) (hr : Room (k + 1) X.A) (hg : Gl X x) (hdb : (x == ("__debug__" : Str)) = false := by decide) :
    PE X (.Call (.Name x p) [] [] pos) (tMake C sp [] E0 tNil) := by
  obtain ⟨f, fd, mk, F, b, hm⟩ := M.ex
  exact pe_make0 mk F hr hg hm b .nil pass0 hdb
end L2

namespace CRL
open PySem L2
/-! ### tuples stay -/
def Tst (H H' : Hp) : Prop := ∀ t xs, H t = some (.tup xs) → H' t = some (.tup xs)
theorem tst_same {H H' : Hp} (s : Same H H') : Tst H H' := fun t xs h => s t _ h
/-! ### rows that wait -/
/-! ### their order -/
/-! ### triples -/
/-! ### lists of one's own, apart from one another -/
/-! ### the lambda's code -/
/-! ### the rows' keeper -/
end CRL

namespace L2
open PySem PySem.Spec PyProof.Rows PySem.W
/-! ### promises put together -/
section
variable {P : Program} {w : World} {K : PySem.W.Frag} {mg : Str → Option Value} {base : Heap} {k : Nat} {f : Addr} {fd : FuncData} {ps : List Str} {sp sp1 sp2 : Sp}
theorem FnOk.toX {CX : CXT} (F : FnOk P w K mg base CX0 k f fd ps sp) : FnOk P w K mg base CX k f fd ps sp :=
  ⟨F.len, fun A outer s H args us vs Q E hr e b r h => codeAny_mono (F.run A outer s H args us vs Q E hr e b r h) fun q s' hq => by
    cases q with
    | error v => exact False.elim hq
    | ok fl => cases fl <;> exact hq⟩
/-- one that may raise, where it doesn't -/
theorem FnOk.ofX (F : FnOk P w K mg base (CX1 P w) k f fd ps sp) : FnOk P w K mg base CX0 k f fd ps (fun vs H Q _ => sp vs H Q E0) :=
  ⟨fun vs H Q _ h => F.len vs H Q E0 h, fun A outer s H args us vs Q E hr e b r h => codeAny_mono (F.run A outer s H args us vs Q E0 hr e b r h) fun q s' hq => by
    cases q with
    | error v =>
      obtain ⟨_, _, _, _, _, _, _, _, _, _, _, z⟩ := (show CX1 P w _ _ _ _ _ _ from hq)
      exact z
    | ok fl => cases fl <;> exact hq⟩
theorem FnOk.or {CX : CXT} (F : FnOk P w K mg base CX k f fd ps sp1) (G : FnOk P w K mg base CX k f fd ps sp2) : FnOk P w K mg base CX k f fd ps (fun vs H Q E => sp1 vs H Q E ∨ sp2 vs H Q E) :=
  ⟨fun vs H Q E h => h.elim (F.len vs H Q E) (G.len vs H Q E), fun A outer s H args us vs Q E hr e b r h => h.elim (F.run A outer s H args us vs Q E hr e b r) (G.run A outer s H args us vs Q E hr e b r)⟩
theorem FunD.okX {x qual : Str} {st : Stmt} {N : List Str} (F : FunD K x qual st f fd) (S : FnScope N ps (defScope st)) (len : ∀ vs H Q E, sp vs H Q E → vs.length = ps.length)
    (hbody : ∀ (cdv : Value) (A : Around) (outer : List Env) (s : Shared) (H : Hp) (vs : List V) (Q : VK) (E : XK), Room k (A.deeper (envOfC qual (defScope st) s.heap.objs.size f cdv)) → sp vs H Q E →
      ∃ t, PSs (cxOf (CX1 P w) P w K mg base N qual (defScope st) f cdv A outer s H E) (defBody st) t ∧ t { nx := fun _ H' => Q .non H', rt := Q } (start N vs) H) : FnOk P w K mg base (CX1 P w) (k + 1) f fd ps sp := by
  obtain ⟨oc, od, dV, kV, doc, pm, an, cdv, ct, osl, e, lk, hcd⟩ := F.ex
  subst e
  exact fn_of lk hcd S len fun A outer s H vs Q E hr hsp => hbody cdv A outer s H vs Q E hr hsp
end
/-! ### a class whose __init__ has defaults and may raise -/
section
variable {X : Cx} {k : Nat} {f C : Addr} {fd : FuncData} {ps : List Str} {sp : Sp} {x : Str} {p pos : Pos} {e : Expr} {es : List Expr} {t : TA} {W : St → XK} {dvs : List V} {ds : List Value}
end
/-! ### xs.index(y), y is there -/
/-! ### != of two lists of lists, each with the very same items -/
end L2

/-! Sets of ints made from lists: their tables stay in order. -/
namespace CST
open PySem
/-- rising places -/
abbrev Rs (xs : Array Nat) : Prop := xs.toList.Pairwise (· < ·)
theorem rs_lt {xs : Array Nat} (h : Rs xs) {i k : Nat} (hik : i < k) (hk : k < xs.size) : xs[i]'(by omega) < xs[k] := by
  have := List.pairwise_iff_getElem.mp h i k (by simpa using (by omega : i < xs.size)) (by simpa using hk) hik
  simpa using this
/-- what the search for a place finds -/
structure Bel (xs : Array Nat) (j p : Nat) : Prop where
  le : p ≤ xs.size
  lo : ∀ i (h : i < xs.size), i < p → xs[i] < j
  hi : ∀ i (h : i < xs.size), p ≤ i → j ≤ xs[i]
theorem below_go {xs : Array Nat} {j : Nat} (r : Rs xs) : ∀ (f lo hi : Nat), hi - lo ≤ f → lo ≤ hi → hi ≤ xs.size → (∀ i (h : i < xs.size), i < lo → xs[i] < j) → (∀ i (h : i < xs.size), hi ≤ i → j ≤ xs[i]) → Bel xs j (SetTable.below.go xs j f lo hi)
  | 0, lo, hi, h0, h1, h2, a, b => by
    have e : lo = hi := by omega
    subst e
    unfold SetTable.below.go
    exact ⟨h2, a, b⟩
  | f + 1, lo, hi, h0, h1, h2, a, b => by
    unfold SetTable.below.go
    by_cases c : lo < hi
    · rw [if_pos c]
      have hm : (lo + hi) / 2 < xs.size := by omega
      have e : xs.getD ((lo + hi) / 2) j = xs[(lo + hi) / 2] := by simp [Array.getD, hm]
      dsimp only
      rw [e]
      by_cases d : xs[(lo + hi) / 2] < j
      · rw [if_pos d]
        refine below_go r f _ hi (by omega) (by omega) h2 (fun i h hi' => ?_) b
        by_cases q : i = (lo + hi) / 2
        · subst q; exact d
        · exact Nat.lt_trans (rs_lt r (by omega) hm) d
      · rw [if_neg d]
        refine below_go r f lo _ (by omega) (by omega) (by omega) a (fun i h hi' => ?_)
        by_cases q : i = (lo + hi) / 2
        · subst q; omega
        · have := rs_lt r (i := (lo + hi) / 2) (k := i) (by omega) h
          omega
    · rw [if_neg c]
      have e : lo = hi := by omega
      subst e
      exact ⟨h2, a, b⟩
theorem below_ok {xs : Array Nat} {j : Nat} (r : Rs xs) : Bel xs j (SetTable.below xs j) := by
  unfold SetTable.below
  exact below_go r _ _ _ (by omega) (Nat.zero_le _) (Nat.le_refl _) (fun i _ h => absurd h (Nat.not_lt_zero _)) (fun i h h' => absurd h' (by omega))
/-- a table of such a set -/
structure Good (by_ : Bool) (t : SetTable) : Prop where
  rs : Rs t.place
  dm : t.dummies = #[]
  ld : by_ = false → t.led = true
theorem good_fresh (b : Bool) : Good b (.fresh 0 0 (!b)) := ⟨List.Pairwise.nil, rfl, fun h => by rw [h]; rfl⟩
theorem good_standIn {b : Bool} {t : SetTable} (g : Good b t) (n : Nat) : Good b (t.standIn n) := by
  refine ⟨?_, rfl, g.ld⟩
  show (Array.range n).toList.Pairwise (· < ·)
  rw [Array.toList_range]
  exact List.pairwise_lt_range
theorem good_plain {b : Bool} {t : SetTable} (g : Good b t) (p : Bool) : Good b { t with plain := p } := ⟨g.rs, g.dm, g.ld⟩
theorem has_none (j : Nat) : SetTable.has #[] j = false := by
  unfold SetTable.has
  have : (#[] : Array Nat)[SetTable.below #[] j]? = none := by simp
  rw [this]
  rfl
theorem slot_cases {t : SetTable} {j : Nat} (dm : t.dummies = #[]) : t.slot j = .empty ∨ ∃ i, t.slot j = .live i := by
  unfold SetTable.slot
  dsimp only
  by_cases c : (t.place[SetTable.below t.place j]? == some j) = true
  · rw [if_pos c]; exact .inr ⟨_, rfl⟩
  · rw [if_neg c, dm, has_none]
    exact .inl rfl
theorem slot_empty {t : SetTable} {j : Nat} (r : Rs t.place) (h : t.slot j = .empty) : ∀ i (hi : i < t.place.size), t.place[i] ≠ j := fun i hi e => by
  have b := below_ok (j := j) r
  have hp : SetTable.below t.place j ≤ i := by
    rcases Nat.lt_or_ge i (SetTable.below t.place j) with z | z
    · have := b.lo i hi z; omega
    · exact z
  have hps : SetTable.below t.place j < t.place.size := by omega
  have e2 : t.place[SetTable.below t.place j] = j := by
    have h1 := b.hi _ hps (Nat.le_refl _)
    rcases Nat.lt_or_eq_of_le hp with z | z
    · have := rs_lt r z hi; omega
    · have : t.place[SetTable.below t.place j] = t.place[i] := by congr 1
      omega
  unfold SetTable.slot at h
  dsimp only at h
  have c : (t.place[SetTable.below t.place j]? == some j) = true := by
    rw [Array.getElem?_eq_getElem hps, e2]
    simp
  rw [if_pos c] at h
  cases h
theorem probe_go {t : SetTable} {ha : Nat → Int} {h : Int} (dm : t.dummies = #[]) : ∀ (f : Nat) (p : SetTable.Probe) (j : Nat) (d : Option Nat), p.dummy = none → SetTable.probe.go t ha h f p = some (.empty j d) → d = none ∧ t.slot j = .empty
  | 0, p, j, d, _, e => by unfold SetTable.probe.go at e; cases e
  | f + 1, p, j, d, hp, e => by
    unfold SetTable.probe.go at e
    have adv : (t.advance p).dummy = none := by
      unfold SetTable.advance
      split
      · exact hp
      · exact hp
    rcases slot_cases (t := t) (j := p.j) dm with z | ⟨i, z⟩
    · rw [z] at e
      dsimp only at e
      injection e with e
      injection e with e1 e2
      subst e1
      exact ⟨e2 ▸ hp, z⟩
    · rw [z] at e
      dsimp only at e
      split at e
      · injection e with e; cases e
      · exact probe_go dm f _ j d adv e
theorem put_rs {t : SetTable} {j : Nat} (r : Rs t.place) (h : ∀ i (hi : i < t.place.size), t.place[i] ≠ j) : Rs (t.put j).1.place := by
  have b := below_ok (j := j) r
  show (SetTable.insertAt t.place (SetTable.below t.place j) j).toList.Pairwise (· < ·)
  rw [SetTable.toList_insertAt]
  have e1 : ∀ x ∈ t.place.toList.take (SetTable.below t.place j), x < j := fun x hx => by
    obtain ⟨i, hi, ei⟩ := List.getElem_of_mem hx
    rw [List.getElem_take] at ei
    have hi' : i < SetTable.below t.place j ∧ i < t.place.size := by
      rw [List.length_take, Array.length_toList] at hi; omega
    have := b.lo i hi'.2 hi'.1
    rw [← ei]
    simpa using this
  have e2 : ∀ x ∈ t.place.toList.drop (SetTable.below t.place j), j < x := fun x hx => by
    obtain ⟨i, hi, ei⟩ := List.getElem_of_mem hx
    rw [List.getElem_drop] at ei
    have hi' : SetTable.below t.place j + i < t.place.size := by
      rw [List.length_drop, Array.length_toList] at hi; omega
    have h1 := b.hi _ hi' (Nat.le_add_right _ _)
    have h2 := h _ hi'
    rw [← ei]
    have : j < t.place[SetTable.below t.place j + i] := by omega
    simpa using this
  refine List.pairwise_append.mpr ⟨r.sublist (List.take_sublist _ _), List.pairwise_cons.mpr ⟨e2, r.sublist (List.drop_sublist _ _)⟩, fun a ha b' hb => ?_⟩
  rcases List.mem_cons.mp hb with z | z
  · rw [z]; exact e1 a ha
  · exact Nat.lt_trans (e1 a ha) (e2 b' z)
theorem good_put {b : Bool} {t : SetTable} {j : Nat} (g : Good b t) (h : t.slot j = .empty) : Good b (t.put j).1 := by
  refine ⟨put_rs g.rs (slot_empty g.rs h), ?_, g.ld⟩
  show (if SetTable.has t.dummies j then _ else t.dummies) = #[]
  rw [g.dm, has_none]
  rfl
theorem good_layNew {b : Bool} {t : SetTable} (g : Good b t) (es : Array (Int × Value)) (h : Int) (x : Value) : Good b (layNew t es h x).2.1 ∧ (layNew t es h x).2.2.1 = false := by
  unfold layNew
  cases e : t.freeSlot h with
  | none => exact ⟨good_standIn g _, rfl⟩
  | some p =>
    obtain ⟨sl, wd⟩ := p
    unfold SetTable.freeSlot at e
    split at e
    · rename_i j d hp
      injection e with e
      injection e with e1 e2
      obtain ⟨hd, hs⟩ := probe_go g.dm _ _ j d rfl hp
      subst hd
      dsimp only at e1 e2 ⊢
      have e1' : j = sl := e1
      subst e1'
      refine ⟨?_, e2.symm⟩
      unfold SetTable.orStandIn
      split
      · exact good_put g hs
      · exact good_standIn (good_put g hs) _
    · cases e
theorem live_sub (o : Nat → Option Nat) : ∀ l : List Nat, ((l.filterMap fun j => (o j).map (j, ·)).map (·.1)).Sublist l
  | [] => List.Sublist.slnil
  | j :: l => by
    rw [List.filterMap_cons]
    cases e : o j with
    | none => exact (live_sub o l).cons j
    | some k => exact (live_sub o l).cons₂ j
theorem good_relayAll {b : Bool} {t : SetTable} (g : Good b t) (es : Array (Int × Value)) (wanted : Nat) : Good b (relayAll t es wanted).2.1 := by
  unfold relayAll
  cases e : t.relaid (es.map (·.1)) wanted with
  | none => exact good_standIn g _
  | some p =>
    obtain ⟨t', order⟩ := p
    dsimp only
    split
    · unfold SetTable.relaid SetTable.laid at e
      cases e2 : SetTable.layClean (SetTable.sizeAbove wanted - 1) (es.map (·.1)) with
      | none => rw [e2] at e; cases e
      | some owner =>
        rw [e2] at e
        have e3 := Option.some.inj e
        injection e3 with e4 _
        subst e4
        refine ⟨?_, rfl, g.ld⟩
        show (List.toArray _).toList.Pairwise (· < ·)
        rw [List.toList_toArray]
        exact List.pairwise_lt_range.sublist (live_sub _ _)
    · exact good_standIn g _
/-! ### the set, by its members in their order -/
section
variable {prog : Program} {w : World} {K : Type} [DecidableEq K] (knd : KeyKind prog w K)
def Mem (e : Int × Value) (k : K) : Prop := knd.is k e.2 = true ∧ e.1 = knd.hash k ∧ e.2.scannable = true
def GSet (h : Heap) (a : Addr) (ks : List K) : Prop := ∃ o es ep t, h.get? a = some o ∧ o.ExactSet ∧ o.data = .set es ep t ∧ Paired (Mem knd) es.toList ks ∧ ks.Nodup ∧ es.size < scanBound ∧ t.fits es.size = true ∧ Good (w.params.followText "set-order") t
variable {knd}
variable {A : Around} {E : Value → Shared → Prop} {s : Shared}
theorem paired_perm {α β : Type} {F : α → β → Prop} : ∀ {l l' : List α} {ks : List β}, l'.Perm l → Paired F l ks → ∃ ks', ks'.Perm ks ∧ Paired F l' ks' := by
  intro l l' ks p
  have q := p.symm
  clear p
  induction q generalizing ks with
  | nil => intro h; exact ⟨ks, List.Perm.refl _, h⟩
  | cons x _ ih =>
    intro h
    cases h with
    | cons r t =>
      obtain ⟨ks', p', h'⟩ := ih t
      exact ⟨_, p'.cons _, .cons r h'⟩
  | swap x y l =>
    intro h
    cases h with
    | cons r t =>
      cases t with
      | cons r2 t2 => exact ⟨_, List.Perm.swap _ _ _, .cons r2 (.cons r t2)⟩
  | trans _ _ ih1 ih2 =>
    intro h
    obtain ⟨k1, p1, h1⟩ := ih1 h
    obtain ⟨k2, p2, h2⟩ := ih2 h1
    exact ⟨k2, p2.trans p1, h2⟩
theorem paired_snoc {α β : Type} {F : α → β → Prop} {a : α} {b : β} (r : F a b) : ∀ {l : List α} {ks : List β}, Paired F l ks → Paired F (l ++ [a]) (ks ++ [b])
  | _, _, .nil => .cons r .nil
  | _, _, .cons q t => .cons q (paired_snoc r t)
theorem paired_mem {α β : Type} {F : α → β → Prop} : ∀ {l : List α} {ks : List β}, Paired F l ks → ∀ a ∈ l, ∃ b ∈ ks, F a b
  | _, _, .nil, _, h => nomatch h
  | _, _, .cons q t, a, h => by
    rcases List.mem_cons.mp h with z | z
    · subst z; exact ⟨_, List.mem_cons_self, q⟩
    · obtain ⟨b, hb, r⟩ := paired_mem t a z
      exact ⟨b, List.mem_cons_of_mem _ hb, r⟩
theorem paired_mem' {α β : Type} {F : α → β → Prop} : ∀ {l : List α} {ks : List β}, Paired F l ks → ∀ b ∈ ks, ∃ a ∈ l, F a b
  | _, _, .nil, _, h => nomatch h
  | _, _, .cons q t, a, h => by
    rcases List.mem_cons.mp h with z | z
    · subst z; exact ⟨_, List.mem_cons_self, q⟩
    · obtain ⟨b, hb, r⟩ := paired_mem' t a z
      exact ⟨b, List.mem_cons_of_mem _ hb, r⟩
theorem elems {l : List (Int × Value)} {ks : List K} (h : Paired (Mem knd) l ks) : ElemsOf knd l := fun e he => by
  obtain ⟨k, _, r1, r2, r3⟩ := paired_mem h e he
  exact ⟨⟨k, r1, r2⟩, r3⟩
theorem find_key {l : List (Int × Value)} {ks : List K} {k : K} (h : Paired (Mem knd) l ks) : (l.findIdx? fun e => knd.is k e.2) = none ↔ k ∉ ks := by
  rw [List.findIdx?_eq_none_iff]
  constructor
  · intro z hk
    obtain ⟨e, he, r⟩ := paired_mem' h k hk
    have := z e he
    rw [r.1] at this
    cases this
  · intro z e he
    obtain ⟨k', hk', r⟩ := paired_mem h e he
    cases c : knd.is k e.2 with
    | false => rfl
    | true => exact absurd (knd.inj _ _ _ c r.1 ▸ hk') z
theorem stored {h : Heap} {a : Addr} {o : Obj} {es es' : Array (Int × Value)} {ep : Nat} {t t' : SetTable} {ks : List K} (ho : h.get? a = some o) (hex : o.ExactSet) (hd : o.data = .set es ep t) (hp : Paired (Mem knd) es'.toList ks) (nd : ks.Nodup) (hb : es'.size < scanBound) (hf : t'.fits es'.size = true)
    (g : Good (w.params.followText "set-order") t') : (h.update a (Obj.putSet es' t')).get? a = some { o with data := .set es' (ep + 1) t' } ∧ GSet knd (h.update a (Obj.putSet es' t')) a ks := by
  have hg : (h.update a (Obj.putSet es' t')).get? a = some { o with data := .set es' (ep + 1) t' } := by
    have q := Heap.get?_update_self (Obj.putSet es' t') ho (by rw [putSet_of es' t' hd]; rfl)
    rwa [putSet_of es' t' hd] at q
  exact ⟨hg, _, es', ep + 1, t', hg, hex, rfl, hp, nd, hb, hf, g⟩
theorem add_tail {a : Addr} {o : Obj} {es es1 : Array (Int × Value)} {ep : Nat} {t t2 : SetTable} {ks1 : List K} (ho : s.heap.get? a = some o) (hex : o.ExactSet) (hd : o.data = .set es ep t) (hp : Paired (Mem knd) es1.toList ks1) (nd : ks1.Nodup) (hb : es1.size < scanBound) (hf : t2.fits es1.size = true)
    (g : Good (w.params.followText "set-order") t2) {wd : Bool} {gw : Bool → Sem Unit} (hgw : ∀ (b : Bool) (s₁ : Shared) (Q' : Unit → Shared → Prop), Q' () s₁ → wpAny (model prog w) A (gw b) Q' E s₁) {R : Option Bool → Shared → Prop}
    (h : ∀ h' ks', Heap.SameBut a s.heap h' → GSet knd h' a ks' → ks'.Perm ks1 → R (some true) { s with heap := h' }) :
    wpAny (model prog w) A (do
      storeSet a es1 t2
      if (!wd && t2.tooFull) = true then do
        gw (relayAll t2 es1 (SetTable.grown es1.size)).2.2
        storeSet a (relayAll t2 es1 (SetTable.grown es1.size)).1 (relayAll t2 es1 (SetTable.grown es1.size)).2.1
        pure (some true)
      else pure (some true)) R E s := by
  obtain ⟨ho1, G1⟩ := stored (knd := knd) ho hex hd hp nd hb hf g
  have sb := Heap.SameBut.update s.heap a (Obj.putSet es1 t2)
  refine wpAny_bind (wpAny_storeSet_of ho hd ?_ (fits_of_scanBound hb))
  by_cases c : (!wd && t2.tooFull) = true
  · rw [if_pos c]
    have p2 := relayAll_perm t2 es1 (SetTable.grown es1.size)
    have f2 := relayAll_fits t2 es1 (SetTable.grown es1.size)
    have g2 := good_relayAll g es1 (SetTable.grown es1.size)
    generalize relayAll t2 es1 (SetTable.grown es1.size) = Y at p2 f2 g2
    obtain ⟨es2, t3, gv⟩ := Y
    dsimp only at p2 f2 g2
    have z2 : es2.size = es1.size := by rw [← Array.length_toList, p2.length_eq, Array.length_toList]
    obtain ⟨ks2, q2, hp2⟩ := paired_perm p2 hp
    refine wpAny_bind (hgw _ _ _ (wpAny_bind (wpAny_storeSet_of ho1 rfl ?_ (fits_of_scanBound (by rw [z2]; exact hb)))))
    obtain ⟨_, G2⟩ := stored (knd := knd) ho1 hex rfl hp2 (q2.nodup_iff.mpr nd) (by rw [z2]; exact hb) f2 g2
    exact wpAny_pure (h _ ks2 (sb.trans (Heap.SameBut.update _ a _)) G2 q2)
  · rw [if_neg c]
    exact wpAny_pure (h _ ks1 sb G1 (List.Perm.refl _))
theorem add_g {a : Addr} {ks : List K} {k : K} {x : Value} {Q : Bool → Shared → Prop} (hkey : knd.is k x = true) (hsc : x.scannable = true) (hS : GSet knd s.heap a ks) (hroom : ks.length + 1 < scanBound)
    (h : ∀ b h' ks', Heap.SameBut a s.heap h' → GSet knd h' a ks' → ks'.Perm (if k ∈ ks then ks else ks ++ [k]) → Q b { s with heap := h' }) :
    wpAny (model prog w) A (setAddHashed a x (knd.hash k)) Q E s := by
  obtain ⟨o, es, ep, t, ho, hex, hd, hp, nd, hb, hf, g⟩ := id hS
  have hel := elems hp
  have lk : es.size = ks.length := by rw [← Array.length_toList]; exact Paired.length hp
  unfold setAddHashed setAddHashedIn
  refine wpAny_holding (wpAny_bind (wpAny_setState_of ho hd hf ?_))
  dsimp only
  rw [byScan_of hsc hb hel]
  simp only [↓reduceIte]
  unfold setAddByScan
  refine wpAny_bind (wpAny_bind (wpAny_rule (wpAny_bind (wpAny_setScan_of hkey ho hd hf hel ?_))))
  cases hr : List.findIdx? (fun e => knd.is k e.2) es.toList with
  | some j =>
    have hk : k ∈ ks := Classical.byContradiction fun z => by rw [(find_key hp).mpr z] at hr; cases hr
    dsimp only
    refine wpAny_pure (wpAny_pure ?_)
    have e : s = { s with heap := s.heap } := by cases s; rfl
    rw [e]
    exact h false s.heap ks (Heap.SameBut.refl a s.heap) hS (by rw [if_pos hk])
  | none =>
    have hk : k ∉ ks := (find_key hp).mp hr
    dsimp only
    have p1 := layNew_perm t es (knd.hash k) x
    have f1 := layNew_fits t es (knd.hash k) x
    have g1 := (good_layNew g es (knd.hash k) x).1
    generalize layNew t es (knd.hash k) x = Y at p1 f1 g1 ⊢
    obtain ⟨es1, t1, wd, gv⟩ := Y
    dsimp only at p1 f1 g1 ⊢
    rw [Array.toList_push] at p1
    obtain ⟨ks1, q1, hp1⟩ := paired_perm p1 (paired_snoc (show Mem knd (knd.hash k, x) k from ⟨hkey, rfl, hsc⟩) hp)
    have nd1 : ks1.Nodup := q1.nodup_iff.mpr (List.nodup_append.mpr ⟨nd, by simp, fun a ha b hb' => by rw [List.mem_singleton] at hb'; subst hb'; rintro rfl; exact hk ha⟩)
    have b1 : es1.size < scanBound := by rw [← Array.length_toList, p1.length_eq, List.length_append, Array.length_toList, lk]; exact hroom
    have fin : ∀ h' ks', Heap.SameBut a s.heap h' → GSet knd h' a ks' → ks'.Perm ks1 → Q true { s with heap := h' } := fun h' ks' sb G p => h true h' ks' sb G (by rw [if_neg hk]; exact p.trans q1)
    have gw : ∀ (b : Bool) (s₁ : Shared) (Q' : Unit → Shared → Prop), Q' () s₁ → wpAny (model prog w) A (match b with | true => rule "set.scan.the-table-gave-way" | false => pure ()) Q' E s₁ :=
      fun b s₁ Q' hq => by cases b <;> first | exact wpAny_pure hq | exact wpAny_rule hq
    refine wpAny_bind (gw _ _ _ ?_)
    split
    · refine wpAny_bind ?_
      rw [hashByValue_scannable 8 hsc]
      refine wpAny_pure ?_
      refine add_tail (ks1 := ks1) (knd := knd) ho hex hd hp1 nd1 b1 ?_ ?_ gw fun h' ks' sb G p => ?_
      · split
        · exact f1
        · exact SetTable.fits_plain_off f1
      · split
        · exact g1
        · exact good_plain g1 _
      · exact wpAny_pure (fin h' ks' sb G p)
    · refine wpAny_bind (wpAny_pure ?_)
      simp only [↓reduceIte]
      exact add_tail (ks1 := ks1) (knd := knd) ho hex hd hp1 nd1 b1 f1 g1 gw fun h' ks' sb G p => wpAny_pure (fin h' ks' sb G p)
end
end CST

namespace CST
open PySem
/-! ### the set's iterator: facts of the table -/
end CST

namespace CST
open PySem
/-! ### a set's iterator: its turns -/
section
variable {prog : Program} {w : World} {A : Around} {E : Value → Shared → Prop} {s : Shared} {I a : Addr} {i n ep slot nx : Nat} {x : Value} {o : Obj} {es : Array (Int × Value)} {t : SetTable} {Q : Option Value → Shared → Prop}
end
end CST

namespace CST
open PySem
/-! ### what the set's iterator tells next -/
end CST

namespace CST
open PySem
section
variable {prog : Program} {w : World} {A : Around} {E : Value → Shared → Prop} {s : Shared} {a : Addr} {o : Obj} {es : Array (Int × Value)} {ep : Nat} {t : SetTable}
/-! ### what setNext tells -/
/-! ### drawing an order -/
end
end CST

namespace CST
open PySem
section
variable {prog : Program} {w : World} {A : Around} {E : Value → Shared → Prop} {s : Shared} {I a T : Addr} {i n ep slot : Nat} {o : Obj} {es : Array (Int × Value)} {t : SetTable} {Q : Option Value → Shared → Prop}
/-! ### the set's iterator: the other turns, the end -/
/-! ### iter(set) -/
end
end CST

namespace CST
open PySem
section
variable {prog : Program} {w : World} {A : Around} {E : Value → Shared → Prop} {I a : Addr} {es : Array (Int × Value)} {ep : Nat} {t : SetTable}
/-! ### a set walked -/
end
end CST

namespace CST
open PySem
section
variable {prog : Program} {w : World} {A : Around} {E : Value → Shared → Prop} {s : Shared} {a : Addr} {o : Obj} {es : Array (Int × Value)} {ep : Nat} {t : SetTable}
/-! ### a set's values as a list -/
end
end CST

namespace CST
open PySem
section
variable {prog : Program} {w : World} {A : Around} {E : Value → Shared → Prop} {s : Shared}
/-! ### set(list of ints) -/
theorem new_set {x : Value} {Q : Value → Shared → Prop} (h : Q (.ref s.heap.objs.size) { s with heap := s.heap.push { cls := .type "set", dict := none, data := .set #[] 0 (.fresh 0 0 (!w.params.followText "set-order")) } }) :
    codeAny (model prog w) A (.call (.builtin "set.__new__") ⟨[.type "set", x], []⟩) (wants Q E) s := by
  refine codeAny_of_tree ?_
  show wpAny _ A.in1 (do checkBuiltinCall "set.__new__" ⟨[.type "set", x], []⟩; again (.builtin "set.__new__" ⟨[.type "set", x], []⟩)) _ _ s
  refine wpAny_bind (wpAny_of_eq (F.newCall_set_1 x) (wpAny_pure ⟨plainId_quiet F.plain_set_new _, codeAny_builtin F.entry_set_new ?_⟩))
  rw [Around.under_plainId F.plain_set_new _]
  unfold Builtin.«set.__new__» Builtin.Frozenset.newClass
  have hsub := sub_set_self
  obtain ⟨hp, gn, d, tk, os⟩ := s
  dsimp only
  wp_walk
  refine wpAny_askSetting (wpAny_pure ?_)
  dsimp only
  simp only [newObj]
  exact wpAny_bind (wpAny_alloc (wpAny_pure (wpAny_pure h)))
variable {R : Result → Shared → Prop} {I : Addr} {fp wr : List Addr} {G : Array GenState → Array GenState → Prop} {n : Nat} {P : Nat → Value → Prop} {St : Nat → Shared → Prop}
end
end CST

namespace CST
open PySem
section
variable {prog : Program} {w : World} {A : Around} {E : Value → Shared → Prop} {s : Shared}
abbrev nSet (w : World) : Obj := { cls := .type "set", dict := none, data := .set #[] 0 (.fresh 0 0 (!w.params.followText "set-order")) }
end
end CST

namespace CST
open PySem PyProof.Rows
section
variable {prog : Program} {w : World} {A : Around} {E : Value → Shared → Prop} {s : Shared}
end
end CST
namespace L2
open PySem PySem.Spec PyProof.Rows PySem.W
/-! ### sorted(xs), xs a list of ints -/
section
variable {X : Cx}
/-! ### sorted(set(xs)), xs a list of ints -/
end
end L2

namespace L2
open PySem PySem.Spec PyProof.Rows PySem.W
/-! ### min(xs), max(xs) of ints: the least, the greatest -/
section
variable {X : Cx}
/-! ### xs.extend(tuple) -/
end
end L2

namespace L2
open PySem PySem.Spec PyProof.Rows
/-! ### xs != [], xs == [], whatever the items -/
def rNoE (K : PySem.W.Frag) (neg : Bool) : R2 := fun x y H Q => ∃ a b xs, x = .ref a ∧ y = .ref b ∧ SqL K H a xs ∧ SqL K H b [] ∧ Q (.bl (if neg then !xs.isEmpty else xs.isEmpty)) H
theorem op_neE {X : Cx} (hu : X.A.units < cLine) : OpR X (compareOp .NotEq) (rNoE X.K true) := by
  intro pins s σ H x y v u Q I rx ry h
  obtain ⟨a, b, xs, rfl, rfl, h1, h2, q⟩ := h
  cases rx
  cases ry
  obtain ⟨its, r1, p1, z1⟩ := I.list h1
  obtain ⟨js, r2, p2, z2⟩ := I.list h2
  cases r2
  have l1 := r1.length
  cases xs with
  | nil =>
    cases r1
    refine (SeqAt.RcNeAt.lists (e := fun _ => true) p1.isList p2.isList rfl hu (fun j hj _ => absurd hj (by simp)) : SeqAt.RcNeAt X.A s _ _ _) X.prog X.w _ _ ?_
    exact ⟨.bl false, H, I, rfl, q⟩
  | cons x xs =>
    refine (SeqAt.RcNeAt.lists_lengths p1.isList p2.isList (by rw [List.length_cons] at l1; simp only [List.size_toArray, bne_iff_ne, ne_eq, List.length_nil]; omega) hu : SeqAt.RcNeAt X.A s _ _ _) X.prog X.w _ _ ?_
    exact ⟨.bl true, H, I, rfl, q⟩
/-! ### range(a, b, c), c below nought -/
end L2

namespace L2
open PySem PySem.Spec PyProof.Rows
/-! ### conditions with parts: trees, objects, tuples -/
section
variable {κ : A8} {t : Cnd}
end
/-! ### what is new of a heap -/
/-! ### words, depth, well made -/
section
variable {R R' : V → Cnd → Prop} {vs ws : List V} {ts us : List Cnd}
end
/-! ### slices from the end; ways that meet again -/
end L2

namespace L2
open PySem PySem.Spec PyProof.Rows
/-! ### x in a list of tuples -/

/-! ### marks -/
/-! ### marks as deep values -/
end L2

namespace L2
open PySem PySem.Spec PyProof.Rows
/-! ### rows of words -/
/-! ### the words of a condition -/
section
variable {wc : Co → List Str} {φ : Co → Prop}
end
end L2

namespace L2
open PySem PySem.Spec PyProof.Rows
/-! ### o.m(..) where the method may raise -/
structure MCalX (P : Program) (w : World) (K : PySem.W.Frag) (mg : Str → Option Value) (base : Heap) (k : Nat) (C : Addr) (m : Str) (ps : List Str) (sp : Sp) : Prop where
  ex : ∃ f fd, FnOk P w K mg base (CX1 P w) k f fd ps sp ∧ Binds K fd ps [] ∧ Meth K C m f
  cl : Cls K C
section
variable {X : Cx} {k : Nat} {C : Addr} {m : Str} {ps : List Str} {sp : Sp} {e o : Expr} {es : List Expr} {apos pos : Pos} {ta : TE} {t : TA} {W : St → XK}
def tMethX (C : Addr) (m : Str) (sp : Sp) (W : St → XK) (ta : TE) (t : TA) : TE := fun σ H Q => ta σ H fun x H1 => ∃ a dx fs, x = .ref a ∧ H1 a = some (.ins C dx fs) ∧ fs.lookup m = none ∧ t σ H1 fun vs H2 => sp (.ref a :: vs) H2 Q (W σ)
theorem pe_methX {pl : Sem Bool} (M : MCalX X.prog X.w X.K X.mg X.base k C m ps sp) (hr : Room k X.A) (hW : Wish X W) (he : PE X o ta) (ha : PA X (e :: es) t)
    (hst : starEach (e :: es) X.env = (false, eval e X.env) :: starEach es X.env := by rfl) (hpl : (backTo pos (starEach es X.env)).any (·.1) = false := by rfl)
    (ht : eval (.Call (.Attribute o m apos) (e :: es) [] pos) X.env = (do
      let ov ← eval o X.env
      standAt apos.atName
      let (f, first) ← holding [ov] (getMethod ov m pl)
      callWith pos f first (backTo pos (starEach (e :: es) X.env)) (backToKw pos (keywordEach [] X.env))) := by rfl) :
    PE X (.Call (.Attribute o m apos) (e :: es) [] pos) (tMethX C m sp W ta t) := by
  intro pins s σ H Q I h
  obtain ⟨f, fd, F, b, hm⟩ := M.ex
  refine PySem.W.methodCall_KW (pl := pl) (thn (he pins s σ H _ I h) fun u s1 ⟨x, H1, I1, rx, a, dx, fs, ex, ea, l, q⟩ => ?_) ht
  subst ex
  obtain rfl : u = Value.ref a := rx
  refine getmeth_ok I1 ea M.cl hm l ?_
  refine PySem.W.callWith_K (first := [.ref a]) (h₀ := X.base) I.ok.mod.kin hm.kp (thn (ha pos pins s1 σ H1 _ I1 q) fun us s2 ⟨vs, H2, I2, r, q2⟩ => ⟨I2.kIn, ?_⟩) hst hpl
  exact run_fnX (us := .ref a :: us) (vs := .ref a :: vs) F hr b hW I2 (.cons rfl r) q2
end
end L2

namespace L2
open PySem PySem.Spec PyProof.Rows
/-! ### how words that spell no condition are refused -/
section
variable {wc : Co → List Str} {φ : Co → Prop} {af : List Str → Nat → Prop}
end
end L2

namespace L2
open PySem PySem.Spec PyProof PyProof.Rows
/-! ### raise C(..), C a class of the text with an __init__ of its own -/
section
variable {X : Cx} {pins : List (Addr × Obj)} {σ : St} {H : Hp} {s : Shared} {e : Addr}
end
section
variable {M : Model} {A : Around} {E : Value → Shared → Prop} {env : Env}
variable {nm q : Str} {C N : Addr} {bs bm : List Value} {hdct : Bool} {sn : List Str} {sub : List Value} {ab : Bool} {col : Option Bool} {dd : Option Addr} {k0 k1 k2 k3 k5 : Option Value} {newId : String}
end
section
variable {X : Cx} {x f : Str} {C : Addr} {np cpos pos apos : Pos} {e o value : Expr} {es : List Expr} {t : TA} {ta tv : TE} {W : St → XK}
end
end L2

namespace L2
open PySem PySem.Spec PyProof PyProof.Rows
/-! ### raise C(..) from None in an except suite, C a class of the text with an __init__ of its own -/
section
variable {prog : Program} {w : World} {A : Around} {E : Value → Shared → Prop} {env : Env}
variable {nm q : Str} {C N : Addr} {bs bm : List Value} {hdct : Bool} {sn : List Str} {sub : List Value} {ab : Bool} {col : Option Bool} {dd : Option Addr} {k0 k1 k2 k3 k5 : Option Value} {newId : String}
end
section
variable {X : Cx} {x f : Str} {C : Addr} {np cpos pos apos cp : Pos} {j : Nat} {e o value : Expr} {es : List Expr} {t : TA} {ta tv : TE} {W : St → XK}
end
/-! ### try, one clause: the suite may raise -/
section
variable {X : Cx} {x n : Str} {Ch : Addr} {i : Nat} {body suite : List Stmt} {b₀ : Stmt} {tb : (St → XK) → TS} {ts : TS} {np hpos pos : Pos} {pins : List (Addr × Obj)} {σ : St} {H : Hp} {s : Shared} {e : Addr} {oe : Obj}
end
theorem pe_fldK {X : Cx} {K : PySem.W.Frag} {f : Str} {pos : Pos} {e : Expr} {ta : TE} (he : PE X e ta) (hb : attributeBase e f X.env (eval e X.env) = eval e X.env) (hK : X.K = K := by rfl) : PE X (.Attribute e f pos) (tFld K ta f) := hK ▸ pe_fld he hb
/-! ### z.join(list of texts), of none too -/
end L2

namespace CST
open PySem
section
variable {prog : Program} {w : World} {A : Around} {E : Value → Shared → Prop} {s : Shared}
/-! ### set(list of texts) -/
variable {R : Result → Shared → Prop} {I : Addr} {fp wr : List Addr} {G : Array GenState → Array GenState → Prop} {n : Nat} {P : Nat → Value → Prop} {St : Nat → Shared → Prop}
theorem GSet.keepS {h h' : Heap} {a : Addr} {ks : List Str} (g : GSet (strKind prog w) h a ks) (k : ∀ o, h.get? a = some o → h'.get? a = some o) : GSet (strKind prog w) h' a ks := by
  obtain ⟨o, es, ep, t, ho, r⟩ := g
  exact ⟨o, es, ep, t, k o ho, r⟩
theorem update_loopS (W : WalksS prog w A.in1 I fp wr G n P St) (S : Addr) (nS : S ∉ fp) (val : Nat → Str) (hv : ∀ i v, P i v → ∃ t, v = .str (val i) t) (hb : n + 1 < scanBound) :
    ∀ (k i : Nat) (s : Shared) (ks : List Str), n - i = k → i ≤ n → St i s → GSet (strKind prog w) s.heap S ks → (∀ y, y ∈ ks ↔ ∃ j, j < i ∧ val j = y) → ks.length ≤ i →
      (∀ s' ks', Moved (S :: wr) G s s' → GSet (strKind prog w) s'.heap S ks' → (∀ y, y ∈ ks' ↔ ∃ j, j < n ∧ val j = y) → ks'.length ≤ n → R (.ok (.ret .none)) s') →
      codeAny (model prog w) A (.builtin "set.update.loop" ⟨[.ref S, .ref I], []⟩) R s := by
  have nw : S ∉ wr := fun z => nS (W.sub _ z)
  have sub : ∀ b ∈ wr, b ∈ S :: wr := fun b hb => List.mem_cons_of_mem _ hb
  intro k
  induction k with
  | zero =>
    intro i s ks hk hi st g mem len fin
    have e : i = n := by omega
    subst e
    refine codeAny_builtin PyProof.Rows.F.entry_set_update_loop ?_
    rw [Around.under_plainId PyProof.Rows.F.plain_set_update_loop _]
    show wpAny _ A.in1 (pyNext (.ref I) >>= _) _ _ s
    refine wpAny_bind (W.done s _ _ st fun s' hm => ?_)
    show wpAny _ A.in1 (ret Value.none) _ _ s'
    exact wpAny_pure (fin s' ks (hm.mono sub) (GSet.keepS g fun o e => hm.heap S o nw e) mem len)
  | succ k ih =>
    intro i s ks hk hi st g mem len fin
    refine codeAny_builtin PyProof.Rows.F.entry_set_update_loop ?_
    rw [Around.under_plainId PyProof.Rows.F.plain_set_update_loop _]
    show wpAny _ A.in1 (pyNext (.ref I) >>= _) _ _ s
    refine wpAny_bind (W.item i s _ _ (by omega) st fun v s' hP st' hm => ?_)
    obtain ⟨tk, rfl⟩ := hv i v hP
    have g' := GSet.keepS g fun o e => hm.heap S o nw e
    show wpAny _ A.in1 (holding [Value.str (val i) tk] (setAdd S (.str (val i) tk)) >>= _) _ _ s'
    refine wpAny_bind (wpAny_holding ?_)
    unfold setAdd
    refine wpAny_holding (wpAny_bind ((strKind prog w).pyHash (k := val i) (strKind_is _ _ _ _) ?_))
    refine add_g (knd := strKind prog w) (s := { s' with toks := s'.toks + 1 }) (strKind_is _ _ _ _) rfl g' (by omega) fun b h' ks' sb g2 pm => ?_
    have len' : ks'.length ≤ i + 1 := by
      rw [pm.length_eq]
      split
      · omega
      · rw [List.length_append, List.length_singleton]; omega
    have mem' : ∀ y, y ∈ ks' ↔ ∃ j, j < i + 1 ∧ val j = y := fun y => by
      rw [pm.mem_iff]
      constructor
      · intro hy
        split at hy
        · obtain ⟨j, h1, h2⟩ := (mem y).mp hy
          exact ⟨j, by omega, h2⟩
        · rcases List.mem_append.mp hy with z | z
          · obtain ⟨j, h1, h2⟩ := (mem y).mp z
            exact ⟨j, by omega, h2⟩
          · exact ⟨i, by omega, (List.mem_singleton.mp z).symm⟩
      · rintro ⟨j, h1, h2⟩
        have old : ∀ {z}, z ∈ ks → z ∈ (if val i ∈ ks then ks else ks ++ [val i]) := fun {z} hz => by
          split
          · exact hz
          · exact List.mem_append_left _ hz
        by_cases c : j < i
        · exact old ((mem y).mpr ⟨j, c, h2⟩)
        · have e : j = i := by omega
          subst e
          split
          · rw [← h2]; assumption
          · rw [← h2]; exact List.mem_append_right _ (List.mem_singleton.mpr rfl)
    refine wpAny_pure ⟨plainId_quiet PyProof.Rows.F.plain_set_update_loop _, ih (i + 1) _ ks' (by omega) (by omega) (W.frame _ s' _ _ st' (Nat.le_succ _) fun b hb o e => ?_) g2 mem' len' fun s2 ks2 hm2 g3 m3 l3 => ?_⟩
    · rw [sb.2 b (fun z : b = S => nS (by rw [← z]; exact hb))]; exact e
    · refine fin s2 ks2 (Moved.trans W.gtrans ((hm.mono sub).then_heap (Nat.le_succ _) fun b o hb e => ?_) hm2) g3 m3 l3
      rw [sb.2 b (fun z : b = S => hb (by rw [z]; exact List.mem_cons_self))]; exact e
end
section
variable {prog : Program} {w : World} {A : Around} {E : Value → Shared → Prop} {s : Shared}
theorem gset_newS {h : Heap} {a : Addr} (ho : h.get? a = some (nSet w)) : GSet (strKind prog w) h a [] := by
  refine ⟨_, #[], 0, _, ho, ⟨rfl, rfl, rfl⟩, rfl, .nil, List.nodup_nil, by decide, rfl, ?_⟩
  exact good_fresh (w.params.followText "set-order")
theorem set_of_strs {l : Addr} {items : Array Value} {ns : List Str} {Q : Value → Shared → Prop} (hh : A.handled = none) (hl : s.heap.IsList l items) (hi : ∀ (i : Nat) (v : Value), items[i]? = some v → ∃ t, v = .str (ns.getD i Str.empty) t) (ln : items.size = ns.length) (hb : items.size + 1 < scanBound)
    (h : ∀ (h' : Heap) (tk : Nat) (ks : List Str), GSet (strKind prog w) h' s.heap.objs.size ks → (∀ y, y ∈ ks ↔ y ∈ ns) → ks.length ≤ items.size → (∀ b o, s.heap.get? b = some o → h'.get? b = some o) → Q (.ref s.heap.objs.size) { s with heap := h', toks := tk }) :
    wpAny (model prog w) A (call (.type "set") [.ref l]) Q E s := by
  obtain ⟨c, tl, hmro⟩ := F.called_set.mro
  have hmade := F.called_set.made
  have hsub := F.called_set.sub
  have h1 := F.called_set.notType
  have h2 := F.called_set.canCreate
  have hct := F.typeCall_set_1 (.ref l)
  refine wpAny_call (codeAny_of_tree (show wpAny _ _ (callAny (.type "set") _) _ _ _ from ?_))
  refine wpAny_pure ⟨Code.quiet_builtin _ (by decide +kernel), codeAny_builtin F.entry_type_call ?_⟩
  rw [Around.under_plain (weight_type_call_type "set" [.ref l] []) rfl]
  repeat (any_goals (first | assumption | wp_step))
  refine codeAny_mono (new_set (x := .ref l) (E := E) (Q := fun v s₁ => v = .ref s.heap.objs.size ∧ s₁ = { s with heap := s.heap.push (nSet w) }) ⟨rfl, rfl⟩) fun r s₁ hr => ?_
  cases r with
  | error e => exact hr
  | ok fl =>
    cases fl with
    | ret obj =>
      obtain ⟨rfl, rfl⟩ := hr
      have at0 : (s.heap.push (nSet w)).get? s.heap.objs.size = some (nSet w) := Heap.get?_push_size _ rfl
      have hT : Shared.TypeIs { s with heap := s.heap.push (nSet w) } (.ref s.heap.objs.size) "set" := ⟨_, at0, rfl⟩
      have hli := F.called_set.init.lookup
      have hbi := F.called_set.init.bind (.ref s.heap.objs.size)
      repeat (any_goals (first | assumption | wp_step))
      refine codeAny_mono (codeAny_call_builtin (R := wants (fun r s₂ => r = .none ∧ ∃ h' tk ks, s₂ = { s with heap := h', toks := tk } ∧ GSet (strKind prog w) h' s.heap.objs.size ks ∧ (∀ y, y ∈ ks ↔ y ∈ ns) ∧ ks.length ≤ items.size ∧ (∀ b o, s.heap.get? b = some o → h'.get? b = some o)) E)
        F.called_set.init.plain F.entry_set_init (check_set_init_1 hT ?_)) fun r₂ s₂ hr₂ => ?_
      · obtain ⟨⟨oc, od, odt, osl⟩, hol, hcl, nl, hdl⟩ := id hl
        simp only at hcl hdl
        subst hcl hdl
        have old : (s.heap.push (nSet w)).get? l = some { cls := .type "list", dict := od, data := .seq items nl, slots := osl } := Heap.get?_push_of_some _ hol
        have il : (s.heap.push (nSet w)).IsList l items := ⟨_, old, rfl, nl, rfl⟩
        have lt : l < s.heap.objs.size := Heap.lt_size hol
        have u1 := F.sub_list_set
        have u2 := F.sub_list_frozenset
        have u3 : (Value.type "list" == Value.type "dict") = false := by decide
        unfold Builtin.«set.__init__» noKeywords Builtin.Frozenset.updateFrom
        generalize hPI : pyIter = PI
        wp_walk
        subst hPI
        refine wpAny_pyIter_list il (wpAny_bind (wpAny_runValue ?_))
        have sz : (s.heap.push (nSet w)).objs.size = s.heap.objs.size + 1 := Heap.size_push ..
        have ne : l ≠ (s.heap.push (nSet w)).objs.size := by rw [sz]; exact Nat.ne_of_lt (Nat.lt_succ_of_lt lt)
        have h3 : A.in1.in1.in1.handled = none := by simp [hh]
        have nf : s.heap.objs.size ∉ [(s.heap.push (nSet w)).objs.size, l] := by
          rw [sz]
          intro z
          rcases List.mem_cons.mp z with z | z
          · exact absurd z (Nat.ne_of_lt (Nat.lt_succ_self _))
          · exact absurd (List.mem_singleton.mp z) (Nat.ne_of_gt lt)
        have hv : ∀ (i : Nat) (v : Value), items[i]? = some v → ∃ t, v = .str ((fun i => ns.getD i Str.empty) i) t := hi
        refine update_loopS ((Walks.list h3 _ l ne items).toS) s.heap.objs.size nf (fun i => ns.getD i Str.empty) hv hb (items.size - 0) 0 _ [] (by omega) (Nat.zero_le _) ⟨⟨_, Heap.get?_push_size _ rfl, rfl, rfl⟩, il.push _⟩ (gset_newS (Heap.get?_push_of_some _ at0)) (fun y => ⟨fun z => (nomatch z), fun ⟨j, z, _⟩ => absurd z (Nat.not_lt_zero _)⟩) (Nat.zero_le _) fun s' ks hm g m ln' => ?_
        obtain ⟨h', g', d', tk', os'⟩ := s'
        have eg : g' = s.gens := hm.gens
        have ed : d' = s.drawn := hm.drawn
        have eo : os' = s.os := hm.os
        subst eg ed eo
        refine wpAny_pure (wpAny_pure ⟨rfl, h', tk', ks, rfl, g, fun y => ?_, ln', fun b o e => ?_⟩)
        · rw [m y]
          constructor
          · rintro ⟨j, z1, z2⟩
            rw [← z2]
            show ns.getD j Str.empty ∈ ns
            rw [List.getD_eq_getElem?_getD, List.getElem?_eq_getElem (by omega)]
            exact List.getElem_mem _
          · intro z
            obtain ⟨j, hj, e⟩ := List.getElem_of_mem z
            refine ⟨j, by omega, ?_⟩
            show ns.getD j Str.empty = y
            rw [List.getD_eq_getElem?_getD, List.getElem?_eq_getElem hj]
            exact e
        · refine hm.heap b o (fun z => ?_) (Heap.get?_push_of_some _ (Heap.get?_push_of_some _ e))
          have lb := Heap.lt_size e
          rcases List.mem_cons.mp z with z | z
          · exact absurd z (Nat.ne_of_lt lb)
          · exact absurd (List.mem_singleton.mp z) (by rw [sz]; exact Nat.ne_of_lt (Nat.lt_succ_of_lt lb))
      · cases r₂ with
        | error e => exact hr₂
        | ok fl₂ =>
          cases fl₂ with
          | ret r =>
            obtain ⟨rfl, h', tk, ks, rfl, g, m, ln, k⟩ := hr₂
            repeat (any_goals (first | assumption | wp_step))
            exact h _ _ ks g m ln k
          | _ => exact hr₂.elim
    | _ => exact hr.elim
end
end CST

namespace L2
open PySem PySem.Spec PyProof PyProof.Rows
/-! ### len(set(list of texts)) -/
section
variable {α : Type} [DecidableEq α]
theorem nodup_le : ∀ {ks ss : List α}, ks.Nodup → (∀ y ∈ ks, y ∈ ss) → ks.length ≤ ss.length
  | [], _, _, _ => Nat.zero_le _
  | k :: ks, ss, nd, h => by
    rw [List.nodup_cons] at nd
    have hk := h k List.mem_cons_self
    have ih := nodup_le (ks := ks) (ss := ss.erase k) nd.2 fun y hy => (List.mem_erase_of_ne (fun z => nd.1 (by rw [← z]; exact hy))).mpr (h y (List.mem_cons_of_mem _ hy))
    rw [List.length_erase_of_mem hk] at ih
    have : 0 < ss.length := List.length_pos_of_mem hk
    rw [List.length_cons]
    omega
theorem twice_of : ∀ {ss : List α}, ¬ ss.Nodup → ∃ x, x ∈ ss ∧ x ∈ ss.erase x
  | [], h => absurd List.nodup_nil h
  | y :: t, h => by
    by_cases c : y ∈ t
    · exact ⟨y, List.mem_cons_self, by rw [List.erase_cons_head]; exact c⟩
    · obtain ⟨x, h1, h2⟩ := twice_of (ss := t) (fun z => h (List.nodup_cons.mpr ⟨c, z⟩))
      have ne : ¬ (y == x) = true := fun z => c (by rw [beq_iff_eq.mp z]; exact h1)
      exact ⟨x, List.mem_cons_of_mem _ h1, by rw [List.erase_cons_tail ne]; exact List.mem_cons_of_mem _ h2⟩
theorem set_size {ks ss : List α} (nd : ks.Nodup) (m : ∀ y, y ∈ ks ↔ y ∈ ss) : (ss.Nodup → ks.length = ss.length) ∧ (¬ ss.Nodup → ks.length < ss.length) := by
  refine ⟨fun h => Nat.le_antisymm (nodup_le nd fun y hy => (m y).mp hy) (nodup_le h fun y hy => (m y).mpr hy), fun h => ?_⟩
  obtain ⟨x, h1, h2⟩ := twice_of h
  have := nodup_le (ss := ss.erase x) nd fun y hy => by
    by_cases c : y = x
    · rw [c]; exact h2
    · exact (List.mem_erase_of_ne c).mpr ((m y).mp hy)
  rw [List.length_erase_of_mem h1] at this
  have : 0 < ss.length := List.length_pos_of_mem h1
  omega
end
theorem strs_at : ∀ {ss : List Str} {us : List Value}, Vals (ss.map V.str) us → ∀ (i : Nat) (v : Value), us[i]? = some v → ∃ t, v = .str (ss.getD i Str.empty) t
  | [], _, .nil, i, v, e => by simp at e
  | _ :: _, _ :: _, .cons r _, 0, v, e => by
    simp at e
    subst e
    obtain ⟨t, rfl⟩ := r
    exact ⟨t, rfl⟩
  | _ :: ss, _ :: us, .cons _ q, i + 1, v, e => by
    obtain ⟨t, rfl⟩ := strs_at q i v (by simpa using e)
    exact ⟨t, by simp⟩
def tLenSet (K : PySem.W.Frag) (te : TE) : TE := fun σ H Q => te σ H fun x H1 => ∃ a ss, x = .ref a ∧ SqL K H1 a (List.map V.str ss) ∧ ss.length < 60 ∧ ∀ n : Nat, (ss.Nodup → n = ss.length) → (¬ ss.Nodup → n < ss.length) → Q (.int (n : Int)) H1
section
variable {X : Cx}
theorem pe_lenSet {e : Expr} {te : TE} {p1 p2 pos1 pos2 : Pos} (he : PE X e te) (hc : X.calm = true) (hg1 : Gl X "len") (hm1 : X.mg "len" = none) (hg2 : Gl X "set") (hm2 : X.mg "set" = none)
    (hv1 : bootBuiltins "len" = some (.builtin "len") := by rfl) (hv2 : bootBuiltins "set" = some (.type "set") := by rfl)
    (hs1 : starEach [.Call (.Name "set" p2) [e] [] pos2] X.env = [(false, eval (.Call (.Name "set" p2) [e] [] pos2) X.env)] := by rfl) (hs2 : starEach [e] X.env = [(false, eval e X.env)] := by rfl) :
    PE X (.Call (.Name "len" p1) [.Call (.Name "set" p2) [e] [] pos2] [] pos1) (tLenSet X.K te) := by
  intro pins s σ H Q I h
  refine wpAny_Call_Name_kw (ld_blt I hg1 hm1 hv1 ?_ (by decide) (by decide))
  refine PyProof.Rows.callWith_builtin1 ?_ hs1 rfl
  rw [hs1]
  show wpAny _ _ (spliced ((false, eval (.Call (.Name "set" p2) [e] [] pos2) X.env) :: backTo pos1 [])) _ _ s
  refine Calls.spliced_cons ?_
  refine wpAny_Call_Name_kw (ld_blt I hg2 hm2 hv2 ?_ (by decide) (by decide))
  refine PyProof.Rows.callWith_type1 ?_ hs2 rfl
  rw [hs2]
  show wpAny _ _ (spliced ((false, eval e X.env) :: backTo pos2 [])) _ _ s
  refine Calls.spliced_cons (thn (he pins s σ H _ I h) fun u s1 ⟨x, H1, I1, r1, a, ss, ex, hq, l60, q⟩ => ?_)
  subst ex
  cases r1
  refine Calls.spliced_nil ?_
  obtain ⟨its, rv, pl, hz⟩ := I1.list hq
  have hl := rv.length
  rw [List.length_map] at hl
  have hh : X.A.handled = none := I.ok.hd hc
  have hv : ∀ (i : Nat) (v : Value), its.toArray[i]? = some v → ∃ t, v = .str (ss.getD i Str.empty) t := fun i v e => by
    rw [List.getElem?_toArray] at e
    exact strs_at rv i v e
  refine CST.set_of_strs (items := its.toArray) (ns := ss) hh pl.isList hv (by rw [List.size_toArray]; exact hl.symm) (by rw [List.size_toArray]; unfold scanBound; omega) fun h2 tk ks g mem len k2 => ?_
  refine Calls.spliced_nil ?_
  rw [List.size_toArray] at len
  obtain ⟨o, es, ep, t, ho, hex, hd, hp, nd, hsz, hf, _⟩ := g
  obtain ⟨z1, z2⟩ := set_size nd mem
  have le : es.size = ks.length := by rw [← Array.length_toList]; exact hp.length
  refine call_len_set (s := { s1 with heap := h2, toks := tk }) ho hex hd hf (by omega) ?_
  exact ⟨.int (ks.length : Int), H1, I1.kept (h' := h2) k2, ⟨_, by rw [le]⟩, q ks.length z1 z2⟩
end
end L2

namespace L2
open PySem PySem.Spec PyProof PyProof.Rows
/-! ### comprehensions over the signs of a text -/
theorem comp_str {l : List Nat} {tc : TT} {te : TE} {σ : St} {ix : List Nat} {QQ : Hp → Prop} {H1 : Hp} {p : Addr} (Pv : Nat → List V → Hp → Prop) (h0 : Pv 0 [] (upd H1 p (.lst [])))
    (hp : ∀ i ys H, i ≤ l.length → Pv i ys H → H p = some (.lst ys) ∧ ys.length ≤ i) (hn : l.length ≤ sizeLine)
    (hs : ∀ i c ys H, l[i]? = some c → Pv i ys H → tc (some (.str (tx [c])) :: caps ix σ) H fun b H5 => if b = true then te (some (.str (tx [c])) :: caps ix σ) H5 fun y H6 => H6 p = some (.lst ys) ∧
      (some (V.str (tx [c])) :: caps ix σ) = (some (.str (tx [c])) :: caps ix σ) ∧ Pv (i + 1) (ys ++ [y]) (upd H6 p (.lst (ys ++ [y]))) else (some (V.str (tx [c])) :: caps ix σ) = (some (.str (tx [c])) :: caps ix σ) ∧ Pv (i + 1) ys H5)
    (hd : ∀ ys H, Pv l.length ys H → QQ H) :
    CompW (gName 0) tc te 1 ix σ (Its (tx l)) p H1 QQ := by
  have hz : (tx l).cps.size = l.length := by simp [tx]
  refine ⟨fun i m ys σ2 H2 => m = l.length - i ∧ i ≤ l.length ∧ (∃ o, σ2 = o :: caps ix σ) ∧ Pv i ys H2, ⟨l.length, by simp, Nat.zero_le _, ⟨none, rfl⟩, h0⟩, ?_⟩
  rintro i m ys σ2 H2 ⟨rfl, hi, ⟨o, rfl⟩, pv⟩
  obtain ⟨hp2, hl2⟩ := hp i ys H2 hi pv
  refine ⟨hp2, ?_⟩
  by_cases hlt : i < l.length
  · refine .inr ⟨by show i < (tx l).cps.size; omega, by omega, fun x H3 y => ?_⟩
    obtain ⟨e, c, hc, y⟩ := y
    subst e y
    exact ⟨fun ys' σ' H' => σ' = (some (.str (tx [c])) :: caps ix σ) ∧ Pv (i + 1) ys' H', fun ys' σ' H' ⟨e, q⟩ => ⟨l.length - (i + 1), by omega, rfl, hlt, ⟨_, e⟩, q⟩, hs i c ys _ (by simpa [tx] using hc) pv⟩
  · have e : i = l.length := by omega
    subst e
    exact .inl ⟨by show (tx l).cps.size ≤ l.length; omega, hd ys H2 pv⟩
end L2

/-! runs of whole numbers, without the program -/
namespace CR
/-! ### from lo on and below hi -/
/-! ### the lowest -/
/-! ### those that are none of others -/
end CR

/-! the turns, as plain functions over lists of ints -/
namespace CR
def at0 (l : List Int) (k : Int) : Int := l.getD k.toNat 0
structure GW (ws : List Int) : Prop where
  lo : 1 ≤ ws.length
  hi : ws.length ≤ 8
  pos : ∀ w ∈ ws, 1 ≤ w
  sum : ws.sum ≤ 100
def may (ws ds : List Int) (t k : Int) : Bool := decide (at0 ds k * ws.sum < at0 ws k * (t + 1))
def due (ws ds : List Int) (k : Int) : Int := ((at0 ds k + 1) * ws.sum + at0 ws k - 1) / at0 ws k
/-- the places among the first n that may have the turn t -/
def placesTo (ws ds : List Int) (t : Int) (n : Nat) : List Int := ((List.range n).map fun k : Nat => (k : Int)).filter fun k => may ws ds t k
def places (ws ds : List Int) (t : Int) : List Int := placesTo ws ds t ws.length
def pick (f : Int → Int) (b : Int) (l : List Int) : Int := l.foldl (fun b p => if f p < f b then p else b) b
def place (ws ds : List Int) (t : Int) : Int := pick (due ws ds) ((places ws ds t).headD 0) (places ws ds t)
def put (ds : List Int) (p : Int) : List Int := ds.set p.toNat (at0 ds p + 1)
/-- behind the first t turns: what each place has, the turns -/
def run (ws : List Int) : Nat → List Int × List Int
  | 0 => (List.replicate ws.length 0, [])
  | t + 1 => (put (run ws t).1 (place ws (run ws t).1 t), (run ws t).2 ++ [place ws (run ws t).1 t])
def wheel (ws : List Int) : List Int := (run ws ws.sum.toNat).2

theorem placesTo_succ (ws ds : List Int) (t : Int) (n : Nat) : placesTo ws ds t (n + 1) = placesTo ws ds t n ++ (if may ws ds t n = true then [(n : Int)] else []) := by
  unfold placesTo
  rw [List.range_succ, List.map_append, List.filter_append]
  congr 1
  by_cases h : may ws ds t n = true
  · simp [h]
  · simp [h]
theorem placesTo_le (ws ds : List Int) (t : Int) (n : Nat) : (placesTo ws ds t n).length ≤ n := by
  unfold placesTo
  refine Nat.le_trans (List.length_filter_le _ _) ?_
  rw [List.length_map, List.length_range]
  exact Nat.le_refl _
theorem placesTo_mem {ws ds : List Int} {t : Int} {n : Nat} {k : Int} (h : k ∈ placesTo ws ds t n) : 0 ≤ k ∧ k < n ∧ may ws ds t k = true := by
  unfold placesTo at h
  obtain ⟨h1, h2⟩ := List.mem_filter.mp h
  obtain ⟨j, hj, rfl⟩ := List.mem_map.mp h1
  have := List.mem_range.mp hj
  exact ⟨by omega, by omega, h2⟩
theorem pick_mem (f : Int → Int) : ∀ (l : List Int) (b : Int), pick f b l = b ∨ pick f b l ∈ l
  | [], b => .inl rfl
  | p :: l, b => by
    show pick f (if f p < f b then p else b) l = b ∨ pick f (if f p < f b then p else b) l ∈ p :: l
    rcases pick_mem f l (if f p < f b then p else b) with h | h
    · rw [h]
      split
      · exact .inr List.mem_cons_self
      · exact .inl rfl
    · exact .inr (List.mem_cons_of_mem _ h)
theorem place_mem {ws ds : List Int} {t : Int} (h : places ws ds t ≠ []) : place ws ds t ∈ places ws ds t := by
  unfold place
  rcases pick_mem (due ws ds) (places ws ds t) ((places ws ds t).headD 0) with e | e
  · rw [e]
    cases q : places ws ds t with
    | nil => exact absurd q h
    | cons p l => exact List.mem_cons_self
  · exact e
/-- the sums: if no place may have the turn, all have too much -/
theorem sum_le : ∀ (ws ds : List Int) (T c : Int), ds.length = ws.length → (∀ k : Nat, k < ws.length → ws.getD k 0 * c ≤ ds.getD k 0 * T) → ws.sum * c ≤ ds.sum * T
  | [], [], _, _, _, _ => by simp
  | [], _ :: _, _, _, h, _ => by simp at h
  | _ :: _, [], _, _, h, _ => by simp at h
  | w :: ws, d :: ds, T, c, h, hk => by
    have ih := sum_le ws ds T c (by simpa using h) fun k hk' => by simpa using hk (k + 1) (by simpa using hk')
    have h0 := hk 0 (by simp)
    simp only [List.sum_cons, List.getD_cons_zero] at *
    rw [Int.add_mul, Int.add_mul]
    omega
theorem sum_pos {ws : List Int} (g : GW ws) : 1 ≤ ws.sum := by
  have aux : ∀ l : List Int, (∀ w ∈ l, 1 ≤ w) → (l.length : Int) ≤ l.sum := by
    intro l
    induction l with
    | nil => intro _; simp
    | cons w l ih =>
      intro h
      have h1 := h w List.mem_cons_self
      have h2 := ih fun x hx => h x (List.mem_cons_of_mem _ hx)
      rw [List.sum_cons, List.length_cons]
      omega
  have := aux ws g.pos
  have := g.lo
  omega
theorem places_ne {ws ds : List Int} {t : Nat} (g : GW ws) (hl : ds.length = ws.length) (hs : ds.sum = t) : places ws ds t ≠ [] := by
  intro h
  have key : ∀ k : Nat, k < ws.length → ws.getD k 0 * ((t : Int) + 1) ≤ ds.getD k 0 * ws.sum := fun k hk => by
    by_cases c : ds.getD k 0 * ws.sum < ws.getD k 0 * ((t : Int) + 1)
    · have m : (k : Int) ∈ places ws ds t := by
        unfold places placesTo
        refine List.mem_filter.mpr ⟨List.mem_map.mpr ⟨k, List.mem_range.mpr hk, rfl⟩, ?_⟩
        unfold may at0
        simpa using c
      rw [h] at m
      cases m
    · omega
  have q := sum_le ws ds ws.sum ((t : Int) + 1) hl key
  rw [hs] at q
  have p := sum_pos g
  have e : ws.sum * ((t : Int) + 1) = (t : Int) * ws.sum + ws.sum := by rw [Int.mul_add, Int.mul_comm, Int.mul_one]
  omega
theorem put_length (ds : List Int) (p : Int) : (put ds p).length = ds.length := by unfold put; rw [List.length_set]
theorem sum_set : ∀ (ds : List Int) (k : Nat) (x : Int), k < ds.length → (ds.set k x).sum = ds.sum - ds.getD k 0 + x
  | [], _, _, h => by simp at h
  | d :: ds, 0, x, _ => by simp only [List.set_cons_zero, List.sum_cons, List.getD_cons_zero]; omega
  | d :: ds, k + 1, x, h => by
    have ih := sum_set ds k x (by simpa using h)
    simp only [List.set_cons_succ, List.sum_cons, List.getD_cons_succ, ih]; omega
theorem put_sum {ds : List Int} {p : Int} (h0 : 0 ≤ p) (h : p < ds.length) : (put ds p).sum = ds.sum + 1 := by
  unfold put at0
  rw [sum_set ds p.toNat _ (by omega)]
  omega
theorem sum_replicate (n : Nat) : (List.replicate n (0 : Int)).sum = 0 := by
  induction n with
  | zero => rfl
  | succ n ih => rw [List.replicate_succ, List.sum_cons, ih]; rfl
/-- what stands behind the first t turns -/
structure At (ws : List Int) (t : Nat) : Prop where
  len : (run ws t).1.length = ws.length
  sum : (run ws t).1.sum = t
  row : (run ws t).2.length = t
  inr : ∀ p ∈ (run ws t).2, 0 ≤ p ∧ p < ws.length
theorem place_in {ws ds : List Int} {t : Nat} (g : GW ws) (hl : ds.length = ws.length) (hs : ds.sum = t) : 0 ≤ place ws ds t ∧ place ws ds t < ws.length ∧ may ws ds t (place ws ds t) = true :=
  placesTo_mem (place_mem (places_ne g hl hs))
theorem run_at {ws : List Int} (g : GW ws) : ∀ t : Nat, At ws t
  | 0 => ⟨by simp [run], by show (List.replicate _ 0).sum = _; rw [sum_replicate]; rfl, rfl, fun _ h => by cases h⟩
  | t + 1 => by
    have a := run_at g t
    obtain ⟨h0, h1, _⟩ := place_in (t := t) g a.len a.sum
    refine ⟨?_, ?_, ?_, fun p hp => ?_⟩
    · show (put _ _).length = _
      rw [put_length, a.len]
    · show (put _ _).sum = _
      rw [put_sum h0 (by rw [a.len]; exact h1), a.sum]
      omega
    · show (_ ++ [_]).length = _
      rw [List.length_append, a.row]
      rfl
    · rcases List.mem_append.mp hp with h | h
      · exact a.inr p h
      · rw [List.mem_singleton.mp h]
        exact ⟨h0, h1⟩
end CR

namespace CR
section
variable {ws : List Int}
end
end CR

namespace CR
section
variable {ws : List Int}
end
end CR

namespace CRL
open PySem L2
def top (i : Nat) : Stmt := PySem.Challenge.pw_coverroll_k49_books_and_counts.main.body.getD i (.Pass ⟨0, 0, 0, 0⟩)
abbrev s_Book___init__ : Stmt := inClass (top 11) 0
abbrev s_Book_named : Stmt := inClass (top 11) 1
abbrev s_is_whole : Stmt := top 13
abbrev s_has_letters_alone : Stmt := top 17
abbrev s_is_name : Stmt := top 18
abbrev s_Counts___init__ : Stmt := inClass (top 22) 0
abbrev s_Counts_have : Stmt := inClass (top 22) 1
abbrev s_Counts_add : Stmt := inClass (top 22) 2
abbrev s_are_weights : Stmt := top 26
abbrev s_may_have : Stmt := top 27
abbrev s_due_by : Stmt := top 28
abbrev s_place_of_turn : Stmt := top 29
abbrev s_turns : Stmt := top 30
abbrev s_Deal___init__ : Stmt := inClass (top 31) 0
abbrev s_check_houses : Stmt := top 35
abbrev s_Cover___init__ : Stmt := inClass (top 36) 0
abbrev s__law_cell : Stmt := top 38
abbrev s__law_whole : Stmt := top 39
abbrev s__law_spread : Stmt := top 40
abbrev s__law_names : Stmt := top 41
abbrev s__law_no_book : Stmt := top 42
abbrev s__law_not_told : Stmt := top 43
abbrev s__law_counts_kept : Stmt := top 44
abbrev s__law_same : Stmt := top 45
abbrev s_law : Stmt := top 46
/-- what the text's own names stand for -/
structure Txt (K : PySem.W.Frag) (mg : Str → Option Value) : Prop where
  g_COVERED_ONE : GStr mg "COVERED_ONE" "self"
  g_LETTERS : GStr mg "LETTERS" "abcdefghijklmnopqrstuvwxyz"
  g_LONGEST_NAME : GInt mg "LONGEST_NAME" 8
  g_MOST_CLAUSES : GInt mg "MOST_CLAUSES" 8
  g_MOST_COVERS : GInt mg "MOST_COVERS" 8
  g_MOST_PLACES : GInt mg "MOST_PLACES" 8
  g_MOST_TURNS : GInt mg "MOST_TURNS" 100
  n_ValueError : mg "ValueError" = none
  n_bool : mg "bool" = none
  n_enumerate : mg "enumerate" = none
  n_int : mg "int" = none
  n_isinstance : mg "isinstance" = none
  n_len : mg "len" = none
  n_list : mg "list" = none
  n_range : mg "range" = none
  n_set : mg "set" = none
  n_str : mg "str" = none
  n_sum : mg "sum" = none
/-- the text's own error classes -/
structure Xc (K : PySem.W.Frag) (mg : Str → Option Value) (C_CoverError C_NoShares C_NoEntry C_NoCover C_NoBook C_Twice C_NotTold : Addr) : Prop where
  a_CoverError : mg "CoverError" = some (.ref C_CoverError)
  a_NoShares : mg "NoShares" = some (.ref C_NoShares)
  a_NoEntry : mg "NoEntry" = some (.ref C_NoEntry)
  a_NoCover : mg "NoCover" = some (.ref C_NoCover)
  a_NoBook : mg "NoBook" = some (.ref C_NoBook)
  a_Twice : mg "Twice" = some (.ref C_Twice)
  a_NotTold : mg "NotTold" = some (.ref C_NotTold)
  x_NoBook : XCls K "NoBook" mg C_NoBook
  e_NoBook : XK1 K C_NoBook
  v_NoBook : PySem.W.kitOne K (.ref C_NoBook) (.type "ValueError") = some true
  k_NoBook_NotTold : PySem.W.kitOne K (.ref C_NoBook) (.ref C_NotTold) = some false
  k_NoBook_NoBook : PySem.W.kitOne K (.ref C_NoBook) (.ref C_NoBook) = some true
  k_NoBook_NoCover : PySem.W.kitOne K (.ref C_NoBook) (.ref C_NoCover) = some false
  k_NoBook_NoEntry : PySem.W.kitOne K (.ref C_NoBook) (.ref C_NoEntry) = some false
  k_NoBook_Twice : PySem.W.kitOne K (.ref C_NoBook) (.ref C_Twice) = some false
  h_NoBook_CoverError : PySem.W.exmOne K (.ref C_NoBook) (.ref C_CoverError) = some true
  x_NotTold : XCls K "NotTold" mg C_NotTold
  e_NotTold : XK1 K C_NotTold
  v_NotTold : PySem.W.kitOne K (.ref C_NotTold) (.type "ValueError") = some true
  k_NotTold_NotTold : PySem.W.kitOne K (.ref C_NotTold) (.ref C_NotTold) = some true
  k_NotTold_NoBook : PySem.W.kitOne K (.ref C_NotTold) (.ref C_NoBook) = some false
  k_NotTold_NoCover : PySem.W.kitOne K (.ref C_NotTold) (.ref C_NoCover) = some false
  k_NotTold_NoEntry : PySem.W.kitOne K (.ref C_NotTold) (.ref C_NoEntry) = some false
  k_NotTold_Twice : PySem.W.kitOne K (.ref C_NotTold) (.ref C_Twice) = some false
  h_NotTold_CoverError : PySem.W.exmOne K (.ref C_NotTold) (.ref C_CoverError) = some true
  x_NoCover : XCls K "NoCover" mg C_NoCover
  e_NoCover : XK1 K C_NoCover
  v_NoCover : PySem.W.kitOne K (.ref C_NoCover) (.type "ValueError") = some true
  k_NoCover_NotTold : PySem.W.kitOne K (.ref C_NoCover) (.ref C_NotTold) = some false
  k_NoCover_NoBook : PySem.W.kitOne K (.ref C_NoCover) (.ref C_NoBook) = some false
  k_NoCover_NoCover : PySem.W.kitOne K (.ref C_NoCover) (.ref C_NoCover) = some true
  k_NoCover_NoEntry : PySem.W.kitOne K (.ref C_NoCover) (.ref C_NoEntry) = some false
  k_NoCover_Twice : PySem.W.kitOne K (.ref C_NoCover) (.ref C_Twice) = some false
  h_NoCover_CoverError : PySem.W.exmOne K (.ref C_NoCover) (.ref C_CoverError) = some true
  x_NoShares : XCls K "NoShares" mg C_NoShares
  e_NoShares : XK1 K C_NoShares
  v_NoShares : PySem.W.kitOne K (.ref C_NoShares) (.type "ValueError") = some true
  k_NoShares_NotTold : PySem.W.kitOne K (.ref C_NoShares) (.ref C_NotTold) = some false
  k_NoShares_NoBook : PySem.W.kitOne K (.ref C_NoShares) (.ref C_NoBook) = some false
  k_NoShares_NoCover : PySem.W.kitOne K (.ref C_NoShares) (.ref C_NoCover) = some false
  k_NoShares_NoEntry : PySem.W.kitOne K (.ref C_NoShares) (.ref C_NoEntry) = some false
  k_NoShares_Twice : PySem.W.kitOne K (.ref C_NoShares) (.ref C_Twice) = some false
  h_NoShares_CoverError : PySem.W.exmOne K (.ref C_NoShares) (.ref C_CoverError) = some true
/-- the text's own classes -/
structure Kl (K : PySem.W.Frag) (mg : Str → Option Value) (C_Book C_Counts C_Condition C_Deal C_Cover : Addr) : Prop where
  mg_Book : mg "Book" = some (.ref C_Book)
  cl_Book : Cls K C_Book
  na_Book_covers : NoAttr K C_Book "covers"
  na_Book_asking : NoAttr K C_Book "asking"
  mg_Counts : mg "Counts" = some (.ref C_Counts)
  cl_Counts : Cls K C_Counts
  na_Counts_kept : NoAttr K C_Counts "kept"
  mg_Condition : mg "Condition" = some (.ref C_Condition)
  cl_Condition : Cls K C_Condition
  mg_Deal : mg "Deal" = some (.ref C_Deal)
  cl_Deal : Cls K C_Deal
  na_Deal_wheel : NoAttr K C_Deal "wheel"
  na_Deal_weights : NoAttr K C_Deal "weights"
  mg_Cover : mg "Cover" = some (.ref C_Cover)
  cl_Cover : Cls K C_Cover
  na_Cover_name : NoAttr K C_Cover "name"
  na_Cover_condition : NoAttr K C_Cover "condition"
  na_Cover_clauses : NoAttr K C_Cover "clauses"
  na_Cover_houses : NoAttr K C_Cover "houses"
  na_Cover_deal : NoAttr K C_Cover "deal"
  na_Cover_waits : NoAttr K C_Cover "waits"
  nd : ([C_Book, C_Counts, C_Condition, C_Deal, C_Cover] : List Addr).Nodup
/-! ### tests that are known -/
theorem dT {c A B : Prop} [Decidable c] (h : c) (q : A) : if decide c = true then A else B := by rw [decide_eq_true h, if_pos rfl]; exact q
theorem dF {c A B : Prop} [Decidable c] (h : ¬ c) (q : B) : if decide c = true then A else B := by rw [decide_eq_false h, if_neg Bool.false_ne_true]; exact q
theorem nT {c A B : Prop} [Decidable c] (h : ¬ c) (q : A) : if (!decide c) = true then A else B := by rw [decide_eq_false h]; exact q
theorem nF {c A B : Prop} [Decidable c] (h : c) (q : B) : if (!decide c) = true then A else B := by rw [decide_eq_true h]; exact q
theorem bT {c : Bool} {A B : Prop} (h : c = true) (q : A) : if c = true then A else B := by rw [if_pos h]; exact q
theorem bF {c : Bool} {A B : Prop} (h : c = false) (q : B) : if c = true then A else B := by rw [if_neg (by rw [h]; exact Bool.false_ne_true)]; exact q
/-- an int and no bool -/
def wholeV : V → Bool
  | .int _ => true
  | _ => false
theorem whole_kit {K : PySem.W.Frag} {H : Hp} {x : V} {T : String} (h : TyOf K H x (.type T)) : ∃ b1 b2, PySem.W.kitOne K (.type T) (.type "int") = some b1 ∧ PySem.W.kitOne K (.type T) (.type "bool") = some b2 ∧ wholeV x = (b1 && !b2) := by
  cases h with
  | non => exact ⟨false, false, by kernel_rfl, by kernel_rfl, rfl⟩
  | bl b => exact ⟨true, true, by kernel_rfl, by kernel_rfl, rfl⟩
  | int i => exact ⟨true, false, by kernel_rfl, by kernel_rfl, rfl⟩
  | str i => exact ⟨false, false, by kernel_rfl, by kernel_rfl, rfl⟩
  | flt i => exact ⟨false, false, by kernel_rfl, by kernel_rfl, rfl⟩
  | lst e => exact ⟨false, false, by kernel_rfl, by kernel_rfl, rfl⟩
  | frz e => exact ⟨false, false, by kernel_rfl, by kernel_rfl, rfl⟩
  | tup e => exact ⟨false, false, by kernel_rfl, by kernel_rfl, rfl⟩
  | dK e => exact ⟨false, false, by kernel_rfl, by kernel_rfl, rfl⟩
  | dT e => exact ⟨false, false, by kernel_rfl, by kernel_rfl, rfl⟩
theorem kit_ll {K : PySem.W.Frag} : PySem.W.kitOne K (.type "list") (.type "list") = some true := by kernel_rfl
/-! ### promises -/
def spWhole (K : PySem.W.Frag) : Sp := fun vs H Q _ => ∃ x T, vs = [x] ∧ TyOf K H x (.type T) ∧ Q (.bl (wholeV x)) H


def spCell (K : PySem.W.Frag) : Sp := fun vs H Q _ => ∃ a ns, ∃ k : Int, vs = [.ref a, .int k] ∧ SqL K H a (List.map V.int ns) ∧ 0 ≤ k ∧ ns.length ≤ 63 ∧ Q (.int (ns.getD k.toNat 0)) H
section
variable {P : Program} {w : World} {K : PySem.W.Frag} {mg : Str → Option Value} {base : Heap}
theorem sc__law_cell : FnScope ["_law_script", "_law_k"] ["_law_script", "_law_k"] (defScope s__law_cell) := ⟨rfl, rfl, rfl, by decide +kernel, rfl, by decide +kernel, by decide +kernel⟩
theorem ok__law_cell {f : Addr} {fd : FuncData} (F : Fun K "_law_cell" "_law_cell" s__law_cell f fd) (T : Txt K mg) : FnOk P w K mg base CX0 1 f fd ["_law_script", "_law_k"] (spCell K) := by
  have sc := sc__law_cell
  refine F.ok sc (fun vs H Q E h => ?_) (fun cdv A outer s H vs Q E hr h => ?_)
  · obtain ⟨_, _, _, rfl, _⟩ := h
    rfl
  obtain ⟨a, ns, k, rfl, ha, h0, h63, q⟩ := h
  refine ⟨_, (pss_cons (ps_if (pt_cmpR op_lt (pv 1) (pe_callB call_len_seq rfl T.n_len (show bootBuiltins _ = some (.builtin "len") from rfl) (pa_cons (pv 0) pa_nil)) (nomark _))
        (pss_one (ps_ret (pe_ix ix_list (pv 0) (pv 1) (fun _ _ => rfl))))
        pss_nil)
      (pss_one (ps_ret pe_int))), ?_⟩
  have hl : (List.map V.int ns).length = ns.length := List.length_map _
  refine ⟨_, rfl, _, rfl, a, _, rfl, .inl ha, _, _, rfl, rfl, _, rfl, ?_⟩
  rw [hl]
  refine ite2 (fun c => ?_) (fun c => ?_)
  · have c' : k < (ns.length : Int) := of_decide_eq_true c
    exact ⟨_, rfl, _, rfl, a, _, _, _, rfl, rfl, ha, at_intI h0 c', q⟩
  · have c' : ¬ k < (ns.length : Int) := of_decide_eq_false (Bool.eq_false_iff.mpr c)
    have e : ns.getD k.toNat 0 = 0 := by
      rw [List.getD_eq_getElem?_getD, List.getElem?_eq_none (by omega)]
      rfl
    rw [e] at q
    exact q
end


section
variable {P : Program} {w : World} {K : PySem.W.Frag} {mg : Str → Option Value} {base : Heap}
theorem sc_is_whole : FnScope ["thing"] ["thing"] (defScope s_is_whole) := ⟨rfl, rfl, rfl, by decide +kernel, rfl, by decide +kernel, by decide +kernel⟩
theorem ok_is_whole {f : Addr} {fd : FuncData} (F : Fun K "is_whole" "is_whole" s_is_whole f fd) (T : Txt K mg) : FnOk P w K mg base CX0 1 f fd ["thing"] (spWhole K) := by
  have sc := sc_is_whole
  refine F.ok sc (fun vs H Q E h => ?_) (fun cdv A outer s H vs Q E hr h => ?_)
  · obtain ⟨x, T, rfl, _⟩ := h
    rfl
  obtain ⟨x, ty, rfl, hty, q⟩ := h
  refine ⟨_, (pss_one (ps_ret (pe_and (pe_callB call_isinst rfl T.n_isinstance (show bootBuiltins _ = some (.builtin "isinstance") from rfl) (pa_cons (pv 0) (pa_cons (pe_ty "int" rfl T.n_int rfl) pa_nil))) (pe_one (pe_not (pe_callB call_isinst rfl T.n_isinstance (show bootBuiltins _ = some (.builtin "isinstance") from rfl) (pa_cons (pv 0) (pa_cons (pe_ty "bool" rfl T.n_bool rfl) pa_nil)))))))), ?_⟩
  obtain ⟨b1, b2, k1, k2, e⟩ := whole_kit hty
  rw [e] at q
  refine ⟨_, rfl, _, _, _, _, _, rfl, ty_is, hty, k1, _, rfl, ?_⟩
  cases b1 with
  | false => exact q
  | true => exact ⟨_, rfl, _, _, _, _, _, rfl, ty_is, hty, k2, _, rfl, q⟩
end


section
variable {P : Program} {w : World} {K : PySem.W.Frag} {mg : Str → Option Value} {base : Heap}
theorem sc__law_whole : FnScope ["_law_found"] ["_law_found"] (defScope s__law_whole) := ⟨rfl, rfl, rfl, by decide +kernel, rfl, by decide +kernel, by decide +kernel⟩
theorem ok__law_whole {f : Addr} {fd : FuncData} (F : Fun K "_law_whole" "_law_whole" s__law_whole f fd) (T : Txt K mg) : FnOk P w K mg base CX0 1 f fd ["_law_found"] (spWhole K) := by
  have sc := sc__law_whole
  refine F.ok sc (fun vs H Q E h => ?_) (fun cdv A outer s H vs Q E hr h => ?_)
  · obtain ⟨x, T, rfl, _⟩ := h
    rfl
  obtain ⟨x, ty, rfl, hty, q⟩ := h
  refine ⟨_, (pss_one (ps_ret (pe_and (pe_callB call_isinst rfl T.n_isinstance (show bootBuiltins _ = some (.builtin "isinstance") from rfl) (pa_cons (pv 0) (pa_cons (pe_ty "int" rfl T.n_int rfl) pa_nil))) (pe_one (pe_not (pe_callB call_isinst rfl T.n_isinstance (show bootBuiltins _ = some (.builtin "isinstance") from rfl) (pa_cons (pv 0) (pa_cons (pe_ty "bool" rfl T.n_bool rfl) pa_nil)))))))), ?_⟩
  obtain ⟨b1, b2, k1, k2, e⟩ := whole_kit hty
  rw [e] at q
  refine ⟨_, rfl, _, _, _, _, _, rfl, ty_is, hty, k1, _, rfl, ?_⟩
  cases b1 with
  | false => exact q
  | true => exact ⟨_, rfl, _, _, _, _, _, rfl, ty_is, hty, k2, _, rfl, q⟩
end


/-! ### names -/
def letter (c : Nat) : Prop := 97 ≤ c ∧ c ≤ 122
instance : DecidablePred letter := fun c => by unfold letter; exact inferInstance
def AllLet (l : List Nat) : Prop := ∀ c ∈ l, letter c
instance (l : List Nat) : Decidable (AllLet l) := by unfold AllLet; exact inferInstance
def NameL (l : List Nat) : Prop := (1 ≤ l.length ∧ l.length ≤ 8) ∧ AllLet l
instance (l : List Nat) : Decidable (NameL l) := by unfold NameL; exact inferInstance
theorem let_in {c : Nat} : (c ∈ (Str.ofString "abcdefghijklmnopqrstuvwxyz").cps.toList) ↔ letter c := by
  have e : (Str.ofString "abcdefghijklmnopqrstuvwxyz").cps.toList = (List.range 26).map (97 + ·) := by decide +kernel
  rw [e, List.mem_map]
  unfold letter
  constructor
  · rintro ⟨k, hk, rfl⟩
    have := List.mem_range.mp hk
    omega
  · intro h
    exact ⟨c - 97, List.mem_range.mpr (by omega), by omega⟩
def isStrV : V → Bool
  | .str _ => true
  | _ => false
def nameV : V → Bool
  | .str z => decide (NameL z.cps.toList)
  | _ => false
def okX (x : V) : Prop := ∀ z, x = .str z → z.length ≤ 900
theorem str_kit {K : PySem.W.Frag} {H : Hp} {x : V} {T : String} (h : TyOf K H x (.type T)) : PySem.W.kitOne K (.type T) (.type "str") = some (isStrV x) := by
  cases h with
  | non => kernel_rfl
  | bl b => kernel_rfl
  | int i => kernel_rfl
  | str i => kernel_rfl
  | flt i => kernel_rfl
  | lst e => kernel_rfl
  | frz e => kernel_rfl
  | tup e => kernel_rfl
  | dK e => kernel_rfl
  | dT e => kernel_rfl
def spLet : Sp := fun vs H Q _ => ∃ l, vs = [.str (tx l)] ∧ Q (.bl (decide (AllLet l))) H
def spName (K : PySem.W.Frag) : Sp := fun vs H Q _ => ∃ x T, vs = [x] ∧ TyOf K H x (.type T) ∧ okX x ∧ Q (.bl (nameV x)) H
section
seal L2.PS L2.PSs L2.PE
variable {P : Program} {w : World} {K : PySem.W.Frag} {mg : Str → Option Value} {base : Heap}
theorem sc_has_letters_alone : FnScope ["text", "sign"] ["text"] (defScope s_has_letters_alone) := ⟨rfl, rfl, rfl, by decide +kernel, rfl, by decide +kernel, by decide +kernel⟩
theorem ok_has_letters_alone {f : Addr} {fd : FuncData} (F : Fun K "has_letters_alone" "has_letters_alone" s_has_letters_alone f fd) (T : Txt K mg) : FnOk P w K mg base CX0 1 f fd ["text"] spLet := by
  have sc := sc_has_letters_alone
  refine F.ok sc (fun vs H Q E h => ?_) (fun cdv A outer s H vs Q E hr h => ?_)
  · obtain ⟨_, rfl, _⟩ := h
    rfl
  obtain ⟨l, rfl, q⟩ := h
  refine ⟨_, (pss_cons (ps_for PassesOwn.never rfl (pi_str (pv 0)) (pg_name (i := 1) sc.nd rfl (Or.inl rfl))
        (pss_one (ps_if (pt_cmpR op_notIn1 (pv 1) (pe_gstr T.g_LETTERS rfl) rfl)
        (pss_one (ps_ret pe_bl))
        pss_nil)))
      (pss_one (ps_ret pe_bl))), ?_⟩
  refine ⟨_, rfl, _, rfl, for_str (l := l) (fun i σ H2 => ((∃ o, σ = [some (.str (tx l)), o]) ∧ H2 = H) ∧ ∀ j c, j < i → l[j]? = some c → letter c) ⟨⟨⟨none, rfl⟩, rfl⟩, fun _ _ z => absurd z (Nat.not_lt_zero _)⟩ ?_ ?_⟩
  · rintro i c σ H2 hi ⟨⟨⟨o, rfl⟩, rfl⟩, good⟩
    refine ⟨_, rfl, c, _, rfl, rfl, _, rfl, ?_⟩
    by_cases hc : letter c
    · refine nF (let_in.mpr hc) ⟨⟨⟨_, rfl⟩, rfl⟩, fun j d hj hd => ?_⟩
      by_cases e : j = i
      · subst e
        rw [hi] at hd
        cases hd
        exact hc
      · exact good j d (by omega) hd
    · refine nT (fun z => hc (let_in.mp z)) ?_
      have n : ¬ AllLet l := fun z => hc (z c (List.mem_of_getElem? hi))
      rw [decide_eq_false n] at q
      exact q
  · rintro σ H2 ⟨⟨⟨o, rfl⟩, rfl⟩, good⟩
    have all : AllLet l := fun c hc => by
      obtain ⟨j, hj, e⟩ := List.getElem_of_mem hc
      exact good j c hj (by rw [List.getElem?_eq_getElem hj, e])
    rw [decide_eq_true all] at q
    exact q
theorem sc_is_name : FnScope ["thing"] ["thing"] (defScope s_is_name) := ⟨rfl, rfl, rfl, by decide +kernel, rfl, by decide +kernel, by decide +kernel⟩
theorem ok_is_name {f : Addr} {fd : FuncData} (F : Fun K "is_name" "is_name" s_is_name f fd) (T : Txt K mg) (Chas_letters_alone : Cal P w K mg base 1 "has_letters_alone" ["text"] spLet) : FnOk P w K mg base CX0 2 f fd ["thing"] (spName K) := by
  have sc := sc_is_name
  refine F.ok sc (fun vs H Q E h => ?_) (fun cdv A outer s H vs Q E hr h => ?_)
  · obtain ⟨_, _, rfl, _⟩ := h
    rfl
  obtain ⟨x, ty, rfl, hty, ok, q⟩ := h
  refine ⟨_, (pss_cons (ps_if (pt_not (pt_val (pe_callB call_isinst rfl T.n_isinstance (show bootBuiltins _ = some (.builtin "isinstance") from rfl) (pa_cons (pv 0) (pa_cons (pe_ty "str" rfl T.n_str rfl) pa_nil)))))
        (pss_one (ps_ret pe_bl))
        pss_nil)
      (pss_one (ps_ret (pe_and (pe_chain op_le op_le pe_int (pe_callB call_len_str rfl T.n_len (show bootBuiltins _ = some (.builtin "len") from rfl) (pa_cons (pv 0) pa_nil)) (pe_gint T.g_LONGEST_NAME rfl)) (pe_one (pe_callC Chas_letters_alone (hr.mono (by decide)) rfl (pa_cons (pv 0) pa_nil))))))), ?_⟩
  refine ⟨_, rfl, _, _, _, _, _, rfl, ty_is, hty, str_kit hty, _, rfl, ?_⟩
  cases x with
  | str z =>
    have hz := ok z rfl
    have ez : tx z.cps.toList = z := tx_of z
    refine iteF ⟨_, rfl, _, rfl, le_line (by omega), ?_⟩
    have lz : (z.length : Int) = (z.cps.toList.length : Int) := by rw [← tx_len, ez]
    refine ⟨_, _, rfl, rfl, _, rfl, ?_⟩
    by_cases c1 : 1 ≤ (z.length : Int)
    · refine dT c1 ⟨_, _, rfl, rfl, _, rfl, ?_⟩
      by_cases c2 : (z.length : Int) ≤ 8
      · refine dT c2 ⟨_, rfl, z.cps.toList, by rw [ez]; rfl, ?_⟩
        have e : decide (NameL z.cps.toList) = decide (AllLet z.cps.toList) := by
          by_cases a : AllLet z.cps.toList
          · rw [decide_eq_true a, decide_eq_true (show NameL _ from ⟨⟨by omega, by omega⟩, a⟩)]
          · rw [decide_eq_false a, decide_eq_false (fun y => a y.2)]
        rw [← e]
        exact q
      · refine dF c2 ?_
        rw [show nameV (.str z) = false from decide_eq_false (fun y => c2 (by have := y.1.2; omega))] at q
        exact q
    · refine dF c1 ⟨_, rfl, iteF ?_⟩
      rw [show nameV (.str z) = false from decide_eq_false (fun y => c1 (by have := y.1.1; omega))] at q
      exact q
  | _ => exact iteT q
end


def spWeights : Sp := fun vs H Q _ => ∃ a ws, vs = [.ref a] ∧ H a = some (.lst (List.map V.int ws)) ∧ CR.GW ws ∧ Q (.bl true) H
def spMay : Sp := fun vs H Q _ => ∃ w d T t : Int, vs = [.int w, .int d, .int T, .int t] ∧ (0 ≤ w ∧ w ≤ 100) ∧ (0 ≤ T ∧ T ≤ 100) ∧ Q (.bl (decide (d * T < w * (t + 1)))) H
def spDue : Sp := fun vs H Q _ => ∃ w d T : Int, vs = [.int w, .int d, .int T] ∧ (1 ≤ w ∧ w ≤ 100) ∧ (0 ≤ T ∧ T ≤ 100) ∧ Q (.int (((d + 1) * T + w - 1) / w)) H
def spPlace : Sp := fun vs H Q _ => ∃ a b ws ds, ∃ t : Nat, vs = [.ref a, .ref b, .int t] ∧ H a = some (.lst (List.map V.int ws)) ∧ H b = some (.lst (List.map V.int ds)) ∧ CR.GW ws ∧ ds.length = ws.length ∧ ds.sum = t ∧
  ∀ H', Same H H' → Q (.int (CR.place ws ds t)) H'
def spTurns : Sp := fun vs H Q _ => ∃ a ws, vs = [.ref a] ∧ H a = some (.lst (List.map V.int ws)) ∧ CR.GW ws ∧ ∀ r H', Same H H' → H r = none → H' r = some (.lst (List.map V.int (CR.wheel ws))) → Q (.ref r) H'
section
variable {P : Program} {w : World} {K : PySem.W.Frag} {mg : Str → Option Value} {base : Heap}
theorem gw_at {ws : List Int} (g : CR.GW ws) {k : Int} (h0 : 0 ≤ k) (h : k < ws.length) : 1 ≤ ws.getD k.toNat 0 ∧ ws.getD k.toNat 0 ≤ 100 := by
  have m : ws.getD k.toNat 0 ∈ ws := by
    rw [List.getD_eq_getElem?_getD, List.getElem?_eq_getElem (by omega)]
    exact List.getElem_mem _
  refine ⟨g.pos _ m, ?_⟩
  have aux : ∀ (l : List Int) (x : Int), (∀ w ∈ l, 1 ≤ w) → x ∈ l → x ≤ l.sum := by
    intro l x
    induction l with
    | nil => intro _ h; cases h
    | cons y l ih =>
      intro hp hx
      have nn : ∀ l : List Int, (∀ w ∈ l, 1 ≤ w) → 0 ≤ l.sum := by
        intro l
        induction l with
        | nil => intro _; exact Int.le_refl 0
        | cons z l ih => intro h; have := h z List.mem_cons_self; have := ih fun w hw => h w (List.mem_cons_of_mem _ hw); rw [List.sum_cons]; omega
      have h1 := hp y List.mem_cons_self
      have hp' : ∀ w ∈ l, 1 ≤ w := fun w hw => hp w (List.mem_cons_of_mem _ hw)
      have h2 := nn l hp'
      rw [List.sum_cons]
      rcases List.mem_cons.mp hx with rfl | hx
      · omega
      · have := ih hp' hx
        omega
  have := aux ws _ g.pos m
  have := g.sum
  omega
theorem sc_are_weights : FnScope ["thing", "weight"] ["thing"] (defScope s_are_weights) := ⟨rfl, rfl, rfl, by decide +kernel, rfl, by decide +kernel, by decide +kernel⟩
theorem ok_are_weights {f : Addr} {fd : FuncData} (F : Fun K "are_weights" "are_weights" s_are_weights f fd) (T : Txt K mg) (Cis_whole : Cal P w K mg base 1 "is_whole" ["thing"] (spWhole K)) : FnOk P w K mg base CX0 2 f fd ["thing"] spWeights := by
  have sc := sc_are_weights
  refine F.ok sc (fun vs H Q E h => ?_) (fun cdv A outer s H vs Q E hr h => ?_)
  · obtain ⟨a, ws, rfl, _⟩ := h
    rfl
  obtain ⟨a, ws, rfl, ha, g, q⟩ := h
  refine ⟨_, (pss_cons (ps_if (pt_not (pt_val (pe_callB call_isinst rfl T.n_isinstance (show bootBuiltins _ = some (.builtin "isinstance") from rfl) (pa_cons (pv 0) (pa_cons (pe_ty "list" rfl T.n_list rfl) pa_nil)))))
        (pss_one (ps_ret pe_bl))
        pss_nil)
      (pss_cons (ps_if (PW.pt (pw_or (pt_cmpR op_lt (pe_callB call_len_seq rfl T.n_len (show bootBuiltins _ = some (.builtin "len") from rfl) (pa_cons (pv 0) pa_nil)) pe_int (nomark _)) (pw_or1 (pt_cmpR op_gt (pe_callB call_len_seq rfl T.n_len (show bootBuiltins _ = some (.builtin "len") from rfl) (pa_cons (pv 0) pa_nil)) (pe_gint T.g_MOST_PLACES rfl) (nomark _)))))
        (pss_one (ps_ret pe_bl))
        pss_nil)
      (pss_cons (ps_for PassesOwn.never rfl (pi_list (pv 0)) (pg_name (i := 1) sc.nd rfl (Or.inl rfl))
        (pss_one (ps_if (PW.pt (pw_or (pt_not (pt_val (pe_callC Cis_whole (hr.mono (by decide)) rfl (pa_cons (pv 1) pa_nil)))) (pw_or1 (pt_cmpR op_lt (pv 1) pe_int (nomark _)))))
        (pss_one (ps_ret pe_bl))
        pss_nil)))
      (pss_one (ps_ret (pe_cmpR op_le (pe_callB (call_sum rfl) rfl T.n_sum (show bootBuiltins _ = some (.builtin "sum") from rfl) (pa_cons (pv 0) pa_nil)) (pe_gint T.g_MOST_TURNS rfl) (nomark _))))))), ?_⟩
  have hl : (List.map V.int ws).length = ws.length := List.length_map _
  have g1 := g.lo
  have g2 := g.hi
  refine ⟨_, rfl, _, _, _, _, _, rfl, ty_is, .lst ha, kit_ll, _, rfl, ?_⟩
  refine iteF ?_
  refine ⟨_, rfl, a, _, rfl, .inl (SqL.of ha), _, _, rfl, rfl, _, rfl, ?_⟩
  refine dF (by rw [hl]; omega) ?_
  refine ⟨_, rfl, a, _, rfl, .inl (SqL.of ha), _, _, rfl, rfl, _, rfl, ?_⟩
  refine dF (by rw [hl]; omega) ?_
  refine ⟨_, rfl, a, rfl, ⟨_, SqL.of ha⟩, for_list (K := K) (a := a) (xs := List.map V.int ws) (fun i σ H2 => (∃ o, σ = [some (.ref a), o]) ∧ H2 = H) ⟨⟨none, rfl⟩, rfl⟩ (fun i σ H2 _ ⟨_, e⟩ => by rw [e]; exact SqL.of ha) ?_ ?_⟩
  · rintro i y σ H2 hi ⟨⟨o, rfl⟩, rfl⟩
    obtain ⟨n, hn, rfl⟩ := item_int hi
    refine ⟨_, rfl, _, _, rfl, .int n, _, rfl, ?_⟩
    refine iteF ?_
    refine ⟨_, rfl, _, _, rfl, rfl, _, rfl, ?_⟩
    have := g.pos n (List.mem_of_getElem? hn)
    refine dF (by omega) ?_
    exact ⟨⟨_, rfl⟩, rfl⟩
  · rintro σ H2 ⟨⟨o, rfl⟩, rfl⟩
    refine ⟨_, rfl, a, ws, rfl, SqL.of ha, _, _, rfl, rfl, ?_⟩
    show Q (.bl (decide (ws.sum ≤ 100))) H2
    rw [decide_eq_true g.sum]
    exact q
theorem sc_may_have : FnScope ["weight", "dealt", "total", "turn"] ["weight", "dealt", "total", "turn"] (defScope s_may_have) := ⟨rfl, rfl, rfl, by decide +kernel, rfl, by decide +kernel, by decide +kernel⟩
theorem ok_may_have {f : Addr} {fd : FuncData} (F : Fun K "may_have" "may_have" s_may_have f fd) (T : Txt K mg) : FnOk P w K mg base CX0 1 f fd ["weight", "dealt", "total", "turn"] spMay := by
  have sc := sc_may_have
  refine F.ok sc (fun vs H Q E h => ?_) (fun cdv A outer s H vs Q E hr h => ?_)
  · obtain ⟨_, _, _, _, rfl, _⟩ := h
    rfl
  obtain ⟨v, d, t0, t, rfl, hw, ht, q⟩ := h
  refine ⟨_, (pss_one (ps_ret (pe_cmpR op_lt (pe_op op_mul (pv 1) (pv 2)) (pe_op op_mul (pv 0) (pe_op op_add (pv 3) pe_int)) (nomark _)))), ?_⟩
  refine ⟨_, rfl, _, rfl, _, _, rfl, rfl, .inr ⟨by omega, by omega⟩, _, rfl, _, rfl, _, _, rfl, rfl, _, _, rfl, rfl, .inl ⟨by omega, by omega⟩, _, _, rfl, rfl, q⟩
theorem sc_due_by : FnScope ["weight", "dealt", "total"] ["weight", "dealt", "total"] (defScope s_due_by) := ⟨rfl, rfl, rfl, by decide +kernel, rfl, by decide +kernel, by decide +kernel⟩
theorem ok_due_by {f : Addr} {fd : FuncData} (F : Fun K "due_by" "due_by" s_due_by f fd) (T : Txt K mg) : FnOk P w K mg base CX0 1 f fd ["weight", "dealt", "total"] spDue := by
  have sc := sc_due_by
  refine F.ok sc (fun vs H Q E h => ?_) (fun cdv A outer s H vs Q E hr h => ?_)
  · obtain ⟨_, _, _, rfl, _⟩ := h
    rfl
  obtain ⟨v, d, t0, rfl, hw, ht, q⟩ := h
  refine ⟨_, (pss_one (ps_ret (pe_op op_fdiv (pe_op op_sub (pe_op op_add (pe_op op_mul (pe_op op_add (pv 1) pe_int) (pv 2)) (pv 0)) pe_int) (pv 0)))), ?_⟩
  refine ⟨_, rfl, _, _, rfl, rfl, _, rfl, _, _, rfl, rfl, .inr ⟨by omega, by omega⟩, _, rfl, _, _, rfl, rfl, _, _, rfl, rfl, _, rfl, _, _, rfl, rfl, ⟨by omega, by omega⟩, q⟩
theorem sc_place_of_turn : FnScope ["weights", "dealt", "turn", "total", "places", "best", "place"] ["weights", "dealt", "turn"] (defScope s_place_of_turn) := ⟨rfl, rfl, rfl, by decide +kernel, rfl, by decide +kernel, by decide +kernel⟩
theorem ok_place_of_turn {f : Addr} {fd : FuncData} (F : Fun K "place_of_turn" "place_of_turn" s_place_of_turn f fd) (T : Txt K mg) (Cmay_have : Cal P w K mg base 1 "may_have" ["weight", "dealt", "total", "turn"] spMay) (Cdue_by : Cal P w K mg base 1 "due_by" ["weight", "dealt", "total"] spDue) :
    FnOk P w K mg base CX0 2 f fd ["weights", "dealt", "turn"] spPlace := by
  have sc := sc_place_of_turn
  refine F.ok sc (fun vs H Q E h => ?_) (fun cdv A outer s H vs Q E hr h => ?_)
  · obtain ⟨_, _, _, _, _, rfl, _⟩ := h
    rfl
  obtain ⟨a, b, ws, ds, t, rfl, ha, hb, g, hlen, hsum, q⟩ := h
  refine ⟨_, (pss_cons (ps_set (i := 3) sc.nd rfl (Or.inr rfl) (pe_callB (call_sum rfl) rfl T.n_sum (show bootBuiltins _ = some (.builtin "sum") from rfl) (pa_cons (pv 0) pa_nil)))
      (pss_cons (ps_comp (NC := ["k", "total", "turn", "weights", "dealt"]) (own := ["k"]) (cs := ["total", "turn", "weights", "dealt"]) (ix := [3, 2, 0, 1]) (j := 4) sc.nd rfl rfl rfl (CompScope.of rfl) rfl ⟨⟨rfl, .inl rfl, rfl⟩, ⟨⟨rfl, .inl rfl, rfl⟩, ⟨⟨rfl, .inl rfl, rfl⟩, ⟨⟨rfl, .inl rfl, rfl⟩, trivial⟩⟩⟩⟩ (pi_range1 rfl T.n_range (pa_cons (pe_callB call_len_seq rfl T.n_len (show bootBuiltins _ = some (.builtin "len") from rfl) (pa_cons (pv 0) pa_nil)) pa_nil)) (fun _ _ _ => (pg_name (i := 0) (show (["k", "total", "turn", "weights", "dealt"] : List Str).Nodup from by decide +kernel) rfl (Or.inl rfl))) (fun _ _ _ => (pts_one (pt_val (pe_callC Cmay_have (hr.mono (by decide)) rfl (pa_cons (pe_ix (ix_listK (K := K) rfl) (pv 3) (pv 0) (fun _ _ => rfl)) (pa_cons (pe_ix (ix_listK (K := K) rfl) (pv 4) (pv 0) (fun _ _ => rfl)) (pa_cons (pv 1) (pa_cons (pv 2) pa_nil)))))))) (fun _ _ _ => (pv 0)))
      (pss_cons (ps_set (i := 5) sc.nd rfl (Or.inl rfl) (pe_ix ix_list (pv 4) pe_int (fun _ _ => rfl)))
      (pss_cons (ps_for PassesOwn.never rfl (pi_list (pv 4)) (pg_name (i := 6) sc.nd rfl (Or.inl rfl))
        (pss_one (ps_if (pt_cmpR op_lt (pe_callC Cdue_by (hr.mono (by decide)) rfl (pa_cons (pe_ix ix_list (pv 0) (pv 6) (fun _ _ => rfl)) (pa_cons (pe_ix ix_list (pv 1) (pv 6) (fun _ _ => rfl)) (pa_cons (pv 3) pa_nil)))) (pe_callC Cdue_by (hr.mono (by decide)) rfl (pa_cons (pe_ix ix_list (pv 0) (pv 5) (fun _ _ => rfl)) (pa_cons (pe_ix ix_list (pv 1) (pv 5) (fun _ _ => rfl)) (pa_cons (pv 3) pa_nil)))) (nomark _))
        (pss_one (ps_set (i := 5) sc.nd rfl (Or.inl rfl) (pv 6)))
        pss_nil)))
      (pss_one (ps_ret (pv 5))))))), ?_⟩
  have hl : (List.map V.int ws).length = ws.length := List.length_map _
  have g1 := g.lo
  have g2 := g.hi
  have gs := g.sum
  have gp := CR.sum_pos g
  -- total = sum(weights)
  refine ⟨_, rfl, a, ws, rfl, SqL.of ha, ?_⟩
  -- places = [k for k in range(len(weights)) if may_have(..)]
  refine ⟨_, rfl, a, _, rfl, .inl (SqL.of ha), _, rfl, by omega, by omega, fun p hp => ?_⟩
  have ep : ((List.map V.int ws).length : Int).toNat = ws.length := by rw [hl]; omega
  rw [ep]
  refine comp_range (lo := 0) (n := ws.length) (fun i ys H2 => ys = (CR.placesTo ws ds t i).map V.int ∧ H2 p = some (.lst ys) ∧ Same H H2) ⟨rfl, upd_same, same_new hp _⟩ (fun i ys H2 _ ⟨e, h1, _⟩ => ⟨h1, by rw [e, List.length_map]; exact CR.placesTo_le _ _ _ _⟩) (by rw [sizeLine_eq]; omega) (fun i ys H2 hi ⟨e, h1, s1⟩ => ?_) (fun ys H2 ⟨e, h1, s1⟩ => ?_)
  · have hw := gw_at g (k := 0 + (i : Int)) (by omega) (by omega)
    refine ⟨_, rfl, _, rfl, a, _, _, _, rfl, rfl, SqL.of (s1 _ _ ha), at_intI (by omega) (by omega), _, rfl, _, rfl, b, _, _, _, rfl, rfl, SqL.of (s1 _ _ hb), at_intI (by omega) (by omega), _, rfl, _, rfl, _, _, _, _, rfl, ⟨by omega, by omega⟩, ⟨by omega, by omega⟩, _, rfl, ?_⟩
    have em : decide (ds.getD (0 + (i : Int)).toNat 0 * ws.sum < ws.getD (0 + (i : Int)).toNat 0 * ((t : Int) + 1)) = CR.may ws ds t i := by
      rw [show (0 + (i : Int)) = (i : Int) by omega]
      rfl
    rw [em]
    have es := CR.placesTo_succ ws ds t i
    cases c : CR.may ws ds t i with
    | false =>
      rw [c] at es
      refine iteF ⟨rfl, ?_, h1, s1⟩
      rw [es, e]
      simp
    | true =>
      rw [c] at es
      refine iteT ⟨_, rfl, h1, rfl, ?_, upd_same, fun x o z => ?_⟩
      · rw [es, e]
        simp
      · rw [upd_ne (ne_of_none z hp)]
        exact s1 x o z
  subst e
  have hpl : CR.placesTo ws ds t ws.length = CR.places ws ds t := rfl
  rw [hpl] at h1
  have hne := CR.places_ne (t := t) g hlen hsum
  -- best = places[0]
  have hd0 : atI ((CR.places ws ds t).map V.int) 0 = some (.int ((CR.places ws ds t).headD 0)) := by
    cases z : CR.places ws ds t with
    | nil => exact absurd z hne
    | cons x l => exact at_int (i := 0) rfl
  refine ⟨_, rfl, p, _, _, _, rfl, rfl, SqL.of h1, hd0, ?_⟩
  -- for place in places
  have inr : ∀ k : Int, k ∈ CR.places ws ds t → 0 ≤ k ∧ k < ws.length := fun k hk => ⟨(CR.placesTo_mem hk).1, (CR.placesTo_mem hk).2.1⟩
  refine ⟨_, rfl, p, rfl, ⟨_, SqL.of h1⟩, for_list (K := K) (a := p) (xs := (CR.places ws ds t).map V.int)
    (fun i σ H3 => (∃ o, ∃ best : Int, σ = [some (.ref a), some (.ref b), some (.int t), some (.int ws.sum), some (.ref p), some (.int best), o] ∧ best = CR.pick (CR.due ws ds) ((CR.places ws ds t).headD 0) ((CR.places ws ds t).take i) ∧ 0 ≤ best ∧ best < ws.length) ∧ H3 = H2)
    ⟨⟨none, _, rfl, rfl, ?_⟩, rfl⟩ (fun i σ H3 _ ⟨_, z⟩ => by rw [z]; exact SqL.of h1) ?_ ?_⟩
  · cases z : CR.places ws ds t with
    | nil => exact absurd z hne
    | cons x l => exact inr x (by rw [z]; exact List.mem_cons_self)
  · rintro i y σ H3 hi ⟨⟨o, best, rfl, eb, b0, b1⟩, rfl⟩
    obtain ⟨n, hn, rfl⟩ := item_int hi
    have hnm := inr n (List.mem_of_getElem? hn)
    have w1 := gw_at g hnm.1 hnm.2
    have w2 := gw_at g b0 b1
    refine ⟨_, rfl, _, rfl, a, _, _, _, rfl, rfl, SqL.of (s1 _ _ ha), at_intI hnm.1 hnm.2, _, rfl, _, rfl, b, _, _, _, rfl, rfl, SqL.of (s1 _ _ hb), at_intI hnm.1 (by omega), _, rfl, _, _, _, rfl, w1, ⟨by omega, by omega⟩, ?_⟩
    refine ⟨_, rfl, _, rfl, a, _, _, _, rfl, rfl, SqL.of (s1 _ _ ha), at_intI b0 b1, _, rfl, _, rfl, b, _, _, _, rfl, rfl, SqL.of (s1 _ _ hb), at_intI b0 (by omega), _, rfl, _, _, _, rfl, w2, ⟨by omega, by omega⟩, _, _, rfl, rfl, _, rfl, ?_⟩
    have et : (CR.places ws ds t).take (i + 1) = (CR.places ws ds t).take i ++ [n] := by rw [List.take_add_one, hn]; rfl
    have ef : CR.pick (CR.due ws ds) ((CR.places ws ds t).headD 0) ((CR.places ws ds t).take (i + 1)) = if CR.due ws ds n < CR.due ws ds best then n else best := by
      rw [et, eb]
      unfold CR.pick
      rw [List.foldl_append]
      rfl
    refine ite2 (fun c => ?_) (fun c => ?_)
    · have c' : CR.due ws ds n < CR.due ws ds best := of_decide_eq_true c
      refine ⟨_, rfl, ⟨⟨_, n, rfl, ?_, hnm⟩, rfl⟩⟩
      rw [ef, if_pos c']
    · have c' : ¬ CR.due ws ds n < CR.due ws ds best := of_decide_eq_false (Bool.eq_false_iff.mpr c)
      refine ⟨⟨_, best, rfl, ?_, b0, b1⟩, rfl⟩
      rw [ef, if_neg c']
  · rintro σ H3 ⟨⟨o, best, rfl, eb, b0, b1⟩, rfl⟩
    refine ⟨_, rfl, ?_⟩
    rw [List.length_map, List.take_length] at eb
    rw [eb]
    exact q _ s1
theorem sc_turns : FnScope ["weights", "dealt", "wheel", "turn", "place"] ["weights"] (defScope s_turns) := ⟨rfl, rfl, rfl, by decide +kernel, rfl, by decide +kernel, by decide +kernel⟩
theorem ok_turns {f : Addr} {fd : FuncData} (F : Fun K "turns" "turns" s_turns f fd) (T : Txt K mg) (Care_weights : Cal P w K mg base 2 "are_weights" ["thing"] spWeights) (Cplace_of_turn : Cal P w K mg base 2 "place_of_turn" ["weights", "dealt", "turn"] spPlace) :
    FnOk P w K mg base CX0 3 f fd ["weights"] spTurns := by
  have sc := sc_turns
  refine F.ok sc (fun vs H Q E h => ?_) (fun cdv A outer s H vs Q E hr h => ?_)
  · obtain ⟨_, _, rfl, _⟩ := h
    rfl
  obtain ⟨a, ws, rfl, ha, g, q⟩ := h
  refine ⟨_, (pss_cons (ps_if (pt_not (pt_val (pe_callC Care_weights (hr.mono (by decide)) rfl (pa_cons (pv 0) pa_nil))))
        (pss_one ps_never)
        pss_nil)
      (pss_cons (ps_comp (NC := ["weight"]) (own := ["weight"]) (cs := []) (ix := []) (j := 1) sc.nd rfl rfl rfl (CompScope.of rfl) rfl trivial (pi_list (pv 0)) (fun _ _ _ => (pg_name (i := 0) (show (["weight"] : List Str).Nodup from by decide +kernel) rfl (Or.inl rfl))) (fun _ _ _ => pts_nil) (fun _ _ _ => pe_int))
      (pss_cons (ps_set (i := 2) sc.nd rfl (Or.inl rfl) (pe_lst pa_nil))
      (pss_cons (ps_for PassesOwn.never rfl (pi_range1 rfl T.n_range (pa_cons (pe_callB (call_sum rfl) rfl T.n_sum (show bootBuiltins _ = some (.builtin "sum") from rfl) (pa_cons (pv 0) pa_nil)) pa_nil)) (pg_name (i := 3) sc.nd rfl (Or.inl rfl))
        (pss_cons (ps_set (i := 4) sc.nd rfl (Or.inl rfl) (pe_callC Cplace_of_turn (hr.mono (by decide)) rfl (pa_cons (pv 0) (pa_cons (pv 1) (pa_cons (pv 3) pa_nil)))))
      (pss_cons (ps_asg (pe_op op_add (pe_ix ix_list (pv 1) (pv 4) (fun _ _ => rfl)) pe_int) (pg_sub (pv 1) (pv 4) set_list))
      (pss_one (ps_expr (pe_bm PySem.F.plainAttrs_list PySem.F.slot_list_append PySem.F.type_list_append mt_append (pv 2) (pa_cons (pv 4) pa_nil)))))))
      (pss_one (ps_ret (pv 2))))))), ?_⟩
  have hl : (List.map V.int ws).length = ws.length := List.length_map _
  have g1 := g.lo
  have g2 := g.hi
  have gs := g.sum
  have gp := CR.sum_pos g
  refine ⟨_, rfl, a, ws, rfl, ha, g, _, rfl, ?_⟩
  refine iteF ?_
  -- dealt = [0 for weight in weights]
  refine ⟨_, rfl, a, rfl, ⟨_, SqL.of ha⟩, fun b hb => ?_⟩
  refine comp_list (K := K) (a := a) (xs := List.map V.int ws) (fun i ys H2 => ys = (List.replicate i (0 : Int)).map V.int ∧ H2 b = some (.lst ys) ∧ Same H H2) ⟨rfl, upd_same, same_new hb _⟩
    (fun i ys H2 _ ⟨e, h1, s1⟩ => ⟨h1, by rw [e, List.length_map, List.length_replicate]; exact Nat.le_refl _, SqL.of (s1 _ _ ha)⟩) (by rw [hl, sizeLine_eq]; omega) (fun i x ys H2 hi ⟨e, h1, s1⟩ => ?_) (fun ys H2 ⟨e, h1, s1⟩ => ?_)
  · show H2 b = some (.lst ys) ∧ _ ∧ _
    refine ⟨h1, rfl, ?_, upd_same, fun x o z => ?_⟩
    · rw [e, List.replicate_succ', List.map_append]
      rfl
    · rw [upd_ne (ne_of_none z hb)]
      exact s1 x o z
  subst e
  rw [hl] at h1
  -- wheel = []
  refine ⟨Nat.zero_le _, fun r hr' => ?_⟩
  have s2 : Same H2 (upd H2 r (.lst [])) := same_new hr' _
  have hab : a ≠ b := ne_of_none ha hb
  have har : a ≠ r := ne_of_none (s1 _ _ ha) hr'
  have hbr : b ≠ r := ne_of_none h1 hr'
  have hrH : H r = none := s1.free hr'
  -- for turn in range(sum(weights))
  refine ⟨_, rfl, a, ws, rfl, SqL.of (s2 _ _ (s1 _ _ ha)), _, rfl, by omega, by omega, for_range (lo := 0) (n := ws.sum.toNat)
    (fun i σ H3 => (∃ o1 o2, σ = [some (.ref a), some (.ref b), some (.ref r), o1, o2]) ∧ H3 b = some (.lst ((CR.run ws i).1.map V.int)) ∧ H3 r = some (.lst ((CR.run ws i).2.map V.int)) ∧ Same H H3)
    ⟨⟨none, none, rfl⟩, s2 _ _ h1, upd_same, s1.trans s2⟩ ?_ ?_⟩
  · rintro i σ H3 hi ⟨⟨o1, o2, rfl⟩, hb3, hr3, s3⟩
    have A0 := CR.run_at g i
    have hpl := CR.place_in (t := i) g A0.len A0.sum
    have ei : (0 + (i : Int)) = (i : Int) := by omega
    rw [ei]
    -- place = place_of_turn(weights, dealt, turn)
    refine ⟨_, rfl, _, rfl, _, rfl, a, b, ws, _, i, rfl, s3 _ _ ha, hb3, g, A0.len, A0.sum, fun H4 s4 => ?_⟩
    -- dealt[place] = dealt[place] + 1
    have lenb : ((CR.run ws i).1.map V.int).length = ws.length := by rw [List.length_map, A0.len]
    refine ⟨_, rfl, _, rfl, b, _, _, _, rfl, rfl, SqL.of (s4 _ _ hb3), at_intI hpl.1 (by rw [A0.len]; exact hpl.2.1), _, _, rfl, rfl, ?_⟩
    refine ⟨_, rfl, _, rfl, b, _, _, (CR.place ws (CR.run ws i).1 i).toNat, rfl, rfl, s4 _ _ hb3, ?_, ?_⟩
    · rw [lenb]
      exact ix_of hpl.1 hpl.2.1
    -- wheel.append(place)
    have hr5 : upd H4 b (.lst (((CR.run ws i).1.map V.int).set (CR.place ws (CR.run ws i).1 i).toNat (.int ((CR.run ws i).1.getD (CR.place ws (CR.run ws i).1 i).toNat 0 + 1)))) r = some (.lst ((CR.run ws i).2.map V.int)) := by
      rw [upd_ne hbr.symm]
      exact s4 _ _ hr3
    refine ⟨_, rfl, .inl ⟨rfl, _, SqL.of hr5⟩, _, rfl, r, _, _, rfl, rfl, hr5, ?_, ?_⟩
    · rw [List.length_map, A0.row, sizeLine_eq]
      omega
    refine ⟨⟨_, _, rfl⟩, ?_, ?_, fun x o z => ?_⟩
    · rw [upd_ne hbr, upd_same]
      congr 2
      show _ = (CR.put _ _).map V.int
      unfold CR.put
      rw [List.map_set]
      rfl
    · rw [upd_same]
      congr 2
      show _ = ((CR.run ws i).2 ++ [_]).map V.int
      rw [List.map_append]
      rfl
    · rw [upd_ne (ne_of_none z hrH), upd_ne (ne_of_none z hb)]
      exact s4 _ _ (s3 x o z)
  · rintro σ H3 ⟨⟨o1, o2, rfl⟩, hb3, hr3, s3⟩
    exact ⟨_, rfl, q r H3 s3 hrH hr3⟩
end


/-! ### the class Deal -/
def fldsD (wh wt : Addr) : List (Str × V) := putF "weights" (.ref wt) (putF "wheel" (.ref wh) [])
structure DealAt (C : Addr) (H : Hp) (d wh wt : Addr) (ws : List Int) : Prop where
  ob : ∃ dx, H d = some (.ins C dx (fldsD wh wt))
  hw : H wh = some (.lst (List.map V.int (CR.wheel ws)))
  ht : H wt = some (.lst (List.map V.int ws))
structure Dl (K : PySem.W.Frag) (C : Addr) : Prop where
  cl : Cls K C
  nW : NoAttr K C "wheel"
  nG : NoAttr K C "weights"
def spInit (C : Addr) : Sp := fun vs H Q _ => ∃ p dx a ws, vs = [.ref p, .ref a] ∧ H p = some (.ins C dx []) ∧ H a = some (.lst (List.map V.int ws)) ∧ CR.GW ws ∧
  ∀ wh wt H', (∀ b o, H b = some o → b ≠ p → H' b = some o) → DealAt C H' p wh wt ws → H wh = none → H wt = none → Q .non H'
theorem made_none {H : Hp} {x dx b : Addr} {o o' : HO} (h : upd (upd H dx o) x o' b = none) : H b = none := by
  by_cases e : b = x
  · subst e
    rw [upd_same] at h
    cases h
  · rw [upd_ne e] at h
    by_cases e' : b = dx
    · subst e'
      rw [upd_same] at h
      cases h
    · rw [upd_ne e'] at h
      exact h
section
variable {P : Program} {w : World} {K : PySem.W.Frag} {mg : Str → Option Value} {base : Heap}
theorem sc_Deal___init__ : FnScope ["self", "weights"] ["self", "weights"] (defScope s_Deal___init__) := ⟨rfl, rfl, rfl, by decide +kernel, rfl, by decide +kernel, by decide +kernel⟩
theorem ok_Deal___init__ {f C : Addr} {fd : FuncData} (F : Fun K "__init__" "Deal.__init__" s_Deal___init__ f fd) (T : Txt K mg) (L : Dl K C) (Cturns : Cal P w K mg base 3 "turns" ["weights"] spTurns) : FnOk P w K mg base CX0 4 f fd ["self", "weights"] (spInit C) := by
  have sc := sc_Deal___init__
  refine F.ok sc (fun vs H Q E h => ?_) (fun cdv A outer s H vs Q E hr h => ?_)
  · obtain ⟨_, _, _, _, rfl, _⟩ := h
    rfl
  obtain ⟨p, dx, a, ws, rfl, hp, ha, g, q⟩ := h
  refine ⟨_, (pss_cons (ps_fld (pv 0) (pe_callC Cturns (hr.mono (by decide)) rfl (pa_cons (pv 1) pa_nil)) rfl)
      (pss_one (ps_fld (pv 0) (pe_callTy call_list_of rfl T.n_list (show bootBuiltins _ = some (.type "list") from rfl) (pa_cons (pv 1) pa_nil)) rfl))), ?_⟩
  have hpa : a ≠ p := ne_of ha hp (by intro z; cases z)
  refine ⟨_, rfl, a, ws, rfl, ha, g, fun wh H1 s1 hwn h1 => ?_⟩
  refine ⟨_, rfl, p, C, dx, [], rfl, s1 _ _ hp, L.cl, L.nW, (by show 0 < 1000; decide), ?_⟩
  have hwp : wh ≠ p := (ne_of_none hp hwn).symm
  have ha2 : upd H1 p (.ins C dx (putF "wheel" (.ref wh) [])) a = some (.lst (List.map V.int ws)) := by rw [upd_ne hpa]; exact s1 _ _ ha
  refine ⟨_, rfl, a, _, rfl, .inl (SqL.of ha2), fun wt hwt => ?_⟩
  have hpt : p ≠ wt := fun z => by rw [← z, upd_same] at hwt; cases hwt
  have hwt1 : H1 wt = none := by rw [upd_ne hpt.symm] at hwt; exact hwt
  refine ⟨_, rfl, p, C, dx, _, rfl, (by rw [upd_ne hpt, upd_same]), L.cl, L.nG, (by show 1 < 1000; decide), ?_⟩
  refine q wh wt _ (fun b o e hb => ?_) ⟨⟨dx, upd_same⟩, ?_, ?_⟩ ?_ ?_
  · rw [upd_ne hb, upd_ne (ne_of_none (s1 _ _ e) hwt1), upd_ne hb]
    exact s1 _ _ e
  · rw [upd_ne hwp, upd_ne (ne_of_none h1 hwt1), upd_ne hwp]
    exact h1
  · rw [upd_ne hpt.symm, upd_same]
  · exact hwn
  · exact s1.free hwt1
end


/-! ### weights that are none -/
def goodI : V → Bool
  | .int i => decide (1 ≤ i)
  | _ => false
/-- not weights: no list; or a list of things whose kinds are known, of another length, with another item, or of too much -/
def badW (K : PySem.W.Frag) (H : Hp) (x : V) : Prop := (∃ T, TyOf K H x (.type T) ∧ T ≠ "list") ∨ ∃ a xs, x = .ref a ∧ H a = some (.lst xs) ∧ (∀ y ∈ xs, ∃ T, TyOf K H y (.type T)) ∧
  (xs.length < 1 ∨ 8 < xs.length ∨ (∃ y ∈ xs, goodI y = false) ∨ ∃ ns : List Int, xs = ns.map V.int ∧ 100 < ns.sum)
theorem TyOf.same {K : PySem.W.Frag} {H H' : Hp} {x : V} {t : Value} (h : TyOf K H x t) (s : Same H H') : TyOf K H' x t := by
  cases h with
  | non => exact .non
  | bl b => exact .bl b
  | int i => exact .int i
  | str i => exact .str i
  | flt i => exact .flt i
  | lst e => exact .lst (s _ _ e)
  | frz e => exact .frz (s _ _ e)
  | tup e => exact .tup (s _ _ e)
  | dK e => exact .dK (s _ _ e)
  | dT e => exact .dT (s _ _ e)
  | ins e cl ha hn htk hm => exact .ins (s _ _ e) cl ha hn htk hm
theorem list_kit {K : PySem.W.Frag} {H : Hp} {x : V} {T : String} (h : TyOf K H x (.type T)) (hT : T ≠ "list") : PySem.W.kitOne K (.type T) (.type "list") = some false := by
  cases h with
  | non => kernel_rfl
  | bl b => kernel_rfl
  | int i => kernel_rfl
  | str i => kernel_rfl
  | flt i => kernel_rfl
  | lst e => exact absurd rfl hT
  | frz e => exact absurd rfl hT
  | tup e => kernel_rfl
  | dK e => kernel_rfl
  | dT e => kernel_rfl
theorem good_ints : ∀ {xs : List V}, (∀ y ∈ xs, goodI y = true) → ∃ ns : List Int, xs = ns.map V.int
  | [], _ => ⟨[], rfl⟩
  | y :: xs, h => by
    obtain ⟨ns, e⟩ := good_ints (xs := xs) fun z hz => h z (List.mem_cons_of_mem _ hz)
    have hy := h y List.mem_cons_self
    cases y with
    | int i => exact ⟨i :: ns, by rw [e]; rfl⟩
    | _ => exact absurd (show false = true from hy) Bool.false_ne_true
def spAreNo (K : PySem.W.Frag) : Sp := fun vs H Q _ => ∃ x, vs = [x] ∧ badW K H x ∧ Q (.bl false) H
def spTurnsNo (K : PySem.W.Frag) (Cn : Addr) : Sp := fun vs H _ E => ∃ x, vs = [x] ∧ badW K H x ∧ E (.ref Cn) none H
def spInitNo (K : PySem.W.Frag) (Cn : Addr) : Sp := fun vs H _ E => ∃ a x, vs = [.ref a, x] ∧ badW K H x ∧ E (.ref Cn) none H
section
variable {P : Program} {w : World} {K : PySem.W.Frag} {mg : Str → Option Value} {base : Heap}
theorem ok_are_no {f : Addr} {fd : FuncData} (F : Fun K "are_weights" "are_weights" s_are_weights f fd) (T : Txt K mg) (Cis_whole : Cal P w K mg base 1 "is_whole" ["thing"] (spWhole K)) : FnOk P w K mg base CX0 2 f fd ["thing"] (spAreNo K) := by
  have sc := sc_are_weights
  refine F.ok sc (fun vs H Q E h => ?_) (fun cdv A outer s H vs Q E hr h => ?_)
  · obtain ⟨x, rfl, _⟩ := h
    rfl
  obtain ⟨x, rfl, hb, q⟩ := h
  refine ⟨_, (pss_cons (ps_if (pt_not (pt_val (pe_callB call_isinst rfl T.n_isinstance (show bootBuiltins _ = some (.builtin "isinstance") from rfl) (pa_cons (pv 0) (pa_cons (pe_ty "list" rfl T.n_list rfl) pa_nil)))))
        (pss_one (ps_ret pe_bl))
        pss_nil)
      (pss_cons (ps_if (PW.pt (pw_or (pt_cmpR op_lt (pe_callB call_len_seq rfl T.n_len (show bootBuiltins _ = some (.builtin "len") from rfl) (pa_cons (pv 0) pa_nil)) pe_int (nomark _)) (pw_or1 (pt_cmpR op_gt (pe_callB call_len_seq rfl T.n_len (show bootBuiltins _ = some (.builtin "len") from rfl) (pa_cons (pv 0) pa_nil)) (pe_gint T.g_MOST_PLACES rfl) (nomark _)))))
        (pss_one (ps_ret pe_bl))
        pss_nil)
      (pss_cons (ps_for PassesOwn.never rfl (pi_list (pv 0)) (pg_name (i := 1) sc.nd rfl (Or.inl rfl))
        (pss_one (ps_if (PW.pt (pw_or (pt_not (pt_val (pe_callC Cis_whole (hr.mono (by decide)) rfl (pa_cons (pv 1) pa_nil)))) (pw_or1 (pt_cmpR op_lt (pv 1) pe_int (nomark _)))))
        (pss_one (ps_ret pe_bl))
        pss_nil)))
      (pss_one (ps_ret (pe_cmpR op_le (pe_callB (call_sum rfl) rfl T.n_sum (show bootBuiltins _ = some (.builtin "sum") from rfl) (pa_cons (pv 0) pa_nil)) (pe_gint T.g_MOST_TURNS rfl) (nomark _))))))), ?_⟩
  rcases hb with ⟨T0, ty, hT⟩ | ⟨a, xs, rfl, ha, tys, hb⟩
  · refine ⟨_, rfl, _, _, _, _, _, rfl, ty_is, ty, list_kit ty hT, _, rfl, ?_⟩
    exact iteT q
  refine ⟨_, rfl, _, _, _, _, _, rfl, ty_is, .lst ha, kit_ll, _, rfl, ?_⟩
  refine iteF ?_
  refine ⟨_, rfl, a, _, rfl, .inl (SqL.of ha), _, _, rfl, rfl, _, rfl, ?_⟩
  by_cases h1 : xs.length < 1
  · exact dT (by omega) (iteT q)
  refine dF (by omega) ?_
  refine ⟨_, rfl, a, _, rfl, .inl (SqL.of ha), _, _, rfl, rfl, _, rfl, ?_⟩
  by_cases h2 : 8 < xs.length
  · exact dT (by omega) q
  refine dF (by omega) ?_
  refine ⟨_, rfl, a, rfl, ⟨_, SqL.of ha⟩, for_list (K := K) (a := a) (xs := xs) (fun i σ H2 => ((∃ o, σ = [some (.ref a), o]) ∧ H2 = H) ∧ ∀ j y, j < i → xs[j]? = some y → goodI y = true) ⟨⟨⟨none, rfl⟩, rfl⟩, fun _ _ z => absurd z (Nat.not_lt_zero _)⟩
    (fun i σ H2 _ ⟨⟨_, e⟩, _⟩ => by rw [e]; exact SqL.of ha) ?_ ?_⟩
  · rintro i y σ H2 hi ⟨⟨⟨o, rfl⟩, rfl⟩, good⟩
    obtain ⟨T1, ty⟩ := tys y (List.mem_of_getElem? hi)
    refine ⟨_, rfl, _, _, rfl, ty, _, rfl, ?_⟩
    have more : goodI y = true → ∀ j z, j < i + 1 → xs[j]? = some z → goodI z = true := fun gy j z hj hz => by
      by_cases e : j = i
      · subst e
        rw [hi] at hz
        cases hz
        exact gy
      · exact good j z (by omega) hz
    cases y with
    | int n =>
      refine iteF ?_
      refine ⟨_, rfl, _, _, rfl, rfl, _, rfl, ?_⟩
      by_cases hn : n < 1
      · exact dT hn q
      · exact dF hn ⟨⟨⟨_, rfl⟩, rfl⟩, more (decide_eq_true (by omega))⟩
    | _ => exact iteT (iteT q)
  · rintro σ H2 ⟨⟨⟨o, rfl⟩, rfl⟩, good⟩
    have all : ∀ y ∈ xs, goodI y = true := fun y hy => by
      obtain ⟨j, hj, e⟩ := List.getElem_of_mem hy
      exact good j y hj (by rw [List.getElem?_eq_getElem hj, e])
    rcases hb with hb | hb | ⟨y, hy, hb⟩ | ⟨ns, rfl, hb⟩
    · exact absurd hb h1
    · exact absurd hb h2
    · rw [all y hy] at hb
      cases hb
    · refine ⟨_, rfl, a, ns, rfl, SqL.of ha, _, _, rfl, rfl, ?_⟩
      show Q (.bl (decide (ns.sum ≤ 100))) H2
      rw [decide_eq_false (by omega)]
      exact q
theorem ok_turns_no {f : Addr} {fd : FuncData} {C_CoverError C_NoShares C_NoEntry C_NoCover C_NoBook C_Twice C_NotTold : Addr} (F : Fun K "turns" "turns" s_turns f fd) (T : Txt K mg) (Z : Xc K mg C_CoverError C_NoShares C_NoEntry C_NoCover C_NoBook C_Twice C_NotTold) (Care_weights : Cal P w K mg base 2 "are_weights" ["thing"] (spAreNo K)) (Cplace_of_turn : Cal P w K mg base 2 "place_of_turn" ["weights", "dealt", "turn"] spPlace) :
    FnOk P w K mg base (CX1 P w) 3 f fd ["weights"] (spTurnsNo K C_NoShares) := by
  have sc := sc_turns
  refine F.okX sc (fun vs H Q E h => ?_) (fun cdv A outer s H vs Q E hr h => ?_)
  · obtain ⟨_, rfl, _⟩ := h
    rfl
  obtain ⟨x, rfl, hb, q⟩ := h
  refine ⟨_, (pss_cons (ps_if (pt_not (pt_val (pe_callC Care_weights (hr.mono (by decide)) rfl (pa_cons (pv 0) pa_nil))))
        (pss_one (ps_raise wish_fn rfl Z.x_NoShares rfl (pa_cons pe_str pa_nil)))
        pss_nil)
      (pss_cons (ps_comp (NC := ["weight"]) (own := ["weight"]) (cs := []) (ix := []) (j := 1) sc.nd rfl rfl rfl (CompScope.of rfl) rfl trivial (pi_list (pv 0)) (fun _ _ _ => (pg_name (i := 0) (show (["weight"] : List Str).Nodup from by decide +kernel) rfl (Or.inl rfl))) (fun _ _ _ => pts_nil) (fun _ _ _ => pe_int))
      (pss_cons (ps_set (i := 2) sc.nd rfl (Or.inl rfl) (pe_lst pa_nil))
      (pss_cons (ps_for PassesOwn.leaving rfl (pi_range1 rfl T.n_range (pa_cons (pe_callB (call_sum rfl) rfl T.n_sum (show bootBuiltins _ = some (.builtin "sum") from rfl) (pa_cons (pv 0) pa_nil)) pa_nil)) (pg_name (i := 3) sc.nd rfl (Or.inl rfl))
        (pss_cons (ps_set (i := 4) sc.nd rfl (Or.inl rfl) (pe_callC Cplace_of_turn (hr.mono (by decide)) rfl (pa_cons (pv 0) (pa_cons (pv 1) (pa_cons (pv 3) pa_nil)))))
      (pss_cons (ps_asg (pe_op op_add (pe_ix ix_list (pv 1) (pv 4) (fun _ _ => rfl)) pe_int) (pg_sub (pv 1) (pv 4) set_list))
      (pss_one (ps_expr (pe_bm PySem.F.plainAttrs_list PySem.F.slot_list_append PySem.F.type_list_append mt_append (pv 2) (pa_cons (pv 4) pa_nil)))))))
      (pss_one (ps_ret (pv 2))))))), ?_⟩
  exact ⟨_, rfl, x, rfl, hb, _, rfl, iteT ⟨le_line (by show 1 ≤ 1000; decide), q⟩⟩
theorem ok_init_no {f C : Addr} {fd : FuncData} {C_CoverError C_NoShares C_NoEntry C_NoCover C_NoBook C_Twice C_NotTold : Addr} (F : Fun K "__init__" "Deal.__init__" s_Deal___init__ f fd) (T : Txt K mg) (Z : Xc K mg C_CoverError C_NoShares C_NoEntry C_NoCover C_NoBook C_Twice C_NotTold) (Cturns : CalX P w K mg base 3 "turns" ["weights"] (spTurnsNo K C_NoShares)) :
    FnOk P w K mg base (CX1 P w) 4 f fd ["self", "weights"] (spInitNo K C_NoShares) := by
  have sc := sc_Deal___init__
  refine F.okX sc (fun vs H Q E h => ?_) (fun cdv A outer s H vs Q E hr h => ?_)
  · obtain ⟨_, _, rfl, _⟩ := h
    rfl
  obtain ⟨a, x, rfl, hb, q⟩ := h
  refine ⟨_, (pss_cons (ps_fld (pv 0) (pe_callX Cturns (hr.mono (by decide)) wish_fn rfl (pa_cons (pv 1) pa_nil)) rfl)
      (pss_one (ps_fld (pv 0) (pe_callTy call_list_of rfl T.n_list (show bootBuiltins _ = some (.type "list") from rfl) (pa_cons (pv 1) pa_nil)) rfl))), ?_⟩
  exact ⟨_, rfl, x, rfl, hb, q⟩
end


theorem made_same {C : Addr} {H H2 : Hp} {x dx : Addr} (nx : H x = none) (ndx : H dx = none) (kp : ∀ b o, (upd (upd H dx (.own x)) x (.ins C dx [])) b = some o → b ≠ x → H2 b = some o) : Same H H2 := fun b o e =>
  kp b o (by rw [upd_ne (ne_of_none e nx), upd_ne (ne_of_none e ndx)]; exact e) (ne_of_none e nx)
/-! ### covers: all that a cover may be made of -/
def KB (p : Addr) (H H' : Hp) : Prop := ∀ b o, H b = some o → b ≠ p → H' b = some o
theorem KB.upd {p : Addr} {H H' : Hp} (k : KB p H H') (o : HO) : KB p H (upd H' p o) := fun b u e n => by rw [upd_ne n]; exact k b u e n
theorem KB.same {p : Addr} {H H' H'' : Hp} (k : KB p H H') (s : Same H' H'') : KB p H H'' := fun b u e n => s _ _ (k b u e n)
theorem KB.free {p : Addr} {H H' : Hp} {b : Addr} (k : KB p H H') (n : b ≠ p) (h : H' b = none) : H b = none := by
  cases z : H b with
  | none => rfl
  | some o =>
    have := k _ _ z n
    rw [h] at this
    cases this
theorem atG {i : Nat} {v : V} {nx : St → Hp → Prop} {σ : St} {H : Hp} (σ' : St) (e : σ.set i (some v) = σ') (h : nx σ' H) : gName i v σ H nx := by
  unfold gName
  rw [e]
  exact h
theorem flat_strs (l : List Str) : (l.map V.str).all flatV = true := by
  rw [List.all_map]
  exact List.all_eq_true.mpr fun _ _ => rfl
theorem take_snoc {α : Type} {l : List α} {i : Nat} {x : α} (h : l[i]? = some x) : l.take (i + 1) = l.take i ++ [x] := by
  rw [List.take_add_one, h]
  rfl
theorem f1 {f g : Str} {v : V} {fs : List (Str × V)} (h : ¬ g = f) : (putF f v fs).lookup g = fs.lookup g := by rw [lookup_putF, if_neg h]
theorem f0 {f : Str} {v : V} {fs : List (Str × V)} : (putF f v fs).lookup f = some v := by rw [lookup_putF, if_pos rfl]
theorem len_putF (f : Str) (v : V) : ∀ fs : List (Str × V), (putF f v fs).length ≤ fs.length + 1
  | [] => Nat.le_refl _
  | (g, u) :: fs => by
    unfold putF
    split
    · simp
    · have := len_putF f v fs
      simp only [List.length_cons]
      omega
/-- a list of pairs -/
abbrev Pr := V × V
def Prs (H : Hp) : List V → List Pr → Prop
  | [], [] => True
  | x :: xs, p :: ps => (∃ t, x = .ref t ∧ H t = some (.tup [p.1, p.2])) ∧ Prs H xs ps
  | _, _ => False
theorem Prs.len {H : Hp} : ∀ {xs : List V} {ps : List Pr}, Prs H xs ps → xs.length = ps.length
  | [], [], _ => rfl
  | [], _ :: _, h => h.elim
  | _ :: _, [], h => h.elim
  | x :: xs, p :: ps, h => by rw [List.length_cons, List.length_cons, Prs.len h.2]
theorem Prs.mono {H H' : Hp} (s : Tst H H') : ∀ {xs : List V} {ps : List Pr}, Prs H xs ps → Prs H' xs ps
  | [], [], _ => trivial
  | [], _ :: _, h => h.elim
  | _ :: _, [], h => h.elim
  | x :: xs, p :: ps, ⟨⟨t, e, h⟩, r⟩ => ⟨⟨t, e, s _ _ h⟩, Prs.mono s r⟩
theorem Prs.get {H : Hp} : ∀ {xs : List V} {ps : List Pr} {i : Nat} {x : V}, Prs H xs ps → xs[i]? = some x → ∃ t p, ps[i]? = some p ∧ x = .ref t ∧ H t = some (.tup [p.1, p.2])
  | [], [], _, _, _, e => by simp at e
  | [], _ :: _, _, _, h, _ => h.elim
  | _ :: _, [], _, _, h, _ => h.elim
  | x :: xs, p :: ps, 0, y, ⟨⟨t, e, h⟩, r⟩, q => by
    simp at q
    subst q
    exact ⟨t, p, rfl, e, h⟩
  | x :: xs, p :: ps, i + 1, y, ⟨_, r⟩, q => by
    obtain ⟨t, p', h1, h2⟩ := Prs.get (i := i) r (by simpa using q)
    exact ⟨t, p', by simpa using h1, h2⟩
theorem Prs.one {H : Hp} {t : Addr} {a b : V} (h : H t = some (.tup [a, b])) : Prs H [.ref t] [(a, b)] := ⟨⟨t, rfl, h⟩, trivial⟩
/-- names, each once -/
def GoodHs (l : List V) : Prop := ∃ ns : List Str, l = ns.map V.str ∧ (∀ z ∈ ns, nameV (.str z) = true) ∧ ns.Nodup
def GoodWs (l : List V) : Prop := ∃ ws : List Int, l = ws.map V.int ∧ CR.GW ws
theorem goodHs_snoc {l : List V} {z : Str} (g : GoodHs l) (n : nameV (.str z) = true) (ni : inV (.str z) l = false) : GoodHs (l ++ [.str z]) := by
  obtain ⟨ns, rfl, h1, h2⟩ := g
  refine ⟨ns ++ [z], by rw [List.map_append]; rfl, fun y hy => ?_, ?_⟩
  · rcases List.mem_append.mp hy with hy | hy
    · exact h1 y hy
    · rw [List.mem_singleton.mp hy]; exact n
  · rw [List.nodup_append]
    refine ⟨h2, List.pairwise_singleton _ _, fun a ha b hb e => ?_⟩
    rw [List.mem_singleton.mp hb] at e
    subst e
    unfold inV at ni
    rw [List.any_map, List.any_eq_false] at ni
    exact ni a ha (by show eqV (.str a) (.str a) = true; simp [eqV])
theorem goodHs_take {l : List V} (k : Nat) (g : GoodHs l) : GoodHs (l.take k) := by
  obtain ⟨ns, rfl, h1, h2⟩ := g
  exact ⟨ns.take k, by rw [List.map_take], fun z hz => h1 z (List.mem_of_mem_take hz), h2.sublist (List.take_sublist _ _)⟩
theorem goodHs_last {l : List V} {x : V} (g : GoodHs (l ++ [x])) : ∃ z, x = .str z ∧ nameV (.str z) = true ∧ inV (.str z) l = false := by
  obtain ⟨ns, e, h1, h2⟩ := g
  rcases List.eq_nil_or_concat ns with rfl | ⟨ms, z, rfl⟩
  · simp at e
  rw [List.concat_eq_append] at e h1 h2
  rw [List.map_append] at e
  obtain ⟨e1, e2⟩ := List.append_inj' e rfl
  have e2' : x = .str z := by simpa using e2
  refine ⟨z, e2', h1 z (by simp), ?_⟩
  rw [e1]
  unfold inV
  rw [List.any_map, List.any_eq_false]
  intro y hy c
  have c' : eqV (.str y) (.str z) = true := c
  have : y = z := by simpa [eqV] using c'
  subst this
  rw [List.nodup_append] at h2
  exact h2.2.2 y hy y (by simp) rfl
theorem bad_ws {K : PySem.W.Frag} {H : Hp} {a : Addr} {xs : List V} (h : H a = some (.lst xs)) (ty : ∀ y ∈ xs, ∃ T, TyOf K H y (.type T)) (n : ¬ GoodWs xs) : badW K H (.ref a) := by
  refine .inr ⟨a, xs, rfl, h, ty, ?_⟩
  by_cases c1 : xs.length < 1
  · exact .inl c1
  by_cases c2 : 8 < xs.length
  · exact .inr (.inl c2)
  by_cases c3 : ∃ y ∈ xs, goodI y = false
  · exact .inr (.inr (.inl c3))
  obtain ⟨ns, rfl⟩ := good_ints (xs := xs) fun y hy => by
    cases z : goodI y with
    | true => rfl
    | false => exact absurd ⟨y, hy, z⟩ c3
  refine .inr (.inr (.inr ⟨ns, rfl, ?_⟩))
  by_cases c4 : 100 < ns.sum
  · exact c4
  · refine absurd ⟨ns, rfl, ?_⟩ n
    rw [List.length_map] at c1 c2
    refine ⟨by omega, by omega, fun i hi => ?_, by omega⟩
    by_cases c5 : 1 ≤ i
    · exact c5
    · exact absurd ⟨_, List.mem_map.mpr ⟨i, hi, rfl⟩, decide_eq_false c5⟩ c3
def spHouses (K : PySem.W.Frag) (Cn : Addr) : Sp := fun vs H Q E => ∃ a hs, vs = [.ref a] ∧ H a = some (.lst hs) ∧ hs.length ≤ 900 ∧ (∀ y ∈ hs, okX y ∧ ∃ T, TyOf K H y (.type T)) ∧ (GoodHs hs → ∀ H', Same H H' → Q .non H') ∧ (¬ GoodHs hs → ∀ H', Same H H' → E (.ref Cn) none H')
/-- the cover at p: what it keeps -/
structure CvAt (C CD : Addr) (H : Hp) (p cl hv d wh wt : Addr) (nm : Str) (cd wv : V) (cs : List V) (hs : List V) (ws : List Int) : Prop where
  ob : ∃ dx fs, H p = some (.ins C dx fs) ∧ fs.lookup ("name" : Str) = some (.str nm) ∧ fs.lookup ("condition" : Str) = some cd ∧ fs.lookup ("clauses" : Str) = some (.ref cl) ∧ fs.lookup ("houses" : Str) = some (.ref hv) ∧ fs.lookup ("deal" : Str) = some (.ref d) ∧ fs.lookup ("waits" : Str) = some wv ∧ fs.lookup ("asks" : Str) = none
  hc : H cl = some (.lst cs)
  hh : H hv = some (.lst hs)
  hd : DealAt CD H d wh wt ws
/-- what is told of the clauses, of the houses -/
def ClsIn (H : Hp) (cv : V) (cs : List V) : Prop := (cv = .non ∧ cs = []) ∨ ∃ c0, cv = .ref c0 ∧ H c0 = some (.lst cs)
def HssIn (H : Hp) (x hv : V) (prs : List Pr) : Prop := (hv = .non ∧ prs = [(x, .int 1)]) ∨ ∃ h0 ys, hv = .ref h0 ∧ H h0 = some (.lst ys) ∧ Prs H ys prs
def goodN (x : V) : Prop := nameV x = true ∧ x ≠ .str "self"
def spCov (K : PySem.W.Frag) (C CD Cn Cs : Addr) : Sp := fun vs H Q E => ∃ p dx x T cd cv cs hv prs wv, vs = [.ref p, x, cd, cv, hv, wv] ∧ H p = some (.ins C dx []) ∧ TyOf K H x (.type T) ∧ okX x ∧ ClsIn H cv cs ∧ HssIn H x hv prs ∧ prs.length ≤ 900 ∧
  (∀ z ∈ prs, okX z.1 ∧ (∃ T, TyOf K H z.1 (.type T)) ∧ ∃ T, TyOf K H z.2 (.type T)) ∧
  (¬ goodN x ∨ 8 < cs.length ∨ ¬ GoodHs (prs.map (·.1)) → ∀ H', KB p H H' → E (.ref Cn) none H') ∧
  (goodN x → cs.length ≤ 8 → GoodHs (prs.map (·.1)) → ¬ GoodWs (prs.map (·.2)) → ∀ H', KB p H H' → E (.ref Cs) none H') ∧
  (∀ nm ws, x = .str nm → goodN x → cs.length ≤ 8 → GoodHs (prs.map (·.1)) → prs.map (·.2) = ws.map V.int → CR.GW ws → ∀ cl h1 d wh wt H', KB p H H' → CvAt C CD H' p cl h1 d wh wt nm cd wv cs (prs.map (·.1)) ws → H cl = none → H h1 = none → H d = none → H wh = none → H wt = none → Q .non H')
theorem TyOf.put {K : PySem.W.Frag} {H H' : Hp} {x : V} {T : String} {p C dx : Addr} {fs : List (Str × V)} (t : TyOf K H x (.type T)) (hp : H p = some (.ins C dx fs)) (k : KB p H H') : TyOf K H' x (.type T) := by
  have ne : ∀ {a : Addr} {o : HO}, H a = some o → (∀ C dx fs, o ≠ .ins C dx fs) → a ≠ p := fun e h z => by
    subst z
    rw [hp] at e
    injection e with e
    exact h _ _ _ e.symm
  cases t with
  | non => exact .non
  | bl b => exact .bl b
  | int i => exact .int i
  | str i => exact .str i
  | flt i => exact .flt i
  | lst e => exact .lst (k _ _ e (ne e (fun _ _ _ => nofun)))
  | frz e => exact .frz (k _ _ e (ne e (fun _ _ _ => nofun)))
  | tup e => exact .tup (k _ _ e (ne e (fun _ _ _ => nofun)))
  | dK e => exact .dK (k _ _ e (ne e (fun _ _ _ => nofun)))
  | dT e => exact .dT (k _ _ e (ne e (fun _ _ _ => nofun)))
section
variable {P : Program} {w : World} {K : PySem.W.Frag} {mg : Str → Option Value} {base : Heap} {C_Book C_Counts C_Condition C_Deal C_Cover : Addr} {C_CoverError C_NoShares C_NoEntry C_NoCover C_NoBook C_Twice C_NotTold : Addr}
theorem sc_check_houses : FnScope ["houses", "k", "house"] ["houses"] (defScope s_check_houses) := ⟨rfl, rfl, rfl, by decide +kernel, rfl, by decide +kernel, by decide +kernel⟩
theorem ok_check_houses {f : Addr} {fd : FuncData} (F : Fun K "check_houses" "check_houses" s_check_houses f fd) (T : Txt K mg) (Z : Xc K mg C_CoverError C_NoShares C_NoEntry C_NoCover C_NoBook C_Twice C_NotTold) (Cis_name : Cal P w K mg base 2 "is_name" ["thing"] (spName K)) : FnOk P w K mg base (CX1 P w) 3 f fd ["houses"] (spHouses K C_NoCover) := by
  have sc := sc_check_houses
  refine F.okX sc (fun vs H Q E h => ?_) (fun cdv A outer s H vs Q E hr h => ?_)
  · obtain ⟨_, _, rfl, _⟩ := h
    rfl
  obtain ⟨a, hs, rfl, ha, l9, ty, q, r⟩ := h
  refine ⟨_, (pss_one (ps_for PassesOwn.leaving rfl (pi_enum rfl T.n_enumerate (pa_cons (pv 0) pa_nil)) (pg_tup (n := 2) rfl (pgs_cons (pg_name (i := 1) sc.nd rfl (Or.inl rfl)) (pgs_cons (pg_name (i := 2) sc.nd rfl (Or.inl rfl)) pgs_nil)))
        (pss_one (ps_if (PW.pt (pw_or (pt_not (pt_val (pe_callC Cis_name (hr.mono (by decide)) rfl (pa_cons (pv 2) pa_nil)))) (pw_or1 (pt_cmpR op_in_seq (pv 2) (pe_slice sl_list (pv 0) po_none (po_some (pv 1))) rfl))))
        (pss_one (ps_raise wish_fn rfl Z.x_NoCover rfl (pa_cons pe_str pa_nil)))
        pss_nil)))), ?_⟩
  have one : 1 ≤ sizeLine := by rw [sizeLine_eq]; decide
  refine ⟨_, rfl, a, rfl, ⟨_, SqL.of ha⟩, for_enum (K := K) (a := a) (xs := hs) (fun i σ H2 => ((∃ o1 o2, σ = [some (.ref a), o1, o2]) ∧ GoodHs (hs.take i)) ∧ Same H H2) ⟨⟨⟨none, none, rfl⟩, ⟨[], rfl, fun _ z => (nomatch z), List.Pairwise.nil⟩⟩, fun _ _ z => z⟩ (fun i σ H2 _ ⟨_, e⟩ => SqL.of (e _ _ ha)) ?_ ?_⟩
  · rintro i x σ H2 t hi ⟨⟨⟨o1, o2, rfl⟩, g⟩, s2⟩ nt
    obtain ⟨ok, T0, ty0⟩ := ty x (List.mem_of_getElem? hi)
    have s3 := s2.trans (same_new nt (.tup [.int i, x]))
    have il : i < hs.length := (List.getElem?_eq_some_iff.mp hi).1
    have no : ∀ {z : Str}, x = .str z → (nameV x = false ∨ inV x (hs.take i) = true) → ¬ GoodHs hs := fun e h gd => by
      have g2 := goodHs_take (i + 1) gd
      rw [take_snoc hi] at g2
      obtain ⟨z, e1, h1, h2⟩ := goodHs_last g2
      rw [e1] at h
      rcases h with h | h
      · rw [h1] at h; cases h
      · rw [h2] at h; cases h
    have no' : nameV x = false → ¬ GoodHs hs := fun h gd => by
      have g2 := goodHs_take (i + 1) gd
      rw [take_snoc hi] at g2
      obtain ⟨z, e1, h1, h2⟩ := goodHs_last g2
      rw [e1, h1] at h
      cases h
    refine ⟨_, rfl, _, _, rfl, TyOf.same ty0 s3, ok, _, rfl, ?_⟩
    cases nx : nameV x with
    | false => exact iteT (iteT ⟨one, r (no' nx) _ s3⟩)
    | true =>
      refine iteF ?_
      obtain ⟨z, rfl⟩ : ∃ z, x = .str z := by
        cases x with
        | str z => exact ⟨z, rfl⟩
        | _ => exact absurd (show false = true from nx) Bool.false_ne_true
      refine ⟨_, rfl, _, rfl, _, rfl, _, rfl, a, _, rfl, SqL.of (s3 _ _ ha), fun m nm => ?_⟩
      have ec : cutV hs none (some (i : Int)) = hs.take i := by
        unfold cutV
        have e1 : HT.sIx hs.length hs.length (some (i : Int)) = i := by rw [HT.sIx_nat]; omega
        rw [e1, HT.sIx_none, List.drop_zero, Nat.sub_zero]
      have s4 := s3.trans (same_new nm (.lst (cutV hs none (some (i : Int)))))
      have fl : (hs.take i).all flatV = true := by
        obtain ⟨ns, e, _⟩ := g
        rw [e]
        exact flat_strs ns
      refine ⟨m, hs.take i, rfl, .inl (SqL.of (by rw [upd_same, ec])), rfl, fl, _, rfl, ?_⟩
      show if inV (.str z) (hs.take i) = true then _ else _
      cases c : inV (.str z) (hs.take i) with
      | true => exact iteT ⟨one, r (no rfl (.inr c)) _ s4⟩
      | false => exact iteF ⟨⟨⟨_, _, rfl⟩, by rw [take_snoc hi]; exact goodHs_snoc g nx c⟩, s4⟩
  · rintro σ H2 ⟨⟨⟨o1, o2, rfl⟩, g⟩, s2⟩
    rw [List.take_length] at g
    exact q g _ s2
end
/-- a if c else b, then what follows, of either value -/
theorem join_e {c : Prop} {inst : Decidable c} {t u : TE} {σ : St} {H : Hp} {Q : VK} (G : V → Hp → Prop) (h1 : c → ∀ Q' : VK, (∀ v H', G v H' → Q' v H') → t σ H Q') (h2 : ¬ c → ∀ Q' : VK, (∀ v H', G v H' → Q' v H') → u σ H Q') (R : ∀ v H', G v H' → Q v H') :
    @ite Prop c inst (t σ H Q) (u σ H Q) := by
  by_cases z : c
  · rw [if_pos z]; exact h1 z Q R
  · rw [if_neg z]; exact h2 z Q R
section
variable {P : Program} {w : World} {K : PySem.W.Frag} {mg : Str → Option Value} {base : Heap} {C_Book C_Counts C_Condition C_Deal C_Cover : Addr} {C_CoverError C_NoShares C_NoEntry C_NoCover C_NoBook C_Twice C_NotTold : Addr}
theorem sc_Cover___init__ : FnScope ["self", "name", "condition", "clauses", "houses", "waits", "pairs"] ["self", "name", "condition", "clauses", "houses", "waits"] (defScope s_Cover___init__) := ⟨rfl, rfl, rfl, by decide +kernel, rfl, by decide +kernel, by decide +kernel⟩
seal L2.PS L2.PSs L2.PE L2.PA
theorem ok_Cover___init__ {f : Addr} {fd : FuncData} (F : FunD K "__init__" "Cover.__init__" s_Cover___init__ f fd) (T : Txt K mg) (L : Kl K mg C_Book C_Counts C_Condition C_Deal C_Cover) (Z : Xc K mg C_CoverError C_NoShares C_NoEntry C_NoCover C_NoBook C_Twice C_NotTold) (Cis_name : Cal P w K mg base 2 "is_name" ["thing"] (spName K)) (Ccheck_houses : CalX P w K mg base 3 "check_houses" ["houses"] (spHouses K C_NoCover))
    (KDeal : KCalX P w K mg base 4 "Deal" C_Deal ["self", "weights"] (fun vs H Q E => spInit C_Deal vs H Q E ∨ spInitNo K C_NoShares vs H Q E)) : FnOk P w K mg base (CX1 P w) 6 f fd ["self", "name", "condition", "clauses", "houses", "waits"] (spCov K C_Cover C_Deal C_NoCover C_NoShares) := by
  have sc := sc_Cover___init__
  refine F.okX sc (fun vs H Q E h => ?_) (fun cdv A outer s H vs Q E hr h => ?_)
  · obtain ⟨_, _, _, _, _, _, _, _, _, _, rfl, _⟩ := h
    rfl
  obtain ⟨p, dx, x, T0, cd, cv, cs, hv, prs, wv, rfl, hp, ty, okx, hcl, hhs, l9, typ, rN, rS, q⟩ := h
  refine ⟨_, (pss_cons (ps_if (PW.pt (pw_or (pt_not (pt_val (pe_callC Cis_name (hr.mono (by decide)) rfl (pa_cons (pv 1) pa_nil)))) (pw_or1 (pt_cmpR op_eq (pv 1) (pe_gstr T.g_COVERED_ONE rfl) (nomark _)))))
        (pss_one (ps_raise wish_fn rfl Z.x_NoCover rfl (pa_cons pe_str pa_nil)))
        pss_nil)
      (pss_cons (ps_fld (pv 0) (pv 1) rfl)
      (pss_cons (ps_fld (pv 0) (pv 2) rfl)
      (pss_cons (ps_fld (pv 0) (pe_ifExp (pt_cmpR op_isN (pv 3) pe_non (nomark _)) (pe_lst pa_nil) (pe_callTy call_list_of rfl T.n_list (show bootBuiltins _ = some (.type "list") from rfl) (pa_cons (pv 3) pa_nil))) rfl)
      (pss_cons (ps_if (pt_cmpR op_gt (pe_callB call_len_seq rfl T.n_len (show bootBuiltins _ = some (.builtin "len") from rfl) (pa_cons (pe_fld (pv 0) rfl) pa_nil)) (pe_gint T.g_MOST_CLAUSES rfl) (nomark _))
        (pss_one (ps_raise wish_fn rfl Z.x_NoCover rfl (pa_cons pe_str pa_nil)))
        pss_nil)
      (pss_cons (ps_set (i := 6) sc.nd rfl (Or.inl rfl) (pe_ifExp (pt_cmpR op_isN (pv 4) pe_non (nomark _)) (pe_lst (pa_cons (pe_tup (pa_cons (pv 1) (pa_cons pe_int pa_nil))) pa_nil)) (pv 4)))
      (pss_cons (ps_fld (pv 0) (pe_comp (NC := ["pair"]) (own := ["pair"]) (cs := []) (ix := []) rfl (CompScope.of rfl) rfl trivial (pi_list (pv 6)) (fun _ _ _ => (pg_name (i := 0) (show (["pair"] : List Str).Nodup from by decide +kernel) rfl (Or.inl rfl))) (fun _ _ _ => pts_nil) (fun _ _ _ => (pe_ix (ix_tupK (K := K) rfl) (pv 0) pe_int (fun _ _ => rfl)))) rfl)
      (pss_cons (ps_expr (pe_callX Ccheck_houses (hr.mono (by decide)) wish_fn rfl (pa_cons (pe_fld (pv 0) rfl) pa_nil)))
      (pss_cons (ps_fld (pv 0) (pe_makeX KDeal (hr.mono (by decide)) wish_fn rfl (pa_cons (pe_comp (NC := ["pair"]) (own := ["pair"]) (cs := []) (ix := []) rfl (CompScope.of rfl) rfl trivial (pi_list (pv 6)) (fun _ _ _ => (pg_name (i := 0) (show (["pair"] : List Str).Nodup from by decide +kernel) rfl (Or.inl rfl))) (fun _ _ _ => pts_nil) (fun _ _ _ => (pe_ix (ix_tupK (K := K) rfl) (pv 0) pe_int (fun _ _ => rfl)))) pa_nil)) rfl)
      (pss_one (ps_fld (pv 0) (pv 5) rfl))))))))))), ?_⟩
  have one : 1 ≤ sizeLine := by rw [sizeLine_eq]; decide
  have two : 2 ≤ sizeLine := by rw [sizeLine_eq]; decide
  have keep : ∀ {H' : Hp}, KB p H H' → Tst H H' := fun k t zs e => k _ _ e (ne_of e hp (by intro z; cases z))
  have k0 : KB p H H := fun _ _ e _ => e
  refine ⟨_, rfl, _, _, rfl, ty, okx, _, rfl, ?_⟩
  cases nx : nameV x with
  | false => exact iteT (iteT ⟨one, rN (.inl fun g => by rw [g.1] at nx; cases nx) _ k0⟩)
  | true =>
  refine iteF ?_
  obtain ⟨nm, rfl⟩ : ∃ z, x = .str z := by
    cases x with
    | str z => exact ⟨z, rfl⟩
    | _ => exact absurd (show false = true from nx) Bool.false_ne_true
  refine ⟨_, rfl, rfl, _, rfl, ?_⟩
  by_cases ns : V.str nm = V.str "self"
  · exact dT ns ⟨one, rN (.inl fun g => g.2 ns) _ k0⟩
  refine dF ns ?_
  have gn : goodN (.str nm) := ⟨nx, ns⟩
  -- name, condition
  refine ⟨_, rfl, _, rfl, p, C_Cover, dx, [], rfl, hp, L.cl_Cover, L.na_Cover_name, by decide, ?_⟩
  refine ⟨_, rfl, _, rfl, p, C_Cover, dx, _, rfl, upd_same, L.cl_Cover, L.na_Cover_condition, Nat.lt_of_le_of_lt (len_putF _ _ _) (by decide), ?_⟩
  have k2 : KB p H (upd (upd H p (.ins C_Cover dx (putF "name" (.str nm) []))) p (.ins C_Cover dx (putF "condition" cd (putF "name" (.str nm) [])))) := KB.upd (KB.upd k0 _) _
  have e2 : upd (upd H p (.ins C_Cover dx (putF "name" (.str nm) []))) p (.ins C_Cover dx (putF "condition" cd (putF "name" (.str nm) []))) p = some (.ins C_Cover dx (putF "condition" cd (putF "name" (.str nm) []))) := upd_same
  have g2 : (putF "condition" cd (putF "name" (.str nm) [])).length ≤ 2 := Nat.le_trans (len_putF _ _ _) (Nat.succ_le_succ (len_putF _ _ _))
  have n2 : (putF "condition" cd (putF "name" (.str nm) [])).lookup ("name" : Str) = some (.str nm) := by rw [f1 (by decide +kernel), f0]
  have c2 : (putF "condition" cd (putF "name" (.str nm) [])).lookup ("condition" : Str) = some cd := f0
  have a2 : (putF "condition" cd (putF "name" (.str nm) [])).lookup ("asks" : Str) = none := by rw [f1 (by decide +kernel), f1 (by decide +kernel)]; rfl
  generalize putF "condition" cd (putF "name" (.str nm) []) = fs2 at k2 e2 g2 n2 c2 a2
  generalize upd (upd H p (.ins C_Cover dx (putF "name" (.str nm) []))) p (.ins C_Cover dx fs2) = H2 at k2 e2
  -- clauses
  refine ⟨_, rfl, rfl, _, rfl, ?_⟩
  refine join_e (fun v H' => ∃ cl, v = .ref cl ∧ H2 cl = none ∧ H' = upd H2 cl (.lst cs)) (fun c Q' k => ?_) (fun c Q' k => ?_) ?_
  · have c' : cv = .non := of_decide_eq_true c
    rcases hcl with ⟨_, rfl⟩ | ⟨c0, e, _⟩
    · exact ⟨Nat.zero_le _, fun cl ncl => k _ _ ⟨cl, rfl, ncl, rfl⟩⟩
    · rw [c'] at e; cases e
  · have c' : cv ≠ .non := fun e => c (decide_eq_true e)
    rcases hcl with ⟨e, _⟩ | ⟨c0, rfl, hc⟩
    · exact absurd e c'
    · have ncp : c0 ≠ p := ne_of hc hp (by intro z; cases z)
      exact ⟨_, rfl, c0, _, rfl, .inl (SqL.of (k2 _ _ hc ncp)), fun cl ncl => k _ _ ⟨cl, rfl, ncl, rfl⟩⟩
  rintro v H3 ⟨cl, rfl, ncl, rfl⟩
  have s3 := same_new ncl (.lst cs)
  have ncl' : cl ≠ p := (ne_of_none e2 ncl).symm
  refine ⟨_, rfl, p, C_Cover, dx, fs2, rfl, s3 _ _ e2, L.cl_Cover, L.na_Cover_clauses, by omega, ?_⟩
  have k3 : KB p H (upd (upd H2 cl (.lst cs)) p (.ins C_Cover dx (putF "clauses" (.ref cl) fs2))) := (k2.same s3).upd _
  have e3 : upd (upd H2 cl (.lst cs)) p (.ins C_Cover dx (putF "clauses" (.ref cl) fs2)) p = some (.ins C_Cover dx (putF "clauses" (.ref cl) fs2)) := upd_same
  have c3 : upd (upd H2 cl (.lst cs)) p (.ins C_Cover dx (putF "clauses" (.ref cl) fs2)) cl = some (.lst cs) := by rw [upd_ne ncl', upd_same]
  have fcl : H cl = none := k2.free ncl' ncl
  have g3 : (putF "clauses" (.ref cl) fs2).length ≤ 3 := Nat.le_trans (len_putF _ _ _) (by omega)
  have w3 : (putF "clauses" (.ref cl) fs2).lookup ("clauses" : Str) = some (.ref cl) := f0
  have n3 : (putF "clauses" (.ref cl) fs2).lookup ("name" : Str) = some (.str nm) := by rw [f1 (by decide +kernel)]; exact n2
  have d3 : (putF "clauses" (.ref cl) fs2).lookup ("condition" : Str) = some cd := by rw [f1 (by decide +kernel)]; exact c2
  have a3 : (putF "clauses" (.ref cl) fs2).lookup ("asks" : Str) = none := by rw [f1 (by decide +kernel)]; exact a2
  generalize putF "clauses" (.ref cl) fs2 = fs3 at k3 e3 c3 g3 w3 n3 d3 a3
  generalize upd (upd H2 cl (.lst cs)) p (.ins C_Cover dx fs3) = H3 at k3 e3 c3
  refine ⟨_, rfl, p, C_Cover, dx, fs3, _, rfl, e3, L.cl_Cover, L.na_Cover_clauses, w3, cl, _, rfl, .inl (SqL.of c3), _, _, rfl, rfl, _, rfl, ?_⟩
  by_cases l8 : 8 < cs.length
  · exact dT (by omega) ⟨one, rN (.inr (.inl l8)) _ k3⟩
  refine dF (by omega) ?_
  have l8' : cs.length ≤ 8 := by omega
  -- pairs
  refine ⟨_, rfl, rfl, _, rfl, ?_⟩
  refine join_e (fun v H' => ∃ pl ys, v = .ref pl ∧ Same H3 H' ∧ H' pl = some (.lst ys) ∧ Prs H' ys prs) (fun c Q' k => ?_) (fun c Q' k => ?_) ?_
  · have c' : hv = .non := of_decide_eq_true c
    rcases hhs with ⟨_, rfl⟩ | ⟨c0, _, e, _⟩
    · refine ⟨_, rfl, two, fun t nt => ⟨one, fun pl npl => k _ _ ⟨pl, [.ref t], rfl, (same_new nt _).trans (same_new npl _), upd_same, Prs.one (same_new npl _ _ _ upd_same)⟩⟩⟩
    · rw [c'] at e; cases e
  · have c' : hv ≠ .non := fun e => c (decide_eq_true e)
    rcases hhs with ⟨e, _⟩ | ⟨h0, ys, rfl, hh, ph⟩
    · exact absurd e c'
    · have ncp : h0 ≠ p := ne_of hh hp (by intro z; cases z)
      exact ⟨_, rfl, k _ _ ⟨h0, ys, rfl, fun _ _ z => z, k3 _ _ hh ncp, ph.mono (keep k3)⟩⟩
  rintro v H4 ⟨pl, ys, rfl, s4, ep, pp⟩
  refine atG [some (.ref p), some (.str nm), some cd, some cv, some hv, some wv, some (.ref pl)] rfl ?_
  have e4 := s4 _ _ e3
  have c4 := s4 _ _ c3
  have k4 := k3.same s4
  have lp := pp.len
  have npp : pl ≠ p := ne_of ep e4 (by intro z; cases z)
  -- houses
  refine ⟨_, rfl, pl, rfl, ⟨_, SqL.of ep⟩, fun h1 nh => ?_⟩
  refine comp_list (K := K) (a := pl) (xs := ys) (fun i zs H5 => zs = ((prs.take i).map (·.1)) ∧ H5 h1 = some (.lst zs) ∧ Same H4 H5) ⟨rfl, upd_same, same_new nh _⟩
    (fun i zs H5 _ ⟨e, h1', s5⟩ => ⟨h1', by rw [e, List.length_map, List.length_take]; omega, SqL.of (s5 _ _ ep)⟩) (by rw [sizeLine_eq]; omega) (fun i x zs H5 hi ⟨e, h1', s5⟩ => ?_) (fun zs H5 ⟨e, h1', s5⟩ => ?_)
  · obtain ⟨t, r, hp', rfl, ht⟩ := pp.get hi
    refine ⟨_, rfl, t, _, _, _, rfl, rfl, SqT.of (s5 _ _ ht), rfl, h1', rfl, ?_, upd_same, fun b o z => ?_⟩
    · rw [take_snoc hp', List.map_append, e]
      rfl
    · rw [upd_ne (ne_of_none z nh)]
      exact s5 b o z
  subst e
  rw [lp, List.take_length] at h1'
  have e5 := s5 _ _ e4
  have k5 := k4.same s5
  have nhp : h1 ≠ p := (ne_of_none e4 nh).symm
  have fh1 : H h1 = none := k4.free nhp nh
  refine ⟨_, rfl, p, C_Cover, dx, fs3, rfl, e5, L.cl_Cover, L.na_Cover_houses, by omega, ?_⟩
  have e6 : upd H5 p (.ins C_Cover dx (putF "houses" (.ref h1) fs3)) p = some (.ins C_Cover dx (putF "houses" (.ref h1) fs3)) := upd_same
  have h6 : upd H5 p (.ins C_Cover dx (putF "houses" (.ref h1) fs3)) h1 = some (.lst (prs.map (·.1))) := by rw [upd_ne nhp]; exact h1'
  have ep6 : upd H5 p (.ins C_Cover dx (putF "houses" (.ref h1) fs3)) pl = some (.lst ys) := by rw [upd_ne npp]; exact s5 _ _ ep
  have c6 : upd H5 p (.ins C_Cover dx (putF "houses" (.ref h1) fs3)) cl = some (.lst cs) := by rw [upd_ne ncl']; exact s5 _ _ c4
  have pp6 : Prs (upd H5 p (.ins C_Cover dx (putF "houses" (.ref h1) fs3))) ys prs := pp.mono fun t zs z => by
    have z' := s5 _ _ z
    rw [upd_ne (ne_of z' e5 (by intro e; cases e))]
    exact z'
  have k6 : KB p H (upd H5 p (.ins C_Cover dx (putF "houses" (.ref h1) fs3))) := k5.upd _
  have g6 : (putF "houses" (.ref h1) fs3).length ≤ 4 := Nat.le_trans (len_putF _ _ _) (by omega)
  have v6 : (putF "houses" (.ref h1) fs3).lookup ("houses" : Str) = some (.ref h1) := f0
  have w6 : (putF "houses" (.ref h1) fs3).lookup ("clauses" : Str) = some (.ref cl) := by rw [f1 (by decide +kernel)]; exact w3
  have n6 : (putF "houses" (.ref h1) fs3).lookup ("name" : Str) = some (.str nm) := by rw [f1 (by decide +kernel)]; exact n3
  have d6 : (putF "houses" (.ref h1) fs3).lookup ("condition" : Str) = some cd := by rw [f1 (by decide +kernel)]; exact d3
  have a6 : (putF "houses" (.ref h1) fs3).lookup ("asks" : Str) = none := by rw [f1 (by decide +kernel)]; exact a3
  generalize putF "houses" (.ref h1) fs3 = fs6 at e6 h6 ep6 c6 pp6 k6 g6 v6 w6 n6 d6 a6
  generalize upd H5 p (.ins C_Cover dx fs6) = H6 at e6 h6 ep6 c6 pp6 k6
  refine ⟨_, rfl, p, C_Cover, dx, fs6, _, rfl, e6, L.cl_Cover, L.na_Cover_houses, v6, h1, prs.map (·.1), rfl, h6, by rw [List.length_map]; exact l9, fun y hy => ?_, fun gh H7 s7 => ?_, fun nh' H7 s7 => rN (.inr (.inr nh')) _ (k6.same s7)⟩
  · obtain ⟨z, hz, rfl⟩ := List.mem_map.mp hy
    obtain ⟨o1, ⟨T1, t1⟩, _⟩ := typ z hz
    exact ⟨o1, T1, TyOf.put t1 hp k6⟩
  have e7 := s7 _ _ e6
  have c7 := s7 _ _ c6
  have h7 := s7 _ _ h6
  have ep7 := s7 _ _ ep6
  have pp7 := pp6.mono (tst_same s7)
  have k7 := k6.same s7
  -- deal
  refine ⟨_, rfl, pl, rfl, ⟨_, SqL.of ep7⟩, fun wl nwl => ?_⟩
  refine comp_list (K := K) (a := pl) (xs := ys) (fun i zs H8 => zs = ((prs.take i).map (·.2)) ∧ H8 wl = some (.lst zs) ∧ Same H7 H8) ⟨rfl, upd_same, same_new nwl _⟩
    (fun i zs H8 _ ⟨e, h2, s8⟩ => ⟨h2, by rw [e, List.length_map, List.length_take]; omega, SqL.of (s8 _ _ ep7)⟩) (by rw [sizeLine_eq]; omega) (fun i x zs H8 hi ⟨e, h2, s8⟩ => ?_) (fun zs H8 ⟨e, h2, s8⟩ => ?_)
  · obtain ⟨t, r, hp', rfl, ht⟩ := pp7.get hi
    refine ⟨_, rfl, t, _, _, _, rfl, rfl, SqT.of (s8 _ _ ht), rfl, h2, rfl, ?_, upd_same, fun b o z => ?_⟩
    · rw [take_snoc hp', List.map_append, e]
      rfl
    · rw [upd_ne (ne_of_none z nwl)]
      exact s8 b o z
  subst e
  rw [lp, List.take_length] at h2
  have e8 := s8 _ _ e7
  have c8 := s8 _ _ c7
  have h8 := s8 _ _ h7
  have k8 := k7.same s8
  intro d dd nd ndd nde
  have nwd : wl ≠ d := ne_of_none h2 nd
  have nwdd : wl ≠ dd := ne_of_none h2 ndd
  have npd : d ≠ p := (ne_of_none e8 nd).symm
  have s9 : Same H8 (upd (upd H8 dd (.own d)) d (.ins C_Deal dd [])) := (same_new ndd _).trans (same_new (by rw [upd_ne (Ne.symm nde)]; exact nd) _)
  have k9 := k8.same s9
  have h29 := s9 _ _ h2
  by_cases gw : GoodWs (prs.map (·.2))
  · obtain ⟨ws, ew, gws⟩ := gw
    rw [ew] at h29
    refine .inl ⟨d, dd, wl, ws, rfl, upd_same, h29, gws, fun wh wt H9 kp9 D9 nwh nwt => ⟨rfl, ?_⟩⟩
    have s10 : Same H8 H9 := made_same nd ndd kp9
    have e10 := s10 _ _ e8
    have c10 := s10 _ _ c8
    have h10 := s10 _ _ h8
    have k10 := k8.same s10
    have npwh : wh ≠ p := (ne_of_none e8 (made_none nwh)).symm
    have npwt : wt ≠ p := (ne_of_none e8 (made_none nwt)).symm
    refine ⟨_, rfl, p, C_Cover, dx, fs6, rfl, e10, L.cl_Cover, L.na_Cover_deal, by omega, ?_⟩
    have g10 : (putF "deal" (.ref d) fs6).length ≤ 5 := Nat.le_trans (len_putF _ _ _) (by omega)
    have v10 : (putF "deal" (.ref d) fs6).lookup ("houses" : Str) = some (.ref h1) := by rw [f1 (by decide +kernel)]; exact v6
    have w10 : (putF "deal" (.ref d) fs6).lookup ("clauses" : Str) = some (.ref cl) := by rw [f1 (by decide +kernel)]; exact w6
    have n10 : (putF "deal" (.ref d) fs6).lookup ("name" : Str) = some (.str nm) := by rw [f1 (by decide +kernel)]; exact n6
    have d10 : (putF "deal" (.ref d) fs6).lookup ("condition" : Str) = some cd := by rw [f1 (by decide +kernel)]; exact d6
    have a10 : (putF "deal" (.ref d) fs6).lookup ("asks" : Str) = none := by rw [f1 (by decide +kernel)]; exact a6
    have y10 : (putF "deal" (.ref d) fs6).lookup ("deal" : Str) = some (.ref d) := f0
    generalize putF "deal" (.ref d) fs6 = fs10 at g10 v10 w10 n10 d10 a10 y10
    refine ⟨_, rfl, _, rfl, p, C_Cover, dx, _, rfl, upd_same, L.cl_Cover, L.na_Cover_waits, by omega, ?_⟩
    obtain ⟨⟨dq, q1⟩, q2, q3⟩ := D9
    refine q nm ws rfl gn l8' gh ew gws cl h1 d wh wt _ ((k10.upd _).upd _) ⟨⟨dx, _, upd_same, by rw [f1 (by decide +kernel)]; exact n10, by rw [f1 (by decide +kernel)]; exact d10, by rw [f1 (by decide +kernel)]; exact w10, by rw [f1 (by decide +kernel)]; exact v10, by rw [f1 (by decide +kernel)]; exact y10, f0, by rw [f1 (by decide +kernel)]; exact a10⟩, ?_, ?_, ⟨dq, ?_⟩, ?_, ?_⟩ fcl fh1 (k8.free npd nd) (k8.free npwh (made_none nwh)) (k8.free npwt (made_none nwt))
    · rw [upd_ne ncl', upd_ne ncl']; exact c10
    · rw [upd_ne nhp, upd_ne nhp]; exact h10
    · rw [upd_ne npd, upd_ne npd]; exact q1
    · rw [upd_ne npwh, upd_ne npwh]; exact q2
    · rw [upd_ne npwt, upd_ne npwt]; exact q3
  · refine .inr ⟨d, .ref wl, rfl, bad_ws h29 (fun y hy => ?_) gw, rS gn l8' gh gw _ k9⟩
    obtain ⟨z, hz, rfl⟩ := List.mem_map.mp hy
    obtain ⟨_, _, T1, t1⟩ := typ z hz
    exact ⟨T1, TyOf.put t1 hp k9⟩
end


/-! ### books -/
/-- a cover: where it lies, its name, whether it waits -/
abbrev Cv := Addr × Str × Bool
def cvV (c : Cv) : V := .ref c.1
def CvsAt (C : Addr) (H : Hp) (cs : List Cv) : Prop := ∀ c ∈ cs, ∃ dx fs, H c.1 = some (.ins C dx fs) ∧ fs.lookup ("name" : Str) = some (.str c.2.1) ∧ fs.lookup ("waits" : Str) = some (.bl c.2.2)
theorem CvsAt.same {C : Addr} {H H' : Hp} {cs : List Cv} (h : CvsAt C H cs) (s : Same H H') : CvsAt C H' cs := fun c hc => by
  obtain ⟨dx, fs, e, r⟩ := h c hc
  exact ⟨dx, fs, s _ _ e, r⟩
theorem CvsAt.get {C : Addr} {H : Hp} {cs : List Cv} {i : Nat} {x : V} (h : CvsAt C H cs) (e : (cs.map cvV)[i]? = some x) : ∃ c dx fs, cs[i]? = some c ∧ x = .ref c.1 ∧ c ∈ cs ∧ H c.1 = some (.ins C dx fs) ∧ fs.lookup ("name" : Str) = some (.str c.2.1) ∧ fs.lookup ("waits" : Str) = some (.bl c.2.2) := by
  rw [List.getElem?_map] at e
  obtain ⟨c, hc, rfl⟩ := Option.map_eq_some_iff.mp e
  have m := List.mem_of_getElem? hc
  obtain ⟨dx, fs, r⟩ := h c m
  exact ⟨c, dx, fs, hc, rfl, m, r⟩
theorem CvsAt.ne {C CB : Addr} {H : Hp} {cs : List Cv} {p dx : Addr} (h : CvsAt C H cs) (hp : H p = some (.ins CB dx [])) : ∀ c ∈ cs, c.1 ≠ p := fun c hc z => by
  obtain ⟨d2, fs, e, n, _⟩ := h c hc
  rw [z, hp] at e
  injection e with e
  injection e with _ _ e
  subst e
  cases n
theorem CvsAt.kb {C CB : Addr} {H H' : Hp} {cs : List Cv} {p dx : Addr} (h : CvsAt C H cs) (hp : H p = some (.ins CB dx [])) (k : KB p H H') : CvsAt C H' cs := fun c hc => by
  obtain ⟨d2, fs, e, r⟩ := h c hc
  exact ⟨d2, fs, k _ _ e (h.ne hp c hc), r⟩
def askL (cs : List Cv) : List Cv := cs.filter (fun c => !c.2.2) ++ cs.filter (fun c => c.2.2)
structure BkAt (CB : Addr) (H : Hp) (p cl ak : Addr) (cs : List Cv) : Prop where
  ob : ∃ dx fs, H p = some (.ins CB dx fs) ∧ fs.lookup ("covers" : Str) = some (.ref cl) ∧ fs.lookup ("asking" : Str) = some (.ref ak) ∧ fs.lookup ("named" : Str) = none
  hc : H cl = some (.lst (cs.map cvV))
  ha : H ak = some (.lst ((askL cs).map cvV))
theorem BkAt.same {CB : Addr} {H H' : Hp} {p cl ak : Addr} {cs : List Cv} (h : BkAt CB H p cl ak cs) (s : Same H H') : BkAt CB H' p cl ak cs := by
  obtain ⟨⟨dx, fs, e, r⟩, h1, h2⟩ := h
  exact ⟨⟨dx, fs, s _ _ e, r⟩, s _ _ h1, s _ _ h2⟩
def spBook (C CB Cn : Addr) : Sp := fun vs H Q E => ∃ p dx a cs, vs = [.ref p, .ref a] ∧ H p = some (.ins CB dx []) ∧ H a = some (.lst (cs.map cvV)) ∧ CvsAt C H cs ∧ cs.length < 60 ∧
  (cs.length ≤ 8 → (cs.map (·.2.1)).Nodup → ∀ cl ak H', KB p H H' → BkAt CB H' p cl ak cs → H cl = none → H ak = none → Q .non H') ∧
  (8 < cs.length ∨ ¬ (cs.map (·.2.1)).Nodup → ∀ H', KB p H H' → E (.ref Cn) none H')
theorem filt_take {α : Type} {l : List α} {f : α → Bool} {i : Nat} {x : α} (h : l[i]? = some x) : (l.take (i + 1)).filter f = (l.take i).filter f ++ if f x = true then [x] else [] := by
  rw [take_snoc h, List.filter_append]
  by_cases c : f x = true
  · rw [if_pos c, List.filter_cons_of_pos c, List.filter_nil]
  · rw [if_neg c, List.filter_cons_of_neg c, List.filter_nil]
section
variable {P : Program} {w : World} {K : PySem.W.Frag} {mg : Str → Option Value} {base : Heap} {C_Book C_Counts C_Condition C_Deal C_Cover : Addr} {C_CoverError C_NoShares C_NoEntry C_NoCover C_NoBook C_Twice C_NotTold : Addr}
theorem sc_Book___init__ : FnScope ["self", "covers", "names", "firm", "waiting"] ["self", "covers"] (defScope s_Book___init__) := ⟨rfl, rfl, rfl, by decide +kernel, rfl, by decide +kernel, by decide +kernel⟩
theorem ok_Book___init__ {f : Addr} {fd : FuncData} (F : Fun K "__init__" "Book.__init__" s_Book___init__ f fd) (T : Txt K mg) (L : Kl K mg C_Book C_Counts C_Condition C_Deal C_Cover) (Z : Xc K mg C_CoverError C_NoShares C_NoEntry C_NoCover C_NoBook C_Twice C_NotTold) : FnOk P w K mg base (CX1 P w) 1 f fd ["self", "covers"] (spBook C_Cover C_Book C_NoBook) := by
  have sc := sc_Book___init__
  refine F.okX sc (fun vs H Q E h => ?_) (fun cdv A outer s H vs Q E hr h => ?_)
  · obtain ⟨_, _, _, _, rfl, _⟩ := h
    rfl
  obtain ⟨p, dx, a, cs, rfl, hp, ha, hcs, l60, q, r⟩ := h
  refine ⟨_, (pss_cons (ps_if (pt_cmpR op_gt (pe_callB call_len_seq rfl T.n_len (show bootBuiltins _ = some (.builtin "len") from rfl) (pa_cons (pv 1) pa_nil)) (pe_gint T.g_MOST_COVERS rfl) (nomark _))
        (pss_one (ps_raise wish_fn rfl Z.x_NoBook rfl (pa_cons pe_str pa_nil)))
        pss_nil)
      (pss_cons (ps_comp (NC := ["cover"]) (own := ["cover"]) (cs := []) (ix := []) (j := 2) sc.nd rfl rfl rfl (CompScope.of rfl) rfl trivial (pi_list (pv 1)) (fun _ _ _ => (pg_name (i := 0) (show (["cover"] : List Str).Nodup from by decide +kernel) rfl (Or.inl rfl))) (fun _ _ _ => pts_nil) (fun _ _ _ => (pe_fldK (K := K) (pv 0) rfl)))
      (pss_cons (ps_if (pt_cmpR op_lt (pe_lenSet (pv 2) rfl rfl T.n_len rfl T.n_set) (pe_callB call_len_seq rfl T.n_len (show bootBuiltins _ = some (.builtin "len") from rfl) (pa_cons (pv 2) pa_nil)) (nomark _))
        (pss_one (ps_raise wish_fn rfl Z.x_NoBook rfl (pa_cons pe_str pa_nil)))
        pss_nil)
      (pss_cons (ps_fld (pv 0) (pe_callTy call_list_of rfl T.n_list (show bootBuiltins _ = some (.type "list") from rfl) (pa_cons (pv 1) pa_nil)) rfl)
      (pss_cons (ps_comp (NC := ["cover"]) (own := ["cover"]) (cs := []) (ix := []) (j := 3) sc.nd rfl rfl rfl (CompScope.of rfl) rfl trivial (pi_list (pv 1)) (fun _ _ _ => (pg_name (i := 0) (show (["cover"] : List Str).Nodup from by decide +kernel) rfl (Or.inl rfl))) (fun _ _ _ => (pts_one (pt_not (pt_val (pe_fldK (K := K) (pv 0) rfl))))) (fun _ _ _ => (pv 0)))
      (pss_cons (ps_comp (NC := ["cover"]) (own := ["cover"]) (cs := []) (ix := []) (j := 4) sc.nd rfl rfl rfl (CompScope.of rfl) rfl trivial (pi_list (pv 1)) (fun _ _ _ => (pg_name (i := 0) (show (["cover"] : List Str).Nodup from by decide +kernel) rfl (Or.inl rfl))) (fun _ _ _ => (pts_one (pt_val (pe_fldK (K := K) (pv 0) rfl)))) (fun _ _ _ => (pv 0)))
      (pss_one (ps_fld (pv 0) (pe_op op_cat (pv 3) (pv 4)) rfl)))))))), ?_⟩
  have one : 1 ≤ sizeLine := by rw [sizeLine_eq]; decide
  have k0 : KB p H H := fun _ _ e _ => e
  have lm : (cs.map cvV).length = cs.length := List.length_map _
  have nap : a ≠ p := ne_of ha hp (by intro z; cases z)
  refine ⟨_, rfl, a, _, rfl, .inl (SqL.of ha), _, _, rfl, rfl, _, rfl, ?_⟩
  by_cases l8 : 8 < cs.length
  · exact dT (by rw [lm]; omega) ⟨one, r (.inl l8) _ k0⟩
  refine dF (by rw [lm]; omega) ?_
  -- names
  refine ⟨_, rfl, a, rfl, ⟨_, SqL.of ha⟩, fun n nn => ?_⟩
  refine comp_list (K := K) (a := a) (xs := cs.map cvV) (fun i ys H2 => ys = ((cs.take i).map (·.2.1)).map V.str ∧ H2 n = some (.lst ys) ∧ Same H H2) ⟨rfl, upd_same, same_new nn _⟩
    (fun i ys H2 _ ⟨e, h1, s2⟩ => ⟨h1, by rw [e, List.length_map, List.length_map, List.length_take]; omega, SqL.of (s2 _ _ ha)⟩) (by rw [sizeLine_eq]; omega) (fun i x ys H2 hi ⟨e, h1, s2⟩ => ?_) (fun ys H2 ⟨e, h1, s2⟩ => ?_)
  · obtain ⟨c, dc, fc, ec, rfl, mc, hc, n1, w1⟩ := hcs.get hi
    refine ⟨_, rfl, c.1, C_Cover, dc, fc, _, rfl, s2 _ _ hc, L.cl_Cover, L.na_Cover_name, n1, h1, rfl, ?_, upd_same, fun b o z => ?_⟩
    · rw [take_snoc ec, List.map_append, List.map_append, e]
      rfl
    · rw [upd_ne (ne_of_none z nn)]
      exact s2 b o z
  rw [lm, List.take_length] at e
  subst e
  refine atG [some (.ref p), some (.ref a), some (.ref n), none, none] rfl ?_
  have hp2 := s2 _ _ hp
  have ha2 := s2 _ _ ha
  have k2 : KB p H H2 := k0.same s2
  have hcs2 := hcs.same s2
  -- one name, one cover
  refine ⟨_, rfl, n, cs.map (·.2.1), rfl, SqL.of h1, by rw [List.length_map]; exact l60, fun m m1 m2 => ?_⟩
  refine ⟨_, rfl, n, _, rfl, .inl (SqL.of h1), _, _, rfl, rfl, _, rfl, ?_⟩
  by_cases nd : (cs.map (·.2.1)).Nodup
  rotate_left
  · have := m2 nd
    exact dT (by rw [List.length_map]; omega) ⟨one, r (.inr nd) _ k2⟩
  have := m1 nd
  refine dF (by rw [List.length_map]; omega) ?_
  clear m1 m2 this
  -- covers
  refine ⟨_, rfl, a, _, rfl, .inl (SqL.of ha2), fun cl ncl => ?_⟩
  have s3 := same_new ncl (.lst (cs.map cvV))
  have ncp : cl ≠ p := (ne_of_none hp2 ncl).symm
  refine ⟨_, rfl, p, C_Book, dx, [], rfl, s3 _ _ hp2, L.cl_Book, L.na_Book_covers, by decide, ?_⟩
  have k3 : KB p H (upd (upd H2 cl (.lst (cs.map cvV))) p (.ins C_Book dx (putF "covers" (.ref cl) []))) := (k2.same s3).upd _
  have e3 : upd (upd H2 cl (.lst (cs.map cvV))) p (.ins C_Book dx (putF "covers" (.ref cl) [])) p = some (.ins C_Book dx (putF "covers" (.ref cl) [])) := upd_same
  have c3 : upd (upd H2 cl (.lst (cs.map cvV))) p (.ins C_Book dx (putF "covers" (.ref cl) [])) cl = some (.lst (cs.map cvV)) := by rw [upd_ne ncp, upd_same]
  have fcl : H cl = none := k2.free ncp ncl
  have hcs3 := hcs.kb hp k3
  have ha3 := k3 _ _ ha nap
  generalize upd (upd H2 cl (.lst (cs.map cvV))) p (.ins C_Book dx (putF "covers" (.ref cl) [])) = H3 at k3 e3 c3 hcs3 ha3
  -- firm
  refine ⟨_, rfl, a, rfl, ⟨_, SqL.of ha3⟩, fun fi nfi => ?_⟩
  refine comp_list (K := K) (a := a) (xs := cs.map cvV) (fun i ys H4 => ys = ((cs.take i).filter (fun c => !c.2.2)).map cvV ∧ H4 fi = some (.lst ys) ∧ Same H3 H4) ⟨rfl, upd_same, same_new nfi _⟩
    (fun i ys H4 _ ⟨e, h1, s4⟩ => ⟨h1, by rw [e, List.length_map]; exact Nat.le_trans (List.length_filter_le _ _) (by rw [List.length_take]; omega), SqL.of (s4 _ _ ha3)⟩) (by rw [sizeLine_eq]; omega) (fun i x ys H4 hi ⟨e, h1, s4⟩ => ?_) (fun ys H4 ⟨e, hf4, s4⟩ => ?_)
  · obtain ⟨c, dc, fc, ec, rfl, mc, hc, n1, w1⟩ := hcs3.get hi
    refine ⟨_, rfl, c.1, C_Cover, dc, fc, _, rfl, s4 _ _ hc, L.cl_Cover, L.na_Cover_waits, w1, _, rfl, ?_⟩
    have es := filt_take (f := fun c : Cv => !c.2.2) ec
    cases cw : c.2.2 with
    | true =>
      refine iteF ⟨rfl, ?_, h1, s4⟩
      rw [es, e, cw]
      simp
    | false =>
      refine iteT ⟨_, rfl, h1, rfl, ?_, upd_same, fun b o z => ?_⟩
      · rw [es, e, cw]
        simp [cvV]
      · rw [upd_ne (ne_of_none z nfi)]
        exact s4 b o z
  rw [lm, List.take_length] at e
  subst e
  refine atG [some (.ref p), some (.ref a), some (.ref n), some (.ref fi), none] rfl ?_
  have ha4 := s4 _ _ ha3
  have hcs4 := hcs3.same s4
  -- waiting
  refine ⟨_, rfl, a, rfl, ⟨_, SqL.of ha4⟩, fun wa nwa => ?_⟩
  refine comp_list (K := K) (a := a) (xs := cs.map cvV) (fun i ys H5 => ys = ((cs.take i).filter (fun c => c.2.2)).map cvV ∧ H5 wa = some (.lst ys) ∧ Same H4 H5) ⟨rfl, upd_same, same_new nwa _⟩
    (fun i ys H5 _ ⟨e, h1, s5⟩ => ⟨h1, by rw [e, List.length_map]; exact Nat.le_trans (List.length_filter_le _ _) (by rw [List.length_take]; omega), SqL.of (s5 _ _ ha4)⟩) (by rw [sizeLine_eq]; omega) (fun i x ys H5 hi ⟨e, h1, s5⟩ => ?_) (fun ys H5 ⟨e, hw5, s5⟩ => ?_)
  · obtain ⟨c, dc, fc, ec, rfl, mc, hc, n1, w1⟩ := hcs4.get hi
    refine ⟨_, rfl, c.1, C_Cover, dc, fc, _, rfl, s5 _ _ hc, L.cl_Cover, L.na_Cover_waits, w1, _, rfl, ?_⟩
    have es := filt_take (f := fun c : Cv => c.2.2) ec
    cases cw : c.2.2 with
    | false =>
      refine iteF ⟨rfl, ?_, h1, s5⟩
      rw [es, e, cw]
      simp
    | true =>
      refine iteT ⟨_, rfl, h1, rfl, ?_, upd_same, fun b o z => ?_⟩
      · rw [es, e, cw]
        simp [cvV]
      · rw [upd_ne (ne_of_none z nwa)]
        exact s5 b o z
  rw [lm, List.take_length] at e
  subst e
  refine atG [some (.ref p), some (.ref a), some (.ref n), some (.ref fi), some (.ref wa)] rfl ?_
  have hf5 := s5 _ _ hf4
  have e5 := s5 _ _ (s4 _ _ e3)
  have c5 := s5 _ _ (s4 _ _ c3)
  have k5 := (k3.same s4).same s5
  -- asking
  refine ⟨_, rfl, _, rfl, fi, wa, _, _, rfl, rfl, hf5, hw5, ?_, fun ak nak => ?_⟩
  · rw [List.length_map, List.length_map]
    have := List.length_filter_le (fun c : Cv => !c.2.2) cs
    have := List.length_filter_le (fun c : Cv => c.2.2) cs
    rw [sizeLine_eq]
    omega
  have nkp : ak ≠ p := (ne_of_none e5 nak).symm
  have s6 := same_new nak (.lst ((cs.filter (fun c => !c.2.2)).map cvV ++ (cs.filter (fun c => c.2.2)).map cvV))
  have g3 : (putF "covers" (.ref cl) []).length ≤ 1 := len_putF _ _ _
  refine ⟨_, rfl, p, C_Book, dx, _, rfl, s6 _ _ e5, L.cl_Book, L.na_Book_asking, Nat.lt_of_le_of_lt g3 (by decide), ?_⟩
  refine q (by omega) nd cl ak _ ((k5.same s6).upd _) ⟨⟨dx, _, upd_same, by rw [f1 (by decide +kernel), f0], f0, by rw [f1 (by decide +kernel), f1 (by decide +kernel)]; rfl⟩, ?_, ?_⟩ fcl (k5.free nkp nak)
  · rw [upd_ne ncp]
    exact s6 _ _ c5
  · rw [upd_ne nkp, upd_same]
    unfold askL
    rw [List.map_append]
end
def spNamed (C CB Cn : Addr) : Sp := fun vs H Q E => ∃ p cl ak cs z, vs = [.ref p, .str z] ∧ BkAt CB H p cl ak cs ∧ CvsAt C H cs ∧ cs.length < 60 ∧
  (((∀ c ∈ cs, c.2.1 ≠ z) ∧ E (.ref Cn) none H) ∨ ∃ c ∈ cs, c.2.1 = z ∧ (cs.map (·.2.1)).Nodup ∧ Q (.ref c.1) H)
theorem name_inj {cs : List Cv} (nd : (cs.map (·.2.1)).Nodup) : ∀ {c d : Cv}, c ∈ cs → d ∈ cs → c.2.1 = d.2.1 → c = d := by
  induction cs with
  | nil => intro c d h; cases h
  | cons x t ih =>
    rw [List.map_cons, List.nodup_cons] at nd
    intro c d hc hd e
    rcases List.mem_cons.mp hc with h1 | h1
    · rcases List.mem_cons.mp hd with h2 | h2
      · rw [h1, h2]
      · exact absurd (List.mem_map.mpr ⟨d, h2, by rw [← e, h1]⟩) nd.1
    · rcases List.mem_cons.mp hd with h2 | h2
      · exact absurd (List.mem_map.mpr ⟨c, h1, by rw [e, h2]⟩) nd.1
      · exact ih nd.2 h1 h2 e
section
variable {P : Program} {w : World} {K : PySem.W.Frag} {mg : Str → Option Value} {base : Heap} {C_Book C_Counts C_Condition C_Deal C_Cover : Addr} {C_CoverError C_NoShares C_NoEntry C_NoCover C_NoBook C_Twice C_NotTold : Addr}
theorem sc_Book_named : FnScope ["self", "name", "cover"] ["self", "name"] (defScope s_Book_named) := ⟨rfl, rfl, rfl, by decide +kernel, rfl, by decide +kernel, by decide +kernel⟩
theorem ok_Book_named {f : Addr} {fd : FuncData} (F : Fun K "named" "Book.named" s_Book_named f fd) (T : Txt K mg) (L : Kl K mg C_Book C_Counts C_Condition C_Deal C_Cover) (Z : Xc K mg C_CoverError C_NoShares C_NoEntry C_NoCover C_NoBook C_Twice C_NotTold) : FnOk P w K mg base (CX1 P w) 1 f fd ["self", "name"] (spNamed C_Cover C_Book C_NotTold) := by
  have sc := sc_Book_named
  refine F.okX sc (fun vs H Q E h => ?_) (fun cdv A outer s H vs Q E hr h => ?_)
  · obtain ⟨_, _, _, _, _, rfl, _⟩ := h
    rfl
  obtain ⟨p, cl, ak, cs, z, rfl, B, hcs, l60, res⟩ := h
  refine ⟨_, (pss_cons (ps_for PassesOwn.leaving rfl (pi_list (pe_fld (pv 0) rfl)) (pg_name (i := 2) sc.nd rfl (Or.inl rfl))
        (pss_one (ps_if (pt_cmpR op_eq (pe_fld (pv 2) rfl) (pv 1) (nomark _))
        (pss_one (ps_ret (pv 2)))
        pss_nil)))
      (pss_one (ps_raise wish_fn rfl Z.x_NotTold rfl (pa_cons pe_str pa_nil)))), ?_⟩
  have one : 1 ≤ sizeLine := by rw [sizeLine_eq]; decide
  obtain ⟨⟨dx, fs, hp, b1, b2, b3⟩, hcl, hak⟩ := B
  refine ⟨_, rfl, p, C_Book, dx, fs, _, rfl, hp, L.cl_Book, L.na_Book_covers, b1, cl, rfl, ⟨_, SqL.of hcl⟩, ?_⟩
  refine for_list (K := K) (a := cl) (xs := cs.map cvV) (fun i σ H2 => ((∃ o, σ = [some (.ref p), some (.str z), o]) ∧ H2 = H) ∧ ∀ c ∈ cs.take i, c.2.1 ≠ z) ⟨⟨⟨none, rfl⟩, rfl⟩, fun c hc => nomatch hc⟩ (fun i σ H2 _ hh => by obtain ⟨⟨_, rfl⟩, _⟩ := hh; exact SqL.of hcl) ?_ ?_
  · rintro i x σ H2 hi ⟨⟨⟨o, rfl⟩, rfl⟩, nz⟩
    obtain ⟨c, dc, fc, ec, rfl, mc, hc, n1, w1⟩ := hcs.get hi
    refine ⟨_, rfl, c.1, C_Cover, dc, fc, _, rfl, hc, L.cl_Cover, L.na_Cover_name, n1, _, rfl, rfl, _, rfl, ?_⟩
    by_cases e : c.2.1 = z
    · refine dT (by rw [e]) ⟨_, rfl, ?_⟩
      rcases res with ⟨no, _⟩ | ⟨d, md, ed, nd, q⟩
      · exact absurd e (no c mc)
      · rw [name_inj nd mc md (e.trans ed.symm)]
        exact q
    · refine dF (fun y => e (V.str.inj y)) ⟨⟨⟨_, rfl⟩, rfl⟩, fun d hd => ?_⟩
      rw [take_snoc ec] at hd
      rcases List.mem_append.mp hd with hd | hd
      · exact nz d hd
      · rw [List.mem_singleton.mp hd]
        exact e
  · rintro σ H2 ⟨⟨⟨o, rfl⟩, rfl⟩, nz⟩
    rw [List.length_map, List.take_length] at nz
    rcases res with ⟨_, r⟩ | ⟨d, md, ed, nd, q⟩
    · exact ⟨one, r⟩
    · exact absurd ed (nz d md)
end


/-! ### counts -/
abbrev KVs := List (List Key × V)
def key3 (nm : Str) (k : Int) (y : Key) : List Key := [.inr nm, .inl k, y]
structure CtAt (CC : Addr) (H : Hp) (p kp : Addr) (kvs : KVs) : Prop where
  ob : ∃ dx fs, H p = some (.ins CC dx fs) ∧ fs.lookup ("kept" : Str) = some (.ref kp) ∧ fs.lookup ("have" : Str) = none ∧ fs.lookup ("add" : Str) = none
  hk : H kp = some (.dT kvs)
theorem CtAt.same {CC : Addr} {H H' : Hp} {p kp : Addr} {kvs : KVs} (h : CtAt CC H p kp kvs) (s : Same H H') : CtAt CC H' p kp kvs := by
  obtain ⟨⟨dx, fs, e, r⟩, h1⟩ := h
  exact ⟨⟨dx, fs, s _ _ e, r⟩, s _ _ h1⟩
theorem CtAt.ne {CC : Addr} {H : Hp} {p kp : Addr} {kvs : KVs} (h : CtAt CC H p kp kvs) : p ≠ kp := by
  obtain ⟨⟨dx, fs, e, r⟩, h1⟩ := h
  exact ne_of e h1 (by intro z; cases z)
theorem CtAt.put {CC : Addr} {H : Hp} {p kp : Addr} {kvs : KVs} (h : CtAt CC H p kp kvs) (kvs' : KVs) : CtAt CC (upd H kp (.dT kvs')) p kp kvs' := by
  have n := h.ne
  obtain ⟨⟨dx, fs, e, r⟩, h1⟩ := h
  exact ⟨⟨dx, fs, by rw [upd_ne n]; exact e, r⟩, upd_same⟩
def haveV (kvs : KVs) (nm : Str) (k : Int) (y : Key) : V := (valV kvs (key3 nm k y)).getD (.int 0)
def spCtI (CC : Addr) : Sp := fun vs H Q _ => ∃ p dx, vs = [.ref p] ∧ H p = some (.ins CC dx []) ∧ ∀ kp H', KB p H H' → CtAt CC H' p kp [] → H kp = none → Q .non H'
def spHave (CC : Addr) : Sp := fun vs H Q _ => ∃ p kp kvs nm k y, vs = [.ref p, .str nm, .int k, kV y] ∧ CtAt CC H p kp kvs ∧ ∀ H', Same H H' → Q (haveV kvs nm k y) H'
def spAdd (CC : Addr) : Sp := fun vs H Q _ => ∃ p kp kvs nm k y, ∃ c n : Int, vs = [.ref p, .str nm, .int k, kV y, .int c] ∧ CtAt CC H p kp kvs ∧ haveV kvs nm k y = .int n ∧ kvs.length < 900 ∧ ∀ H', Same H H' → Q .non (upd H' kp (.dT (putK kvs (key3 nm k y) (.int (n + c)))))
section
variable {P : Program} {w : World} {K : PySem.W.Frag} {mg : Str → Option Value} {base : Heap} {C_Book C_Counts C_Condition C_Deal C_Cover : Addr}
theorem sc_Counts___init__ : FnScope ["self"] ["self"] (defScope s_Counts___init__) := ⟨rfl, rfl, rfl, by decide +kernel, rfl, by decide +kernel, by decide +kernel⟩
theorem ok_Counts___init__ {f : Addr} {fd : FuncData} (F : Fun K "__init__" "Counts.__init__" s_Counts___init__ f fd) (T : Txt K mg) (L : Kl K mg C_Book C_Counts C_Condition C_Deal C_Cover) : FnOk P w K mg base CX0 1 f fd ["self"] (spCtI C_Counts) := by
  have sc := sc_Counts___init__
  refine F.ok sc (fun vs H Q E h => ?_) (fun cdv A outer s H vs Q E hr h => ?_)
  · obtain ⟨_, _, rfl, _⟩ := h
    rfl
  obtain ⟨p, dx, rfl, hp, q⟩ := h
  refine ⟨_, (pss_one (ps_fld (pv 0) pe_dnewT rfl)), ?_⟩
  intro kp nk
  have s1 := same_new nk (.dT [])
  have np : kp ≠ p := (ne_of_none hp nk).symm
  have k0 : KB p H H := fun _ _ e _ => e
  refine ⟨_, rfl, p, C_Counts, dx, [], rfl, s1 _ _ hp, L.cl_Counts, L.na_Counts_kept, by decide, ?_⟩
  refine q kp _ ((k0.same s1).upd _) ⟨⟨dx, _, upd_same, f0, by rw [f1 (by decide +kernel)]; rfl, by rw [f1 (by decide +kernel)]; rfl⟩, ?_⟩ nk
  rw [upd_ne np, upd_same]
theorem sc_Counts_have : FnScope ["self", "name", "k", "key"] ["self", "name", "k", "key"] (defScope s_Counts_have) := ⟨rfl, rfl, rfl, by decide +kernel, rfl, by decide +kernel, by decide +kernel⟩
theorem ok_Counts_have {f : Addr} {fd : FuncData} (F : Fun K "have" "Counts.have" s_Counts_have f fd) (T : Txt K mg) (L : Kl K mg C_Book C_Counts C_Condition C_Deal C_Cover) : FnOk P w K mg base CX0 1 f fd ["self", "name", "k", "key"] (spHave C_Counts) := by
  have sc := sc_Counts_have
  refine F.ok sc (fun vs H Q E h => ?_) (fun cdv A outer s H vs Q E hr h => ?_)
  · obtain ⟨_, _, _, _, _, _, rfl, _⟩ := h
    rfl
  obtain ⟨p, kp, kvs, nm, k, y, rfl, ct, q⟩ := h
  have hu2 := hu_of hr
  refine ⟨_, (pss_one (ps_ret (pe_dget2 hu2 (pe_fld (pv 0) rfl) (pe_tup (pa_cons (pv 1) (pa_cons (pv 2) (pa_cons (pv 3) pa_nil)))) pe_int ⟨rfl, rfl, rfl, rfl⟩))), ?_⟩
  obtain ⟨⟨dx, fs, hp, b1, _, _⟩, hk⟩ := ct
  refine ⟨_, rfl, p, C_Counts, dx, fs, _, rfl, hp, L.cl_Counts, L.na_Counts_kept, b1, kp, rfl, .inr ⟨kvs, .inl hk⟩, _, rfl, _, rfl, _, rfl, le_line (by show 3 ≤ 1000; decide), fun t nt => ?_⟩
  have s1 := same_new nt (.tup [V.str nm, .int k, kV y])
  exact ⟨_, DGet.t (k := key3 nm k y) (s1 _ _ hk) upd_same, q _ s1⟩
theorem sc_Counts_add : FnScope ["self", "name", "k", "key", "cents"] ["self", "name", "k", "key", "cents"] (defScope s_Counts_add) := ⟨rfl, rfl, rfl, by decide +kernel, rfl, by decide +kernel, by decide +kernel⟩
theorem ok_Counts_add {f : Addr} {fd : FuncData} (F : Fun K "add" "Counts.add" s_Counts_add f fd) (T : Txt K mg) (L : Kl K mg C_Book C_Counts C_Condition C_Deal C_Cover) (Mhave : MCal P w K mg base 1 C_Counts "have" ["self", "name", "k", "key"] (spHave C_Counts)) : FnOk P w K mg base CX0 2 f fd ["self", "name", "k", "key", "cents"] (spAdd C_Counts) := by
  have sc := sc_Counts_add
  refine F.ok sc (fun vs H Q E h => ?_) (fun cdv A outer s H vs Q E hr h => ?_)
  · obtain ⟨_, _, _, _, _, _, _, _, rfl, _⟩ := h
    rfl
  obtain ⟨p, kp, kvs, nm, k, y, c, n, rfl, ct, en, l9, q⟩ := h
  have hu2 := hu_of hr
  refine ⟨_, (pss_one (ps_dput hu2 (pe_fld (pv 0) rfl) (pe_tup (pa_cons (pv 1) (pa_cons (pv 2) (pa_cons (pv 3) pa_nil)))) (pe_op op_add (pe_methC Mhave (hr.mono (by decide)) (pv 0) (pa_cons (pv 1) (pa_cons (pv 2) (pa_cons (pv 3) pa_nil)))) (pv 4)) rfl)), ?_⟩
  obtain ⟨⟨dx, fs, hp, b1, b2, b3⟩, hk⟩ := id ct
  refine ⟨_, rfl, p, dx, fs, rfl, hp, b2, _, rfl, _, rfl, _, rfl, p, kp, kvs, nm, k, y, rfl, ct, fun H1 s1 => ?_⟩
  rw [en]
  refine ⟨_, rfl, _, _, rfl, rfl, ?_⟩
  refine ⟨_, rfl, p, C_Counts, dx, fs, _, rfl, s1 _ _ hp, L.cl_Counts, L.na_Counts_kept, b1, _, rfl, _, rfl, _, rfl, le_line (by show 3 ≤ 1000; decide), fun t nt => ?_⟩
  have s2 := same_new nt (.tup [V.str nm, .int k, kV y])
  exact ⟨kp, _, rfl, DPut.t (k := key3 nm k y) (s2 _ _ (s1 _ _ hk)) upd_same (by rw [sizeLine_eq]; omega), q _ (s1.trans s2)⟩
end


/-! ### the law's own names -/
def ltr (i : Int) : Nat := 97 + (i % 26).toNat
theorem ltr_letter (i : Int) : letter (ltr i) := by
  unfold letter ltr
  have h0 : 0 ≤ i % 26 := Int.emod_nonneg _ (by decide)
  have h1 : i % 26 < 26 := Int.emod_lt_of_pos _ (by decide)
  omega
theorem abc_at (i : Int) : atI (Str.ofString "abcdefghijklmnopqrstuvwxyz").cps.toList (i % 26) = some (ltr i) := by
  have e : (Str.ofString "abcdefghijklmnopqrstuvwxyz").cps.toList = (List.range 26).map (97 + ·) := by decide +kernel
  have h0 : 0 ≤ i % 26 := Int.emod_nonneg _ (by decide)
  have h1 : i % 26 < 26 := Int.emod_lt_of_pos _ (by decide)
  obtain ⟨k, ek⟩ := Int.eq_ofNat_of_zero_le h0
  rw [e]
  unfold ltr
  rw [ek]
  refine atI_nat ?_
  rw [List.getElem?_map, List.getElem?_range (by omega)]
  rfl
theorem abc_len : (Str.ofString "abcdefghijklmnopqrstuvwxyz").length ≤ sizeLine := by
  have e : (Str.ofString "abcdefghijklmnopqrstuvwxyz").length = 26 := by decide +kernel
  rw [e]
  exact le_line (by decide)
theorem hideI {i : Nat} {v : Int} {nx : St → Hp → Prop} {σ : St} {H : Hp} (lo hi : Int) (h0 : lo ≤ v ∧ v ≤ hi) (h : ∀ x : Int, lo ≤ x → x ≤ hi → gName i (.int x) σ H nx) : gName i (.int v) σ H nx := h v h0.1 h0.2
theorem md {a b : Int} (h : 0 < b) : 0 ≤ a % b ∧ a % b ≤ b - 1 := ⟨Int.emod_nonneg _ (by omega), by have := Int.emod_lt_of_pos a h; omega⟩
def selfL : List Nat := [115, 101, 108, 102]
theorem self_tx : Str.ofString "self" = tx selfL := by decide +kernel
theorem q_tx : Str.ofString "q" = tx [113] := by decide +kernel
theorem tx_eq {l m : List Nat} (h : tx l = tx m) : l = m := by
  have := congrArg (fun z => z.cps.toList) h
  simpa [tx] using this
structure Nms (ns : List Str) : Prop where
  lo : 1 ≤ ns.length
  hi : ns.length ≤ 8
  nd : ns.Nodup
  ok : ∀ z ∈ ns, nameV (.str z) = true ∧ z.length ≤ 8 ∧ z ≠ "self"
theorem nms_of (g : Nat → List Nat) {k : Nat} (k1 : 1 ≤ k) (k8 : k ≤ 8) (nm : ∀ i, i < k → NameL (g i)) (ns : ∀ i, i < k → g i ≠ selfL) (inj : ∀ i j, i < k → j < k → g i = g j → i = j) : Nms ((List.range k).map fun i => tx (g i)) := by
  refine ⟨by rw [List.length_map, List.length_range]; exact k1, by rw [List.length_map, List.length_range]; exact k8, ?_, fun z hz => ?_⟩
  · rw [List.nodup_iff_pairwise_ne, List.pairwise_map]
    refine List.Pairwise.imp_of_mem (R := fun a b => a ≠ b) (fun {i j} hi hj n e => n ?_) (List.nodup_iff_pairwise_ne.mp List.nodup_range)
    exact inj i j (List.mem_range.mp hi) (List.mem_range.mp hj) (tx_eq e)
  · obtain ⟨i, hi, rfl⟩ := List.mem_map.mp hz
    have hi' := List.mem_range.mp hi
    have n := nm i hi'
    refine ⟨decide_eq_true n, by rw [tx_len]; exact n.1.2, fun h => ?_⟩
    have h' : tx (g i) = Str.ofString "self" := h
    rw [self_tx] at h'
    exact ns i hi' (tx_eq h')
def repN (c k : Nat) : List Nat := List.replicate (k + 1) c
theorem rep_fl (c m : Nat) : (List.replicate m [c]).flatten = List.replicate m c := by
  induction m with
  | zero => rfl
  | succ m ih => rw [List.replicate_succ, List.flatten_cons, ih, List.replicate_succ]; rfl
theorem nms_rep {c k : Nat} (hc : letter c) (k1 : 1 ≤ k) (k8 : k ≤ 8) : Nms ((List.range k).map fun i => tx (repN c i)) := by
  refine nms_of (repN c) k1 k8 (fun i hi => ⟨by unfold repN; rw [List.length_replicate]; omega, fun d hd => ?_⟩) (fun i hi z => ?_) (fun i j hi hj e => ?_)
  · rw [List.eq_of_mem_replicate hd]
    exact hc
  · unfold repN at z
    have h1 : (115 : Nat) ∈ List.replicate (i + 1) c := by rw [z]; decide
    have h2 : (101 : Nat) ∈ List.replicate (i + 1) c := by rw [z]; decide
    have e1 := List.eq_of_mem_replicate h1
    have e2 := List.eq_of_mem_replicate h2
    omega
  · have := congrArg List.length e
    unfold repN at this
    rw [List.length_replicate, List.length_replicate] at this
    omega
/-- the name by the number k: of n signs, the one at a is changed -/
def ltB (m : Int) (a k j : Nat) : Nat := ltr (m + (j : Int) * j + (k : Int) * (if j = a then 1 else 0))
def nmB (m : Int) (a n k : Nat) : List Nat := (List.range n).map (ltB m a k)
theorem nmB_len (m : Int) (a n k : Nat) : (nmB m a n k).length = n := by unfold nmB; rw [List.length_map, List.length_range]
theorem nms_nmB {m : Int} {a n k : Nat} (ha : a < n) (n8 : n ≤ 8) (k1 : 1 ≤ k) (k8 : k ≤ 8) (h : ∀ i, i < k → nmB m a n i ≠ selfL) : Nms ((List.range k).map fun i => tx (nmB m a n i)) := by
  refine nms_of (nmB m a n) k1 k8 (fun i hi => ⟨by rw [nmB_len]; omega, fun c hc => ?_⟩) h (fun i j hi hj e => ?_)
  · unfold nmB at hc
    obtain ⟨j, _, rfl⟩ := List.mem_map.mp hc
    exact ltr_letter _
  · have e := congrArg (fun l => l[a]?) e
    unfold nmB at e
    simp only [List.getElem?_map, List.getElem?_range ha, Option.map_some, Option.some.injEq] at e
    unfold ltB ltr at e
    simp only [if_true] at e
    generalize m + (a : Int) * a = v at e
    have a0 : 0 ≤ (v + (i : Int) * 1) % 26 := Int.emod_nonneg _ (by decide)
    have b0 : 0 ≤ (v + (j : Int) * 1) % 26 := Int.emod_nonneg _ (by decide)
    omega
theorem in_strs {z : Str} {l : List Str} : inV (.str z) (l.map V.str) = true ↔ z ∈ l := by
  unfold inV
  rw [List.any_map, List.any_eq_true]
  constructor
  · rintro ⟨y, hy, e⟩
    have e' : eqV (.str y) (.str z) = true := e
    have : y = z := by simpa [eqV] using e'
    rw [← this]
    exact hy
  · intro h
    exact ⟨z, h, by show eqV (.str z) (.str z) = true; simp [eqV]⟩
def spNames : Sp := fun vs H Q _ => ∃ c k : Int, vs = [.int c, .int k] ∧ 0 ≤ c ∧ 1 ≤ k ∧ k ≤ 8 ∧ ∀ r ns H', Same H H' → H r = none → H' r = some (.lst (ns.map V.str)) → Nms ns → (ns.length : Int) = k → Q (.ref r) H'
section
seal L2.PS L2.PSs L2.PE L2.PA
variable {P : Program} {w : World} {K : PySem.W.Frag} {mg : Str → Option Value} {base : Heap}
theorem sc__law_names : FnScope ["_law_cell_here", "_law_many", "_law_letters", "_law_size", "_law_at", "_law_first", "_law_names_here", "_law_k", "_law_name", "_law_j"] ["_law_cell_here", "_law_many"] (defScope s__law_names) := ⟨rfl, rfl, rfl, by decide +kernel, rfl, by decide +kernel, by decide +kernel⟩
theorem ok__law_names {f : Addr} {fd : FuncData} (F : Fun K "_law_names" "_law_names" s__law_names f fd) (T : Txt K mg) : FnOk P w K mg base CX0 1 f fd ["_law_cell_here", "_law_many"] spNames := by
  have sc := sc__law_names
  refine F.ok sc (fun vs H Q E h => ?_) (fun cdv A outer s H vs Q E hr h => ?_)
  · obtain ⟨_, _, rfl, _⟩ := h
    rfl
  obtain ⟨c, k, rfl, c0, k1, k8, q⟩ := h
  refine ⟨_, (pss_cons (ps_set (i := 2) sc.nd rfl (Or.inr rfl) pe_str)
      (pss_cons (ps_set (i := 3) sc.nd rfl (Or.inl rfl) (pe_op op_add pe_int (pe_op op_mod (pv 0) pe_int)))
      (pss_cons (ps_set (i := 4) sc.nd rfl (Or.inl rfl) (pe_op op_mod (pe_op op_fdiv (pv 0) pe_int) (pv 3)))
      (pss_cons (ps_set (i := 5) sc.nd rfl (Or.inr rfl) (pe_op op_fdiv (pv 0) pe_int))
      (pss_cons (ps_if (pt_cmpR op_eq (pe_op op_mod (pe_op op_fdiv (pv 0) pe_int) pe_int) pe_int (nomark _))
        (pss_one (ps_ret (pe_comp (NC := ["_law_k", "_law_letters", "_law_first"]) (own := ["_law_k"]) (cs := ["_law_letters", "_law_first"]) (ix := [2, 5]) rfl (CompScope.of rfl) rfl ⟨⟨rfl, .inl rfl, rfl⟩, ⟨⟨rfl, .inl rfl, rfl⟩, trivial⟩⟩ (pi_range1 rfl T.n_range (pa_cons (pv 1) pa_nil)) (fun _ _ _ => (pg_name (i := 0) (show (["_law_k", "_law_letters", "_law_first"] : List Str).Nodup from by decide +kernel) rfl (Or.inl rfl))) (fun _ _ _ => pts_nil) (fun _ _ _ => (pe_op op_mul_str (pe_ix ix_str (pv 1) (pe_op op_mod (pv 2) pe_int) (fun _ _ => rfl)) (pe_op op_add (pv 0) pe_int))))))
        pss_nil)
      (pss_cons (ps_set (i := 6) sc.nd rfl (Or.inl rfl) (pe_lst pa_nil))
      (pss_cons (ps_for PassesOwn.never rfl (pi_range1 rfl T.n_range (pa_cons (pv 1) pa_nil)) (pg_name (i := 7) sc.nd rfl (Or.inl rfl))
        (pss_cons (ps_set (i := 8) sc.nd rfl (Or.inl rfl) pe_str)
      (pss_cons (ps_for PassesOwn.never rfl (pi_range1 rfl T.n_range (pa_cons (pv 3) pa_nil)) (pg_name (i := 9) sc.nd rfl (Or.inl rfl))
        (pss_one (ps_set (i := 8) sc.nd rfl (Or.inl rfl) (pe_op op_add_str (pv 8) (pe_ix ix_str (pv 2) (pe_op op_mod (pe_op op_add (pe_op op_add (pv 5) (pe_op op_mul (pv 9) (pv 9))) (pe_op op_mul (pv 7) (pe_callTy call_int1 rfl T.n_int (show bootBuiltins _ = some (.type "int") from rfl) (pa_cons (pe_cmpR op_eq (pv 9) (pv 4) (nomark _)) pa_nil)))) pe_int) (fun _ _ => rfl))))))
      (pss_one (ps_expr (pe_bm PySem.F.plainAttrs_list PySem.F.slot_list_append PySem.F.type_list_append mt_append (pv 6) (pa_cons (pv 8) pa_nil)))))))
      (pss_cons (ps_if (pt_cmpR op_in_seq pe_str (pv 6) rfl)
        (pss_one (ps_ret (pe_comp (NC := ["_law_k"]) (own := ["_law_k"]) (cs := []) (ix := []) rfl (CompScope.of rfl) rfl trivial (pi_range1 rfl T.n_range (pa_cons (pv 1) pa_nil)) (fun _ _ _ => (pg_name (i := 0) (show (["_law_k"] : List Str).Nodup from by decide +kernel) rfl (Or.inl rfl))) (fun _ _ _ => pts_nil) (fun _ _ _ => (pe_op op_mul_str pe_str (pe_op op_add (pv 0) pe_int))))))
        pss_nil)
      (pss_one (ps_ret (pv 6))))))))))), ?_⟩
  have m0 : 0 ≤ c % 8 := Int.emod_nonneg _ (by decide)
  have m8 : c % 8 < 8 := Int.emod_lt_of_pos _ (by decide)
  refine ⟨_, rfl, _, _, rfl, rfl, (by show (0 : Int) < 8; decide), _, _, rfl, rfl, ?_⟩
  refine hideI 1 8 ⟨by omega, by omega⟩ fun sz z1 z8 => ?_
  obtain ⟨n, rfl⟩ := Int.eq_ofNat_of_zero_le (show 0 ≤ sz by omega)
  refine ⟨_, rfl, _, _, rfl, rfl, ⟨by decide, by decide⟩, _, rfl, _, _, rfl, rfl, (by show (0 : Int) < (n : Int); omega), ?_⟩
  refine hideI 0 ((n : Int) - 1) (md (by omega)) fun at' at0 at1 => ?_
  obtain ⟨a, rfl⟩ := Int.eq_ofNat_of_zero_le at0
  have ha : a < n := by omega
  refine ⟨_, rfl, _, _, rfl, rfl, ⟨by decide, by decide⟩, ?_⟩
  refine atG [some (.int c), some (.int k), some (.str "abcdefghijklmnopqrstuvwxyz"), some (.int n), some (.int a), some (.int (c / 320)), none, none, none, none] rfl ?_
  generalize c / 320 = m
  refine ⟨_, rfl, _, _, rfl, rfl, ⟨by decide, by decide⟩, _, _, rfl, rfl, (by show (0 : Int) < 5; decide), rfl, _, rfl, ?_⟩
  by_cases c5 : c / 64 % 5 = 1
  · -- one letter, more and more often
    refine dT (congrArg V.int c5) ⟨_, rfl, _, rfl, by omega, by omega, fun r nr => ?_⟩
    refine comp_range (lo := 0) (n := k.toNat) (fun i ys H2 => ys = ((List.range i).map fun i => tx (repN (ltr m) i)).map V.str ∧ H2 r = some (.lst ys) ∧ Same H H2) ⟨rfl, upd_same, same_new nr _⟩
      (fun i ys H2 _ ⟨e, h1, _⟩ => ⟨h1, by rw [e, List.length_map, List.length_map, List.length_range]; exact Nat.le_refl _⟩) (by rw [sizeLine_eq]; omega) (fun i ys H2 hi ⟨e, h1, s1⟩ => ?_) (fun ys H2 ⟨e, h1, s1⟩ => ?_)
    · refine ⟨_, rfl, _, rfl, _, _, rfl, rfl, (by show (0 : Int) < 26; decide), _, _, _, rfl, rfl, abc_len, abc_at _, _, rfl, _, _, rfl, rfl, [ltr m], _, rfl, rfl, by omega, by omega, (show 1 ≤ 1000 from by decide), h1, rfl, ?_, upd_same, fun x o z => ?_⟩
      · rw [e, rep_fl, show (0 + (i : Int) + 1).toNat = i + 1 by omega, List.range_succ, List.map_append, List.map_append]
        rfl
      · rw [upd_ne (ne_of_none z nr)]
        exact s1 x o z
    subst e
    exact q r _ H2 s1 nr h1 (nms_rep (ltr_letter m) (by omega) (by omega)) (by rw [List.length_map, List.length_range]; omega)
  refine dF (fun z => c5 (V.int.inj z)) ?_
  refine ⟨Nat.zero_le _, fun r nr => ?_⟩
  have s1 := same_new nr (.lst [])
  refine ⟨_, rfl, _, rfl, by omega, by omega, ?_⟩
  refine for_range (lo := 0) (n := k.toNat)
    (fun i σ H3 => (∃ o7 o8 o9 : Option V, σ = [some (.int c), some (.int k), some (.str "abcdefghijklmnopqrstuvwxyz"), some (.int n), some (.int a), some (.int m), some (.ref r), o7, o8, o9]) ∧ H3 r = some (.lst (((List.range i).map fun i => tx (nmB m a n i)).map V.str)) ∧ Same H H3)
    ⟨⟨none, none, none, rfl⟩, upd_same, s1⟩ ?_ ?_
  · rintro i σ H3 hi ⟨⟨o7, o8, o9, rfl⟩, h3, s3⟩
    have i8 : i < 8 := by omega
    rw [show (0 + (i : Int)) = (i : Int) by omega]
    refine ⟨_, rfl, _, rfl, by omega, by omega, ?_⟩
    refine for_range (lo := 0) (n := (n : Int).toNat) (fun j σ H4 => (∃ o9, σ = [some (.int c), some (.int k), some (.str "abcdefghijklmnopqrstuvwxyz"), some (.int n), some (.int a), some (.int m), some (.ref r), some (.int i), some (.str (tx ((List.range j).map (ltB m a i)))), o9]) ∧ H4 = H3) ⟨⟨o9, rfl⟩, rfl⟩ ?_ ?_
    · rintro j σ H4 hj ⟨⟨o9', rfl⟩, rfl⟩
      have hj' : j < n := by omega
      rw [show (0 + (j : Int)) = (j : Int) by omega]
      refine ⟨_, rfl, _, rfl, _, rfl, _, rfl, _, rfl, _, _, rfl, rfl, .inl ⟨by omega, by omega⟩, _, _, rfl, rfl, _, rfl, _, rfl, _, rfl, rfl, .inr ⟨_, rfl, _, _, rfl, rfl, .inl ⟨by omega, by omega⟩, _, _, rfl, rfl, _, _, rfl, rfl, (by show (0 : Int) < 26; decide), _, _, _, rfl, rfl, abc_len, abc_at _, _, _, rfl, rfl, ?_, ⟨some (.int j), ?_⟩, rfl⟩⟩
      · rw [tx_len, List.length_map, List.length_range, sizeLine_eq]
        show j + 1 ≤ _
        omega
      · have e1 : (if decide (V.int (j : Int) = V.int (a : Int)) = true then (1 : Int) else 0) = if j = a then 1 else 0 := by
          by_cases z : j = a
          · rw [if_pos z, if_pos (decide_eq_true (by rw [z]))]
          · rw [if_neg z, if_neg (fun y => z (by have := V.int.inj (of_decide_eq_true y); omega))]
        have e2 : tx ((List.range j).map (ltB m a i)) ++ (⟨#[ltr (m + (j : Int) * j + (i : Int) * (if decide (V.int (j : Int) = V.int (a : Int)) = true then (1 : Int) else 0))]⟩ : Str) = tx ((List.range (j + 1)).map (ltB m a i)) := by
          rw [e1, List.range_succ, List.map_append]
          exact tx_app _ [_]
        exact congrArg (fun z => [some (V.int c), some (V.int k), some (V.str "abcdefghijklmnopqrstuvwxyz"), some (V.int n), some (V.int a), some (V.int m), some (V.ref r), some (V.int i), some (V.str z), some (V.int j)]) e2
    · rintro σ H4 ⟨⟨o9', rfl⟩, rfl⟩
      have el : (List.range (n : Int).toNat).map (ltB m a i) = nmB m a n i := by rw [Int.toNat_natCast]; rfl
      rw [el]
      refine ⟨_, rfl, .inl ⟨rfl, _, SqL.of h3⟩, _, rfl, r, _, _, rfl, rfl, h3, ?_, ⟨⟨_, _, _, rfl⟩, ?_, fun x o z => ?_⟩⟩
      · rw [List.length_map, List.length_map, List.length_range, sizeLine_eq]
        omega
      · rw [upd_same, List.range_succ, List.map_append, List.map_append]
        rfl
      · rw [upd_ne (ne_of_none z nr)]
        exact s3 x o z
  · rintro σ H3 ⟨⟨o7, o8, o9, rfl⟩, h3, s3⟩
    refine ⟨_, rfl, r, _, rfl, .inl (SqL.of h3), rfl, flat_strs _, _, rfl, ?_⟩
    by_cases cs : (Str.ofString "self") ∈ (List.range k.toNat).map fun i => tx (nmB m a n i)
    · refine bT (in_strs.mpr cs) ⟨_, rfl, _, rfl, by omega, by omega, fun r2 nr2 => ?_⟩
      refine comp_range (lo := 0) (n := k.toNat) (fun i ys H4 => ys = ((List.range i).map fun i => tx (repN 113 i)).map V.str ∧ H4 r2 = some (.lst ys) ∧ Same H3 H4) ⟨rfl, upd_same, same_new nr2 _⟩
        (fun i ys H4 _ ⟨e, h1, _⟩ => ⟨h1, by rw [e, List.length_map, List.length_map, List.length_range]; exact Nat.le_refl _⟩) (by rw [sizeLine_eq]; omega) (fun i ys H4 hi ⟨e, h1, s4⟩ => ?_) (fun ys H4 ⟨e, h1, s4⟩ => ?_)
      · refine ⟨_, rfl, _, _, rfl, rfl, [113], _, congrArg V.str q_tx, rfl, by omega, by omega, (show 1 ≤ 1000 from by decide), h1, rfl, ?_, upd_same, fun x o z => ?_⟩
        · rw [e, rep_fl, show (0 + (i : Int) + 1).toNat = i + 1 by omega, List.range_succ, List.map_append, List.map_append]
          rfl
        · rw [upd_ne (ne_of_none z nr2)]
          exact s4 x o z
      subst e
      exact q r2 _ H4 (s3.trans s4) (s3.free nr2) h1 (nms_rep (by unfold letter; decide) (by omega) (by omega)) (by rw [List.length_map, List.length_range]; omega)
    · refine bF (Bool.eq_false_iff.mpr fun z => cs (in_strs.mp z)) ⟨_, rfl, ?_⟩
      refine q r _ H3 s3 nr h3 (nms_nmB ha (by omega) (by omega) (by omega) fun i hi e => cs ?_) (by rw [List.length_map, List.length_range]; omega)
      refine List.mem_map.mpr ⟨i, List.mem_range.mpr hi, ?_⟩
      rw [e, ← self_tx]
end
def spSpread : Sp := fun vs H Q _ => ∃ c : Int, vs = [.int c] ∧ ∀ r : Int, 0 ≤ r → r ≤ 2147483646 → Q (.int r) H
section
variable {P : Program} {w : World} {K : PySem.W.Frag} {mg : Str → Option Value} {base : Heap}
theorem sc__law_spread : FnScope ["_law_cell_here"] ["_law_cell_here"] (defScope s__law_spread) := ⟨rfl, rfl, rfl, by decide +kernel, rfl, by decide +kernel, by decide +kernel⟩
theorem ok__law_spread {f : Addr} {fd : FuncData} (F : Fun K "_law_spread" "_law_spread" s__law_spread f fd) (T : Txt K mg) : FnOk P w K mg base CX0 1 f fd ["_law_cell_here"] spSpread := by
  have sc := sc__law_spread
  refine F.ok sc (fun vs H Q E h => ?_) (fun cdv A outer s H vs Q E hr h => ?_)
  · obtain ⟨_, rfl, _⟩ := h
    rfl
  obtain ⟨c, rfl, q⟩ := h
  refine ⟨_, (pss_one (ps_ret (pe_op op_mod (pe_op op_mul (pv 0) pe_int) pe_int))), ?_⟩
  refine ⟨_, rfl, _, _, rfl, rfl, .inr ⟨by decide, by decide⟩, _, _, rfl, rfl, (by show (0 : Int) < 2147483647; decide), ?_⟩
  have b := md (a := c * 48271) (b := 2147483647) (by decide)
  exact q _ b.1 (by have := b.2; omega)
end


/-! ### k49: books that are refused, names that aren't told, names in their order -/
theorem eqL_strs : ∀ ns : List Str, eqL (ns.map V.str) (ns.map V.str) = true
  | [] => rfl
  | x :: ns => by
    rw [List.map_cons]
    unfold eqL
    rw [eqL_strs ns, show eqV (.str x) (.str x) = true by simp [eqV]]
    rfl
def spNoBook (C : Addr) : Sp := fun vs H Q _ => ∃ a cs, vs = [.ref a] ∧ H a = some (.lst (cs.map cvV)) ∧ CvsAt C H cs ∧ cs.length < 60 ∧ (8 < cs.length ∨ ¬ (cs.map (·.2.1)).Nodup) ∧ ∀ H', Same H H' → Q (.bl true) H'
def spNotTold (C CB : Addr) : Sp := fun vs H Q _ => ∃ p cl ak cs z, vs = [.ref p, .str z] ∧ BkAt CB H p cl ak cs ∧ CvsAt C H cs ∧ cs.length < 60 ∧ (∀ c ∈ cs, c.2.1 ≠ z) ∧ ∀ H', Same H H' → Q (.bl true) H'
def spSame (C : Addr) : Sp := fun vs H Q _ => ∃ f b cs, vs = [.ref f, .ref b] ∧ H f = some (.lst (cs.map cvV)) ∧ CvsAt C H cs ∧ cs.length < 60 ∧ H b = some (.lst ((cs.map (·.2.1)).map V.str)) ∧ ∀ H', Same H H' → Q (.bl true) H'
section
variable {P : Program} {w : World} {K : PySem.W.Frag} {mg : Str → Option Value} {base : Heap} {C_Book C_Counts C_Condition C_Deal C_Cover : Addr} {C_CoverError C_NoShares C_NoEntry C_NoCover C_NoBook C_Twice C_NotTold : Addr}
theorem sc__law_no_book : FnScope ["_law_some", "e", "_law_others"] ["_law_some"] (defScope s__law_no_book) := ⟨rfl, rfl, rfl, by decide +kernel, rfl, by decide +kernel, by decide +kernel⟩
theorem ok__law_no_book {f : Addr} {fd : FuncData} (F : Fun K "_law_no_book" "_law_no_book" s__law_no_book f fd) (T : Txt K mg) (Z : Xc K mg C_CoverError C_NoShares C_NoEntry C_NoCover C_NoBook C_Twice C_NotTold) (KBook : KCalX P w K mg base 1 "Book" C_Book ["self", "covers"] (spBook C_Cover C_Book C_NoBook)) : FnOk P w K mg base CX0 3 f fd ["_law_some"] (spNoBook C_Cover) := by
  have sc := sc__law_no_book
  refine F.ok sc (fun vs H Q E h => ?_) (fun cdv A outer s H vs Q E hr h => ?_)
  · obtain ⟨_, _, rfl, _⟩ := h
    rfl
  obtain ⟨a, cs, rfl, ha, hcs, l60, bad, q⟩ := h
  refine ⟨_, (pss_cons (ps_tryA (i := 1) rfl rfl rfl Z.a_CoverError sc.nd rfl rfl (fun pn E W hW hp =>
        (pss_one (ps_expr (pe_makeX KBook (hr.mono (by decide)) hW rfl (pa_cons (pv 0) pa_nil))))) (fun e =>
        (pss_cons (ps_set (i := 2) sc.nd rfl (Or.inl rfl) (pe_lst (pa_cons (pe_callB (call_isinstX (K := K)) rfl T.n_isinstance (show bootBuiltins _ = some (.builtin "isinstance") from rfl) (pa_cons (pv 1) (pa_cons (pe_cls rfl Z.a_NotTold) pa_nil))) (pa_cons (pe_callB (call_isinstX (K := K)) rfl T.n_isinstance (show bootBuiltins _ = some (.builtin "isinstance") from rfl) (pa_cons (pv 1) (pa_cons (pe_cls rfl Z.a_NoCover) pa_nil))) (pa_cons (pe_callB (call_isinstX (K := K)) rfl T.n_isinstance (show bootBuiltins _ = some (.builtin "isinstance") from rfl) (pa_cons (pv 1) (pa_cons (pe_cls rfl Z.a_NoEntry) pa_nil))) (pa_cons (pe_callB (call_isinstX (K := K)) rfl T.n_isinstance (show bootBuiltins _ = some (.builtin "isinstance") from rfl) (pa_cons (pv 1) (pa_cons (pe_cls rfl Z.a_Twice) pa_nil))) pa_nil))))))
      (pss_one (ps_ret (pe_and (pe_callB (call_isinstX (K := K)) rfl T.n_isinstance (show bootBuiltins _ = some (.builtin "isinstance") from rfl) (pa_cons (pv 1) (pa_cons (pe_cls rfl Z.a_NoBook) pa_nil))) (pe_and (pe_callB (call_isinstX (K := K)) rfl T.n_isinstance (show bootBuiltins _ = some (.builtin "isinstance") from rfl) (pa_cons (pv 1) (pa_cons (pe_ty "ValueError" rfl T.n_ValueError rfl) pa_nil))) (pe_one (pe_cmpR (op_notIn_K (K := K)) pe_bl (pv 2) rfl)))))))))
      (pss_one (ps_ret pe_bl))), ?_⟩
  refine ⟨_, rfl, fun p dp np ndp nep => ?_⟩
  have s2 : Same H (upd (upd H dp (.own p)) p (.ins C_Book dp [])) := (same_new ndp _).trans (same_new (by rw [upd_ne (Ne.symm nep)]; exact np) _)
  refine ⟨p, dp, a, cs, rfl, upd_same, s2 _ _ ha, hcs.same s2, l60, fun l8 nd => ?_, fun _ H2 k2 => ?_⟩
  · rcases bad with z | z
    · omega
    · exact absurd nd z
  have s3 : Same H H2 := made_same np ndp k2
  generalize H2 = H3 at s3
  refine ⟨C_NoBook, rfl, Z.h_NoBook_CoverError, fun e he => ?_⟩
  have ze := Z.e_NoBook
  refine ⟨_, rfl, e, _, _, _, _, rfl, upd_same, ze, ref_is, Z.k_NoBook_NotTold, _, rfl, e, _, _, _, _, rfl, upd_same, ze, ref_is, Z.k_NoBook_NoCover, _, rfl, e, _, _, _, _, rfl, upd_same, ze, ref_is, Z.k_NoBook_NoEntry, _, rfl, e, _, _, _, _, rfl, upd_same, ze, ref_is, Z.k_NoBook_Twice, le_line (by show 4 ≤ 1000; decide), fun l1 n1 => ?_⟩
  have u0 := same_new he (exO e (.ref C_NoBook) none)
  have e0 : upd H3 e (exO e (.ref C_NoBook) none) e = some (exO e (.ref C_NoBook) none) := upd_same
  generalize upd H3 e (exO e (.ref C_NoBook) none) = H4 at u0 e0 n1
  have u1 := same_new n1 (.lst [V.bl false, .bl false, .bl false, .bl false])
  have e1 : upd H4 l1 (.lst [V.bl false, .bl false, .bl false, .bl false]) l1 = some (.lst [V.bl false, .bl false, .bl false, .bl false]) := upd_same
  generalize upd H4 l1 (.lst [V.bl false, .bl false, .bl false, .bl false]) = H5 at u1 e1
  have e5 := u1 _ _ e0
  exact ⟨_, rfl, e, _, _, _, _, rfl, e5, ze, ref_is, Z.k_NoBook_NoBook, _, rfl, _, rfl, e, _, _, _, _, rfl, e5, ze, ty_is, Z.v_NoBook, _, rfl, _, rfl, l1, _, rfl, .inl (SqL.of e1), rfl, rfl, q _ (s3.trans (u0.trans u1))⟩
theorem sc__law_not_told : FnScope ["_law_book", "_law_name", "e", "_law_others"] ["_law_book", "_law_name"] (defScope s__law_not_told) := ⟨rfl, rfl, rfl, by decide +kernel, rfl, by decide +kernel, by decide +kernel⟩
theorem ok__law_not_told {f : Addr} {fd : FuncData} (F : Fun K "_law_not_told" "_law_not_told" s__law_not_told f fd) (T : Txt K mg) (Z : Xc K mg C_CoverError C_NoShares C_NoEntry C_NoCover C_NoBook C_Twice C_NotTold) (Mnamed : MCalX P w K mg base 1 C_Book "named" ["self", "name"] (spNamed C_Cover C_Book C_NotTold)) : FnOk P w K mg base CX0 3 f fd ["_law_book", "_law_name"] (spNotTold C_Cover C_Book) := by
  have sc := sc__law_not_told
  refine F.ok sc (fun vs H Q E h => ?_) (fun cdv A outer s H vs Q E hr h => ?_)
  · obtain ⟨_, _, _, _, _, rfl, _⟩ := h
    rfl
  obtain ⟨p, cl, ak, cs, z, rfl, B, hcs, l60, no, q⟩ := h
  refine ⟨_, (pss_cons (ps_tryA (i := 2) rfl rfl rfl Z.a_CoverError sc.nd rfl rfl (fun pn E W hW hp =>
        (pss_one (ps_expr (pe_methX Mnamed (hr.mono (by decide)) hW (pv 0) (pa_cons (pv 1) pa_nil))))) (fun e =>
        (pss_cons (ps_set (i := 3) sc.nd rfl (Or.inl rfl) (pe_lst (pa_cons (pe_callB (call_isinstX (K := K)) rfl T.n_isinstance (show bootBuiltins _ = some (.builtin "isinstance") from rfl) (pa_cons (pv 2) (pa_cons (pe_cls rfl Z.a_NoBook) pa_nil))) (pa_cons (pe_callB (call_isinstX (K := K)) rfl T.n_isinstance (show bootBuiltins _ = some (.builtin "isinstance") from rfl) (pa_cons (pv 2) (pa_cons (pe_cls rfl Z.a_NoCover) pa_nil))) (pa_cons (pe_callB (call_isinstX (K := K)) rfl T.n_isinstance (show bootBuiltins _ = some (.builtin "isinstance") from rfl) (pa_cons (pv 2) (pa_cons (pe_cls rfl Z.a_NoEntry) pa_nil))) (pa_cons (pe_callB (call_isinstX (K := K)) rfl T.n_isinstance (show bootBuiltins _ = some (.builtin "isinstance") from rfl) (pa_cons (pv 2) (pa_cons (pe_cls rfl Z.a_Twice) pa_nil))) pa_nil))))))
      (pss_one (ps_ret (pe_and (pe_callB (call_isinstX (K := K)) rfl T.n_isinstance (show bootBuiltins _ = some (.builtin "isinstance") from rfl) (pa_cons (pv 2) (pa_cons (pe_cls rfl Z.a_NotTold) pa_nil))) (pe_and (pe_callB (call_isinstX (K := K)) rfl T.n_isinstance (show bootBuiltins _ = some (.builtin "isinstance") from rfl) (pa_cons (pv 2) (pa_cons (pe_ty "ValueError" rfl T.n_ValueError rfl) pa_nil))) (pe_one (pe_cmpR (op_notIn_K (K := K)) pe_bl (pv 3) rfl)))))))))
      (pss_one (ps_ret pe_bl))), ?_⟩
  obtain ⟨dx, fs, hp, b1, b2, b3⟩ := B.ob
  refine ⟨_, rfl, p, dx, fs, rfl, hp, b3, _, rfl, p, cl, ak, cs, z, rfl, B, hcs, l60, .inl ⟨no, ?_⟩⟩
  refine ⟨C_NotTold, rfl, Z.h_NotTold_CoverError, fun e he => ?_⟩
  have ze := Z.e_NotTold
  refine ⟨_, rfl, e, _, _, _, _, rfl, upd_same, ze, ref_is, Z.k_NotTold_NoBook, _, rfl, e, _, _, _, _, rfl, upd_same, ze, ref_is, Z.k_NotTold_NoCover, _, rfl, e, _, _, _, _, rfl, upd_same, ze, ref_is, Z.k_NotTold_NoEntry, _, rfl, e, _, _, _, _, rfl, upd_same, ze, ref_is, Z.k_NotTold_Twice, le_line (by show 4 ≤ 1000; decide), fun l1 n1 => ?_⟩
  have u0 := same_new he (exO e (.ref C_NotTold) none)
  have e0 : upd H e (exO e (.ref C_NotTold) none) e = some (exO e (.ref C_NotTold) none) := upd_same
  generalize upd H e (exO e (.ref C_NotTold) none) = H4 at u0 e0 n1
  have u1 := same_new n1 (.lst [V.bl false, .bl false, .bl false, .bl false])
  have e1 : upd H4 l1 (.lst [V.bl false, .bl false, .bl false, .bl false]) l1 = some (.lst [V.bl false, .bl false, .bl false, .bl false]) := upd_same
  generalize upd H4 l1 (.lst [V.bl false, .bl false, .bl false, .bl false]) = H5 at u1 e1
  have e5 := u1 _ _ e0
  exact ⟨_, rfl, e, _, _, _, _, rfl, e5, ze, ref_is, Z.k_NotTold_NotTold, _, rfl, _, rfl, e, _, _, _, _, rfl, e5, ze, ty_is, Z.v_NotTold, _, rfl, _, rfl, l1, _, rfl, .inl (SqL.of e1), rfl, rfl, q _ (u0.trans u1)⟩
theorem sc__law_same : FnScope ["_law_found", "_law_names_here"] ["_law_found", "_law_names_here"] (defScope s__law_same) := ⟨rfl, rfl, rfl, by decide +kernel, rfl, by decide +kernel, by decide +kernel⟩
theorem ok__law_same {f : Addr} {fd : FuncData} (F : Fun K "_law_same" "_law_same" s__law_same f fd) (T : Txt K mg) (L : Kl K mg C_Book C_Counts C_Condition C_Deal C_Cover) : FnOk P w K mg base CX0 1 f fd ["_law_found", "_law_names_here"] (spSame C_Cover) := by
  have sc := sc__law_same
  refine F.ok sc (fun vs H Q E h => ?_) (fun cdv A outer s H vs Q E hr h => ?_)
  · obtain ⟨_, _, _, rfl, _⟩ := h
    rfl
  obtain ⟨a, b, cs, rfl, ha, hcs, l60, hb, q⟩ := h
  have hu := room_u hr
  refine ⟨_, (pss_one (ps_ret (pe_and (pe_callB call_isinst rfl T.n_isinstance (show bootBuiltins _ = some (.builtin "isinstance") from rfl) (pa_cons (pv 0) (pa_cons (pe_ty "list" rfl T.n_list rfl) pa_nil))) (pe_one (pe_cmpR (op_eqL hu) (pe_comp (NC := ["_law_cover"]) (own := ["_law_cover"]) (cs := []) (ix := []) rfl (CompScope.of rfl) rfl trivial (pi_list (pv 0)) (fun _ _ _ => (pg_name (i := 0) (show (["_law_cover"] : List Str).Nodup from by decide +kernel) rfl (Or.inl rfl))) (fun _ _ _ => pts_nil) (fun _ _ _ => (pe_fldK (K := K) (pv 0) rfl))) (pv 1) (nomark _)))))), ?_⟩
  have lm : (cs.map cvV).length = cs.length := List.length_map _
  refine ⟨_, rfl, _, _, _, _, _, rfl, ty_is, .lst ha, kit_ll, _, rfl, _, rfl, a, rfl, ⟨_, SqL.of ha⟩, fun n nn => ?_⟩
  refine comp_list (K := K) (a := a) (xs := cs.map cvV) (fun i ys H2 => ys = ((cs.take i).map (·.2.1)).map V.str ∧ H2 n = some (.lst ys) ∧ Same H H2) ⟨rfl, upd_same, same_new nn _⟩
    (fun i ys H2 _ ⟨e, h1, s2⟩ => ⟨h1, by rw [e, List.length_map, List.length_map, List.length_take]; omega, SqL.of (s2 _ _ ha)⟩) (by rw [sizeLine_eq]; omega) (fun i x ys H2 hi ⟨e, h1, s2⟩ => ?_) (fun ys H2 ⟨e, h1, s2⟩ => ?_)
  · obtain ⟨c, dc, fc, ec, rfl, mc, hc, n1, w1⟩ := hcs.get hi
    refine ⟨_, rfl, c.1, C_Cover, dc, fc, _, rfl, s2 _ _ hc, L.cl_Cover, L.na_Cover_name, n1, h1, rfl, ?_, upd_same, fun b o z => ?_⟩
    · rw [take_snoc ec, List.map_append, List.map_append, e]
      rfl
    · rw [upd_ne (ne_of_none z nn)]
      exact s2 b o z
  rw [lm, List.take_length] at e
  subst e
  refine ⟨_, rfl, n, b, _, _, rfl, rfl, SqL.of h1, SqL.of (s2 _ _ hb), flat_strs _, flat_strs _, ?_⟩
  have q' := q _ s2
  rw [← eqL_strs (cs.map (·.2.1))] at q'
  exact q'
end


/-! ### k49: counts that are kept -/
def IntV (kvs : KVs) : Prop := ∀ k v, valV kvs k = some v → ∃ n : Int, v = .int n
theorem IntV.have {kvs : KVs} (h : IntV kvs) (nm : Str) (k : Int) (y : Key) : ∃ n : Int, haveV kvs nm k y = .int n := by
  unfold haveV
  cases z : valV kvs (key3 nm k y) with
  | none => exact ⟨0, rfl⟩
  | some v =>
    obtain ⟨n, rfl⟩ := h _ _ z
    exact ⟨n, rfl⟩
theorem IntV.put {kvs : KVs} (h : IntV kvs) (k : List Key) (n : Int) : IntV (putK kvs k (.int n)) := fun j v e => by
  rw [valV_put] at e
  by_cases c : j = k
  · rw [if_pos c] at e
    cases e
    exact ⟨n, rfl⟩
  · rw [if_neg c] at e
    exact h j v e
theorem key_at {ns : List Str} {n0 n1 : Str} {i j : Int} (h0 : 0 ≤ i) (h4 : i < 4) : ∃ y : Key, atI [V.str n0, .str n1, .int j, .str "x"] i = some (kV y) := by
  have : i = 0 ∨ i = 1 ∨ i = 2 ∨ i = 3 := by omega
  rcases this with rfl | rfl | rfl | rfl
  · exact ⟨.inr n0, rfl⟩
  · exact ⟨.inr n1, rfl⟩
  · exact ⟨.inl j, rfl⟩
  · exact ⟨.inr "x", rfl⟩
def seven (n0 n1 : Str) : List Key := [.inr n0, .inr n1, .inr "x", .inl 0, .inl 1, .inl 2, .inl 3]
theorem str_at {ns : List Str} {i : Int} (h0 : 0 ≤ i) (h : i < ns.length) : ∃ z, z ∈ ns ∧ ns[i.toNat]? = some z ∧ atI (ns.map V.str) i = some (.str z) := by
  obtain ⟨j, rfl⟩ := Int.eq_ofNat_of_zero_le h0
  have hj : j < ns.length := by omega
  refine ⟨ns[j], List.getElem_mem _, by rw [Int.toNat_natCast]; exact List.getElem?_eq_getElem hj, atI_nat ?_⟩
  rw [List.getElem?_map, List.getElem?_eq_getElem hj]
  rfl
theorem str_last {ns : List Str} (h : 1 ≤ ns.length) : ∃ z, z ∈ ns ∧ atI (ns.map V.str) (-1) = some (.str z) := by
  rcases List.eq_nil_or_concat ns with rfl | ⟨t, z, rfl⟩
  · simp at h
  · rw [List.concat_eq_append]
    refine ⟨z, by simp, ?_⟩
    rw [List.map_append]
    exact atI_last _ _
theorem cut_ints {ns : List Int} {lo hi : Option Int} : ∃ ms : List Int, cutV (ns.map V.int) lo hi = ms.map V.int ∧ ms.length ≤ ns.length := by
  refine ⟨(ns.drop (HT.sIx (ns.map V.int).length 0 lo)).take (HT.sIx (ns.map V.int).length (ns.map V.int).length hi - HT.sIx (ns.map V.int).length 0 lo), ?_, ?_⟩
  · unfold cutV
    rw [List.map_take, List.map_drop]
  · rw [List.length_take, List.length_drop]
    omega
theorem e12 : (10 : Int) ^ (12 : Int).toNat = 1000000000000 := by decide +kernel
/-- both keep the same -/
structure TwoAt (CC : Addr) (H0 H : Hp) (p kp d : Addr) (kvs : KVs) : Prop where
  ct : CtAt CC H p kp kvs
  hd : H d = some (.dT kvs)
  ne : d ≠ kp
  np : d ≠ p
  fk : H0 kp = none
  fd : H0 d = none
  s : Same H0 H
theorem TwoAt.same {CC : Addr} {H0 H H' : Hp} {p kp d : Addr} {kvs : KVs} (h : TwoAt CC H0 H p kp d kvs) (s : Same H H') : TwoAt CC H0 H' p kp d kvs := ⟨h.ct.same s, s _ _ h.hd, h.ne, h.np, h.fk, h.fd, h.s.trans s⟩
theorem TwoAt.put {CC : Addr} {H0 H : Hp} {p kp d : Addr} {kvs : KVs} (h : TwoAt CC H0 H p kp d kvs) (kvs' : KVs) : TwoAt CC H0 (upd (upd H kp (.dT kvs')) d (.dT kvs')) p kp d kvs' := by
  obtain ⟨⟨dx, fs, e, r⟩, h1⟩ := h.ct.put kvs'
  refine ⟨⟨⟨dx, fs, by rw [upd_ne h.np.symm]; exact e, r⟩, by rw [upd_ne h.ne.symm]; exact h1⟩, upd_same, h.ne, h.np, h.fk, h.fd, fun b o z => ?_⟩
  rw [upd_ne (ne_of_none z h.fd), upd_ne (ne_of_none z h.fk)]
  exact h.s _ _ z
def spCK (K : PySem.W.Frag) : Sp := fun vs H Q _ => ∃ a b, ∃ ns : List Int, ∃ ms : List Str, vs = [.ref a, .ref b] ∧ SqL K H a (List.map V.int ns) ∧ ns.length ≤ 63 ∧ H b = some (.lst (ms.map V.str)) ∧ 1 ≤ ms.length ∧ ms.length ≤ 8 ∧ ∀ H', Same H H' → Q (.bl true) H'
section
seal L2.PS L2.PSs L2.PE L2.PA
variable {P : Program} {w : World} {K : PySem.W.Frag} {mg : Str → Option Value} {base : Heap} {C_Book C_Counts C_Condition C_Deal C_Cover : Addr}
theorem sc__law_counts_kept : FnScope ["_law_script", "_law_names_here", "_law_counts", "_law_due", "_law_cell_here", "_law_drawn", "_law_key", "_law_place", "_law_name", "_law_k", "_law_found"] ["_law_script", "_law_names_here"] (defScope s__law_counts_kept) := ⟨rfl, rfl, rfl, by decide +kernel, rfl, by decide +kernel, by decide +kernel⟩
theorem ok__law_counts_kept {f : Addr} {fd : FuncData} (F : Fun K "_law_counts_kept" "_law_counts_kept" s__law_counts_kept f fd) (T : Txt K mg) (C_law_spread : Cal P w K mg base 1 "_law_spread" ["_law_cell_here"] spSpread) (C_law_whole : Cal P w K mg base 1 "_law_whole" ["_law_found"] (spWhole K))
    (KCounts : KCal P w K mg base 1 "Counts" C_Counts ["self"] (spCtI C_Counts)) (Mhave : MCal P w K mg base 1 C_Counts "have" ["self", "name", "k", "key"] (spHave C_Counts)) (Madd : MCal P w K mg base 2 C_Counts "add" ["self", "name", "k", "key", "cents"] (spAdd C_Counts)) :
    FnOk P w K mg base CX0 3 f fd ["_law_script", "_law_names_here"] (spCK K) := by
  have sc := sc__law_counts_kept
  refine F.ok sc (fun vs H Q E h => ?_) (fun cdv A outer s H vs Q E hr h => ?_)
  · obtain ⟨_, _, _, _, rfl, _⟩ := h
    rfl
  obtain ⟨a, b, ns, ms, rfl, ha, l63, hb, m1, m8, q⟩ := h
  have hu2 := hu_of hr
  refine ⟨_, (pss_cons (ps_set (i := 2) sc.nd rfl (Or.inl rfl) (pe_make0C KCounts (hr.mono (by decide)) rfl))
      (pss_cons (ps_set (i := 3) sc.nd rfl (Or.inl rfl) pe_dnewT)
      (pss_cons (ps_for PassesOwn.never rfl (pi_list (pe_slice sl_list (pv 0) (po_some pe_int) (po_some pe_int))) (pg_name (i := 4) sc.nd rfl (Or.inl rfl))
        (pss_cons (ps_set (i := 5) sc.nd rfl (Or.inl rfl) (pe_callC C_law_spread (hr.mono (by decide)) rfl (pa_cons (pv 4) pa_nil)))
      (pss_cons (ps_set (i := 6) sc.nd rfl (Or.inl rfl) (pe_ix ix_list (pe_lst (pa_cons (pe_ix ix_list (pv 1) pe_int (fun _ _ => rfl)) (pa_cons (pe_ix ix_list (pv 1) (pe_un un_neg pe_int) (fun _ _ => rfl)) (pa_cons (pe_op op_mod (pe_op op_fdiv (pv 5) pe_int) pe_int) (pa_cons pe_str pa_nil))))) (pe_op op_mod (pv 5) pe_int) (fun _ _ => rfl)))
      (pss_cons (ps_set (i := 7) sc.nd rfl (Or.inl rfl) (pe_tup (pa_cons (pe_ix ix_list (pv 1) (pe_op op_mod (pe_op op_fdiv (pv 5) pe_int) (pe_callB call_len_seq rfl T.n_len (show bootBuiltins _ = some (.builtin "len") from rfl) (pa_cons (pv 1) pa_nil))) (fun _ _ => rfl)) (pa_cons (pe_op op_mod (pe_op op_fdiv (pv 5) pe_int) pe_int) (pa_cons (pv 6) pa_nil)))))
      (pss_cons (ps_if (pt_cmpR op_ne (pe_methC Mhave (hr.mono (by decide)) (pv 2) (pa_cons (pe_ix ix_tup (pv 7) pe_int (fun _ _ => rfl)) (pa_cons (pe_ix ix_tup (pv 7) pe_int (fun _ _ => rfl)) (pa_cons (pe_ix ix_tup (pv 7) pe_int (fun _ _ => rfl)) pa_nil)))) (pe_dget2 hu2 (pv 3) (pv 7) pe_int ⟨rfl, rfl, rfl, rfl⟩) (nomark _))
        (pss_one (ps_ret pe_bl))
        pss_nil)
      (pss_cons (ps_expr (pe_methC Madd (hr.mono (by decide)) (pv 2) (pa_cons (pe_ix ix_tup (pv 7) pe_int (fun _ _ => rfl)) (pa_cons (pe_ix ix_tup (pv 7) pe_int (fun _ _ => rfl)) (pa_cons (pe_ix ix_tup (pv 7) pe_int (fun _ _ => rfl)) (pa_cons (pe_op op_mod (pv 4) (pe_op op_pow pe_int pe_int)) pa_nil))))))
      (pss_one (ps_dput hu2 (pv 3) (pv 7) (pe_op op_add (pe_dget2 hu2 (pv 3) (pv 7) pe_int ⟨rfl, rfl, rfl, rfl⟩) (pe_op op_mod (pv 4) (pe_op op_pow pe_int pe_int))) rfl))))))))
      (pss_cons (ps_for PassesOwn.never rfl (pi_list (pv 1)) (pg_name (i := 8) sc.nd rfl (Or.inl rfl))
        (pss_one (ps_for PassesOwn.never rfl (pi_range1 rfl T.n_range (pa_cons pe_int pa_nil)) (pg_name (i := 9) sc.nd rfl (Or.inl rfl))
        (pss_one (ps_for PassesOwn.never rfl (pi_list (pe_lst (pa_cons (pe_ix ix_list (pv 1) pe_int (fun _ _ => rfl)) (pa_cons (pe_ix ix_list (pv 1) (pe_un un_neg pe_int) (fun _ _ => rfl)) (pa_cons pe_str (pa_cons pe_int (pa_cons pe_int (pa_cons pe_int (pa_cons pe_int pa_nil))))))))) (pg_name (i := 6) sc.nd rfl (Or.inl rfl))
        (pss_cons (ps_set (i := 10) sc.nd rfl (Or.inl rfl) (pe_methC Mhave (hr.mono (by decide)) (pv 2) (pa_cons (pv 8) (pa_cons (pv 9) (pa_cons (pv 6) pa_nil)))))
      (pss_one (ps_if (PW.pt (pw_or (pt_not (pt_val (pe_callC C_law_whole (hr.mono (by decide)) rfl (pa_cons (pv 10) pa_nil)))) (pw_or1 (pt_cmpR op_ne (pv 10) (pe_dget2 hu2 (pv 3) (pe_tup (pa_cons (pv 8) (pa_cons (pv 9) (pa_cons (pv 6) pa_nil)))) pe_int ⟨rfl, rfl, rfl, rfl⟩) (nomark _)))))
        (pss_one (ps_ret pe_bl))
        pss_nil))))))))
      (pss_one (ps_ret pe_bl)))))), ?_⟩
  have lm : (ms.map V.str).length = ms.length := List.length_map _
  obtain ⟨n0, _, _, at0⟩ := str_at (ns := ms) (i := 0) (by omega) (by omega)
  obtain ⟨n1, _, at1⟩ := str_last m1
  -- counts, due
  intro p dp np ndp nep
  refine ⟨p, dp, rfl, upd_same, fun kp H1 k1 ct nkp => ⟨rfl, ?_⟩⟩
  have s1 : Same H H1 := made_same np ndp k1
  refine atG [some (.ref a), some (.ref b), some (.ref p), none, none, none, none, none, none, none, none] rfl ?_
  intro d nd
  have fk : H kp = none := made_none nkp
  have two : TwoAt C_Counts H (upd H1 d (.dT [])) p kp d [] := by
    have ct' := ct.same (same_new nd (.dT []))
    obtain ⟨⟨dx, fs, e, r⟩, h1⟩ := id ct
    exact ⟨ct', upd_same, (ne_of_none h1 nd).symm, (ne_of_none e nd).symm, fk, s1.free nd, s1.trans (same_new nd _)⟩
  generalize upd H1 d (.dT []) = H2 at two
  refine atG [some (.ref a), some (.ref b), some (.ref p), some (.ref d), none, none, none, none, none, none, none] rfl ?_
  -- the cells
  refine ⟨_, rfl, _, rfl, _, rfl, a, _, rfl, two.s.seq ha, fun sl nsl => ?_⟩
  obtain ⟨us, eus, lus⟩ := cut_ints (ns := ns) (lo := some 2) (hi := some 42)
  rw [eus]
  have two3 := two.same (same_new nsl (.lst (us.map V.int)))
  have hs3 : upd H2 sl (.lst (us.map V.int)) sl = some (.lst (us.map V.int)) := upd_same
  have nsd : sl ≠ d := (ne_of_none two.hd nsl).symm
  have nsk : sl ≠ kp := (ne_of_none two.ct.hk nsl).symm
  generalize upd H2 sl (.lst (us.map V.int)) = H3 at two3 hs3
  refine ⟨sl, rfl, ⟨_, SqL.of hs3⟩, ?_⟩
  refine for_list (K := K) (a := sl) (xs := us.map V.int) (fun i σ H4 => (∃ o4 o5 o6 o7, σ = [some (.ref a), some (.ref b), some (.ref p), some (.ref d), o4, o5, o6, o7, none, none, none]) ∧ (∃ kvs, TwoAt C_Counts H H4 p kp d kvs ∧ IntV kvs ∧ kvs.length ≤ i) ∧ H4 sl = some (.lst (us.map V.int)))
    ⟨⟨none, none, none, none, rfl⟩, ⟨[], two3, (fun k v z => by cases z), Nat.le_refl _⟩, hs3⟩ (fun i σ H4 _ hh => SqL.of hh.2.2) ?_ ?_
  · rintro i x σ H4 hi ⟨⟨o4, o5, o6, o7, rfl⟩, ⟨kvs, tw, iv, lk⟩, hs4⟩
    have il : i < us.length := by
      have := (List.getElem?_eq_some_iff.mp hi).1
      rwa [List.length_map] at this
    rw [List.getElem?_map] at hi
    obtain ⟨c, _, rfl⟩ := Option.map_eq_some_iff.mp hi
    refine ⟨_, rfl, _, rfl, fun r r0 r1 => ?_⟩
    refine atG [some (.ref a), some (.ref b), some (.ref p), some (.ref d), some (.int c), some (.int r), o6, o7, none, none, none] rfl ?_
    have hb4 := tw.s _ _ hb
    -- key
    refine ⟨_, rfl, b, _, _, _, rfl, rfl, SqL.of hb4, at0, _, rfl, _, rfl, b, _, _, _, rfl, rfl, SqL.of hb4, at1, _, rfl, _, _, rfl, rfl, ⟨by decide, by decide⟩, _, _, rfl, rfl, (by show (0 : Int) < 3; decide), le_line (by show 4 ≤ 1000; decide), fun l nl => ?_⟩
    obtain ⟨y, ey⟩ := key_at (ns := ms) (n0 := n0) (n1 := n1) (i := r % 4) (j := r / 4 % 3) (by omega) (by omega)
    have tw5 := tw.same (same_new nl (.lst [V.str n0, .str n1, .int (r / 4 % 3), .str "x"]))
    have h5 : upd H4 l (.lst [V.str n0, .str n1, .int (r / 4 % 3), .str "x"]) l = some (.lst [V.str n0, .str n1, .int (r / 4 % 3), .str "x"]) := upd_same
    have hs5 := same_new nl (.lst [V.str n0, .str n1, .int (r / 4 % 3), .str "x"]) _ _ hs4
    generalize upd H4 l (.lst [V.str n0, .str n1, .int (r / 4 % 3), .str "x"]) = H5 at tw5 h5 hs5
    refine ⟨_, rfl, _, _, rfl, rfl, (by show (0 : Int) < 4; decide), l, _, _, _, rfl, rfl, SqL.of h5, ey, ?_⟩
    refine atG [some (.ref a), some (.ref b), some (.ref p), some (.ref d), some (.int c), some (.int r), some (kV y), o7, none, none, none] rfl ?_
    have hb5 := tw5.s _ _ hb
    -- place
    have i0 : 0 ≤ r / 12 % (ms.length : Int) := Int.emod_nonneg _ (by omega)
    have i1 : r / 12 % (ms.length : Int) < ms.length := Int.emod_lt_of_pos _ (by omega)
    obtain ⟨nm, _, _, atn⟩ := str_at (ns := ms) i0 i1
    refine ⟨_, rfl, _, rfl, _, _, rfl, rfl, ⟨by decide, by decide⟩, _, rfl, b, _, rfl, .inl (SqL.of hb5), _, _, rfl, rfl, (by rw [lm]; show (0 : Int) < (ms.length : Int); omega), b, _, _, _, rfl, rfl, SqL.of hb5, by rw [lm]; exact atn, _, rfl, _, _, rfl, rfl, ⟨by decide, by decide⟩, _, _, rfl, rfl, (by show (0 : Int) < 3; decide), _, rfl, le_line (by show 3 ≤ 1000; decide), fun t nt => ?_⟩
    have tw6 := tw5.same (same_new nt (.tup [V.str nm, .int (r / 96 % 3), kV y]))
    have h6 : upd H5 t (.tup [V.str nm, .int (r / 96 % 3), kV y]) t = some (.tup [V.str nm, .int (r / 96 % 3), kV y]) := upd_same
    have hs6 := same_new nt (.tup [V.str nm, .int (r / 96 % 3), kV y]) _ _ hs5
    generalize upd H5 t (.tup [V.str nm, .int (r / 96 % 3), kV y]) = H6 at tw6 h6 hs6
    refine atG [some (.ref a), some (.ref b), some (.ref p), some (.ref d), some (.int c), some (.int r), some (kV y), some (.ref t), none, none, none] rfl ?_
    generalize r / 96 % 3 = k at h6
    obtain ⟨n, en⟩ := iv.have nm k y
    -- have, get
    obtain ⟨⟨dx, fs, hp, b1, b2, b3⟩, hk⟩ := id tw6.ct
    refine ⟨_, rfl, p, dx, fs, rfl, hp, b2, _, rfl, t, _, _, _, rfl, rfl, SqT.of h6, rfl, _, rfl, t, _, _, _, rfl, rfl, SqT.of h6, rfl, _, rfl, t, _, _, _, rfl, rfl, SqT.of h6, rfl, p, kp, kvs, nm, k, y, rfl, tw6.ct, fun H7 s7 => ?_⟩
    have tw7 := tw6.same s7
    have h7 := s7 _ _ h6
    have hs7 := s7 _ _ hs6
    rw [en]
    refine ⟨_, rfl, d, rfl, .inr ⟨kvs, .inl tw7.hd⟩, _, rfl, _, DGet.t (k := key3 nm k y) tw7.hd h7, ?_⟩
    have en' : (valV kvs (key3 nm k y)).getD (.int 0) = .int n := en
    rw [en']
    refine ⟨rfl, _, rfl, nF rfl ?_⟩
    -- add
    obtain ⟨⟨dx', fs', hp', b1', b2', b3'⟩, hk'⟩ := id tw7.ct
    refine ⟨_, rfl, p, dx', fs', rfl, hp', b3', _, rfl, t, _, _, _, rfl, rfl, SqT.of h7, rfl, _, rfl, t, _, _, _, rfl, rfl, SqT.of h7, rfl, _, rfl, t, _, _, _, rfl, rfl, SqT.of h7, rfl, _, rfl, _, _, rfl, rfl, ⟨by decide, by decide, by decide⟩, _, _, rfl, rfl, (by show (0 : Int) < (10 : Int) ^ (12 : Int).toNat; rw [e12]; decide), p, kp, kvs, nm, k, y, _, n, rfl, tw7.ct, en, by omega, fun H8 s8 => ?_⟩
    have tw8 := tw7.same s8
    have h8 := s8 _ _ h7
    have hs8 := s8 _ _ hs7
    have ntk : t ≠ kp := ne_of h8 tw8.ct.hk (by intro z; cases z)
    have e8 : ∀ o, upd H8 kp o d = some (.dT kvs) := fun o => by rw [upd_ne tw8.ne]; exact tw8.hd
    have t8 : ∀ o, upd H8 kp o t = some (.tup [V.str nm, .int k, kV y]) := fun o => by rw [upd_ne ntk]; exact h8
    refine ⟨_, rfl, d, rfl, .inr ⟨kvs, .inl (e8 _)⟩, _, rfl, _, DGet.t (k := key3 nm k y) (e8 _) (t8 _), ?_⟩
    rw [en']
    refine ⟨_, rfl, _, _, rfl, rfl, ⟨by decide, by decide, by decide⟩, _, _, rfl, rfl, (by show (0 : Int) < (10 : Int) ^ (12 : Int).toNat; rw [e12]; decide), _, _, rfl, rfl, _, rfl, _, rfl, d, _, rfl, DPut.t (k := key3 nm k y) (e8 _) (t8 _) (by rw [sizeLine_eq]; omega), ?_⟩
    refine ⟨⟨_, _, _, _, rfl⟩, ⟨_, tw8.put _, iv.put _ _, Nat.le_trans (length_putK _ _ _) (by omega)⟩, ?_⟩
    rw [upd_ne nsd, upd_ne nsk]
    exact hs8
  · rintro σ H4 ⟨⟨o4, o5, o6, o7, rfl⟩, ⟨kvs, tw, iv, lk⟩, hs4⟩
    have hb4 := tw.s _ _ hb
    refine ⟨_, rfl, b, rfl, ⟨_, SqL.of hb4⟩, ?_⟩
    refine for_list (K := K) (a := b) (xs := ms.map V.str) (fun i σ H5 => (∃ o6 o8 o9 o10, σ = [some (.ref a), some (.ref b), some (.ref p), some (.ref d), o4, o5, o6, o7, o8, o9, o10]) ∧ TwoAt C_Counts H H5 p kp d kvs)
      ⟨⟨o6, none, none, none, rfl⟩, tw⟩ (fun i σ H5 _ hh => SqL.of (hh.2.s _ _ hb)) ?_ ?_
    · rintro i x σ H5 hi ⟨⟨o6', o8, o9, o10, rfl⟩, tw5⟩
      rw [List.getElem?_map] at hi
      obtain ⟨nm, _, rfl⟩ := Option.map_eq_some_iff.mp hi
      refine ⟨_, rfl, by decide, by decide, ?_⟩
      refine for_range (lo := 0) (n := (3 : Int).toNat) (fun i σ H6 => (∃ o6 o9 o10, σ = [some (.ref a), some (.ref b), some (.ref p), some (.ref d), o4, o5, o6, o7, some (.str nm), o9, o10]) ∧ TwoAt C_Counts H H6 p kp d kvs) ⟨⟨o6', o9, o10, rfl⟩, tw5⟩ ?_ ?_
      · rintro k σ H6 hk ⟨⟨o6', o9', o10', rfl⟩, tw6⟩
        have hb6 := tw6.s _ _ hb
        refine ⟨_, rfl, b, _, _, _, rfl, rfl, SqL.of hb6, at0, _, rfl, _, rfl, b, _, _, _, rfl, rfl, SqL.of hb6, at1, le_line (by show 7 ≤ 1000; decide), fun l nl => ?_⟩
        refine ⟨l, rfl, ⟨_, SqL.of (show _ = some (HO.lst ((seven n0 n1).map kV)) from upd_same)⟩, ?_⟩
        refine for_list (K := K) (a := l) (xs := (seven n0 n1).map kV) (fun j σ H8 => (∃ o6 o10, σ = [some (.ref a), some (.ref b), some (.ref p), some (.ref d), o4, o5, o6, o7, some (.str nm), some (.int (0 + (k : Int))), o10]) ∧ TwoAt C_Counts H H8 p kp d kvs ∧ H8 l = some (.lst ((seven n0 n1).map kV)))
          ⟨⟨o6', o10', rfl⟩, tw6.same (same_new nl _), upd_same⟩ (fun j σ H8 _ hh => SqL.of hh.2.2) ?_ ?_
        · rintro j x σ H8 hj ⟨⟨o6'', o10'', rfl⟩, tw8, h8⟩
          rw [List.getElem?_map] at hj
          obtain ⟨y, _, rfl⟩ := Option.map_eq_some_iff.mp hj
          obtain ⟨⟨dx, fs, hp, b1, b2, b3⟩, _⟩ := id tw8.ct
          obtain ⟨n, en⟩ := iv.have nm (0 + (k : Int)) y
          refine ⟨_, rfl, p, dx, fs, rfl, hp, b2, _, rfl, _, rfl, _, rfl, p, kp, kvs, nm, _, y, rfl, tw8.ct, fun H9 s9 => ?_⟩
          rw [en]
          have tw9 := tw8.same s9
          have h9 := s9 _ _ h8
          refine atG [some (.ref a), some (.ref b), some (.ref p), some (.ref d), o4, o5, some (kV y), o7, some (.str nm), some (.int (0 + (k : Int))), some (.int n)] rfl ?_
          refine ⟨_, rfl, _, _, rfl, .int n, _, rfl, iteF ?_⟩
          refine ⟨_, rfl, _, rfl, d, rfl, .inr ⟨kvs, .inl tw9.hd⟩, _, rfl, _, rfl, _, rfl, le_line (by show 3 ≤ 1000; decide), fun t nt => ?_⟩
          have s10 := same_new nt (.tup [V.str nm, .int (0 + (k : Int)), kV y])
          refine ⟨_, DGet.t (k := key3 nm (0 + (k : Int)) y) (s10 _ _ tw9.hd) upd_same, ?_⟩
          have en' : (valV kvs (key3 nm (0 + (k : Int)) y)).getD (.int 0) = .int n := en
          rw [en']
          exact ⟨rfl, _, rfl, nF rfl ⟨⟨_, _, rfl⟩, tw9.same s10, s10 _ _ h9⟩⟩
        · rintro σ H8 ⟨⟨o6'', o10'', rfl⟩, tw8, h8⟩
          exact ⟨⟨_, _, _, rfl⟩, tw8⟩
      · rintro σ H6 ⟨⟨o6', o9', o10', rfl⟩, tw6⟩
        exact ⟨⟨_, _, _, _, rfl⟩, tw6⟩
    · rintro σ H5 ⟨⟨o6', o8, o9, o10, rfl⟩, tw5⟩
      exact q _ tw5.s
end


/-! ### k49: the law -/
theorem cov1 {K : PySem.W.Frag} {C CD Cn Cs : Addr} {H : Hp} {p dx : Addr} {z : Str} {cd : V} {wv : Bool} {Q : VK} (hp : H p = some (.ins C dx [])) (ok : nameV (.str z) = true ∧ z.length ≤ 8 ∧ z ≠ "self")
    (q : ∀ H', KB p H H' → CvsAt C H' [(p, z, wv)] → Q .non H') : spCov K C CD Cn Cs [.ref p, .str z, cd, .non, .non, .bl wv] H Q E0 := by
  have gn : goodN (.str z) := ⟨ok.1, fun y => ok.2.2 (V.str.inj y)⟩
  have gh : GoodHs [V.str z] := ⟨[z], rfl, fun y hy => by rw [List.mem_singleton.mp hy]; exact ok.1, List.pairwise_singleton _ _⟩
  have gw : GoodWs [V.int 1] := ⟨[1], rfl, ⟨by decide, by decide, by decide, by decide⟩⟩
  refine ⟨p, dx, .str z, _, cd, .non, [], .non, [(.str z, .int 1)], .bl wv, rfl, hp, .str z, (fun y e => by cases e; exact Nat.le_trans ok.2.1 (by decide)), .inl ⟨rfl, rfl⟩, .inl ⟨rfl, rfl⟩, (by show 1 ≤ 900; decide), fun y hy => ?_, fun bad => ?_, fun _ _ _ n => absurd gw n, fun nm' ws e _ _ _ ew _ cl h1 d wh wt H' k cv f1 f2 f3 f4 f5 => q H' k fun c hc => ?_⟩
  · rw [List.mem_singleton.mp hy]
    exact ⟨(fun y e => by cases e; exact Nat.le_trans ok.2.1 (by decide)), ⟨_, .str z⟩, _, .int 1⟩
  · rcases bad with y | y | y
    · exact absurd gn y
    · exact absurd y (by decide)
    · exact absurd gh y
  · rw [List.mem_singleton.mp hc]
    cases e
    obtain ⟨d0, fs, e0, a1, _, _, _, _, a2, _⟩ := cv.ob
    exact ⟨d0, fs, e0, a1, a2⟩
theorem CvsAt.app {C : Addr} {H : Hp} {cs ds : List Cv} (h : CvsAt C H cs) (g : CvsAt C H ds) : CvsAt C H (cs ++ ds) := fun c hc => by
  rcases List.mem_append.mp hc with z | z
  · exact h c z
  · exact g c z
theorem CvsAt.lst {C : Addr} {H : Hp} {cs : List Cv} {l : Addr} {ys : List V} (h : CvsAt C H cs) (hl : H l = some (.lst ys)) (o : HO) : CvsAt C (upd H l o) cs := fun c hc => by
  obtain ⟨dx, fs, e, r⟩ := h c hc
  exact ⟨dx, fs, by rw [upd_ne (ne_of e hl (by intro z; cases z))]; exact e, r⟩
theorem CvsAt.sub {C : Addr} {H : Hp} {cs ds : List Cv} (h : CvsAt C H cs) (s : ∀ c ∈ ds, c ∈ cs) : CvsAt C H ds := fun c hc => h c (s c hc)
def a8 : List Nat := [97, 97, 97, 97, 97, 97, 97, 97]
def nine : List Nat := [98, 99, 100, 101, 102, 103, 104, 105, 106]
theorem a8_tx : Str.ofString "aaaaaaaa" = tx a8 := by decide +kernel
theorem nine_tx : Str.ofString "bcdefghij" = tx nine := by decide +kernel
def nineL (j c : Nat) : List Nat := a8.take j ++ [c] ++ a8.drop (j + 1)
theorem nine_ok {j c : Nat} (hj : j < 8) (hc : c ∈ nine) : nameV (.str (tx (nineL j c))) = true ∧ (tx (nineL j c)).length ≤ 8 ∧ tx (nineL j c) ≠ "self" := by
  have ln : (nineL j c).length = 8 := by
    unfold nineL
    rw [List.length_append, List.length_append, List.length_take, List.length_drop]
    show min j 8 + 1 + (8 - (j + 1)) = 8
    omega
  have lc : letter c := by
    unfold nine at hc
    unfold letter
    simp at hc
    omega
  refine ⟨decide_eq_true (show NameL (nineL j c) from ⟨by omega, fun d hd => ?_⟩), by rw [tx_len]; omega, fun h => ?_⟩
  · have la : ∀ d ∈ a8, letter d := by decide
    unfold nineL at hd
    rcases List.mem_append.mp hd with z | z
    · rcases List.mem_append.mp z with z | z
      · exact la d (List.mem_of_mem_take z)
      · rw [List.mem_singleton.mp z]; exact lc
    · exact la d (List.mem_of_mem_drop z)
  · have h' : tx (nineL j c) = Str.ofString "self" := h
    rw [self_tx] at h'
    have := congrArg List.length (tx_eq h')
    rw [ln] at this
    exact absurd this (by decide)
/-- y, yz, yzz .. -/
def yz (n : Nat) : Str := tx (121 :: List.replicate n 122)
theorem yz_inj {i j : Nat} (h : yz i = yz j) : i = j := by
  have := congrArg List.length (tx_eq h)
  simpa using this
theorem yz_len (n : Nat) : (yz n).length = n + 1 := by unfold yz; rw [tx_len, List.length_cons, List.length_replicate]
theorem yz_more (n : Nat) : yz n ++ Str.ofString "z" = yz (n + 1) := by
  have e : Str.ofString "z" = tx [122] := by decide +kernel
  rw [e]
  unfold yz
  rw [tx_app, List.cons_append, ← List.replicate_succ']
theorem y_tx : Str.ofString "y" = yz 0 := by decide +kernel
theorem yz_few {ms : List Str} {n : Nat} (h8 : ms.length ≤ 8) (h : ∀ i, i < n → yz i ∈ ms) : n ≤ 8 := by
  have := nodup_le (ks := (List.range n).map yz) (ss := ms) ?_ fun y hy => ?_
  · rw [List.length_map, List.length_range] at this
    omega
  · rw [List.nodup_iff_pairwise_ne, List.pairwise_map]
    exact List.Pairwise.imp (fun {x y} ne e => ne (yz_inj e)) (List.nodup_iff_pairwise_ne.mp List.nodup_range)
  · obtain ⟨i, hi, rfl⟩ := List.mem_map.mp hy
    exact h i (List.mem_range.mp hi)
theorem twice_end {cs : List Cv} {c d : Cv} (hc : c ∈ cs) (e : d.2.1 = c.2.1) : ¬ ((cs ++ [d]).map (·.2.1)).Nodup := fun nd => by
  rw [List.map_append, List.nodup_append] at nd
  exact nd.2.2 c.2.1 (List.mem_map.mpr ⟨c, hc, rfl⟩) d.2.1 (by simp) e.symm
theorem bl_at {ws : List Bool} {i : Nat} {b : Bool} (h : ws[i]? = some b) : atI (ws.map V.bl) (i : Int) = some (.bl b) := by
  refine atI_nat ?_
  rw [List.getElem?_map, h]
  rfl
theorem st_at {ws : List Str} {i : Nat} {b : Str} (h : ws[i]? = some b) : atI (ws.map V.str) (i : Int) = some (.str b) := by
  refine atI_nat ?_
  rw [List.getElem?_map, h]
  rfl
theorem atS {v : V} {i : Nat} {ts : TS} {D : Ends} {σ : St} {H : Hp} (σ' : St) (e : σ.set i (some v) = σ') (h : ts D σ' H) : tSeq (tAsg (tC v) (gName i)) ts D σ H := by
  show ts D (σ.set i (some v)) H
  rw [e]
  exact h
def spLaw (K : PySem.W.Frag) : Sp := fun vs H Q _ => ∃ (a : Addr) (ns : List Int), vs = [.ref a] ∧ SqL K H a (ns.map V.int) ∧ ns.length ≤ 63 ∧ ∀ H', Q (.bl true) H'
section
variable {P : Program} {w : World} {K : PySem.W.Frag} {mg : Str → Option Value} {base : Heap} {C_Book C_Counts C_Condition C_Deal C_Cover : Addr} {C_CoverError C_NoShares C_NoEntry C_NoCover C_NoBook C_Twice C_NotTold : Addr}
theorem sc_law : FnScope ["_law_script", "_law_names_here", "_law_waits", "_law_handed", "_law_book", "_law_at", "_law_nine", "_law_firm", "_law_k", "_law_found", "_law_other", "_law_empty"] ["_law_script"] (defScope s_law) := ⟨rfl, rfl, rfl, by decide +kernel, rfl, by decide +kernel, by decide +kernel⟩
theorem ok_law {f : Addr} {fd : FuncData} (F : Fun K "law" "law" s_law f fd) (T : Txt K mg) (L : Kl K mg C_Book C_Counts C_Condition C_Deal C_Cover) (C_law_cell : Cal P w K mg base 1 "_law_cell" ["_law_script", "_law_k"] (spCell K)) (C_law_names : Cal P w K mg base 1 "_law_names" ["_law_cell_here", "_law_many"] spNames) (C_law_spread : Cal P w K mg base 1 "_law_spread" ["_law_cell_here"] spSpread)
    (C_law_no_book : Cal P w K mg base 3 "_law_no_book" ["_law_some"] (spNoBook C_Cover)) (C_law_not_told : Cal P w K mg base 3 "_law_not_told" ["_law_book", "_law_name"] (spNotTold C_Cover C_Book)) (C_law_same : Cal P w K mg base 1 "_law_same" ["_law_found", "_law_names_here"] (spSame C_Cover)) (C_law_counts_kept : Cal P w K mg base 3 "_law_counts_kept" ["_law_script", "_law_names_here"] (spCK K))
    (NCondition : Mk0 K mg "Condition" C_Condition) (KBook : KCal P w K mg base 1 "Book" C_Book ["self", "covers"] (fun vs H Q _ => spBook C_Cover C_Book C_NoBook vs H Q E0)) (Mnamed : MCal P w K mg base 1 C_Book "named" ["self", "name"] (fun vs H Q _ => spNamed C_Cover C_Book C_NotTold vs H Q E0))
    (KCover : KCal P w K mg base 6 "Cover" C_Cover ["self", "name", "condition", "clauses", "houses", "waits"] (fun vs H Q _ => spCov K C_Cover C_Deal C_NoCover C_NoShares vs H Q E0))
    (KCoverD : KCalD P w K mg base 6 "Cover" C_Cover ["self", "name", "condition", "clauses", "houses", "waits"] [.non, .non, .bl false] (fun vs H Q _ => spCov K C_Cover C_Deal C_NoCover C_NoShares vs H Q E0)) : FnOk P w K mg base CX0 8 f fd ["_law_script"] (spLaw K) := by
  have sc := sc_law
  refine F.ok sc (fun vs H Q E h => ?_) (fun cdv A outer s H vs Q E hr h => ?_)
  · obtain ⟨_, _, rfl, _⟩ := h
    rfl
  have hu0 := hr.units0
  obtain ⟨a, ns, rfl, ha, l63, q⟩ := h
  refine ⟨_, (pss_cons (ps_set (i := 1) sc.nd rfl (Or.inr rfl) (pe_callC C_law_names (hr.mono (by decide)) rfl (pa_cons (pe_callC C_law_spread (hr.mono (by decide)) rfl (pa_cons (pe_callC C_law_cell (hr.mono (by decide)) rfl (pa_cons (pv 0) (pa_cons pe_int pa_nil))) pa_nil)) (pa_cons (pe_op op_add pe_int (pe_op op_mod (pe_callC C_law_spread (hr.mono (by decide)) rfl (pa_cons (pe_callC C_law_cell (hr.mono (by decide)) rfl (pa_cons (pv 0) (pa_cons pe_int pa_nil))) pa_nil)) pe_int)) pa_nil))))
      (pss_cons (ps_set (i := 2) sc.nd rfl (Or.inr rfl) (pe_comp (NC := ["_law_k", "_law_script"]) (own := ["_law_k"]) (cs := ["_law_script"]) (ix := [0]) rfl (CompScope.of rfl) rfl ⟨⟨rfl, .inl rfl, rfl⟩, trivial⟩ (pi_range1 rfl T.n_range (pa_cons (pe_callB call_len_seq rfl T.n_len (show bootBuiltins _ = some (.builtin "len") from rfl) (pa_cons (pv 1) pa_nil)) pa_nil)) (fun _ _ _ => (pg_name (i := 0) (show (["_law_k", "_law_script"] : List Str).Nodup from by decide +kernel) rfl (Or.inl rfl))) (fun _ _ _ => pts_nil) (fun _ _ _ => (pe_cmpR op_eq (pe_op op_mod (pe_callC C_law_cell (hr.mono (by decide)) rfl (pa_cons (pv 1) (pa_cons (pe_op op_add pe_int (pv 0)) pa_nil))) pe_int) pe_int (nomark _)))))
      (pss_cons (ps_comp (NC := ["_law_k", "_law_names_here", "_law_waits"]) (own := ["_law_k"]) (cs := ["_law_names_here", "_law_waits"]) (ix := [1, 2]) (j := 3) sc.nd rfl rfl rfl (CompScope.of rfl) rfl ⟨⟨rfl, .inl rfl, rfl⟩, ⟨⟨rfl, .inl rfl, rfl⟩, trivial⟩⟩ (pi_range1 rfl T.n_range (pa_cons (pe_callB call_len_seq rfl T.n_len (show bootBuiltins _ = some (.builtin "len") from rfl) (pa_cons (pv 1) pa_nil)) pa_nil)) (fun _ _ _ => (pg_name (i := 0) (show (["_law_k", "_law_names_here", "_law_waits"] : List Str).Nodup from by decide +kernel) rfl (Or.inl rfl))) (fun _ _ _ => pts_nil) (fun _ _ _ => (pe_makeC KCover (hr.mono (by decide)) rfl (pa_cons (pe_ix (ix_listK (K := K) rfl) (pv 1) (pv 0) (fun _ _ => rfl)) (pa_cons (pe_new0 NCondition rfl) (pa_cons pe_non (pa_cons pe_non (pa_cons (pe_ix (ix_listK (K := K) rfl) (pv 2) (pv 0) (fun _ _ => rfl)) pa_nil))))))))
      (pss_cons (ps_set (i := 4) sc.nd rfl (Or.inl rfl) (pe_makeC KBook (hr.mono (by decide)) rfl (pa_cons (pv 3) pa_nil)))
      (pss_cons (ps_set (i := 5) sc.nd rfl (Or.inr rfl) (pe_op op_mod (pe_callC C_law_cell (hr.mono (by decide)) rfl (pa_cons (pv 0) (pa_cons pe_int pa_nil))) (pe_callB call_len_seq rfl T.n_len (show bootBuiltins _ = some (.builtin "len") from rfl) (pa_cons (pv 1) pa_nil))))
      (pss_cons (ps_expr (pe_bm PySem.F.plainAttrs_list PySem.F.slot_list_append PySem.F.type_list_append mt_append (pv 3) (pa_cons (pe_makeC KCover (hr.mono (by decide)) rfl (pa_cons (pe_ix ix_list (pv 1) (pv 5) (fun _ _ => rfl)) (pa_cons (pe_new0 NCondition rfl) (pa_cons pe_non (pa_cons pe_non (pa_cons (pe_not (pe_ix ix_list (pv 2) (pv 5) (fun _ _ => rfl))) pa_nil)))))) pa_nil)))
      (pss_cons (ps_if (PW.pt (pw_or (pt_not (pt_val (pe_callC C_law_no_book (hr.mono (by decide)) rfl (pa_cons (pv 3) pa_nil)))) (pw_or1 (pt_not (pt_val (pe_callC C_law_no_book (hr.mono (by decide)) rfl (pa_cons (pe_rev (pv 3) (pe_un un_neg pe_int)) pa_nil)))))))
        (pss_one (ps_ret pe_bl))
        pss_nil)
      (pss_cons (ps_comp (NC := ["_law_letter", "_law_at"]) (own := ["_law_letter"]) (cs := ["_law_at"]) (ix := [5]) (j := 6) sc.nd rfl rfl rfl (CompScope.of rfl) rfl ⟨⟨rfl, .inl rfl, rfl⟩, trivial⟩ (pi_str pe_str) (fun _ _ _ => (pg_name (i := 0) (show (["_law_letter", "_law_at"] : List Str).Nodup from by decide +kernel) rfl (Or.inl rfl))) (fun _ _ _ => pts_nil) (fun _ _ _ => (pe_op op_add_str (pe_op op_add_str (pe_slice sl_str pe_str po_none (po_some (pv 1))) (pv 0)) (pe_slice sl_str pe_str (po_some (pe_op op_add (pv 1) pe_int)) po_none))))
      (pss_cons (ps_if (PW.pt (pw_or (pt_not (pt_val (pe_callC C_law_no_book (hr.mono (by decide)) rfl (pa_cons (pe_comp (NC := ["_law_name"]) (own := ["_law_name"]) (cs := []) (ix := []) rfl (CompScope.of rfl) rfl trivial (pi_list (pv 6)) (fun _ _ _ => (pg_name (i := 0) (show (["_law_name"] : List Str).Nodup from by decide +kernel) rfl (Or.inl rfl))) (fun _ _ _ => pts_nil) (fun _ _ _ => (pe_makeD KCoverD (hr.mono (by decide)) rfl (pa_cons (pv 0) (pa_cons (pe_new0 NCondition rfl) pa_nil))))) pa_nil)))) (pw_or1 (pt_not (pt_val (pe_callC C_law_same (hr.mono (by decide)) rfl (pa_cons (pe_fld (pv 4) rfl) (pa_cons (pv 1) pa_nil))))))))
        (pss_one (ps_ret pe_bl))
        pss_nil)
      (pss_cons (ps_comp (NC := ["_law_k", "_law_names_here", "_law_waits"]) (own := ["_law_k"]) (cs := ["_law_names_here", "_law_waits"]) (ix := [1, 2]) (j := 7) sc.nd rfl rfl rfl (CompScope.of rfl) rfl ⟨⟨rfl, .inl rfl, rfl⟩, ⟨⟨rfl, .inl rfl, rfl⟩, trivial⟩⟩ (pi_range1 rfl T.n_range (pa_cons (pe_callB call_len_seq rfl T.n_len (show bootBuiltins _ = some (.builtin "len") from rfl) (pa_cons (pv 1) pa_nil)) pa_nil)) (fun _ _ _ => (pg_name (i := 0) (show (["_law_k", "_law_names_here", "_law_waits"] : List Str).Nodup from by decide +kernel) rfl (Or.inl rfl))) (fun _ _ _ => (pts_one (pt_not (pt_val (pe_ix (ix_listK (K := K) rfl) (pv 2) (pv 0) (fun _ _ => rfl)))))) (fun _ _ _ => (pe_ix (ix_listK (K := K) rfl) (pv 1) (pv 0) (fun _ _ => rfl))))
      (pss_cons (ps_if (pt_not (pt_val (pe_callC C_law_same (hr.mono (by decide)) rfl (pa_cons (pe_fld (pv 4) rfl) (pa_cons (pe_op op_cat (pv 7) (pe_comp (NC := ["_law_k", "_law_names_here", "_law_waits"]) (own := ["_law_k"]) (cs := ["_law_names_here", "_law_waits"]) (ix := [1, 2]) rfl (CompScope.of rfl) rfl ⟨⟨rfl, .inl rfl, rfl⟩, ⟨⟨rfl, .inl rfl, rfl⟩, trivial⟩⟩ (pi_range1 rfl T.n_range (pa_cons (pe_callB call_len_seq rfl T.n_len (show bootBuiltins _ = some (.builtin "len") from rfl) (pa_cons (pv 1) pa_nil)) pa_nil)) (fun _ _ _ => (pg_name (i := 0) (show (["_law_k", "_law_names_here", "_law_waits"] : List Str).Nodup from by decide +kernel) rfl (Or.inl rfl))) (fun _ _ _ => (pts_one (pt_val (pe_ix (ix_listK (K := K) rfl) (pv 2) (pv 0) (fun _ _ => rfl))))) (fun _ _ _ => (pe_ix (ix_listK (K := K) rfl) (pv 1) (pv 0) (fun _ _ => rfl))))) pa_nil)))))
        (pss_one (ps_ret pe_bl))
        pss_nil)
      (pss_cons (ps_for PassesOwn.never rfl (pi_range1 rfl T.n_range (pa_cons (pe_callB call_len_seq rfl T.n_len (show bootBuiltins _ = some (.builtin "len") from rfl) (pa_cons (pv 1) pa_nil)) pa_nil)) (pg_name (i := 8) sc.nd rfl (Or.inl rfl))
        (pss_cons (ps_set (i := 9) sc.nd rfl (Or.inl rfl) (pe_methC Mnamed (hr.mono (by decide)) (pv 4) (pa_cons (pe_ix ix_list (pv 1) (pv 8) (fun _ _ => rfl)) pa_nil)))
      (pss_one (ps_if (PW.pt (pw_or (pt_cmpR op_ne (pe_fld (pv 9) rfl) (pe_ix ix_list (pv 1) (pv 8) (fun _ _ => rfl)) (nomark _)) (pw_or1 (pt_cmpR op_ne (pe_fld (pv 9) rfl) (pe_ix ix_list (pv 2) (pv 8) (fun _ _ => rfl)) (nomark _)))))
        (pss_one (ps_ret pe_bl))
        pss_nil))))
      (pss_cons (ps_set (i := 10) sc.nd rfl (Or.inl rfl) pe_str)
      (pss_cons (ps_while PassesOwn.never (pt_cmpR op_in_seq (pv 10) (pv 1) rfl)
        (pss_one (ps_set (i := 10) sc.nd rfl (Or.inl rfl) (pe_op op_add_str (pv 10) pe_str))))
      (pss_cons (ps_set (i := 11) sc.nd rfl (Or.inl rfl) (pe_makeC KBook (hr.mono (by decide)) rfl (pa_cons (pe_lst pa_nil) pa_nil)))
      (pss_cons (ps_if (PW.pt (pw_or (pt_cmpR (op_neE hu0) (pe_fld (pv 11) rfl) (pe_lst pa_nil) (nomark _)) (pw_or (pt_cmpR (op_neE hu0) (pe_fld (pv 11) rfl) (pe_lst pa_nil) (nomark _)) (pw_or1 (pt_not (pt_val (pe_callC C_law_not_told (hr.mono (by decide)) rfl (pa_cons (pv 11) (pa_cons (pe_ix ix_list (pv 1) pe_int (fun _ _ => rfl)) pa_nil)))))))))
        (pss_one (ps_ret pe_bl))
        pss_nil)
      (pss_one (ps_ret (pe_and (pe_callC C_law_not_told (hr.mono (by decide)) rfl (pa_cons (pv 4) (pa_cons (pv 10) pa_nil))) (pe_one (pe_callC C_law_counts_kept (hr.mono (by decide)) rfl (pa_cons (pv 0) (pa_cons (pv 1) pa_nil))))))))))))))))))))))), ?_⟩
  -- names
  refine ⟨_, rfl, a, ns, 0, rfl, ha, by omega, l63, _, rfl, fun r r0 r1 => ⟨_, rfl, a, ns, 1, rfl, ha, by omega, l63, _, rfl, fun r2 r20 r21 => ⟨_, _, rfl, rfl, (by show (0 : Int) < 8; decide), _, _, rfl, rfl, r, _, rfl, r0, by omega, by omega, fun b ms H1 s1 nb hb N el => ?_⟩⟩⟩
  refine atG [some (.ref a), some (.ref b), none, none, none, none, none, none, none, none, none, none] rfl ?_
  have ha1 := s1.seq ha
  clear el r0 r1 r20 r21 s1
  have lm : (ms.map V.str).length = ms.length := List.length_map _
  have m1 := N.lo
  have m8 := N.hi
  have et : ((ms.map V.str).length : Int).toNat = ms.length := by rw [lm]; omega
  -- waits
  refine ⟨_, rfl, b, _, rfl, .inl (SqL.of hb), _, rfl, by rw [lm]; omega, by rw [lm]; omega, fun wl nw => ?_⟩
  rw [et]
  refine comp_range (lo := 0) (n := ms.length) (fun i ys H2 => (∃ ws : List Bool, ys = ws.map V.bl ∧ ws.length = i) ∧ H2 wl = some (.lst ys) ∧ Same H1 H2) ⟨⟨[], rfl, rfl⟩, upd_same, same_new nw _⟩
    (fun i ys H2 _ ⟨⟨ws, e, l⟩, h1, _⟩ => ⟨h1, by rw [e, List.length_map, l]; exact Nat.le_refl _⟩) (by rw [sizeLine_eq]; omega) (fun i ys H2 hi ⟨⟨ws, e, l⟩, h1, s2⟩ => ?_) (fun ys H2 ⟨⟨ws, e, l⟩, hw2, s2⟩ => ?_)
  · refine ⟨_, rfl, _, rfl, _, _, rfl, rfl, a, ns, _, rfl, s2.seq ha1, by omega, l63, _, _, rfl, rfl, (by show (0 : Int) < 2; decide), rfl, h1, rfl, ⟨ws ++ [decide (V.int (ns.getD (2 + (0 + (i : Int))).toNat 0 % 2) = V.int 1)], ?_, by rw [List.length_append, l]; rfl⟩, upd_same, fun x o z => ?_⟩
    · rw [List.map_append, e]
      rfl
    · rw [upd_ne (ne_of_none z nw)]
      exact s2 x o z
  subst e
  refine atG [some (.ref a), some (.ref b), some (.ref wl), none, none, none, none, none, none, none, none, none] rfl ?_
  have hb2 := s2 _ _ hb
  have ha2 := s2.seq ha1
  clear hb ha1 s2 nw
  -- handed
  refine ⟨_, rfl, b, _, rfl, .inl (SqL.of hb2), _, rfl, by rw [lm]; omega, by rw [lm]; omega, fun hl nh => ?_⟩
  rw [et]
  refine comp_range (lo := 0) (n := ms.length) (fun i ys H3 => (∃ cs : List Cv, ys = cs.map cvV ∧ CvsAt C_Cover H3 cs ∧ cs.map (·.2.1) = ms.take i ∧ cs.map (·.2.2) = ws.take i) ∧ H3 hl = some (.lst ys) ∧ Same H2 H3) ⟨⟨[], rfl, (fun c hc => nomatch hc), rfl, rfl⟩, upd_same, same_new nh _⟩
    (fun i ys H3 hi ⟨⟨cs, e, _, n, _⟩, h1, _⟩ => ⟨h1, by rw [e, List.length_map, ← List.length_map (f := fun c : Cv => c.2.1), n, List.length_take]; omega⟩) (by rw [sizeLine_eq]; omega) (fun i ys H3 hi ⟨⟨cs, e, hcs, n1, n2⟩, h1, s3⟩ => ?_) (fun ys H3 ⟨⟨cs, e, hcs, n1, n2⟩, h1, s3⟩ => ?_)
  · rw [show (0 + (i : Int)) = (i : Int) by omega]
    have en : ms[i]? = some ms[i] := List.getElem?_eq_getElem hi
    have ew : ws[i]? = some ws[i] := List.getElem?_eq_getElem (by omega)
    generalize ms[i] = z at en
    generalize ws[i] = wv at ew
    refine ⟨_, rfl, _, rfl, b, _, _, _, rfl, rfl, SqL.of (s3 _ _ hb2), st_at en, fun x dx nx ndx nex => ?_⟩
    have s4 : Same H3 (upd (upd H3 dx (.own x)) x (.ins C_Condition dx [])) := (same_new ndx _).trans (same_new (by rw [upd_ne (Ne.symm nex)]; exact nx) _)
    generalize upd (upd H3 dx (.own x)) x (.ins C_Condition dx []) = H4 at s4
    refine ⟨_, rfl, _, rfl, wl, _, _, _, rfl, rfl, SqL.of (s4 _ _ (s3 _ _ hw2)), bl_at ew, fun p dp np ndp nep => cov1 upd_same (N.ok z (List.mem_of_getElem? en)) fun H5 k5 c5 => ⟨rfl, ?_⟩⟩
    have s5 : Same H4 H5 := made_same np ndp k5
    have h5 := s5 _ _ (s4 _ _ h1)
    refine ⟨h5, rfl, ⟨cs ++ [(p, z, wv)], by rw [List.map_append, e]; rfl, (((hcs.same s4).same s5).app c5).lst h5 _, ?_, ?_⟩, upd_same, fun b o y => ?_⟩
    · rw [List.map_append, n1, take_snoc en]
      rfl
    · rw [List.map_append, n2, take_snoc ew]
      rfl
    · rw [upd_ne (ne_of_none y nh)]
      exact s5 _ _ (s4 _ _ (s3 _ _ y))
  subst e
  rw [List.take_length] at n1
  rw [← l, List.take_length] at n2
  subst n1 n2
  refine atG [some (.ref a), some (.ref b), some (.ref wl), some (.ref hl), none, none, none, none, none, none, none, none] rfl ?_
  have hb3 := s3 _ _ hb2
  have hw3 := s3 _ _ hw2
  have ha3 := s3.seq ha2
  have nbl : b ≠ hl := ne_of_none hb2 nh
  have nwl : wl ≠ hl := ne_of_none hw2 nh
  have sa : ∀ {H' : Hp}, (∀ x o, H2 x = some o → H' x = some o) → SqL K H' a (ns.map V.int) := fun s => Same.seq s ha2
  have S3 := s3
  clear hb2 hw2 s3 ha3
  rw [List.length_map] at m1 m8
  have l60 : cs.length < 60 := by omega
  -- book
  refine ⟨_, rfl, fun bk db nbk ndb neb => ?_⟩
  have s4 : Same H3 (upd (upd H3 db (.own bk)) bk (.ins C_Book db [])) := (same_new ndb _).trans (same_new (by rw [upd_ne (Ne.symm neb)]; exact nbk) _)
  refine ⟨bk, db, hl, cs, rfl, upd_same, s4 _ _ h1, hcs.same s4, l60, fun _ _ cl ak H5 k5 B ncl nak => ⟨rfl, ?_⟩, fun bad => ?_⟩
  rotate_left
  · rcases bad with z | z
    · omega
    · exact absurd N.nd z
  have s5 : Same H3 H5 := made_same nbk ndb k5
  have nch : cl ≠ hl := (ne_of_none h1 (made_none ncl)).symm
  have nah : ak ≠ hl := (ne_of_none h1 (made_none nak)).symm
  refine atG [some (.ref a), some (.ref b), some (.ref wl), some (.ref hl), some (.ref bk), none, none, none, none, none, none, none] rfl ?_
  have hb5 := s5 _ _ hb3
  have hw5 := s5 _ _ hw3
  have hh5 := s5 _ _ h1
  have hcs5 := hcs.same s5
  have S5 := S3.trans s5
  clear hb3 hw3 h1 hcs s4 s5 k5 ncl nak nbk ndb neb S3
  -- at
  refine ⟨_, rfl, a, ns, 1, rfl, sa S5, by omega, l63, _, rfl, b, _, rfl, .inl (SqL.of hb5), _, _, rfl, rfl, (by rw [lm]; show (0 : Int) < ((cs.map (·.2.1)).length : Int); rw [List.length_map]; omega), ?_⟩
  rw [lm, List.length_map]
  refine hideI 0 ((cs.length : Int) - 1) (md (by omega)) fun at' at0 at1 => ?_
  obtain ⟨j, rfl⟩ := Int.eq_ofNat_of_zero_le at0
  have hj : j < cs.length := by omega
  have ej : cs[j]? = some cs[j] := List.getElem?_eq_getElem hj
  generalize cs[j] = c at ej
  have mc := List.mem_of_getElem? ej
  have enj : (cs.map (·.2.1))[j]? = some c.2.1 := by rw [List.getElem?_map, ej]; rfl
  have ewj : (cs.map (·.2.2))[j]? = some c.2.2 := by rw [List.getElem?_map, ej]; rfl
  refine atG [some (.ref a), some (.ref b), some (.ref wl), some (.ref hl), some (.ref bk), some (.int j), none, none, none, none, none, none] rfl ?_
  -- handed.append
  refine ⟨_, rfl, .inl ⟨rfl, _, SqL.of hh5⟩, _, rfl, _, rfl, b, _, _, _, rfl, rfl, SqL.of hb5, st_at enj, fun x dx nx ndx nex => ?_⟩
  have s6 : Same H5 (upd (upd H5 dx (.own x)) x (.ins C_Condition dx [])) := (same_new ndx _).trans (same_new (by rw [upd_ne (Ne.symm nex)]; exact nx) _)
  generalize upd (upd H5 dx (.own x)) x (.ins C_Condition dx []) = H6 at s6
  refine ⟨_, rfl, _, rfl, wl, _, _, _, rfl, rfl, SqL.of (s6 _ _ hw5), bl_at ewj, _, rfl, fun p dp np ndp nep => cov1 upd_same (N.ok _ (List.mem_of_getElem? enj)) fun H7 k7 c7 => ⟨rfl, ?_⟩⟩
  have s7 : Same H5 H7 := s6.trans (made_same np ndp k7)
  have hh7 := s7 _ _ hh5
  refine ⟨hl, _, _, rfl, rfl, hh7, by rw [List.length_map, sizeLine_eq]; omega, ?_⟩
  have ech : cs.map cvV ++ [V.ref p] = (cs ++ [(p, c.2.1, !c.2.2)]).map cvV := by rw [List.map_append]; rfl
  rw [ech]
  have hh8 : upd H7 hl (.lst ((cs ++ [(p, c.2.1, !c.2.2)]).map cvV)) hl = some (.lst ((cs ++ [(p, c.2.1, !c.2.2)]).map cvV)) := upd_same
  have hcs8 := ((hcs5.same s7).app c7).lst hh7 (.lst ((cs ++ [(p, c.2.1, !c.2.2)]).map cvV))
  have hb8 : upd H7 hl (.lst ((cs ++ [(p, c.2.1, !c.2.2)]).map cvV)) b = some (.lst ((cs.map (·.2.1)).map V.str)) := by rw [upd_ne nbl]; exact s7 _ _ hb5
  have hw8 : upd H7 hl (.lst ((cs ++ [(p, c.2.1, !c.2.2)]).map cvV)) wl = some (.lst ((cs.map (·.2.2)).map V.bl)) := by rw [upd_ne nwl]; exact s7 _ _ hw5
  have S8 : ∀ y o, H2 y = some o → upd H7 hl (.lst ((cs ++ [(p, c.2.1, !c.2.2)]).map cvV)) y = some o := fun y o z => by rw [upd_ne (ne_of_none z nh)]; exact s7 _ _ (S5 _ _ z)
  have B8 : BkAt C_Book (upd H7 hl (.lst ((cs ++ [(p, c.2.1, !c.2.2)]).map cvV))) bk cl ak cs := by
    obtain ⟨⟨d0, fs, e, r⟩, g1, g2⟩ := B.same s7
    exact ⟨⟨d0, fs, by rw [upd_ne (ne_of e hh7 (by intro z; cases z))]; exact e, r⟩, by rw [upd_ne nch]; exact g1, by rw [upd_ne nah]; exact g2⟩
  generalize upd H7 hl (.lst ((cs ++ [(p, c.2.1, !c.2.2)]).map cvV)) = H8 at hh8 hcs8 hb8 hw8 S8 B8
  clear hb5 hw5 hh5 hcs5 S5 B s6 s7 hh7 c7 k7 ech nch nah nbl nwl np ndp nep nx ndx nex nh
  have tw := twice_end (cs := cs) (c := c) (d := (p, c.2.1, !c.2.2)) mc rfl
  have l9 : (cs ++ [(p, c.2.1, !c.2.2)]).length = cs.length + 1 := by rw [List.length_append]; rfl
  have hcs9 : CvsAt C_Cover H8 cs := hcs8.sub fun c hc => List.mem_append.mpr (.inl hc)
  generalize cs ++ [(p, c.2.1, !c.2.2)] = ds at hh8 hcs8 tw l9
  -- no books
  refine ⟨_, rfl, hl, ds, rfl, hh8, hcs8, by omega, .inr tw, fun H9 s9 => ⟨_, rfl, iteF ?_⟩⟩
  refine ⟨_, rfl, _, rfl, rfl, hl, _, rfl, SqL.of (s9 _ _ hh8), fun rv nrv => ?_⟩
  have s10 := s9.trans (same_new nrv (.lst (ds.map cvV).reverse))
  have h10 : upd H9 rv (.lst (ds.map cvV).reverse) rv = some (.lst (ds.reverse.map cvV)) := by rw [List.map_reverse]; exact upd_same
  generalize upd H9 rv (.lst (ds.map cvV).reverse) = H10 at s10 h10
  refine ⟨rv, ds.reverse, rfl, h10, (hcs8.same s10).sub (fun c hc => List.mem_reverse.mp hc), by rw [List.length_reverse]; omega, .inr fun nd => tw ?_, fun H11 s11 => ⟨_, rfl, iteF ?_⟩⟩
  · rw [List.map_reverse, List.nodup_iff_pairwise_ne, List.pairwise_reverse] at nd
    exact List.nodup_iff_pairwise_ne.mpr (nd.imp fun h => h.symm)
  have s11 := s10.trans s11
  have hb11 := s11 _ _ hb8
  have hw11 := s11 _ _ hw8
  have hcs11 := hcs9.same s11
  have B11 := B8.same s11
  have S11 : ∀ y o, H2 y = some o → H11 y = some o := fun y o z => s11 _ _ (S8 _ _ z)
  clear hh8 hcs8 tw l9 hcs9 s9 s10 s11 h10 hb8 hw8 B8 S8
  -- nine
  refine ⟨tx nine, congrArg V.str nine_tx, fun nl nnl => ?_⟩
  have j8 : j < 8 := by omega
  have la : a8.length = 8 := rfl
  have st1 : Txt.slice (tx a8) none (some (j : Int)) = tx (a8.take j) := slice_to (by omega) (by rw [la]; omega)
  have st2 : Txt.slice (tx a8) (some ((j : Int) + 1)) none = tx (a8.drop (j + 1)) := by
    have z := slice_from (l := a8) (i := (j : Int) + 1) (by omega) (by rw [la]; omega)
    rw [show ((j : Int) + 1).toNat = j + 1 by omega] at z
    exact z
  have sz : (tx a8).length ≤ sizeLine := by rw [tx_len, la]; exact le_line (by decide)
  refine comp_str (l := nine) (fun i ys H12 => ys = (nine.take i).map (fun c => V.str (tx (nineL j c))) ∧ H12 nl = some (.lst ys) ∧ Same H11 H12) ⟨rfl, upd_same, same_new nnl _⟩
    (fun i ys H12 _ ⟨e, h1, _⟩ => ⟨h1, by rw [e, List.length_map, List.length_take]; omega⟩) (le_line (by decide)) (fun i c ys H12 hi ⟨e, h1, s12⟩ => ?_) (fun ys H12 ⟨e, hn12, s12⟩ => ?_)
  · refine ⟨_, rfl, _, rfl, tx a8, congrArg V.str a8_tx, sz, ?_⟩
    rw [st1]
    refine ⟨_, rfl, _, _, rfl, rfl, ?_, ?_⟩
    · rw [tx_len, tx_len, List.length_take]
      exact le_line (by show _ + 1 ≤ 1000; omega)
    rw [tx_app]
    refine ⟨_, rfl, _, _, rfl, rfl, _, rfl, tx a8, congrArg V.str a8_tx, sz, ?_⟩
    rw [st2]
    refine ⟨_, _, rfl, rfl, ?_, ?_⟩
    · rw [tx_len, tx_len, List.length_append, List.length_take, List.length_drop]
      exact le_line (by show _ + 1 + _ ≤ 1000; omega)
    rw [tx_app]
    refine ⟨h1, rfl, ?_, upd_same, fun b o z => ?_⟩
    · rw [e, take_snoc hi, List.map_append]
      rfl
    · rw [upd_ne (ne_of_none z nnl)]
      exact s12 b o z
  rw [List.take_length] at e
  subst e
  refine atG [some (.ref a), some (.ref b), some (.ref wl), some (.ref hl), some (.ref bk), some (.int j), some (.ref nl), none, none, none, none, none] rfl ?_
  -- nine covers
  have l9 : (nine.map (fun c => V.str (tx (nineL j c)))).length = 9 := by rw [List.length_map]; rfl
  refine ⟨_, rfl, nl, rfl, ⟨_, SqL.of hn12⟩, fun cv ncv => ?_⟩
  refine comp_list (K := K) (a := nl) (xs := nine.map (fun c => V.str (tx (nineL j c)))) (fun i ys H13 => (∃ es : List Cv, ys = es.map cvV ∧ CvsAt C_Cover H13 es ∧ es.length = i) ∧ H13 cv = some (.lst ys) ∧ Same H12 H13) ⟨⟨[], rfl, (fun c hc => nomatch hc), rfl⟩, upd_same, same_new ncv _⟩
    (fun i ys H13 _ ⟨⟨es, e, _, l⟩, h1, s13⟩ => ⟨h1, by rw [e, List.length_map, l]; exact Nat.le_refl _, SqL.of (s13 _ _ hn12)⟩) (by rw [l9]; exact le_line (by decide)) (fun i x ys H13 hi ⟨⟨es, e, hes, l⟩, h1, s13⟩ => ?_) (fun ys H13 ⟨⟨es, e, hes, l⟩, h1, s13⟩ => ?_)
  · rw [List.getElem?_map] at hi
    obtain ⟨c, hc, rfl⟩ := Option.map_eq_some_iff.mp hi
    refine ⟨_, rfl, fun x dx nx ndx nex => ?_⟩
    have s14 : Same H13 (upd (upd H13 dx (.own x)) x (.ins C_Condition dx [])) := (same_new ndx _).trans (same_new (by rw [upd_ne (Ne.symm nex)]; exact nx) _)
    generalize upd (upd H13 dx (.own x)) x (.ins C_Condition dx []) = H14 at s14
    refine fun p dp np ndp nep => cov1 upd_same (nine_ok j8 (List.mem_of_getElem? hc)) fun H15 k15 c15 => ⟨rfl, ?_⟩
    have s15 : Same H14 H15 := made_same np ndp k15
    have h5 := s15 _ _ (s14 _ _ h1)
    refine ⟨h5, rfl, ⟨es ++ [(p, tx (nineL j c), false)], by rw [List.map_append, e]; rfl, (((hes.same s14).same s15).app c15).lst h5 _, by rw [List.length_append, l]; rfl⟩, upd_same, fun b o y => ?_⟩
    rw [upd_ne (ne_of_none y ncv)]
    exact s15 _ _ (s14 _ _ (s13 _ _ y))
  subst e
  rw [l9] at l
  refine ⟨cv, es, rfl, h1, hes, by omega, .inl (by omega), fun H14 s14 => ⟨_, rfl, iteF ?_⟩⟩
  have s14 := s12.trans (s13.trans s14)
  have hb14 := s14 _ _ hb11
  have hw14 := s14 _ _ hw11
  have hcs14 := hcs11.same s14
  have B14 := B11.same s14
  have S14 : ∀ y o, H2 y = some o → H14 y = some o := fun y o z => s14 _ _ (S11 _ _ z)
  clear h1 hes l s13 s12 s14 hb11 hw11 hcs11 B11 S11 hn12 l9 st1 st2 sz
  obtain ⟨⟨d0, fs, hbk, b1, b2, b3⟩, hcl, hak⟩ := id B14
  refine ⟨_, rfl, bk, C_Book, d0, fs, _, rfl, hbk, L.cl_Book, L.na_Book_covers, b1, _, rfl, cl, b, cs, rfl, hcl, hcs14, l60, hb14, fun H15 s15 => ⟨_, rfl, iteF ?_⟩⟩
  have hb15 := s15 _ _ hb14
  have hw15 := s15 _ _ hw14
  have hcs15 := hcs14.same s15
  have B15 := B14.same s15
  have S15 : ∀ y o, H2 y = some o → H15 y = some o := fun y o z => s15 _ _ (S14 _ _ z)
  clear hb14 hw14 hcs14 B14 S14 hcl hak hbk s15
  rw [List.length_map] at et
  have et' : ((cs.map (fun c : Cv => c.2.1)).length : Int).toNat = cs.length := by rw [List.length_map]; omega
  -- firm
  refine ⟨_, rfl, b, _, rfl, .inl (SqL.of hb15), _, rfl, by rw [lm, List.length_map]; omega, by rw [lm, List.length_map]; omega, fun fi nfi => ?_⟩
  rw [lm, et']
  refine comp_range (lo := 0) (n := cs.length) (fun i ys H16 => ys = (((cs.take i).filter (fun c => !c.2.2)).map (·.2.1)).map V.str ∧ H16 fi = some (.lst ys) ∧ Same H15 H16) ⟨rfl, upd_same, same_new nfi _⟩
    (fun i ys H16 _ ⟨e, h1, _⟩ => ⟨h1, by rw [e, List.length_map, List.length_map]; exact Nat.le_trans (List.length_filter_le _ _) (by rw [List.length_take]; omega)⟩) (by rw [sizeLine_eq]; omega) (fun i ys H16 hi ⟨e, h1, s16⟩ => ?_) (fun ys H16 ⟨e, hf16, s16⟩ => ?_)
  · rw [show (0 + (i : Int)) = (i : Int) by omega]
    have ei : cs[i]? = some cs[i] := List.getElem?_eq_getElem hi
    generalize cs[i] = c at ei
    have eni : (cs.map (·.2.1))[i]? = some c.2.1 := by rw [List.getElem?_map, ei]; rfl
    have ewi : (cs.map (·.2.2))[i]? = some c.2.2 := by rw [List.getElem?_map, ei]; rfl
    refine ⟨_, rfl, _, rfl, wl, _, _, _, rfl, rfl, SqL.of (s16 _ _ hw15), bl_at ewi, _, rfl, ?_⟩
    have es := filt_take (f := fun c : Cv => !c.2.2) ei
    cases cw : c.2.2 with
    | true =>
      refine iteF ⟨rfl, ?_, h1, s16⟩
      rw [es, e, cw]
      simp
    | false =>
      refine iteT ⟨_, rfl, _, rfl, b, _, _, _, rfl, rfl, SqL.of (s16 _ _ hb15), st_at eni, h1, rfl, ?_, upd_same, fun b o z => ?_⟩
      · rw [es, e, cw]
        simp
      · rw [upd_ne (ne_of_none z nfi)]
        exact s16 b o z
  rw [List.take_length] at e
  subst e
  refine atG [some (.ref a), some (.ref b), some (.ref wl), some (.ref hl), some (.ref bk), some (.int j), some (.ref nl), some (.ref fi), none, none, none, none] rfl ?_
  have hb16 := s16 _ _ hb15
  have hw16 := s16 _ _ hw15
  have hcs16 := hcs15.same s16
  have B16 := B15.same s16
  have S16 : ∀ y o, H2 y = some o → H16 y = some o := fun y o z => s16 _ _ (S15 _ _ z)
  clear hb15 hw15 hcs15 B15 S15 s16
  -- asking
  obtain ⟨⟨d0, fs, hbk, b1, b2, b3⟩, hcl, hak⟩ := id B16
  refine ⟨_, rfl, bk, C_Book, d0, fs, _, rfl, hbk, L.cl_Book, L.na_Book_asking, b2, _, rfl, _, rfl, b, _, rfl, .inl (SqL.of hb16), _, rfl, by rw [lm, List.length_map]; omega, by rw [lm, List.length_map]; omega, fun wi nwi => ?_⟩
  rw [lm, et']
  refine comp_range (lo := 0) (n := cs.length) (fun i ys H17 => ys = (((cs.take i).filter (fun c => c.2.2)).map (·.2.1)).map V.str ∧ H17 wi = some (.lst ys) ∧ Same H16 H17) ⟨rfl, upd_same, same_new nwi _⟩
    (fun i ys H17 _ ⟨e, h1, _⟩ => ⟨h1, by rw [e, List.length_map, List.length_map]; exact Nat.le_trans (List.length_filter_le _ _) (by rw [List.length_take]; omega)⟩) (by rw [sizeLine_eq]; omega) (fun i ys H17 hi ⟨e, h1, s17⟩ => ?_) (fun ys H17 ⟨e, hw17', s17⟩ => ?_)
  · rw [show (0 + (i : Int)) = (i : Int) by omega]
    have ei : cs[i]? = some cs[i] := List.getElem?_eq_getElem hi
    generalize cs[i] = c at ei
    have eni : (cs.map (·.2.1))[i]? = some c.2.1 := by rw [List.getElem?_map, ei]; rfl
    have ewi : (cs.map (·.2.2))[i]? = some c.2.2 := by rw [List.getElem?_map, ei]; rfl
    refine ⟨_, rfl, _, rfl, wl, _, _, _, rfl, rfl, SqL.of (s17 _ _ hw16), bl_at ewi, _, rfl, ?_⟩
    have es := filt_take (f := fun c : Cv => c.2.2) ei
    cases cw : c.2.2 with
    | false =>
      refine iteF ⟨rfl, ?_, h1, s17⟩
      rw [es, e, cw]
      simp
    | true =>
      refine iteT ⟨_, rfl, _, rfl, b, _, _, _, rfl, rfl, SqL.of (s17 _ _ hb16), st_at eni, h1, rfl, ?_, upd_same, fun b o z => ?_⟩
      · rw [es, e, cw]
        simp
      · rw [upd_ne (ne_of_none z nwi)]
        exact s17 b o z
  rw [List.take_length] at e
  subst e
  refine ⟨fi, wi, _, _, rfl, rfl, s17 _ _ hf16, hw17', ?_, fun al nal => ?_⟩
  · rw [List.length_map, List.length_map, List.length_map, List.length_map]
    have := List.length_filter_le (fun c : Cv => !c.2.2) cs
    have := List.length_filter_le (fun c : Cv => c.2.2) cs
    rw [sizeLine_eq]
    omega
  have s18 := s17.trans (same_new nal (.lst (((cs.filter (fun c => !c.2.2)).map (·.2.1)).map V.str ++ ((cs.filter (fun c => c.2.2)).map (·.2.1)).map V.str)))
  have h18 : upd H17 al (.lst (((cs.filter (fun c => !c.2.2)).map (·.2.1)).map V.str ++ ((cs.filter (fun c => c.2.2)).map (·.2.1)).map V.str)) al = some (.lst (((askL cs).map (·.2.1)).map V.str)) := by
    rw [upd_same]
    unfold askL
    rw [List.map_append, List.map_append]
  generalize upd H17 al (.lst (((cs.filter (fun c => !c.2.2)).map (·.2.1)).map V.str ++ ((cs.filter (fun c => c.2.2)).map (·.2.1)).map V.str)) = H18 at s18 h18
  have sub : ∀ c ∈ askL cs, c ∈ cs := fun c hc => by
    unfold askL at hc
    rcases List.mem_append.mp hc with z | z
    · exact (List.mem_filter.mp z).1
    · exact (List.mem_filter.mp z).1
  have lak : (askL cs).length < 60 := by
    have := List.length_filter_le (fun c : Cv => !c.2.2) cs
    have := List.length_filter_le (fun c : Cv => c.2.2) cs
    unfold askL
    rw [List.length_append]
    omega
  refine ⟨ak, al, askL cs, rfl, s18 _ _ hak, (hcs16.same s18).sub sub, lak, h18, fun H19 s19 => ⟨_, rfl, iteF ?_⟩⟩
  have s19 := s18.trans s19
  have hb19 := s19 _ _ hb16
  have hw19 := s19 _ _ hw16
  have hcs19 := hcs16.same s19
  have B19 := B16.same s19
  have S19 : ∀ y o, H2 y = some o → H19 y = some o := fun y o z => s19 _ _ (S16 _ _ z)
  clear hb16 hw16 hcs16 B16 S16 s17 s18 s19 h18 hcl hak hbk sub lak hf16 hw17'
  -- named
  obtain ⟨⟨d0, fs, hbk, b1, b2, b3⟩, hcl, hak⟩ := id B19
  refine ⟨_, rfl, b, _, rfl, .inl (SqL.of hb19), _, rfl, by rw [lm, List.length_map]; omega, by rw [lm, List.length_map]; omega, ?_⟩
  rw [lm, et']
  refine for_range (lo := 0) (n := cs.length) (fun i σ H20 => (∃ o8 o9, σ = [some (.ref a), some (.ref b), some (.ref wl), some (.ref hl), some (.ref bk), some (.int j), some (.ref nl), some (.ref fi), o8, o9, none, none]) ∧ H20 = H19) ⟨⟨none, none, rfl⟩, rfl⟩ ?_ ?_
  · rintro i σ H20 hi ⟨⟨o8, o9, rfl⟩, rfl⟩
    rw [show (0 + (i : Int)) = (i : Int) by omega]
    have ei : cs[i]? = some cs[i] := List.getElem?_eq_getElem hi
    generalize cs[i] = c at ei
    have mi := List.mem_of_getElem? ei
    have eni : (cs.map (·.2.1))[i]? = some c.2.1 := by rw [List.getElem?_map, ei]; rfl
    have ewi : (cs.map (·.2.2))[i]? = some c.2.2 := by rw [List.getElem?_map, ei]; rfl
    obtain ⟨dc, fc, hc, c1, c2⟩ := hcs19 c mi
    refine ⟨_, rfl, bk, d0, fs, rfl, hbk, b3, _, rfl, _, rfl, b, _, _, _, rfl, rfl, SqL.of hb19, st_at eni, bk, cl, ak, cs, c.2.1, rfl, B19, hcs19, l60, .inr ⟨c, mi, rfl, N.nd, ?_⟩⟩
    refine atG [some (.ref a), some (.ref b), some (.ref wl), some (.ref hl), some (.ref bk), some (.int j), some (.ref nl), some (.ref fi), some (.int i), some (.ref c.1), none, none] rfl ?_
    refine ⟨_, rfl, c.1, C_Cover, dc, fc, _, rfl, hc, L.cl_Cover, L.na_Cover_name, c1, _, rfl, _, rfl, b, _, _, _, rfl, rfl, SqL.of hb19, st_at eni, rfl, _, rfl, nF rfl ?_⟩
    refine ⟨_, rfl, c.1, C_Cover, dc, fc, _, rfl, hc, L.cl_Cover, L.na_Cover_waits, c2, _, rfl, _, rfl, wl, _, _, _, rfl, rfl, SqL.of hw19, bl_at ewi, rfl, _, rfl, nF rfl ?_⟩
    exact ⟨⟨_, _, rfl⟩, rfl⟩
  rintro σ H20 ⟨⟨o8, o9, rfl⟩, rfl⟩
  -- other
  refine atS [some (.ref a), some (.ref b), some (.ref wl), some (.ref hl), some (.ref bk), some (.int j), some (.ref nl), some (.ref fi), o8, o9, some (.str (yz 0)), none] (by exact congrArg (fun z : Str => [some (V.ref a), some (V.ref b), some (V.ref wl), some (V.ref hl), some (V.ref bk), some (V.int j), some (V.ref nl), some (V.ref fi), o8, o9, some (V.str z), none]) y_tx) ?_
  refine ⟨fun m σ H21 => (∃ n, σ = [some (.ref a), some (.ref b), some (.ref wl), some (.ref hl), some (.ref bk), some (.int j), some (.ref nl), some (.ref fi), o8, o9, some (.str (yz n)), none] ∧ m + n = 10 ∧ ∀ i, i < n → yz i ∈ cs.map (·.2.1)) ∧ H21 = H20, ⟨10, ⟨0, rfl, rfl, fun i hi => absurd hi (Nat.not_lt_zero _)⟩, rfl⟩, ?_⟩
  rintro m σ H21 ⟨⟨n, rfl, mn, al⟩, rfl⟩
  refine ⟨_, rfl, _, rfl, b, _, rfl, .inl (SqL.of hb19), rfl, flat_strs _, _, rfl, ?_⟩
  have l8 : (cs.map (fun c : Cv => c.2.1)).length ≤ 8 := by rw [List.length_map]; exact m8
  have n8 := yz_few l8 al
  by_cases inn : yz n ∈ cs.map (fun c : Cv => c.2.1)
  · have al' : ∀ i, i < n + 1 → yz i ∈ cs.map (·.2.1) := fun i hi => by
      by_cases e : i = n
      · rw [e]; exact inn
      · exact al i (by omega)
    have n9 := yz_few l8 al'
    refine bT (in_strs.mpr inn) ⟨fun σ H22 => σ = [some (.ref a), some (.ref b), some (.ref wl), some (.ref hl), some (.ref bk), some (.int j), some (.ref nl), some (.ref fi), o8, o9, some (.str (yz (n + 1))), none] ∧ H22 = H21, fun σ' H' ⟨e1, e2⟩ => ⟨m - 1, by omega, ⟨n + 1, e1, by omega, al'⟩, e2⟩, ?_⟩
    refine ⟨_, rfl, _, _, rfl, rfl, ?_, ?_, rfl⟩
    · rw [yz_len]
      exact le_line (by show n + 1 + 1 ≤ 1000; omega)
    · exact congrArg (fun z : Str => [some (V.ref a), some (V.ref b), some (V.ref wl), some (V.ref hl), some (V.ref bk), some (V.int j), some (V.ref nl), some (V.ref fi), o8, o9, some (V.str z), none]) (yz_more n)
  refine bF (Bool.eq_false_iff.mpr fun z => inn (in_strs.mp z)) ?_
  -- the empty book
  refine ⟨Nat.zero_le _, fun el nel => ?_⟩
  have s22 := same_new nel (.lst [])
  have h22 : upd H21 el (.lst []) el = some (.lst []) := upd_same
  generalize upd H21 el (.lst []) = H22 at s22 h22
  refine fun eb de neb nde nee => ?_
  have s23 : Same H22 (upd (upd H22 de (.own eb)) eb (.ins C_Book de [])) := (same_new nde _).trans (same_new (by rw [upd_ne (Ne.symm nee)]; exact neb) _)
  refine ⟨eb, de, el, [], rfl, upd_same, s23 _ _ h22, (fun c hc => nomatch hc), by decide, fun _ _ ecl eak H24 k24 EB _ _ => ⟨rfl, ?_⟩, fun bad => ?_⟩
  rotate_left
  · rcases bad with z | z
    · exact absurd z (by decide)
    · exact absurd List.nodup_nil z
  have s24 := s22.trans (made_same neb nde k24)
  refine atG [some (.ref a), some (.ref b), some (.ref wl), some (.ref hl), some (.ref bk), some (.int j), some (.ref nl), some (.ref fi), o8, o9, some (.str (yz n)), some (.ref eb)] rfl ?_
  have hb24 := s24 _ _ hb19
  have hcs24 := hcs19.same s24
  have B24 := B19.same s24
  have S24 : ∀ y o, H2 y = some o → H24 y = some o := fun y o z => s24 _ _ (S19 _ _ z)
  clear hb19 hw19 hcs19 B19 S19 s22 s23 h22 k24 s24 hcl hak hbk
  obtain ⟨⟨d1, gs, hek, g1, g2, g3⟩, hecl, heak⟩ := id EB
  refine ⟨_, rfl, eb, C_Book, d1, gs, _, rfl, hek, L.cl_Book, L.na_Book_covers, g1, Nat.zero_le _, fun l1 n1 => ⟨ecl, l1, [], rfl, rfl, SqL.of (same_new n1 _ _ _ hecl), SqL.of upd_same, _, rfl, iteF ?_⟩⟩
  have s25 := same_new n1 (.lst [])
  generalize upd H24 l1 (.lst []) = H25 at s25
  refine ⟨_, rfl, eb, C_Book, d1, gs, _, rfl, s25 _ _ hek, L.cl_Book, L.na_Book_asking, g2, Nat.zero_le _, fun l2 n2 => ⟨eak, l2, [], rfl, rfl, SqL.of (same_new n2 _ _ _ (s25 _ _ heak)), SqL.of upd_same, _, rfl, iteF ?_⟩⟩
  have s26 := s25.trans (same_new n2 (.lst []))
  generalize upd H25 l2 (.lst []) = H26 at s26
  obtain ⟨z0, _, _, at0'⟩ := str_at (ns := cs.map (fun c : Cv => c.2.1)) (i := 0) (by omega) (by rw [List.length_map]; omega)
  refine ⟨_, rfl, _, rfl, b, _, _, _, rfl, rfl, SqL.of (s26 _ _ hb24), at0', eb, ecl, eak, [], z0, rfl, EB.same s26, (fun c hc => nomatch hc), by decide, (fun c hc => nomatch hc), fun H27 s27 => ⟨_, rfl, iteF ?_⟩⟩
  have s27 := s26.trans s27
  -- not told, counts
  refine ⟨_, rfl, _, rfl, bk, cl, ak, cs, yz n, rfl, B24.same s27, hcs24.same s27, l60, fun c hc e => inn (List.mem_map.mpr ⟨c, hc, e⟩), fun H28 s28 => ⟨_, rfl, ?_⟩⟩
  refine ⟨_, rfl, _, rfl, a, b, ns, cs.map (·.2.1), rfl, sa (fun y o z => s28 _ _ (s27 _ _ (S24 _ _ z))), l63, s28 _ _ (s27 _ _ hb24), by rw [List.length_map]; omega, by rw [List.length_map]; omega, fun H29 s29 => q _⟩
end


theorem all_mk {l : PySem.W.OpenLaw} {w : World} {K : PySem.W.Frag} {h : Heap} {mg : Str → Option Value} {fa : Addr} (X : K.In h) (G : h.Ns mainGlobals mg) (hfa : mg "law" = some (.ref fa))
    {f0 : Addr} {od0 an0 : Option Addr} {sl0 : Array (Option Value)} {oc0 kV0 dc0 pm0 cd0 ct0 : Value}
    (a0 : PySem.W.nsIn K mainGlobals "is_whole" = some (some (.ref f0))) (l0 : K.lookup f0 = some ⟨oc0, od0, .func (PySem.W.fnOf "is_whole" "is_whole" (defArgs s_is_whole) (defBody s_is_whole) (defScope s_is_whole) .none kV0 dc0 pm0 an0 cd0 ct0), sl0⟩) (c0 : PySem.W.codeIn K cd0 "is_whole" = true) (k0 : PySem.W.keepIn K (.ref f0) = true)
    {f1 : Addr} {od1 an1 : Option Addr} {sl1 : Array (Option Value)} {oc1 kV1 dc1 pm1 cd1 ct1 : Value}
    (a1 : PySem.W.nsIn K mainGlobals "has_letters_alone" = some (some (.ref f1))) (l1 : K.lookup f1 = some ⟨oc1, od1, .func (PySem.W.fnOf "has_letters_alone" "has_letters_alone" (defArgs s_has_letters_alone) (defBody s_has_letters_alone) (defScope s_has_letters_alone) .none kV1 dc1 pm1 an1 cd1 ct1), sl1⟩) (c1 : PySem.W.codeIn K cd1 "has_letters_alone" = true) (k1 : PySem.W.keepIn K (.ref f1) = true)
    {f2 : Addr} {od2 an2 : Option Addr} {sl2 : Array (Option Value)} {oc2 kV2 dc2 pm2 cd2 ct2 : Value}
    (a2 : PySem.W.nsIn K mainGlobals "is_name" = some (some (.ref f2))) (l2 : K.lookup f2 = some ⟨oc2, od2, .func (PySem.W.fnOf "is_name" "is_name" (defArgs s_is_name) (defBody s_is_name) (defScope s_is_name) .none kV2 dc2 pm2 an2 cd2 ct2), sl2⟩) (c2 : PySem.W.codeIn K cd2 "is_name" = true) (k2 : PySem.W.keepIn K (.ref f2) = true)
    {f3 : Addr} {od3 an3 : Option Addr} {sl3 : Array (Option Value)} {oc3 kV3 dc3 pm3 cd3 ct3 : Value}
    (a3 : PySem.W.nsIn K mainGlobals "are_weights" = some (some (.ref f3))) (l3 : K.lookup f3 = some ⟨oc3, od3, .func (PySem.W.fnOf "are_weights" "are_weights" (defArgs s_are_weights) (defBody s_are_weights) (defScope s_are_weights) .none kV3 dc3 pm3 an3 cd3 ct3), sl3⟩) (c3 : PySem.W.codeIn K cd3 "are_weights" = true) (k3 : PySem.W.keepIn K (.ref f3) = true)
    {f4 : Addr} {od4 an4 : Option Addr} {sl4 : Array (Option Value)} {oc4 kV4 dc4 pm4 cd4 ct4 : Value}
    (a4 : PySem.W.nsIn K mainGlobals "may_have" = some (some (.ref f4))) (l4 : K.lookup f4 = some ⟨oc4, od4, .func (PySem.W.fnOf "may_have" "may_have" (defArgs s_may_have) (defBody s_may_have) (defScope s_may_have) .none kV4 dc4 pm4 an4 cd4 ct4), sl4⟩) (c4 : PySem.W.codeIn K cd4 "may_have" = true) (k4 : PySem.W.keepIn K (.ref f4) = true)
    {f5 : Addr} {od5 an5 : Option Addr} {sl5 : Array (Option Value)} {oc5 kV5 dc5 pm5 cd5 ct5 : Value}
    (a5 : PySem.W.nsIn K mainGlobals "due_by" = some (some (.ref f5))) (l5 : K.lookup f5 = some ⟨oc5, od5, .func (PySem.W.fnOf "due_by" "due_by" (defArgs s_due_by) (defBody s_due_by) (defScope s_due_by) .none kV5 dc5 pm5 an5 cd5 ct5), sl5⟩) (c5 : PySem.W.codeIn K cd5 "due_by" = true) (k5 : PySem.W.keepIn K (.ref f5) = true)
    {f6 : Addr} {od6 an6 : Option Addr} {sl6 : Array (Option Value)} {oc6 kV6 dc6 pm6 cd6 ct6 : Value}
    (a6 : PySem.W.nsIn K mainGlobals "place_of_turn" = some (some (.ref f6))) (l6 : K.lookup f6 = some ⟨oc6, od6, .func (PySem.W.fnOf "place_of_turn" "place_of_turn" (defArgs s_place_of_turn) (defBody s_place_of_turn) (defScope s_place_of_turn) .none kV6 dc6 pm6 an6 cd6 ct6), sl6⟩) (c6 : PySem.W.codeIn K cd6 "place_of_turn" = true) (k6 : PySem.W.keepIn K (.ref f6) = true)
    {f7 : Addr} {od7 an7 : Option Addr} {sl7 : Array (Option Value)} {oc7 kV7 dc7 pm7 cd7 ct7 : Value}
    (a7 : PySem.W.nsIn K mainGlobals "turns" = some (some (.ref f7))) (l7 : K.lookup f7 = some ⟨oc7, od7, .func (PySem.W.fnOf "turns" "turns" (defArgs s_turns) (defBody s_turns) (defScope s_turns) .none kV7 dc7 pm7 an7 cd7 ct7), sl7⟩) (c7 : PySem.W.codeIn K cd7 "turns" = true) (k7 : PySem.W.keepIn K (.ref f7) = true)
    {f8 : Addr} {od8 an8 : Option Addr} {sl8 : Array (Option Value)} {oc8 kV8 dc8 pm8 cd8 ct8 : Value}
    (a8 : PySem.W.nsIn K mainGlobals "check_houses" = some (some (.ref f8))) (l8 : K.lookup f8 = some ⟨oc8, od8, .func (PySem.W.fnOf "check_houses" "check_houses" (defArgs s_check_houses) (defBody s_check_houses) (defScope s_check_houses) .none kV8 dc8 pm8 an8 cd8 ct8), sl8⟩) (c8 : PySem.W.codeIn K cd8 "check_houses" = true) (k8 : PySem.W.keepIn K (.ref f8) = true)
    {f9 : Addr} {od9 an9 : Option Addr} {sl9 : Array (Option Value)} {oc9 kV9 dc9 pm9 cd9 ct9 : Value}
    (a9 : PySem.W.nsIn K mainGlobals "_law_cell" = some (some (.ref f9))) (l9 : K.lookup f9 = some ⟨oc9, od9, .func (PySem.W.fnOf "_law_cell" "_law_cell" (defArgs s__law_cell) (defBody s__law_cell) (defScope s__law_cell) .none kV9 dc9 pm9 an9 cd9 ct9), sl9⟩) (c9 : PySem.W.codeIn K cd9 "_law_cell" = true) (k9 : PySem.W.keepIn K (.ref f9) = true)
    {f10 : Addr} {od10 an10 : Option Addr} {sl10 : Array (Option Value)} {oc10 kV10 dc10 pm10 cd10 ct10 : Value}
    (a10 : PySem.W.nsIn K mainGlobals "_law_whole" = some (some (.ref f10))) (l10 : K.lookup f10 = some ⟨oc10, od10, .func (PySem.W.fnOf "_law_whole" "_law_whole" (defArgs s__law_whole) (defBody s__law_whole) (defScope s__law_whole) .none kV10 dc10 pm10 an10 cd10 ct10), sl10⟩) (c10 : PySem.W.codeIn K cd10 "_law_whole" = true) (k10 : PySem.W.keepIn K (.ref f10) = true)
    {f11 : Addr} {od11 an11 : Option Addr} {sl11 : Array (Option Value)} {oc11 kV11 dc11 pm11 cd11 ct11 : Value}
    (a11 : PySem.W.nsIn K mainGlobals "_law_spread" = some (some (.ref f11))) (l11 : K.lookup f11 = some ⟨oc11, od11, .func (PySem.W.fnOf "_law_spread" "_law_spread" (defArgs s__law_spread) (defBody s__law_spread) (defScope s__law_spread) .none kV11 dc11 pm11 an11 cd11 ct11), sl11⟩) (c11 : PySem.W.codeIn K cd11 "_law_spread" = true) (k11 : PySem.W.keepIn K (.ref f11) = true)
    {f12 : Addr} {od12 an12 : Option Addr} {sl12 : Array (Option Value)} {oc12 kV12 dc12 pm12 cd12 ct12 : Value}
    (a12 : PySem.W.nsIn K mainGlobals "_law_names" = some (some (.ref f12))) (l12 : K.lookup f12 = some ⟨oc12, od12, .func (PySem.W.fnOf "_law_names" "_law_names" (defArgs s__law_names) (defBody s__law_names) (defScope s__law_names) .none kV12 dc12 pm12 an12 cd12 ct12), sl12⟩) (c12 : PySem.W.codeIn K cd12 "_law_names" = true) (k12 : PySem.W.keepIn K (.ref f12) = true)
    {f13 : Addr} {od13 an13 : Option Addr} {sl13 : Array (Option Value)} {oc13 kV13 dc13 pm13 cd13 ct13 : Value}
    (a13 : PySem.W.nsIn K mainGlobals "_law_no_book" = some (some (.ref f13))) (l13 : K.lookup f13 = some ⟨oc13, od13, .func (PySem.W.fnOf "_law_no_book" "_law_no_book" (defArgs s__law_no_book) (defBody s__law_no_book) (defScope s__law_no_book) .none kV13 dc13 pm13 an13 cd13 ct13), sl13⟩) (c13 : PySem.W.codeIn K cd13 "_law_no_book" = true) (k13 : PySem.W.keepIn K (.ref f13) = true)
    {f14 : Addr} {od14 an14 : Option Addr} {sl14 : Array (Option Value)} {oc14 kV14 dc14 pm14 cd14 ct14 : Value}
    (a14 : PySem.W.nsIn K mainGlobals "_law_not_told" = some (some (.ref f14))) (l14 : K.lookup f14 = some ⟨oc14, od14, .func (PySem.W.fnOf "_law_not_told" "_law_not_told" (defArgs s__law_not_told) (defBody s__law_not_told) (defScope s__law_not_told) .none kV14 dc14 pm14 an14 cd14 ct14), sl14⟩) (c14 : PySem.W.codeIn K cd14 "_law_not_told" = true) (k14 : PySem.W.keepIn K (.ref f14) = true)
    {f15 : Addr} {od15 an15 : Option Addr} {sl15 : Array (Option Value)} {oc15 kV15 dc15 pm15 cd15 ct15 : Value}
    (a15 : PySem.W.nsIn K mainGlobals "_law_counts_kept" = some (some (.ref f15))) (l15 : K.lookup f15 = some ⟨oc15, od15, .func (PySem.W.fnOf "_law_counts_kept" "_law_counts_kept" (defArgs s__law_counts_kept) (defBody s__law_counts_kept) (defScope s__law_counts_kept) .none kV15 dc15 pm15 an15 cd15 ct15), sl15⟩) (c15 : PySem.W.codeIn K cd15 "_law_counts_kept" = true) (k15 : PySem.W.keepIn K (.ref f15) = true)
    {f16 : Addr} {od16 an16 : Option Addr} {sl16 : Array (Option Value)} {oc16 kV16 dc16 pm16 cd16 ct16 : Value}
    (a16 : PySem.W.nsIn K mainGlobals "_law_same" = some (some (.ref f16))) (l16 : K.lookup f16 = some ⟨oc16, od16, .func (PySem.W.fnOf "_law_same" "_law_same" (defArgs s__law_same) (defBody s__law_same) (defScope s__law_same) .none kV16 dc16 pm16 an16 cd16 ct16), sl16⟩) (c16 : PySem.W.codeIn K cd16 "_law_same" = true) (k16 : PySem.W.keepIn K (.ref f16) = true)
    {f17 : Addr} {od17 an17 : Option Addr} {sl17 : Array (Option Value)} {oc17 kV17 dc17 pm17 cd17 ct17 : Value}
    (a17 : PySem.W.nsIn K mainGlobals "law" = some (some (.ref f17))) (l17 : K.lookup f17 = some ⟨oc17, od17, .func (PySem.W.fnOf "law" "law" (defArgs s_law) (defBody s_law) (defScope s_law) .none kV17 dc17 pm17 an17 cd17 ct17), sl17⟩) (c17 : PySem.W.codeIn K cd17 "law" = true) (k17 : PySem.W.keepIn K (.ref f17) = true)
    {C_Book : Addr} (q_Book : PySem.W.nsIn K mainGlobals "Book" = some (some (.ref C_Book)))
    (pg_Book : PySem.W.plainGet K C_Book Str.empty = true) (hd_Book : PySem.W.hasDictIn K C_Book = true) (po_Book : PySem.W.plainOver K C_Book = true) (sa_Book : PySem.W.findIn K (.ref C_Book) "__setattr__" = some (some (.builtin "object.__setattr__"))) (mk_Book : PySem.W.makesIn K C_Book = true) (kc_Book : PySem.W.keepIn K (.ref C_Book) = true)
    (na_Book_covers : PySem.W.findIn K (.ref C_Book) "covers" = some none)
    (na_Book_asking : PySem.W.findIn K (.ref C_Book) "asking" = some none)
    {C_Counts : Addr} (q_Counts : PySem.W.nsIn K mainGlobals "Counts" = some (some (.ref C_Counts)))
    (pg_Counts : PySem.W.plainGet K C_Counts Str.empty = true) (hd_Counts : PySem.W.hasDictIn K C_Counts = true) (po_Counts : PySem.W.plainOver K C_Counts = true) (sa_Counts : PySem.W.findIn K (.ref C_Counts) "__setattr__" = some (some (.builtin "object.__setattr__"))) (mk_Counts : PySem.W.makesIn K C_Counts = true) (kc_Counts : PySem.W.keepIn K (.ref C_Counts) = true)
    (na_Counts_kept : PySem.W.findIn K (.ref C_Counts) "kept" = some none)
    {C_Condition : Addr} (q_Condition : PySem.W.nsIn K mainGlobals "Condition" = some (some (.ref C_Condition)))
    (pg_Condition : PySem.W.plainGet K C_Condition Str.empty = true) (hd_Condition : PySem.W.hasDictIn K C_Condition = true) (po_Condition : PySem.W.plainOver K C_Condition = true) (sa_Condition : PySem.W.findIn K (.ref C_Condition) "__setattr__" = some (some (.builtin "object.__setattr__"))) (mk_Condition : PySem.W.makesIn K C_Condition = true) (kc_Condition : PySem.W.keepIn K (.ref C_Condition) = true)
    {C_Deal : Addr} (q_Deal : PySem.W.nsIn K mainGlobals "Deal" = some (some (.ref C_Deal)))
    (pg_Deal : PySem.W.plainGet K C_Deal Str.empty = true) (hd_Deal : PySem.W.hasDictIn K C_Deal = true) (po_Deal : PySem.W.plainOver K C_Deal = true) (sa_Deal : PySem.W.findIn K (.ref C_Deal) "__setattr__" = some (some (.builtin "object.__setattr__"))) (mk_Deal : PySem.W.makesIn K C_Deal = true) (kc_Deal : PySem.W.keepIn K (.ref C_Deal) = true)
    (na_Deal_wheel : PySem.W.findIn K (.ref C_Deal) "wheel" = some none)
    (na_Deal_weights : PySem.W.findIn K (.ref C_Deal) "weights" = some none)
    {C_Cover : Addr} (q_Cover : PySem.W.nsIn K mainGlobals "Cover" = some (some (.ref C_Cover)))
    (pg_Cover : PySem.W.plainGet K C_Cover Str.empty = true) (hd_Cover : PySem.W.hasDictIn K C_Cover = true) (po_Cover : PySem.W.plainOver K C_Cover = true) (sa_Cover : PySem.W.findIn K (.ref C_Cover) "__setattr__" = some (some (.builtin "object.__setattr__"))) (mk_Cover : PySem.W.makesIn K C_Cover = true) (kc_Cover : PySem.W.keepIn K (.ref C_Cover) = true)
    (na_Cover_name : PySem.W.findIn K (.ref C_Cover) "name" = some none)
    (na_Cover_condition : PySem.W.findIn K (.ref C_Cover) "condition" = some none)
    (na_Cover_clauses : PySem.W.findIn K (.ref C_Cover) "clauses" = some none)
    (na_Cover_houses : PySem.W.findIn K (.ref C_Cover) "houses" = some none)
    (na_Cover_deal : PySem.W.findIn K (.ref C_Cover) "deal" = some none)
    (na_Cover_waits : PySem.W.findIn K (.ref C_Cover) "waits" = some none)
    (nd_C : ([C_Book, C_Counts, C_Condition, C_Deal, C_Cover] : List Addr).Nodup)
    {fBook___init__ : Addr} {odBook___init__ anBook___init__ : Option Addr} {slBook___init__ : Array (Option Value)} {ocBook___init__ kVBook___init__ dcBook___init__ pmBook___init__ cdBook___init__ ctBook___init__ : Value}
    (a_Book___init__ : PySem.W.findIn K (.ref C_Book) "__init__" = some (some (.ref fBook___init__)))
    (iBook___init__ : PySem.W.isFn K (.ref fBook___init__) = true) (lBook___init__ : K.lookup fBook___init__ = some ⟨ocBook___init__, odBook___init__, .func (PySem.W.fnOf "__init__" "Book.__init__" (defArgs s_Book___init__) (defBody s_Book___init__) (defScope s_Book___init__) .none kVBook___init__ dcBook___init__ pmBook___init__ anBook___init__ cdBook___init__ ctBook___init__), slBook___init__⟩) (cBook___init__ : PySem.W.codeIn K cdBook___init__ "Book.__init__" = true) (kBook___init__ : PySem.W.keepIn K (.ref fBook___init__) = true)
    {fBook_named : Addr} {odBook_named anBook_named : Option Addr} {slBook_named : Array (Option Value)} {ocBook_named kVBook_named dcBook_named pmBook_named cdBook_named ctBook_named : Value}
    (a_Book_named : PySem.W.findIn K (.ref C_Book) "named" = some (some (.ref fBook_named)))
    (iBook_named : PySem.W.isFn K (.ref fBook_named) = true) (lBook_named : K.lookup fBook_named = some ⟨ocBook_named, odBook_named, .func (PySem.W.fnOf "named" "Book.named" (defArgs s_Book_named) (defBody s_Book_named) (defScope s_Book_named) .none kVBook_named dcBook_named pmBook_named anBook_named cdBook_named ctBook_named), slBook_named⟩) (cBook_named : PySem.W.codeIn K cdBook_named "Book.named" = true) (kBook_named : PySem.W.keepIn K (.ref fBook_named) = true)
    {fCounts___init__ : Addr} {odCounts___init__ anCounts___init__ : Option Addr} {slCounts___init__ : Array (Option Value)} {ocCounts___init__ kVCounts___init__ dcCounts___init__ pmCounts___init__ cdCounts___init__ ctCounts___init__ : Value}
    (a_Counts___init__ : PySem.W.findIn K (.ref C_Counts) "__init__" = some (some (.ref fCounts___init__)))
    (iCounts___init__ : PySem.W.isFn K (.ref fCounts___init__) = true) (lCounts___init__ : K.lookup fCounts___init__ = some ⟨ocCounts___init__, odCounts___init__, .func (PySem.W.fnOf "__init__" "Counts.__init__" (defArgs s_Counts___init__) (defBody s_Counts___init__) (defScope s_Counts___init__) .none kVCounts___init__ dcCounts___init__ pmCounts___init__ anCounts___init__ cdCounts___init__ ctCounts___init__), slCounts___init__⟩) (cCounts___init__ : PySem.W.codeIn K cdCounts___init__ "Counts.__init__" = true) (kCounts___init__ : PySem.W.keepIn K (.ref fCounts___init__) = true)
    {fCounts_have : Addr} {odCounts_have anCounts_have : Option Addr} {slCounts_have : Array (Option Value)} {ocCounts_have kVCounts_have dcCounts_have pmCounts_have cdCounts_have ctCounts_have : Value}
    (a_Counts_have : PySem.W.findIn K (.ref C_Counts) "have" = some (some (.ref fCounts_have)))
    (iCounts_have : PySem.W.isFn K (.ref fCounts_have) = true) (lCounts_have : K.lookup fCounts_have = some ⟨ocCounts_have, odCounts_have, .func (PySem.W.fnOf "have" "Counts.have" (defArgs s_Counts_have) (defBody s_Counts_have) (defScope s_Counts_have) .none kVCounts_have dcCounts_have pmCounts_have anCounts_have cdCounts_have ctCounts_have), slCounts_have⟩) (cCounts_have : PySem.W.codeIn K cdCounts_have "Counts.have" = true) (kCounts_have : PySem.W.keepIn K (.ref fCounts_have) = true)
    {fCounts_add : Addr} {odCounts_add anCounts_add : Option Addr} {slCounts_add : Array (Option Value)} {ocCounts_add kVCounts_add dcCounts_add pmCounts_add cdCounts_add ctCounts_add : Value}
    (a_Counts_add : PySem.W.findIn K (.ref C_Counts) "add" = some (some (.ref fCounts_add)))
    (iCounts_add : PySem.W.isFn K (.ref fCounts_add) = true) (lCounts_add : K.lookup fCounts_add = some ⟨ocCounts_add, odCounts_add, .func (PySem.W.fnOf "add" "Counts.add" (defArgs s_Counts_add) (defBody s_Counts_add) (defScope s_Counts_add) .none kVCounts_add dcCounts_add pmCounts_add anCounts_add cdCounts_add ctCounts_add), slCounts_add⟩) (cCounts_add : PySem.W.codeIn K cdCounts_add "Counts.add" = true) (kCounts_add : PySem.W.keepIn K (.ref fCounts_add) = true)
    {fDeal___init__ : Addr} {odDeal___init__ anDeal___init__ : Option Addr} {slDeal___init__ : Array (Option Value)} {ocDeal___init__ kVDeal___init__ dcDeal___init__ pmDeal___init__ cdDeal___init__ ctDeal___init__ : Value}
    (a_Deal___init__ : PySem.W.findIn K (.ref C_Deal) "__init__" = some (some (.ref fDeal___init__)))
    (iDeal___init__ : PySem.W.isFn K (.ref fDeal___init__) = true) (lDeal___init__ : K.lookup fDeal___init__ = some ⟨ocDeal___init__, odDeal___init__, .func (PySem.W.fnOf "__init__" "Deal.__init__" (defArgs s_Deal___init__) (defBody s_Deal___init__) (defScope s_Deal___init__) .none kVDeal___init__ dcDeal___init__ pmDeal___init__ anDeal___init__ cdDeal___init__ ctDeal___init__), slDeal___init__⟩) (cDeal___init__ : PySem.W.codeIn K cdDeal___init__ "Deal.__init__" = true) (kDeal___init__ : PySem.W.keepIn K (.ref fDeal___init__) = true)
    {fCover___init__ dvCover___init__ : Addr} {odCover___init__ anCover___init__ : Option Addr} {slCover___init__ : Array (Option Value)} {ocCover___init__ kVCover___init__ dcCover___init__ pmCover___init__ cdCover___init__ ctCover___init__ : Value}
    (a_Cover___init__ : PySem.W.findIn K (.ref C_Cover) "__init__" = some (some (.ref fCover___init__)))
    (iCover___init__ : PySem.W.isFn K (.ref fCover___init__) = true) (lCover___init__ : K.lookup fCover___init__ = some ⟨ocCover___init__, odCover___init__, .func (PySem.W.fnOf "__init__" "Cover.__init__" (defArgs s_Cover___init__) (defBody s_Cover___init__) (defScope s_Cover___init__) (.ref dvCover___init__) kVCover___init__ dcCover___init__ pmCover___init__ anCover___init__ cdCover___init__ ctCover___init__), slCover___init__⟩) (cCover___init__ : PySem.W.codeIn K cdCover___init__ "Cover.__init__" = true) (kCover___init__ : PySem.W.keepIn K (.ref fCover___init__) = true)
    {ndCover___init__ : Nat} (dlCover___init__ : K.lookup dvCover___init__ = some ⟨.type "tuple", none, .seq #[.none, .none, .bool false] ndCover___init__, #[]⟩)
    (ni_Condition : PySem.W.findIn K (.ref C_Condition) "__init__" = some (some (.builtin "object.__init__")))
    {tk_COVERED_ONE : Tok} (z_COVERED_ONE : PySem.W.nsIn K mainGlobals "COVERED_ONE" = some (some (.str "self" tk_COVERED_ONE)))
    {tk_LETTERS : Tok} (z_LETTERS : PySem.W.nsIn K mainGlobals "LETTERS" = some (some (.str "abcdefghijklmnopqrstuvwxyz" tk_LETTERS)))
    {tk_LONGEST_NAME : Tok} (z_LONGEST_NAME : PySem.W.nsIn K mainGlobals "LONGEST_NAME" = some (some (.int 8 tk_LONGEST_NAME)))
    {tk_MOST_CLAUSES : Tok} (z_MOST_CLAUSES : PySem.W.nsIn K mainGlobals "MOST_CLAUSES" = some (some (.int 8 tk_MOST_CLAUSES)))
    {tk_MOST_COVERS : Tok} (z_MOST_COVERS : PySem.W.nsIn K mainGlobals "MOST_COVERS" = some (some (.int 8 tk_MOST_COVERS)))
    {tk_MOST_PLACES : Tok} (z_MOST_PLACES : PySem.W.nsIn K mainGlobals "MOST_PLACES" = some (some (.int 8 tk_MOST_PLACES)))
    {tk_MOST_TURNS : Tok} (z_MOST_TURNS : PySem.W.nsIn K mainGlobals "MOST_TURNS" = some (some (.int 100 tk_MOST_TURNS)))
    (z_ValueError : PySem.W.nsIn K mainGlobals "ValueError" = some none)
    (z_bool : PySem.W.nsIn K mainGlobals "bool" = some none)
    (z_enumerate : PySem.W.nsIn K mainGlobals "enumerate" = some none)
    (z_int : PySem.W.nsIn K mainGlobals "int" = some none)
    (z_isinstance : PySem.W.nsIn K mainGlobals "isinstance" = some none)
    (z_len : PySem.W.nsIn K mainGlobals "len" = some none)
    (z_list : PySem.W.nsIn K mainGlobals "list" = some none)
    (z_range : PySem.W.nsIn K mainGlobals "range" = some none)
    (z_set : PySem.W.nsIn K mainGlobals "set" = some none)
    (z_str : PySem.W.nsIn K mainGlobals "str" = some none)
    (z_sum : PySem.W.nsIn K mainGlobals "sum" = some none)
    {C_CoverError : Addr} (q_CoverError : PySem.W.nsIn K mainGlobals "CoverError" = some (some (.ref C_CoverError)))
    {C_NoShares : Addr} (q_NoShares : PySem.W.nsIn K mainGlobals "NoShares" = some (some (.ref C_NoShares)))
    {C_NoEntry : Addr} (q_NoEntry : PySem.W.nsIn K mainGlobals "NoEntry" = some (some (.ref C_NoEntry)))
    {C_NoCover : Addr} (q_NoCover : PySem.W.nsIn K mainGlobals "NoCover" = some (some (.ref C_NoCover)))
    {C_NoBook : Addr} (q_NoBook : PySem.W.nsIn K mainGlobals "NoBook" = some (some (.ref C_NoBook)))
    {C_Twice : Addr} (q_Twice : PySem.W.nsIn K mainGlobals "Twice" = some (some (.ref C_Twice)))
    {C_NotTold : Addr} (q_NotTold : PySem.W.nsIn K mainGlobals "NotTold" = some (some (.ref C_NotTold)))
    (r_NoBook : PySem.W.excIn K C_NoBook [.type "ValueError", .type "Exception", .type "BaseException", .type "object"] "ValueError.__new__" = true)
    (ga_NoBook : PySem.W.findIn K (.ref C_NoBook) "__getattribute__" = some (some (.builtin "BaseException.__getattribute__")))
    (gt_NoBook : PySem.W.findIn K (.ref C_NoBook) "__getattr__" = some none)
    (cl_NoBook : PySem.W.findIn K (.ref C_NoBook) "__class__" = some (some (.builtin "object.__class__")))
    (ob_NoBook : PySem.W.mroIn K C_NoBook (.type "object") = some true)
    (sb_NoBook : PySem.W.subIn K (.ref C_NoBook) (.type "BaseException") = some true)
    (ic_NoBook : PySem.W.isClsIn K C_NoBook = true)
    (hd_NoBook : PySem.W.hasDictIn K C_NoBook = true)
    (gs : PySem.W.specialIn K (.builtin "object.__class__") "__get__" = some (some (.builtin "getset_descriptor.__get__"))) (tk : PySem.W.takesIn K (.builtin "object.__class__") = some true)
    (v_NoBook : PySem.W.kitOne K (.ref C_NoBook) (.type "ValueError") = some true)
    (k_NoBook_NotTold : PySem.W.kitOne K (.ref C_NoBook) (.ref C_NotTold) = some false)
    (k_NoBook_NoBook : PySem.W.kitOne K (.ref C_NoBook) (.ref C_NoBook) = some true)
    (k_NoBook_NoCover : PySem.W.kitOne K (.ref C_NoBook) (.ref C_NoCover) = some false)
    (k_NoBook_NoEntry : PySem.W.kitOne K (.ref C_NoBook) (.ref C_NoEntry) = some false)
    (k_NoBook_Twice : PySem.W.kitOne K (.ref C_NoBook) (.ref C_Twice) = some false)
    (h_NoBook_CoverError : PySem.W.exmOne K (.ref C_NoBook) (.ref C_CoverError) = some true)
    (r_NotTold : PySem.W.excIn K C_NotTold [.type "ValueError", .type "Exception", .type "BaseException", .type "object"] "ValueError.__new__" = true)
    (ga_NotTold : PySem.W.findIn K (.ref C_NotTold) "__getattribute__" = some (some (.builtin "BaseException.__getattribute__")))
    (gt_NotTold : PySem.W.findIn K (.ref C_NotTold) "__getattr__" = some none)
    (cl_NotTold : PySem.W.findIn K (.ref C_NotTold) "__class__" = some (some (.builtin "object.__class__")))
    (ob_NotTold : PySem.W.mroIn K C_NotTold (.type "object") = some true)
    (sb_NotTold : PySem.W.subIn K (.ref C_NotTold) (.type "BaseException") = some true)
    (ic_NotTold : PySem.W.isClsIn K C_NotTold = true)
    (hd_NotTold : PySem.W.hasDictIn K C_NotTold = true)
    (v_NotTold : PySem.W.kitOne K (.ref C_NotTold) (.type "ValueError") = some true)
    (k_NotTold_NotTold : PySem.W.kitOne K (.ref C_NotTold) (.ref C_NotTold) = some true)
    (k_NotTold_NoBook : PySem.W.kitOne K (.ref C_NotTold) (.ref C_NoBook) = some false)
    (k_NotTold_NoCover : PySem.W.kitOne K (.ref C_NotTold) (.ref C_NoCover) = some false)
    (k_NotTold_NoEntry : PySem.W.kitOne K (.ref C_NotTold) (.ref C_NoEntry) = some false)
    (k_NotTold_Twice : PySem.W.kitOne K (.ref C_NotTold) (.ref C_Twice) = some false)
    (h_NotTold_CoverError : PySem.W.exmOne K (.ref C_NotTold) (.ref C_CoverError) = some true)
    (r_NoCover : PySem.W.excIn K C_NoCover [.type "ValueError", .type "Exception", .type "BaseException", .type "object"] "ValueError.__new__" = true)
    (ga_NoCover : PySem.W.findIn K (.ref C_NoCover) "__getattribute__" = some (some (.builtin "BaseException.__getattribute__")))
    (gt_NoCover : PySem.W.findIn K (.ref C_NoCover) "__getattr__" = some none)
    (cl_NoCover : PySem.W.findIn K (.ref C_NoCover) "__class__" = some (some (.builtin "object.__class__")))
    (ob_NoCover : PySem.W.mroIn K C_NoCover (.type "object") = some true)
    (sb_NoCover : PySem.W.subIn K (.ref C_NoCover) (.type "BaseException") = some true)
    (ic_NoCover : PySem.W.isClsIn K C_NoCover = true)
    (hd_NoCover : PySem.W.hasDictIn K C_NoCover = true)
    (v_NoCover : PySem.W.kitOne K (.ref C_NoCover) (.type "ValueError") = some true)
    (k_NoCover_NotTold : PySem.W.kitOne K (.ref C_NoCover) (.ref C_NotTold) = some false)
    (k_NoCover_NoBook : PySem.W.kitOne K (.ref C_NoCover) (.ref C_NoBook) = some false)
    (k_NoCover_NoCover : PySem.W.kitOne K (.ref C_NoCover) (.ref C_NoCover) = some true)
    (k_NoCover_NoEntry : PySem.W.kitOne K (.ref C_NoCover) (.ref C_NoEntry) = some false)
    (k_NoCover_Twice : PySem.W.kitOne K (.ref C_NoCover) (.ref C_Twice) = some false)
    (h_NoCover_CoverError : PySem.W.exmOne K (.ref C_NoCover) (.ref C_CoverError) = some true)
    (r_NoShares : PySem.W.excIn K C_NoShares [.type "ValueError", .type "Exception", .type "BaseException", .type "object"] "ValueError.__new__" = true)
    (ga_NoShares : PySem.W.findIn K (.ref C_NoShares) "__getattribute__" = some (some (.builtin "BaseException.__getattribute__")))
    (gt_NoShares : PySem.W.findIn K (.ref C_NoShares) "__getattr__" = some none)
    (cl_NoShares : PySem.W.findIn K (.ref C_NoShares) "__class__" = some (some (.builtin "object.__class__")))
    (ob_NoShares : PySem.W.mroIn K C_NoShares (.type "object") = some true)
    (sb_NoShares : PySem.W.subIn K (.ref C_NoShares) (.type "BaseException") = some true)
    (ic_NoShares : PySem.W.isClsIn K C_NoShares = true)
    (hd_NoShares : PySem.W.hasDictIn K C_NoShares = true)
    (v_NoShares : PySem.W.kitOne K (.ref C_NoShares) (.type "ValueError") = some true)
    (k_NoShares_NotTold : PySem.W.kitOne K (.ref C_NoShares) (.ref C_NotTold) = some false)
    (k_NoShares_NoBook : PySem.W.kitOne K (.ref C_NoShares) (.ref C_NoBook) = some false)
    (k_NoShares_NoCover : PySem.W.kitOne K (.ref C_NoShares) (.ref C_NoCover) = some false)
    (k_NoShares_NoEntry : PySem.W.kitOne K (.ref C_NoShares) (.ref C_NoEntry) = some false)
    (k_NoShares_Twice : PySem.W.kitOne K (.ref C_NoShares) (.ref C_Twice) = some false)
    (h_NoShares_CoverError : PySem.W.exmOne K (.ref C_NoShares) (.ref C_CoverError) = some true) :
    ∃ fd : FuncData, (∀ (s : Shared) (v : Value), BindsTo s fd ⟨[v], []⟩ [("_law_script", v)]) ∧ ∀ base : Heap, K.In base → base.Ns mainGlobals mg → FnOk l.prog w K mg base CX0 8 fa fd ["_law_script"] (spLaw K) := by
  have e := hfa.symm.trans (PySem.W.mg_of X G a17)
  cases e
  have F0 := fun_mk (st := s_is_whole) l0 c0 k0
  have B0 := F0.binds (ps := ["thing"]) fun _ _ _ _ _ _ us hl => match us, hl with | [_], _ => rfl
  have D_is_whole : Def K mg "is_whole" s_is_whole ["thing"] := ⟨f0, _, F0, B0, PySem.W.mg_of X G a0⟩
  have F1 := fun_mk (st := s_has_letters_alone) l1 c1 k1
  have B1 := F1.binds (ps := ["text"]) fun _ _ _ _ _ _ us hl => match us, hl with | [_], _ => rfl
  have D_has_letters_alone : Def K mg "has_letters_alone" s_has_letters_alone ["text"] := ⟨f1, _, F1, B1, PySem.W.mg_of X G a1⟩
  have F2 := fun_mk (st := s_is_name) l2 c2 k2
  have B2 := F2.binds (ps := ["thing"]) fun _ _ _ _ _ _ us hl => match us, hl with | [_], _ => rfl
  have D_is_name : Def K mg "is_name" s_is_name ["thing"] := ⟨f2, _, F2, B2, PySem.W.mg_of X G a2⟩
  have F3 := fun_mk (st := s_are_weights) l3 c3 k3
  have B3 := F3.binds (ps := ["thing"]) fun _ _ _ _ _ _ us hl => match us, hl with | [_], _ => rfl
  have D_are_weights : Def K mg "are_weights" s_are_weights ["thing"] := ⟨f3, _, F3, B3, PySem.W.mg_of X G a3⟩
  have F4 := fun_mk (st := s_may_have) l4 c4 k4
  have B4 := F4.binds (ps := ["weight", "dealt", "total", "turn"]) fun _ _ _ _ _ _ us hl => match us, hl with | [_, _, _, _], _ => rfl
  have D_may_have : Def K mg "may_have" s_may_have ["weight", "dealt", "total", "turn"] := ⟨f4, _, F4, B4, PySem.W.mg_of X G a4⟩
  have F5 := fun_mk (st := s_due_by) l5 c5 k5
  have B5 := F5.binds (ps := ["weight", "dealt", "total"]) fun _ _ _ _ _ _ us hl => match us, hl with | [_, _, _], _ => rfl
  have D_due_by : Def K mg "due_by" s_due_by ["weight", "dealt", "total"] := ⟨f5, _, F5, B5, PySem.W.mg_of X G a5⟩
  have F6 := fun_mk (st := s_place_of_turn) l6 c6 k6
  have B6 := F6.binds (ps := ["weights", "dealt", "turn"]) fun _ _ _ _ _ _ us hl => match us, hl with | [_, _, _], _ => rfl
  have D_place_of_turn : Def K mg "place_of_turn" s_place_of_turn ["weights", "dealt", "turn"] := ⟨f6, _, F6, B6, PySem.W.mg_of X G a6⟩
  have F7 := fun_mk (st := s_turns) l7 c7 k7
  have B7 := F7.binds (ps := ["weights"]) fun _ _ _ _ _ _ us hl => match us, hl with | [_], _ => rfl
  have D_turns : Def K mg "turns" s_turns ["weights"] := ⟨f7, _, F7, B7, PySem.W.mg_of X G a7⟩
  have F8 := fun_mk (st := s_check_houses) l8 c8 k8
  have B8 := F8.binds (ps := ["houses"]) fun _ _ _ _ _ _ us hl => match us, hl with | [_], _ => rfl
  have D_check_houses : Def K mg "check_houses" s_check_houses ["houses"] := ⟨f8, _, F8, B8, PySem.W.mg_of X G a8⟩
  have F9 := fun_mk (st := s__law_cell) l9 c9 k9
  have B9 := F9.binds (ps := ["_law_script", "_law_k"]) fun _ _ _ _ _ _ us hl => match us, hl with | [_, _], _ => rfl
  have D__law_cell : Def K mg "_law_cell" s__law_cell ["_law_script", "_law_k"] := ⟨f9, _, F9, B9, PySem.W.mg_of X G a9⟩
  have F10 := fun_mk (st := s__law_whole) l10 c10 k10
  have B10 := F10.binds (ps := ["_law_found"]) fun _ _ _ _ _ _ us hl => match us, hl with | [_], _ => rfl
  have D__law_whole : Def K mg "_law_whole" s__law_whole ["_law_found"] := ⟨f10, _, F10, B10, PySem.W.mg_of X G a10⟩
  have F11 := fun_mk (st := s__law_spread) l11 c11 k11
  have B11 := F11.binds (ps := ["_law_cell_here"]) fun _ _ _ _ _ _ us hl => match us, hl with | [_], _ => rfl
  have D__law_spread : Def K mg "_law_spread" s__law_spread ["_law_cell_here"] := ⟨f11, _, F11, B11, PySem.W.mg_of X G a11⟩
  have F12 := fun_mk (st := s__law_names) l12 c12 k12
  have B12 := F12.binds (ps := ["_law_cell_here", "_law_many"]) fun _ _ _ _ _ _ us hl => match us, hl with | [_, _], _ => rfl
  have D__law_names : Def K mg "_law_names" s__law_names ["_law_cell_here", "_law_many"] := ⟨f12, _, F12, B12, PySem.W.mg_of X G a12⟩
  have F13 := fun_mk (st := s__law_no_book) l13 c13 k13
  have B13 := F13.binds (ps := ["_law_some"]) fun _ _ _ _ _ _ us hl => match us, hl with | [_], _ => rfl
  have D__law_no_book : Def K mg "_law_no_book" s__law_no_book ["_law_some"] := ⟨f13, _, F13, B13, PySem.W.mg_of X G a13⟩
  have F14 := fun_mk (st := s__law_not_told) l14 c14 k14
  have B14 := F14.binds (ps := ["_law_book", "_law_name"]) fun _ _ _ _ _ _ us hl => match us, hl with | [_, _], _ => rfl
  have D__law_not_told : Def K mg "_law_not_told" s__law_not_told ["_law_book", "_law_name"] := ⟨f14, _, F14, B14, PySem.W.mg_of X G a14⟩
  have F15 := fun_mk (st := s__law_counts_kept) l15 c15 k15
  have B15 := F15.binds (ps := ["_law_script", "_law_names_here"]) fun _ _ _ _ _ _ us hl => match us, hl with | [_, _], _ => rfl
  have D__law_counts_kept : Def K mg "_law_counts_kept" s__law_counts_kept ["_law_script", "_law_names_here"] := ⟨f15, _, F15, B15, PySem.W.mg_of X G a15⟩
  have F16 := fun_mk (st := s__law_same) l16 c16 k16
  have B16 := F16.binds (ps := ["_law_found", "_law_names_here"]) fun _ _ _ _ _ _ us hl => match us, hl with | [_, _], _ => rfl
  have D__law_same : Def K mg "_law_same" s__law_same ["_law_found", "_law_names_here"] := ⟨f16, _, F16, B16, PySem.W.mg_of X G a16⟩
  have F17 := fun_mk (st := s_law) l17 c17 k17
  have B17 := F17.binds (ps := ["_law_script"]) fun _ _ _ _ _ _ us hl => match us, hl with | [_], _ => rfl
  have F_Book___init__ := fun_mk (x := "__init__") (qual := "Book.__init__") (st := s_Book___init__) lBook___init__ cBook___init__ kBook___init__
  have B_Book___init__ := F_Book___init__.binds (ps := ["self", "covers"]) fun _ _ _ _ _ _ us hl => match us, hl with | [_, _], _ => rfl
  have F_Book_named := fun_mk (x := "named") (qual := "Book.named") (st := s_Book_named) lBook_named cBook_named kBook_named
  have B_Book_named := F_Book_named.binds (ps := ["self", "name"]) fun _ _ _ _ _ _ us hl => match us, hl with | [_, _], _ => rfl
  have F_Counts___init__ := fun_mk (x := "__init__") (qual := "Counts.__init__") (st := s_Counts___init__) lCounts___init__ cCounts___init__ kCounts___init__
  have B_Counts___init__ := F_Counts___init__.binds (ps := ["self"]) fun _ _ _ _ _ _ us hl => match us, hl with | [_], _ => rfl
  have F_Counts_have := fun_mk (x := "have") (qual := "Counts.have") (st := s_Counts_have) lCounts_have cCounts_have kCounts_have
  have B_Counts_have := F_Counts_have.binds (ps := ["self", "name", "k", "key"]) fun _ _ _ _ _ _ us hl => match us, hl with | [_, _, _, _], _ => rfl
  have F_Counts_add := fun_mk (x := "add") (qual := "Counts.add") (st := s_Counts_add) lCounts_add cCounts_add kCounts_add
  have B_Counts_add := F_Counts_add.binds (ps := ["self", "name", "k", "key", "cents"]) fun _ _ _ _ _ _ us hl => match us, hl with | [_, _, _, _, _], _ => rfl
  have F_Deal___init__ := fun_mk (x := "__init__") (qual := "Deal.__init__") (st := s_Deal___init__) lDeal___init__ cDeal___init__ kDeal___init__
  have B_Deal___init__ := F_Deal___init__.binds (ps := ["self", "weights"]) fun _ _ _ _ _ _ us hl => match us, hl with | [_, _], _ => rfl
  have F_Cover___init__ := funD_mk (x := "__init__") (qual := "Cover.__init__") (st := s_Cover___init__) lCover___init__ cCover___init__ kCover___init__
  have B_Cover___init__ : Binds K _ ["self", "name", "condition", "clauses", "houses", "waits"] [] := fun s us X hl => by
    rw [List.append_nil] at hl ⊢
    match us, hl with | [_, _, _, _, _, _], _ => exact BindsTo.of_defaults (fd := PySem.W.fnOf "__init__" "Cover.__init__" (defArgs s_Cover___init__) (defBody s_Cover___init__) (defScope s_Cover___init__) (.ref dvCover___init__) kVCover___init__ dcCover___init__ pmCover___init__ anCover___init__ cdCover___init__ ctCover___init__) rfl (X _ _ dlCover___init__) rfl rfl rfl
  have H_Book_make : Mk K C_Book fBook___init__ := ⟨mk_Book, a_Book___init__, iBook___init__, kc_Book⟩
  have H_Book_named : Meth K C_Book "named" fBook_named := ⟨a_Book_named, iBook_named, kBook_named⟩
  have H_Counts_make : Mk K C_Counts fCounts___init__ := ⟨mk_Counts, a_Counts___init__, iCounts___init__, kc_Counts⟩
  have H_Counts_have : Meth K C_Counts "have" fCounts_have := ⟨a_Counts_have, iCounts_have, kCounts_have⟩
  have H_Counts_add : Meth K C_Counts "add" fCounts_add := ⟨a_Counts_add, iCounts_add, kCounts_add⟩
  have H_Deal_make : Mk K C_Deal fDeal___init__ := ⟨mk_Deal, a_Deal___init__, iDeal___init__, kc_Deal⟩
  have H_Cover_make : Mk K C_Cover fCover___init__ := ⟨mk_Cover, a_Cover___init__, iCover___init__, kc_Cover⟩
  have NCondition : Mk0 K mg "Condition" C_Condition := ⟨mk_Condition, ni_Condition, kc_Condition, PySem.W.mg_of X G q_Condition⟩
  have L : Kl K mg C_Book C_Counts C_Condition C_Deal C_Cover := ⟨PySem.W.mg_of X G q_Book, ⟨pg_Book, hd_Book, po_Book, sa_Book⟩, na_Book_covers, na_Book_asking, PySem.W.mg_of X G q_Counts, ⟨pg_Counts, hd_Counts, po_Counts, sa_Counts⟩, na_Counts_kept, PySem.W.mg_of X G q_Condition, ⟨pg_Condition, hd_Condition, po_Condition, sa_Condition⟩, PySem.W.mg_of X G q_Deal, ⟨pg_Deal, hd_Deal, po_Deal, sa_Deal⟩, na_Deal_wheel, na_Deal_weights, PySem.W.mg_of X G q_Cover, ⟨pg_Cover, hd_Cover, po_Cover, sa_Cover⟩, na_Cover_name, na_Cover_condition, na_Cover_clauses, na_Cover_houses, na_Cover_deal, na_Cover_waits, nd_C⟩
  have T : Txt K mg := ⟨⟨tk_COVERED_ONE, PySem.W.mg_of X G z_COVERED_ONE⟩, ⟨tk_LETTERS, PySem.W.mg_of X G z_LETTERS⟩, ⟨tk_LONGEST_NAME, PySem.W.mg_of X G z_LONGEST_NAME⟩, ⟨tk_MOST_CLAUSES, PySem.W.mg_of X G z_MOST_CLAUSES⟩, ⟨tk_MOST_COVERS, PySem.W.mg_of X G z_MOST_COVERS⟩, ⟨tk_MOST_PLACES, PySem.W.mg_of X G z_MOST_PLACES⟩, ⟨tk_MOST_TURNS, PySem.W.mg_of X G z_MOST_TURNS⟩, PySem.W.mg_none_of X G z_ValueError, PySem.W.mg_none_of X G z_bool, PySem.W.mg_none_of X G z_enumerate, PySem.W.mg_none_of X G z_int, PySem.W.mg_none_of X G z_isinstance, PySem.W.mg_none_of X G z_len, PySem.W.mg_none_of X G z_list, PySem.W.mg_none_of X G z_range, PySem.W.mg_none_of X G z_set, PySem.W.mg_none_of X G z_str, PySem.W.mg_none_of X G z_sum⟩
  have Z : Xc K mg C_CoverError C_NoShares C_NoEntry C_NoCover C_NoBook C_Twice C_NotTold := ⟨PySem.W.mg_of X G q_CoverError, PySem.W.mg_of X G q_NoShares, PySem.W.mg_of X G q_NoEntry, PySem.W.mg_of X G q_NoCover, PySem.W.mg_of X G q_NoBook, PySem.W.mg_of X G q_Twice, PySem.W.mg_of X G q_NotTold, ⟨PySem.W.mg_of X G q_NoBook, _, _, _, _, r_NoBook, PySem.F.excBase_ValueError⟩, ⟨ga_NoBook, gt_NoBook, cl_NoBook, ob_NoBook, sb_NoBook, ic_NoBook, hd_NoBook, gs, tk⟩, v_NoBook, k_NoBook_NotTold, k_NoBook_NoBook, k_NoBook_NoCover, k_NoBook_NoEntry, k_NoBook_Twice, h_NoBook_CoverError, ⟨PySem.W.mg_of X G q_NotTold, _, _, _, _, r_NotTold, PySem.F.excBase_ValueError⟩, ⟨ga_NotTold, gt_NotTold, cl_NotTold, ob_NotTold, sb_NotTold, ic_NotTold, hd_NotTold, gs, tk⟩, v_NotTold, k_NotTold_NotTold, k_NotTold_NoBook, k_NotTold_NoCover, k_NotTold_NoEntry, k_NotTold_Twice, h_NotTold_CoverError, ⟨PySem.W.mg_of X G q_NoCover, _, _, _, _, r_NoCover, PySem.F.excBase_ValueError⟩, ⟨ga_NoCover, gt_NoCover, cl_NoCover, ob_NoCover, sb_NoCover, ic_NoCover, hd_NoCover, gs, tk⟩, v_NoCover, k_NoCover_NotTold, k_NoCover_NoBook, k_NoCover_NoCover, k_NoCover_NoEntry, k_NoCover_Twice, h_NoCover_CoverError, ⟨PySem.W.mg_of X G q_NoShares, _, _, _, _, r_NoShares, PySem.F.excBase_ValueError⟩, ⟨ga_NoShares, gt_NoShares, cl_NoShares, ob_NoShares, sb_NoShares, ic_NoShares, hd_NoShares, gs, tk⟩, v_NoShares, k_NoShares_NotTold, k_NoShares_NoBook, k_NoShares_NoCover, k_NoShares_NoEntry, k_NoShares_Twice, h_NoShares_CoverError⟩
  refine ⟨PySem.W.fnOf "law" "law" (defArgs s_law) (defBody s_law) (defScope s_law) .none kV17 dc17 pm17 an17 cd17 ct17, fun s v => .of_eq rfl, fun base _ _ => ?_⟩
  have Cis_whole : Cal l.prog w K mg base 1 "is_whole" ["thing"] (spWhole K) := D_is_whole.cal fun f fd F => ok_is_whole F T
  have Care_weights : Cal l.prog w K mg base 2 "are_weights" ["thing"] spWeights := D_are_weights.cal fun f fd F => ok_are_weights F T Cis_whole
  have Care_no : Cal l.prog w K mg base 2 "are_weights" ["thing"] (spAreNo K) := D_are_weights.cal fun f fd F => ok_are_no F T Cis_whole
  have Cmay_have : Cal l.prog w K mg base 1 "may_have" ["weight", "dealt", "total", "turn"] spMay := D_may_have.cal fun f fd F => ok_may_have F T
  have Cdue_by : Cal l.prog w K mg base 1 "due_by" ["weight", "dealt", "total"] spDue := D_due_by.cal fun f fd F => ok_due_by F T
  have Cplace_of_turn : Cal l.prog w K mg base 2 "place_of_turn" ["weights", "dealt", "turn"] spPlace := D_place_of_turn.cal fun f fd F => ok_place_of_turn F T Cmay_have Cdue_by
  have Cturns : Cal l.prog w K mg base 3 "turns" ["weights"] spTurns := D_turns.cal fun f fd F => ok_turns F T Care_weights Cplace_of_turn
  have Cturns_no : CalX l.prog w K mg base 3 "turns" ["weights"] (spTurnsNo K C_NoShares) := D_turns.calX fun f fd F => ok_turns_no F T Z Care_no Cplace_of_turn
  have DL : Dl K C_Deal := ⟨L.cl_Deal, L.na_Deal_wheel, L.na_Deal_weights⟩
  have KDealX : KCalX l.prog w K mg base 4 "Deal" C_Deal ["self", "weights"] (fun vs H Q E => spInit C_Deal vs H Q E ∨ spInitNo K C_NoShares vs H Q E) := ⟨_, _, H_Deal_make, FnOk.or (FnOk.toX (ok_Deal___init__ F_Deal___init__ T DL Cturns)) (ok_init_no (C := C_Deal) F_Deal___init__ T Z Cturns_no), B_Deal___init__, L.mg_Deal⟩
  have Chas_letters_alone : Cal l.prog w K mg base 1 "has_letters_alone" ["text"] spLet := D_has_letters_alone.cal fun f fd F => ok_has_letters_alone F T
  have Cis_name : Cal l.prog w K mg base 2 "is_name" ["thing"] (spName K) := D_is_name.cal fun f fd F => ok_is_name F T Chas_letters_alone
  have Ccheck_houses : CalX l.prog w K mg base 3 "check_houses" ["houses"] (spHouses K C_NoCover) := D_check_houses.calX fun f fd F => ok_check_houses F T Z Cis_name
  have BD3 : Binds K (PySem.W.fnOf "__init__" "Cover.__init__" (defArgs s_Cover___init__) (defBody s_Cover___init__) (defScope s_Cover___init__) (.ref dvCover___init__) kVCover___init__ dcCover___init__ pmCover___init__ anCover___init__ cdCover___init__ ctCover___init__) ["self", "name", "condition", "clauses", "houses", "waits"] [.none, .none, .bool false] := fun s us X hl => by
    have hl' : us.length = 3 := by simpa using hl
    match us, hl' with | [_, _, _], _ => exact BindsTo.of_defaults rfl (X _ _ dlCover___init__) rfl rfl rfl
  have CX := ok_Cover___init__ F_Cover___init__ T L Z Cis_name Ccheck_houses KDealX
  have KCover : KCal l.prog w K mg base 6 "Cover" C_Cover ["self", "name", "condition", "clauses", "houses", "waits"] (fun vs H Q _ => spCov K C_Cover C_Deal C_NoCover C_NoShares vs H Q E0) := ⟨_, _, H_Cover_make, CX.ofX, B_Cover___init__, L.mg_Cover⟩
  have KCoverD : KCalD l.prog w K mg base 6 "Cover" C_Cover ["self", "name", "condition", "clauses", "houses", "waits"] [.non, .non, .bl false] (fun vs H Q _ => spCov K C_Cover C_Deal C_NoCover C_NoShares vs H Q E0) := ⟨_, _, [.none, .none, .bool false], H_Cover_make, CX.ofX, BD3, .cons rfl (.cons rfl (.cons rfl .nil)), L.mg_Cover⟩
  have C_law_cell : Cal l.prog w K mg base 1 "_law_cell" ["_law_script", "_law_k"] (spCell K) := D__law_cell.cal fun f fd F => ok__law_cell F T
  have BX := ok_Book___init__ (P := l.prog) (w := w) (base := base) F_Book___init__ T L Z
  have NX := ok_Book_named (P := l.prog) (w := w) (base := base) F_Book_named T L Z
  have KBookX : KCalX l.prog w K mg base 1 "Book" C_Book ["self", "covers"] (spBook C_Cover C_Book C_NoBook) := ⟨_, _, H_Book_make, BX, B_Book___init__, L.mg_Book⟩
  have KBook : KCal l.prog w K mg base 1 "Book" C_Book ["self", "covers"] (fun vs H Q _ => spBook C_Cover C_Book C_NoBook vs H Q E0) := ⟨_, _, H_Book_make, BX.ofX, B_Book___init__, L.mg_Book⟩
  have MnamedX : MCalX l.prog w K mg base 1 C_Book "named" ["self", "name"] (spNamed C_Cover C_Book C_NotTold) := ⟨⟨_, _, NX, B_Book_named, H_Book_named⟩, L.cl_Book⟩
  have Mnamed : MCal l.prog w K mg base 1 C_Book "named" ["self", "name"] (fun vs H Q _ => spNamed C_Cover C_Book C_NotTold vs H Q E0) := ⟨⟨_, _, NX.ofX, B_Book_named, H_Book_named⟩, L.cl_Book⟩
  have KCounts : KCal l.prog w K mg base 1 "Counts" C_Counts ["self"] (spCtI C_Counts) := ⟨_, _, H_Counts_make, ok_Counts___init__ F_Counts___init__ T L, B_Counts___init__, L.mg_Counts⟩
  have Mhave : MCal l.prog w K mg base 1 C_Counts "have" ["self", "name", "k", "key"] (spHave C_Counts) := ⟨⟨_, _, ok_Counts_have F_Counts_have T L, B_Counts_have, H_Counts_have⟩, L.cl_Counts⟩
  have Madd : MCal l.prog w K mg base 2 C_Counts "add" ["self", "name", "k", "key", "cents"] (spAdd C_Counts) := ⟨⟨_, _, ok_Counts_add F_Counts_add T L Mhave, B_Counts_add, H_Counts_add⟩, L.cl_Counts⟩
  have C_law_whole : Cal l.prog w K mg base 1 "_law_whole" ["_law_found"] (spWhole K) := D__law_whole.cal fun f fd F => ok__law_whole F T
  have C_law_spread : Cal l.prog w K mg base 1 "_law_spread" ["_law_cell_here"] spSpread := D__law_spread.cal fun f fd F => ok__law_spread F T
  have C_law_names : Cal l.prog w K mg base 1 "_law_names" ["_law_cell_here", "_law_many"] spNames := D__law_names.cal fun f fd F => ok__law_names F T
  have C_law_no_book : Cal l.prog w K mg base 3 "_law_no_book" ["_law_some"] (spNoBook C_Cover) := D__law_no_book.cal fun f fd F => ok__law_no_book F T Z KBookX
  have C_law_not_told : Cal l.prog w K mg base 3 "_law_not_told" ["_law_book", "_law_name"] (spNotTold C_Cover C_Book) := D__law_not_told.cal fun f fd F => ok__law_not_told F T Z MnamedX
  have C_law_same : Cal l.prog w K mg base 1 "_law_same" ["_law_found", "_law_names_here"] (spSame C_Cover) := D__law_same.cal fun f fd F => ok__law_same F T L
  have C_law_counts_kept : Cal l.prog w K mg base 3 "_law_counts_kept" ["_law_script", "_law_names_here"] (spCK K) := D__law_counts_kept.cal fun f fd F => ok__law_counts_kept F T C_law_spread C_law_whole KCounts Mhave Madd
  exact ok_law F17 T L C_law_cell C_law_names C_law_spread C_law_no_book C_law_not_told C_law_same C_law_counts_kept NCondition KBook Mnamed KCover KCoverD
theorem walk {l : PySem.W.OpenLaw} {q : Program} {loose : List Str} {XP : (Str → Option Value) → Heap → Prop} {YP : World → Heap → Prop} {d : DefRec} {K : Params → PySem.W.Frag} (hn : l.most = some 63) (hdf : d.params.defaults = [])
    (hY : ∀ (w : World) (h : Heap), YP w h → (K w.params).In h)
    (F : ∀ (w : World) (mg : Str → Option Value) (fa : Addr) (h : Heap), (K w.params).In h → h.Ns mainGlobals mg → mg d.name = some (.ref fa) →
      ∃ fd : FuncData, (∀ (s : Shared) (u : Value), BindsTo s fd ⟨[u], []⟩ [("_law_script", u)]) ∧ ∀ base : Heap, (K w.params).In base → base.Ns mainGlobals mg → FnOk l.prog w (K w.params) mg base CX0 8 fa fd ["_law_script"] (spLaw (K w.params))) :
    PySem.W.WalkO q loose XP YP l.row.toRowW d [] (fun f vs => PySem.call f vs) :=
  L2.walk_of (n := 63) (k := 8) (x := "_law_script") (CX := fun _ => CX0) (sp := fun w => spLaw (K w.params)) hn (by decide) hdf ⟨rfl, by decide, by decide⟩ hY F (fun _ _ a ns hl _ hS => ⟨a, ns, rfl, hS, hl, fun _ => rfl⟩) fun _ _ _ _ _ z => z
end CRL
open PySem PySem.W PyProof.Rows
def PySem.W.Fast.tw17379511285068010411 : Unit := ()
def PySem.W.Fast.tw3329663807828449053 : Unit := ()
def PySem.W.Fast.tw1974513869016161109 : Unit := ()
def PySem.W.Fast.tw10221978375818094191 : Unit := ()
def PySem.W.Fast.tw773601780013023422 : Unit := ()
def PySem.W.Fast.tw8010734930137609528 : Unit := ()
def PySem.W.Fast.tw5569311154184563425 : Unit := ()
def PySem.W.Fast.tw16064354617320444543 : Unit := ()
def PySem.W.Fast.tw7306001187207579326 : Unit := ()
def PySem.W.Fast.tw4405539474356521454 : Unit := ()
def PySem.W.Fast.tw9198511336152590 : Unit := ()
def PySem.W.Fast.tw15918199673222936451 : Unit := ()
def PySem.W.Fast.tw5702813906134304767 : Unit := ()
def PySem.W.Fast.tw13191763963294132201 : Unit := ()
def PySem.W.Fast.tw13337056831687471296 : Unit := ()
def PySem.W.Fast.tw4995437211092880075 : Unit := ()
def PySem.W.Fast.tw1130977186245639293 : Unit := ()
def PySem.W.Fast.tw6012291346520036193 : Unit := ()
def PySem.W.Fast.tw11527350679367942189 : Unit := ()
def PySem.W.Fast.tw12757429323036933921 : Unit := ()
def PySem.W.Fast.tw16571504536756255259 : Unit := ()
def PySem.W.Fast.tw13989414241355202500 : Unit := ()
def PySem.W.Fast.tw1270101436699897565 : Unit := ()
def PySem.W.Fast.tw1831617692857702354 : Unit := ()
def PySem.W.Fast.tw17455898159467798153 : Unit := ()
def PySem.W.Fast.tw3303910764754510177 : Unit := ()
def PySem.W.Fast.tw10340194208551993837 : Unit := ()
def PySem.W.Fast.tw5351667449171363950 : Unit := ()
def PySem.W.Fast.tw4442726362997906171 : Unit := ()
def PySem.W.Fast.tw13911069254697735255 : Unit := ()
def PySem.W.Fast.tw3956369900092253999 : Unit := ()
def PySem.W.Fast.tw4398739060840554170 : Unit := ()
def PySem.W.Fast.tw13550299838011751141 : Unit := ()
def PySem.W.Fast.tw4930746168509037389 : Unit := ()
def PySem.W.Fast.tw15325400141558009192 : Unit := ()
def PySem.W.Fast.tw17318351911387662748 : Unit := ()
set_option maxRecDepth 100000 in
set_option maxHeartbeats 0 in
theorem PySem.Challenge.cw_coverroll_k49_books_and_counts_holds : PySem.Challenge.rw_coverroll_k49_books_and_counts.Holds := by
  w_on; o_law; k_head; (case hw => w_witness2)
  k_fill
  refine CRL.walk (l := PySem.Challenge.rw_coverroll_k49_books_and_counts) rfl rfl (fun w h Y => PySem.W.kIn_of Y) ?F
  case F =>
    intro w mg fa h KX G hmg
    refine' CRL.all_mk KX G hmg ?a0 ?l0 ?c0 ?k0 ?a1 ?l1 ?c1 ?k1 ?a2 ?l2 ?c2 ?k2 ?a3 ?l3 ?c3 ?k3 ?a4 ?l4 ?c4 ?k4 ?a5 ?l5 ?c5 ?k5 ?a6 ?l6 ?c6 ?k6 ?a7 ?l7 ?c7 ?k7 ?a8 ?l8 ?c8 ?k8 ?a9 ?l9 ?c9 ?k9 ?a10 ?l10 ?c10 ?k10 ?a11 ?l11 ?c11 ?k11 ?a12 ?l12 ?c12 ?k12 ?a13 ?l13 ?c13 ?k13 ?a14 ?l14 ?c14 ?k14 ?a15 ?l15 ?c15 ?k15 ?a16 ?l16 ?c16 ?k16 ?a17 ?l17 ?c17 ?k17 ?q_Book ?pg_Book ?hd_Book ?po_Book ?sa_Book ?mk_Book ?kc_Book ?na_Book_covers ?na_Book_asking ?q_Counts ?pg_Counts ?hd_Counts ?po_Counts ?sa_Counts ?mk_Counts ?kc_Counts ?na_Counts_kept ?q_Condition ?pg_Condition ?hd_Condition ?po_Condition ?sa_Condition ?mk_Condition ?kc_Condition ?q_Deal ?pg_Deal ?hd_Deal ?po_Deal ?sa_Deal ?mk_Deal ?kc_Deal ?na_Deal_wheel ?na_Deal_weights ?q_Cover ?pg_Cover ?hd_Cover ?po_Cover ?sa_Cover ?mk_Cover ?kc_Cover ?na_Cover_name ?na_Cover_condition ?na_Cover_clauses ?na_Cover_houses ?na_Cover_deal ?na_Cover_waits ?nd_C ?a_Book___init__ ?iBook___init__ ?lBook___init__ ?cBook___init__ ?kBook___init__ ?a_Book_named ?iBook_named ?lBook_named ?cBook_named ?kBook_named ?a_Counts___init__ ?iCounts___init__ ?lCounts___init__ ?cCounts___init__ ?kCounts___init__ ?a_Counts_have ?iCounts_have ?lCounts_have ?cCounts_have ?kCounts_have ?a_Counts_add ?iCounts_add ?lCounts_add ?cCounts_add ?kCounts_add ?a_Deal___init__ ?iDeal___init__ ?lDeal___init__ ?cDeal___init__ ?kDeal___init__ ?a_Cover___init__ ?iCover___init__ ?lCover___init__ ?cCover___init__ ?kCover___init__ ?dlCover___init__ ?ni_Condition ?z_COVERED_ONE ?z_LETTERS ?z_LONGEST_NAME ?z_MOST_CLAUSES ?z_MOST_COVERS ?z_MOST_PLACES ?z_MOST_TURNS ?z_ValueError ?z_bool ?z_enumerate ?z_int ?z_isinstance ?z_len ?z_list ?z_range ?z_set ?z_str ?z_sum ?q_CoverError ?q_NoShares ?q_NoEntry ?q_NoCover ?q_NoBook ?q_Twice ?q_NotTold ?r_NoBook ?ga_NoBook ?gt_NoBook ?cl_NoBook ?ob_NoBook ?sb_NoBook ?ic_NoBook ?hd_NoBook ?gs ?tk ?v_NoBook ?k_NoBook_NotTold ?k_NoBook_NoBook ?k_NoBook_NoCover ?k_NoBook_NoEntry ?k_NoBook_Twice ?h_NoBook_CoverError ?r_NotTold ?ga_NotTold ?gt_NotTold ?cl_NotTold ?ob_NotTold ?sb_NotTold ?ic_NotTold ?hd_NotTold ?v_NotTold ?k_NotTold_NotTold ?k_NotTold_NoBook ?k_NotTold_NoCover ?k_NotTold_NoEntry ?k_NotTold_Twice ?h_NotTold_CoverError ?r_NoCover ?ga_NoCover ?gt_NoCover ?cl_NoCover ?ob_NoCover ?sb_NoCover ?ic_NoCover ?hd_NoCover ?v_NoCover ?k_NoCover_NotTold ?k_NoCover_NoBook ?k_NoCover_NoCover ?k_NoCover_NoEntry ?k_NoCover_Twice ?h_NoCover_CoverError ?r_NoShares ?ga_NoShares ?gt_NoShares ?cl_NoShares ?ob_NoShares ?sb_NoShares ?ic_NoShares ?hd_NoShares ?v_NoShares ?k_NoShares_NotTold ?k_NoShares_NoBook ?k_NoShares_NoCover ?k_NoShares_NoEntry ?k_NoShares_Twice ?h_NoShares_CoverError
    (case a0 => k_is)
    (case l0 => k_is)
    (case c0 => k_is)
    (case k0 => k_is)
    (case a1 => k_is)
    (case l1 => k_is)
    (case c1 => k_is)
    (case k1 => k_is)
    (case a2 => k_is)
    (case l2 => k_is)
    (case c2 => k_is)
    (case k2 => k_is)
    (case a3 => k_is)
    (case l3 => k_is)
    (case c3 => k_is)
    (case k3 => k_is)
    (case a4 => k_is)
    (case l4 => k_is)
    (case c4 => k_is)
    (case k4 => k_is)
    (case a5 => k_is)
    (case l5 => k_is)
    (case c5 => k_is)
    (case k5 => k_is)
    (case a6 => k_is)
    (case l6 => k_is)
    (case c6 => k_is)
    (case k6 => k_is)
    (case a7 => k_is)
    (case l7 => k_is)
    (case c7 => k_is)
    (case k7 => k_is)
    (case a8 => k_is)
    (case l8 => k_is)
    (case c8 => k_is)
    (case k8 => k_is)
    (case a9 => k_is)
    (case l9 => k_is)
    (case c9 => k_is)
    (case k9 => k_is)
    (case a10 => k_is)
    (case l10 => k_is)
    (case c10 => k_is)
    (case k10 => k_is)
    (case a11 => k_is)
    (case l11 => k_is)
    (case c11 => k_is)
    (case k11 => k_is)
    (case a12 => k_is)
    (case l12 => k_is)
    (case c12 => k_is)
    (case k12 => k_is)
    (case a13 => k_is)
    (case l13 => k_is)
    (case c13 => k_is)
    (case k13 => k_is)
    (case a14 => k_is)
    (case l14 => k_is)
    (case c14 => k_is)
    (case k14 => k_is)
    (case a15 => k_is)
    (case l15 => k_is)
    (case c15 => k_is)
    (case k15 => k_is)
    (case a16 => k_is)
    (case l16 => k_is)
    (case c16 => k_is)
    (case k16 => k_is)
    (case a17 => k_is)
    (case l17 => k_is)
    (case c17 => k_is)
    (case k17 => k_is)
    (case q_Book => k_is)
    (case pg_Book => k_is)
    (case hd_Book => k_is)
    (case po_Book => k_is)
    (case sa_Book => k_is)
    (case mk_Book => k_is)
    (case kc_Book => k_is)
    (case na_Book_covers => k_is)
    (case na_Book_asking => k_is)
    (case q_Counts => k_is)
    (case pg_Counts => k_is)
    (case hd_Counts => k_is)
    (case po_Counts => k_is)
    (case sa_Counts => k_is)
    (case mk_Counts => k_is)
    (case kc_Counts => k_is)
    (case na_Counts_kept => k_is)
    (case q_Condition => k_is)
    (case pg_Condition => k_is)
    (case hd_Condition => k_is)
    (case po_Condition => k_is)
    (case sa_Condition => k_is)
    (case mk_Condition => k_is)
    (case kc_Condition => k_is)
    (case q_Deal => k_is)
    (case pg_Deal => k_is)
    (case hd_Deal => k_is)
    (case po_Deal => k_is)
    (case sa_Deal => k_is)
    (case mk_Deal => k_is)
    (case kc_Deal => k_is)
    (case na_Deal_wheel => k_is)
    (case na_Deal_weights => k_is)
    (case q_Cover => k_is)
    (case pg_Cover => k_is)
    (case hd_Cover => k_is)
    (case po_Cover => k_is)
    (case sa_Cover => k_is)
    (case mk_Cover => k_is)
    (case kc_Cover => k_is)
    (case na_Cover_name => k_is)
    (case na_Cover_condition => k_is)
    (case na_Cover_clauses => k_is)
    (case na_Cover_houses => k_is)
    (case na_Cover_deal => k_is)
    (case na_Cover_waits => k_is)
    (case nd_C => decide)
    (case a_Book___init__ => k_is)
    (case iBook___init__ => k_is)
    (case lBook___init__ => k_is)
    (case cBook___init__ => k_is)
    (case kBook___init__ => k_is)
    (case a_Book_named => k_is)
    (case iBook_named => k_is)
    (case lBook_named => k_is)
    (case cBook_named => k_is)
    (case kBook_named => k_is)
    (case a_Counts___init__ => k_is)
    (case iCounts___init__ => k_is)
    (case lCounts___init__ => k_is)
    (case cCounts___init__ => k_is)
    (case kCounts___init__ => k_is)
    (case a_Counts_have => k_is)
    (case iCounts_have => k_is)
    (case lCounts_have => k_is)
    (case cCounts_have => k_is)
    (case kCounts_have => k_is)
    (case a_Counts_add => k_is)
    (case iCounts_add => k_is)
    (case lCounts_add => k_is)
    (case cCounts_add => k_is)
    (case kCounts_add => k_is)
    (case a_Deal___init__ => k_is)
    (case iDeal___init__ => k_is)
    (case lDeal___init__ => k_is)
    (case cDeal___init__ => k_is)
    (case kDeal___init__ => k_is)
    (case a_Cover___init__ => k_is)
    (case iCover___init__ => k_is)
    (case lCover___init__ => k_is)
    (case cCover___init__ => k_is)
    (case kCover___init__ => k_is)
    (case dlCover___init__ => k_is)
    (case ni_Condition => k_is)
    (case z_COVERED_ONE => k_is)
    (case z_LETTERS => k_is)
    (case z_LONGEST_NAME => k_is)
    (case z_MOST_CLAUSES => k_is)
    (case z_MOST_COVERS => k_is)
    (case z_MOST_PLACES => k_is)
    (case z_MOST_TURNS => k_is)
    (case z_ValueError => k_is)
    (case z_bool => k_is)
    (case z_enumerate => k_is)
    (case z_int => k_is)
    (case z_isinstance => k_is)
    (case z_len => k_is)
    (case z_list => k_is)
    (case z_range => k_is)
    (case z_set => k_is)
    (case z_str => k_is)
    (case z_sum => k_is)
    (case q_CoverError => k_is)
    (case q_NoShares => k_is)
    (case q_NoEntry => k_is)
    (case q_NoCover => k_is)
    (case q_NoBook => k_is)
    (case q_Twice => k_is)
    (case q_NotTold => k_is)
    (case r_NoBook => k_exc)
    (case ga_NoBook => k_is)
    (case gt_NoBook => k_is)
    (case cl_NoBook => k_is)
    (case ob_NoBook => k_is)
    (case sb_NoBook => k_is)
    (case ic_NoBook => k_is)
    (case hd_NoBook => k_is)
    (case gs => k_is)
    (case tk => k_is)
    (case v_NoBook => kit_is)
    (case k_NoBook_NotTold => kit_is)
    (case k_NoBook_NoBook => kit_is)
    (case k_NoBook_NoCover => kit_is)
    (case k_NoBook_NoEntry => kit_is)
    (case k_NoBook_Twice => kit_is)
    (case h_NoBook_CoverError => kts_exm)
    (case r_NotTold => k_exc)
    (case ga_NotTold => k_is)
    (case gt_NotTold => k_is)
    (case cl_NotTold => k_is)
    (case ob_NotTold => k_is)
    (case sb_NotTold => k_is)
    (case ic_NotTold => k_is)
    (case hd_NotTold => k_is)
    (case v_NotTold => kit_is)
    (case k_NotTold_NotTold => kit_is)
    (case k_NotTold_NoBook => kit_is)
    (case k_NotTold_NoCover => kit_is)
    (case k_NotTold_NoEntry => kit_is)
    (case k_NotTold_Twice => kit_is)
    (case h_NotTold_CoverError => kts_exm)
    (case r_NoCover => k_exc)
    (case ga_NoCover => k_is)
    (case gt_NoCover => k_is)
    (case cl_NoCover => k_is)
    (case ob_NoCover => k_is)
    (case sb_NoCover => k_is)
    (case ic_NoCover => k_is)
    (case hd_NoCover => k_is)
    (case v_NoCover => kit_is)
    (case k_NoCover_NotTold => kit_is)
    (case k_NoCover_NoBook => kit_is)
    (case k_NoCover_NoCover => kit_is)
    (case k_NoCover_NoEntry => kit_is)
    (case k_NoCover_Twice => kit_is)
    (case h_NoCover_CoverError => kts_exm)
    (case r_NoShares => k_exc)
    (case ga_NoShares => k_is)
    (case gt_NoShares => k_is)
    (case cl_NoShares => k_is)
    (case ob_NoShares => k_is)
    (case sb_NoShares => k_is)
    (case ic_NoShares => k_is)
    (case hd_NoShares => k_is)
    (case v_NoShares => kit_is)
    (case k_NoShares_NotTold => kit_is)
    (case k_NoShares_NoBook => kit_is)
    (case k_NoShares_NoCover => kit_is)
    (case k_NoShares_NoEntry => kit_is)
    (case k_NoShares_Twice => kit_is)
    (case h_NoShares_CoverError => kts_exm)
