import PyProof.Rows.All
import Wide.All
import OpenK.AllK
import Wide.FinOn
import Lean
import PyProof.EqAt
import PyProof.EqKinds
import PyProof.TupleCall
import PySem.Challenge.RW_coverroll_k28_bounds_of_words
set_option Elab.async false
set_option linter.all false
set_option maxRecDepth 100000
set_option maxHeartbeats 4000000
/-! THE HAND LAYER, for ints, bools, texts, own classes, LISTS and tuples (index, slices, in, append, pop ..), calls, loops. Paste it whole ahead of your own text; what your proof does not reach may be deleted. -/
namespace L2
open PySem PySem.Spec PyProof.Rows

/-- a key: an int or a str -/
abbrev Key := Sum Int Str
def keyIs : Key → Value → Bool
  | .inl k, v => Value.isInt k v
  | .inr x, v => Value.isStrOf x v
def keyH (w : World) : Key → Int
  | .inl k => hashInt k
  | .inr x => hashStr w x
theorem keyIs_shape : ∀ {k : Key} {v : Value}, keyIs k v = true → (∃ i t, k = Sum.inl i ∧ v = Value.int i t) ∨ (∃ x t, k = Sum.inr x ∧ v = Value.str x t)
  | .inl i, v, h => by
    obtain ⟨t, e⟩ := Value.isInt_shape (k := i) (v := v) h
    exact .inl ⟨i, t, rfl, e⟩
  | .inr x, v, h => by
    obtain ⟨t, e⟩ := Value.isStrOf_shape (x := x) (v := v) h
    exact .inr ⟨x, t, rfl, e⟩
theorem key_ll (a b : Int) : decide ((Sum.inl a : Key) = Sum.inl b) = (a == b) := by
  by_cases e : a = b
  · subst e; simp
  · have h : ¬ (Sum.inl a : Key) = Sum.inl b := fun q => e (Sum.inl.inj q)
    rw [decide_eq_false h]
    exact (beq_eq_false_iff_ne.mpr e).symm
theorem key_rr (a b : Str) : decide ((Sum.inr a : Key) = Sum.inr b) = decide (a = b) := by
  by_cases e : a = b
  · subst e; simp
  · have h : ¬ (Sum.inr a : Key) = Sum.inr b := fun q => e (Sum.inr.inj q)
    rw [decide_eq_false h, decide_eq_false e]
theorem key_lr (a : Int) (b : Str) : decide ((Sum.inl a : Key) = Sum.inr b) = false := decide_eq_false (fun q => nomatch q)
theorem key_rl (a : Str) (b : Int) : decide ((Sum.inr a : Key) = Sum.inl b) = false := decide_eq_false (fun q => nomatch q)

def mixKind (prog : Program) (w : World) : PySem.KeyKind prog w Key where
  is := keyIs
  hash := keyH w
  inj := fun v a b ha hb => by
    rcases keyIs_shape ha with ⟨i, t, rfl, rfl⟩ | ⟨x, t, rfl, rfl⟩
    · rcases keyIs_shape hb with ⟨j, u, rfl, e⟩ | ⟨y, u, rfl, e⟩
      · injection e with e1 _; rw [e1]
      · exact nomatch e
    · rcases keyIs_shape hb with ⟨j, u, rfl, e⟩ | ⟨y, u, rfl, e⟩
      · exact nomatch e
      · injection e with e1 _; rw [e1]
  byValue := fun k v h => by
    rcases keyIs_shape h with ⟨i, t, rfl, rfl⟩ | ⟨x, t, rfl, rfl⟩ <;> rfl
  pyHash := fun hv h => by
    rcases keyIs_shape hv with ⟨i, t, rfl, rfl⟩ | ⟨x, t, rfl, rfl⟩
    · exact wpAny_pyHash_int h
    · exact wpAny_pyHash_str h
  eqBool := fun hu hv h => by
    rcases keyIs_shape hu with ⟨i, t, rfl, rfl⟩ | ⟨x, t, rfl, rfl⟩
    · rcases keyIs_shape hv with ⟨j, u, rfl, rfl⟩ | ⟨y, u, rfl, rfl⟩
      · rw [key_ll] at h; exact wpAny_eqBool_int h
      · rw [key_lr] at h; exact SeqAt.EqAt.int_str i t y u _ _ _ _ h
    · rcases keyIs_shape hv with ⟨j, u, rfl, rfl⟩ | ⟨y, u, rfl, rfl⟩
      · rw [key_rl] at h; exact SeqAt.EqAt.str_int x t j u _ _ _ _ h
      · rw [key_rr] at h; exact wpAny_eqBool_str h
  «strs» := fun k x t v h => by
    rcases keyIs_shape h with ⟨i, u, rfl, e⟩ | ⟨y, u, rfl, e⟩
    · exact nomatch e
    · injection e with e1 _
      subst e1
      cases v <;> rfl

end L2

namespace L2
open PySem PySem.Spec PyProof.Rows

/-- a value, without the heap -/
inductive V where
  | non | bl (b : Bool) | int (i : Int) | str (x : Str) | byt (b : Array UInt8) | flt (b : UInt64) | ref (a : Addr) | ty (n : String)
  deriving DecidableEq

def RelV : V → Value → Prop
  | .non, u => u = Value.none
  | .bl b, u => u = Value.bool b
  | .int i, u => ∃ t, u = Value.int i t
  | .str x, u => ∃ t, u = Value.str x t
  | .byt b, u => ∃ t, u = Value.bytes b t
  | .flt b, u => ∃ t, u = Value.float b t
  | .ref a, u => u = Value.ref a
  | .ty n, u => u = Value.type n

abbrev Vals : List V → List Value → Prop := Paired RelV
theorem Vals.length {xs : List V} {us : List Value} (r : Vals xs us) : xs.length = us.length := Paired.length r
theorem Vals.get : ∀ {xs : List V} {us : List Value} {i : Nat} {x : V}, Vals xs us → xs[i]? = some x → ∃ u, us[i]? = some u ∧ RelV x u
  | _, _, _, _, .nil, e => by simp at e
  | _, _, 0, _, .cons r _, e => by simp at e; subst e; exact ⟨_, rfl, r⟩
  | _, _, i + 1, x, .cons _ t, e => by
    obtain ⟨u, h1, h2⟩ := Vals.get (i := i) (x := x) t (by simpa using e)
    exact ⟨u, by simpa using h1, h2⟩
theorem Vals.set {x : V} {u : Value} (r : RelV x u) : ∀ {xs : List V} {us : List Value} (i : Nat), Vals xs us → Vals (xs.set i x) (us.set i u)
  | _, _, _, .nil => .nil
  | _, _, 0, .cons _ t => .cons r t
  | _, _, i + 1, .cons q t => .cons q (Vals.set r i t)
theorem Vals.append : ∀ {xs ys : List V} {us ws : List Value}, Vals xs us → Vals ys ws → Vals (xs ++ ys) (us ++ ws)
  | _, _, _, _, .nil, s => s
  | _, _, _, _, .cons r t, s => .cons r (Vals.append t s)
theorem Vals.take : ∀ {xs : List V} {us : List Value} (n : Nat), Vals xs us → Vals (xs.take n) (us.take n)
  | _, _, 0, _ => .nil
  | _, _, _ + 1, .nil => .nil
  | _, _, n + 1, .cons r t => .cons r (Vals.take n t)
theorem Vals.drop : ∀ {xs : List V} {us : List Value} (n : Nat), Vals xs us → Vals (xs.drop n) (us.drop n)
  | _, _, 0, r => r
  | _, _, _ + 1, .nil => .nil
  | _, _, n + 1, .cons _ t => Vals.drop n t

def RelO : Option V → Option Value → Prop
  | some v, some u => RelV v u
  | none, none => True
  | _, _ => False
def KV {κ : Type} : List (κ × V) → List (κ × Value) → Prop := Paired fun (p : κ × V) (q : κ × Value) => p.1 = q.1 ∧ RelV p.2 q.2

/-- a key of a dict (00_mix): an int or a text -/
def kV : Key → V
  | .inl i => .int i
  | .inr x => .str x

/-- what stands at a tracked address -/
inductive HO where
  /-- a list -/
  | lst (xs : List V)
  /-- a tuple (never changes) -/
  | tup (xs : List V)
  /-- a dict whose keys are ints and texts; one whose keys are tuples of ints and texts (the empty one is both) -/
  | dK (kvs : List (Key × V)) | dT (kvs : List (List Key × V))
  /-- a set of ints: its members, its size -/
  | set (S : Int → Bool) (n : Nat)
  /-- an instance of the class at C, its dict at dx, its attributes -/
  | ins (C dx : Addr) (fs : List (Str × V))
  /-- the dict of the instance at x -/
  | own (x : Addr)
  /-- the dict of an exception -/
  | xd (fs : List (Str × V))
  /-- a bound method, f of x -/
  | met (f x : Addr)
  /-- a range object lo, lo + 1, .. below hi -/
  | rng (lo hi : Int)
  /-- a thing that is known to the object (the script; a dict while a loop walks it): read, never written while it is so -/
  | frz (o : Obj) (u : HO)
  /-- a code object's table -/
  | tbl (ps : Array Value)
  /-- any other thing, by what is true of its one object (a def of one's own: SetO a S n := HO.ext fun h => ..) -/
  | ext (φ : Heap → Prop)

abbrev Hp := Addr → Option HO
def upd (H : Hp) (a : Addr) (o : HO) : Hp := fun b => if b = a then some o else H b
theorem upd_same {H : Hp} {a : Addr} {o : HO} : upd H a o a = some o := by unfold upd; rw [if_pos rfl]
theorem upd_ne {H : Hp} {a b : Addr} {o : HO} (h : b ≠ a) : upd H a o b = H b := by unfold upd; rw [if_neg h]
/-- two objects of different content stand apart -/
theorem ne_of {H : Hp} {a b : Addr} {o u : HO} (h : H a = some o) (h' : H b = some u) (d : o ≠ u) : a ≠ b := by
  intro e; subst e; rw [h] at h'; exact d (Option.some.inj h')
theorem ne_of_none {H : Hp} {a b : Addr} {o : HO} (h : H a = some o) (h' : H b = none) : a ≠ b := by
  intro e; subst e; rw [h] at h'; cases h'

section
variable (P : Program) (w : World)
def ObjOk (H : Hp) (h : Heap) (a : Addr) : HO → Prop
  | .lst xs => xs.length ≤ sizeLine ∧ ∃ (its : List Value) (n : Nat), Vals xs its ∧ h.get? a = some { cls := .type "list", data := .seq its.toArray n }
  | .tup xs => xs.length ≤ sizeLine ∧ ∃ its : List Value, Vals xs its ∧ IsTup h a its.toArray
  | .dK kvs => kvs.length ≤ sizeLine ∧ (a == sysModules) = false ∧ ∃ vs, KV kvs vs ∧ h.DictOf (mixKind P w) a vs
  | .dT kvs => kvs.length ≤ sizeLine ∧ (a == sysModules) = false ∧ ∃ xs : List (List Key × Addr × Value),
      Paired (fun (p : List Key × V) (q : List Key × Addr × Value) => p.1 = q.1 ∧ H q.2.1 = some (.tup (p.1.map kV)) ∧ RelV p.2 q.2.2) kvs xs ∧
      ∃ o es ep, h.get? a = some o ∧ o.ExactDict ∧ o.data = .dict es ep ∧ es.toList = xs.map (entryOfKey (tupleKind (mixKind P w))) ∧ (xs.map (·.1)).Nodup
  | .set S n => h.SetOf (intKind P w) a S n
  | .ins C dx fs => H dx = some (.own a) ∧ fs.length ≤ 1000 ∧ dx ≠ a ∧ h.get? a = some (PySem.W.instObj C dx) ∧
      ∃ mA, h.Ns1 dx mA ∧ (∀ f, RelO (fs.lookup f) (mA f)) ∧ PySem.Within mA (fs.map (·.1))
  | .own _ => ∃ o, h.get? a = some o
  | .xd fs => ∃ mA, h.Ns1 a mA ∧ ∀ f, RelO (fs.lookup f) (mA f)
  | .rng lo hi => ∃ t u v, h.get? a = some { cls := .type "range", data := .fields #[.int lo t, .int hi u, .int 1 v] }
  | .frz o u => h.get? a = some o ∧ ObjOk H h a u
  | .tbl ps => h.get? a = some { cls := .none, data := .fields ps }
  | .met f x => h.get? a = some (PySem.W.methodObj (.ref f) (.ref x))
  | .ext φ => φ h ∧ (∃ o, h.get? a = some o) ∧ ∀ h1 h2 : Heap, φ h1 → (∀ o, h1.get? a = some o → h2.get? a = some o) → φ h2
/-- the abstract heap is held -/
def HOk (H : Hp) (h : Heap) : Prop := ∀ a o, H a = some o → ObjOk P w H h a o
end

section
variable {P : Program} {w : World} {H H' : Hp} {h h' : Heap} {a : Addr} {o : HO}
theorem ObjOk.lt (x : ObjOk P w H h a o) : a < h.objs.size := by
  cases o with
  | lst xs => obtain ⟨_, _, _, _, e⟩ := x; exact Heap.lt_size e
  | tup xs => obtain ⟨_, _, _, p⟩ := x; exact p.lt
  | dK kvs => obtain ⟨_, _, _, _, o, _, _, e, _⟩ := x; exact Heap.lt_size e
  | dT kvs => obtain ⟨_, _, _, _, o, _, _, e, _⟩ := x; exact Heap.lt_size e
  | set S n => obtain ⟨o, _, _, _, e, _⟩ := x; exact Heap.lt_size e
  | ins C dx fs => obtain ⟨_, _, _, e, _⟩ := x; exact Heap.lt_size e
  | own y => obtain ⟨_, e⟩ := x; exact Heap.lt_size e
  | xd fs => obtain ⟨_, ⟨_, _, _, e, _⟩, _⟩ := x; exact Heap.lt_size e
  | rng lo hi => obtain ⟨_, _, _, e⟩ := x; exact Heap.lt_size e
  | frz ob u => obtain ⟨e, _⟩ := x; exact Heap.lt_size e
  | tbl ps => exact Heap.lt_size (show h.get? a = some _ from x)
  | met f y => exact Heap.lt_size (show h.get? a = some _ from x)
  | ext φ => obtain ⟨_, ⟨_, e⟩, _⟩ := x; exact Heap.lt_size e
theorem Paired.mapP {α β : Type} {F G : α → β → Prop} : ∀ {l₁ : List α} {l₂ : List β}, Paired F l₁ l₂ → (∀ a b, F a b → G a b) → Paired G l₁ l₂
  | _, _, .nil, _ => .nil
  | _, _, .cons r t, f => .cons (f _ _ r) (Paired.mapP t f)
/-- what an object's description leans on: its own object, its own dict, the tuples -/
theorem ObjOk.stay (x : ObjOk P w H h a o) (k : ∀ b u, (b = a ∨ H b = some (.own a)) → h.get? b = some u → h'.get? b = some u)
    (ho : ∀ b, H b = some (.own a) → H' b = some (.own a)) (ht : ∀ b xs, H b = some (.tup xs) → H' b = some (.tup xs)) : ObjOk P w H' h' a o := by
  induction o with
  | lst xs => obtain ⟨z, its, n, r, e⟩ := x; exact ⟨z, its, n, r, k _ _ (.inl rfl) e⟩
  | tup xs => obtain ⟨z, its, r, ob, e, c⟩ := x; exact ⟨z, its, r, ob, k _ _ (.inl rfl) e, c⟩
  | dK kvs => obtain ⟨z, y, vs, r, ob, es, ep, e, c⟩ := x; exact ⟨z, y, vs, r, ob, es, ep, k _ _ (.inl rfl) e, c⟩
  | dT kvs =>
    obtain ⟨z, y, xs, r, ob, es, ep, e, c⟩ := x
    exact ⟨z, y, xs, Paired.mapP r fun p q z => ⟨z.1, ht _ _ z.2.1, z.2.2⟩, ob, es, ep, k _ _ (.inl rfl) e, c⟩
  | set S n => obtain ⟨ob, es, ep, t, e, c⟩ := x; exact ⟨ob, es, ep, t, k _ _ (.inl rfl) e, c⟩
  | ins C dx fs =>
    obtain ⟨d, z, ne, e, mA, ⟨od, es, ep, e2, c⟩, r⟩ := x
    exact ⟨ho _ d, z, ne, k _ _ (.inl rfl) e, mA, ⟨od, es, ep, k _ _ (.inr d) e2, c⟩, r⟩
  | own y => obtain ⟨ob, e⟩ := x; exact ⟨ob, k _ _ (.inl rfl) e⟩
  | xd fs => obtain ⟨mA, ⟨od, es, ep, e, c⟩, r⟩ := x; exact ⟨mA, ⟨od, es, ep, k _ _ (.inl rfl) e, c⟩, r⟩
  | rng lo hi => obtain ⟨t, u, v, e⟩ := x; exact ⟨t, u, v, k _ _ (.inl rfl) e⟩
  | frz ob u ih => obtain ⟨e, q⟩ := x; exact ⟨k _ _ (.inl rfl) e, ih q⟩
  | tbl ps =>
    have e : h.get? a = some { cls := .none, data := .fields ps } := x
    show h'.get? a = some { cls := .none, data := .fields ps }
    exact k a _ (.inl rfl) e
  | met f y =>
    have e : h.get? a = some (PySem.W.methodObj (.ref f) (.ref y)) := x
    show h'.get? a = some (PySem.W.methodObj (.ref f) (.ref y))
    exact k a _ (.inl rfl) e
  | ext φ => obtain ⟨p, ⟨o, e⟩, st⟩ := x; exact ⟨st _ _ p fun o q => k _ _ (.inl rfl) q, ⟨o, k _ _ (.inl rfl) e⟩, st⟩
theorem HOk.lt (x : HOk P w H h) (e : H a = some o) : a < h.objs.size := (x a o e).lt
theorem HOk.fresh (x : HOk P w H h) (e : h.objs.size ≤ a) : H a = none := by
  cases q : H a with
  | none => rfl
  | some u => exact absurd (Nat.lt_of_lt_of_le (x.lt q) e) (Nat.lt_irrefl _)
/-- every object of the heap is kept -/
theorem HOk.kept (x : HOk P w H h) (k : ∀ b u, h.get? b = some u → h'.get? b = some u) : HOk P w H h' := fun a o e =>
  (x a o e).stay (fun b u _ q => k b u q) (fun _ q => q) fun _ _ q => q
/-- a new object is laid and tracked -/
theorem HOk.laid (x : HOk P w H h) (k : ∀ b u, h.get? b = some u → h'.get? b = some u) (hp : h.objs.size ≤ a) (new : ObjOk P w (upd H a o) h' a o) : HOk P w (upd H a o) h' := fun b u e => by
  have hn := x.fresh hp
  by_cases hb : b = a
  · subst hb; rw [upd_same] at e; cases e; exact new
  · rw [upd_ne hb] at e
    exact (x b u e).stay (fun c v _ q => k c v q) (fun c q => by rw [upd_ne (ne_of_none q hn)]; exact q) fun c xs q => by rw [upd_ne (ne_of_none q hn)]; exact q
end

/-- what may be read as u: it is u, or a known u -/
def Rd (H : Hp) (a : Addr) (u : HO) : Prop := H a = some u ∨ ∃ o, H a = some (.frz o u)
theorem Rd.ok {P : Program} {w : World} {H : Hp} {h : Heap} {a : Addr} {u : HO} (r : Rd H a u) (x : HOk P w H h) : ObjOk P w H h a u := by
  rcases r with r | ⟨o, r⟩
  · exact x a u r
  · obtain ⟨_, q⟩ := x a _ r
    exact q
/-- what may be written -/
def Mut : Option HO → Prop
  | some (.lst _) => True
  | some (.dK _) => True
  | some (.dT _) => True
  | some (.set _ _) => True
  | some (.ins _ _ _) => True
  | some (.ext _) => True
  | _ => False
section
variable {P : Program} {w : World} {H : Hp} {h h' : Heap} {x e : Addr} {o' : HO}
/-- the object at e is changed: x itself, or the dict of the instance x -/
theorem HOk.write (ok : HOk P w H h) (mu : Mut (H x)) (he : e = x ∨ H e = some (.own x)) (k : ∀ b u, b ≠ e → h.get? b = some u → h'.get? b = some u) (heo : ∃ u, h'.get? e = some u)
    (new : ObjOk P w (upd H x o') h' x o') : HOk P w (upd H x o') h' := fun b u q => by
  have nown : ∀ c y, H c = some (.own y) → c ≠ x := fun c y r z => by subst z; rw [r] at mu; exact mu
  have ntup : ∀ c xs, H c = some (.tup xs) → c ≠ x := fun c xs r z => by subst z; rw [r] at mu; exact mu
  by_cases hb : b = x
  · subst hb; rw [upd_same] at q; cases q; exact new
  · rw [upd_ne hb] at q
    by_cases hbe : b = e
    · have q' : H b = some (.own x) := by
        rcases he with z | z
        · exact absurd (hbe.trans z) hb
        · rw [hbe]; exact z
      rw [q] at q'; cases q'
      obtain ⟨v, hv⟩ := heo
      exact ⟨v, by rw [hbe]; exact hv⟩
    · refine (ok b u q).stay (fun c v hc r => k c v ?_ r) (fun c r => by rw [upd_ne (nown c b r)]; exact r) fun c xs r => by rw [upd_ne (ntup c xs r)]; exact r
      rcases hc with rfl | hc
      · exact hbe
      · rintro rfl
        rcases he with z | z
        · exact nown c b hc z
        · rw [hc] at z; cases z; exact hb rfl
end

/-! ### kept unless tracked; of the frames at fs (the callers') the slots may change (an exception that passes writes there); of the records at ex (iterators) nothing is said -/
structure Un (fs ex : List Addr) (H H' : Hp) (h h' : Heap) : Prop where
  keep : ∀ b o, h.get? b = some o → H b = none → b ∉ fs → b ∉ ex → h'.get? b = some o
  slot : ∀ b o, h.get? b = some o → H b = none → b ∈ fs → b ∉ ex → ∃ sl, h'.get? b = some { o with slots := sl }
  free : ∀ b o, h.get? b = some o → H b = none → b ∉ ex → H' b = none
  there : ∀ b o, h.get? b = some o → b ∉ ex → ∃ o', h'.get? b = some o'
  tups : ∀ b xs, H b = some (.tup xs) → H' b = some (.tup xs)
  frzs : ∀ b o u, H b = some (.frz o u) → H' b = some (.frz o u)
  tbls : ∀ b ps, H b = some (.tbl ps) → ∃ more, H' b = some (.tbl (ps ++ more))
section
variable {fs fs' ex ex' : List Addr} {H H1 H2 : Hp} {h h1 h2 h' : Heap} {a x e : Addr} {o : HO}
theorem Un.any (u : Un fs ex H H1 h h1) {b : Addr} {ob : Obj} (q : h.get? b = some ob) (n : H b = none) (hx : b ∉ ex) : ∃ sl, h1.get? b = some { ob with slots := sl } := by
  by_cases hb : b ∈ fs
  · exact u.slot b ob q n hb hx
  · exact ⟨ob.slots, u.keep b ob q n hb hx⟩
theorem Un.kept (k : ∀ b u, h.get? b = some u → h'.get? b = some u) : Un fs ex H H h h' :=
  ⟨fun b ob q _ _ _ => k b ob q, fun b ob q _ _ _ => ⟨ob.slots, k b ob q⟩, fun _ _ _ n _ => n, fun b ob q _ => ⟨ob, k b ob q⟩, fun _ _ q => q, fun _ _ _ q => q, fun _ ps q => ⟨#[], by rw [q]; simp⟩⟩
theorem Un.refl : Un fs ex H H h h := Un.kept fun _ _ q => q
theorem Un.laid (k : ∀ b u, h.get? b = some u → h'.get? b = some u) (hp : h.objs.size ≤ a) (hn : H a = none) : Un fs ex H (upd H a o) h h' where
  keep := fun b u q _ _ _ => k b u q
  slot := fun b u q _ _ _ => ⟨u.slots, k b u q⟩
  free := fun b u q n _ => by rw [upd_ne (Nat.ne_of_lt (Nat.lt_of_lt_of_le (Heap.lt_size q) hp))]; exact n
  there := fun b u q _ => ⟨u, k b u q⟩
  tups := fun b xs q => by rw [upd_ne (ne_of_none q hn)]; exact q
  frzs := fun b u xs q => by rw [upd_ne (ne_of_none q hn)]; exact q
  tbls := fun b ps q => ⟨#[], by rw [upd_ne (ne_of_none q hn), q]; simp⟩
theorem Un.write (mu : Mut (H x)) (he : e = x ∨ H e = some (.own x)) (k : ∀ b u, b ≠ e → h.get? b = some u → h'.get? b = some u) (heo : ∃ u, h'.get? e = some u) : Un fs ex H (upd H x o) h h' := by
  have hx : ∀ b, H b = none → b ≠ x := fun b n z => by subst z; rw [n] at mu; exact mu
  have hb : ∀ b, H b = none → b ≠ e := fun b n z => by
    subst z
    rcases he with r | r
    · exact hx b n r
    · rw [n] at r; cases r
  have hm : ∀ b u, H b = some u → ¬ Mut (some u) → b ≠ x := fun b u q nm z => by subst z; rw [q] at mu; exact nm mu
  refine ⟨fun b u q n _ _ => k b u (hb b n) q, fun b u q n _ _ => ⟨u.slots, k b u (hb b n) q⟩, fun b u q n _ => by rw [upd_ne (hx b n)]; exact n, fun b u q _ => ?_,
    fun b xs q => by rw [upd_ne (hm b _ q fun z => z)]; exact q, fun b u xs q => by rw [upd_ne (hm b _ q fun z => z)]; exact q, fun b ps q => ⟨#[], by rw [upd_ne (hm b _ q fun z => z), q]; simp⟩⟩
  by_cases hbe : b = e
  · subst hbe; exact heo
  · exact ⟨u, k b u hbe q⟩
end

/-! ### the heap without what is tracked -/
def trk (h : Heap) (H : Hp) : List Addr := (List.range h.objs.size).filter fun a => (H a).isSome
def hidT (h : Heap) (H : Hp) : Heap := PySem.W.hideAll h (trk h H)
theorem hidT_size (h : Heap) (H : Hp) : (hidT h H).objs.size = h.objs.size := PySem.W.hideAll_size _ _
theorem hidT_get {h : Heap} {H : Hp} {b : Addr} {o : Obj} (e : h.get? b = some o) (n : H b = none) : (hidT h H).get? b = some o :=
  PySem.W.hideAll_get _ e fun hm => by
    have q : (H b).isSome = true := (List.mem_filter.mp hm).2
    rw [n] at q; simp at q
theorem of_hidT {h : Heap} {H : Hp} {b : Addr} {o : Obj} (e : (hidT h H).get? b = some o) : h.get? b = some o ∧ H b = none := by
  have e' : h.get? b = some o := PySem.W.of_hideAll (trk h H) e
  refine ⟨e', ?_⟩
  cases q : H b with
  | none => rfl
  | some x =>
    have hm : b ∈ trk h H := List.mem_filter.mpr ⟨List.mem_range.mpr (Heap.lt_size e'), by simp [q]⟩
    have z : (hidT h H).get? b = none := PySem.W.hideAll_none (trk h H) hm
    rw [z] at e; cases e

/-! ### OpenK's ledger, filled with every new object but one -/
end L2

namespace L2
open PySem PySem.Spec PyProof.Rows

/-- the module's facts, over the base: the heap at the law's entry without what is tracked there -/
structure Mod (K : PySem.W.Frag) (mg : Str → Option Value) (base : Heap) : Prop where
  kin : K.In base
  glob : base.Ns mainGlobals mg
  blt : ∃ mb, base.Ns builtinsNs mb ∧ ∀ x : Str, x ≠ "__name__" → mb x = bootBuiltins x
  nolimit : base.NoLimit

/-- the context: a def's body (or a comprehension's block) running. base: fixed through the whole law; s₀, H₀: the entry; outer: the frames whose slots others may change (a def's callers); stack: all frames that run;
   ex: iterators that were made ahead of the entry and are walked here (a comprehension's); fn: the names whose cells were made at the entry (a def: all; a comprehension's block: its own); calm: not within an except suite; pn: pins that every state bears; xe: what is wanted of an exception that leaves the code -/
structure Cx where
  prog : Program
  w : World
  K : PySem.W.Frag
  mg : Str → Option Value
  base : Heap
  A : Around
  N : List Str
  s₀ : Shared
  H₀ : Hp
  env : Env
  outer : List Env
  stack : List Env
  ex : List Addr
  fn : Str → Bool
  calm : Bool
  pn : List (Addr × Obj)
  xe : Value → Shared → Prop
/-- the callers' frames -/
def frs (l : List Env) : List Addr := l.filterMap (·.frame)
abbrev Cx.fs (X : Cx) : List Addr := frs X.outer

def Vis (sc : Scope) (x : Str) : Prop := sc.names.lookup x = some .local ∨ sc.names.lookup x = some .cell ∨ sc.names.lookup x = some .free
def Loc (sc : Scope) (x : Str) : Prop := sc.names.lookup x = some .local ∨ sc.names.lookup x = some .cell
def Look (env : Env) (h : Heap) (m : Str → Option Value) (x : Str) (u : Value) : Prop :=
  (env.kindOf x = some .local ∧ m x = some u) ∨ ((env.kindOf x = some .cell ∨ env.kindOf x = some .free) ∧ ∃ c, env.cells.lookup x = some c ∧ h.IsCell c (some u))

structure Cx.Ok (X : Cx) : Prop where
  mod : Mod X.K X.mg X.base
  kind : X.env.scope.kind = .function
  glob : X.env.globals = mainGlobals
  blt : X.env.builtins = builtinsNs
  above : X.s₀.heap.objs.size ≤ X.env.locals
  inj : ∀ x y c, X.env.cells.lookup x = some c → X.env.cells.lookup y = some c → x = y
  has : ∀ x, (X.env.kindOf x = some .cell ∨ X.env.kindOf x = some .free) → ∃ c, X.env.cells.lookup x = some c
  cab : ∀ x c, X.fn x = true → X.env.cells.lookup x = some c → X.s₀.heap.objs.size ≤ c
  hd : X.calm = true → X.A.handled = none
  frames : X.A.frames = some X.stack
  stk : X.stack = X.outer ∨ (X.stack = X.env :: X.outer ∧ X.env.frame = some X.env.locals)
  exf : ∀ b ∈ X.ex, b ≠ X.env.locals ∧ ∀ x c, X.env.cells.lookup x = some c → c ≠ b
  bs : ∀ b o, X.base.get? b = some o → X.s₀.heap.get? b = some o ∧ X.H₀ b = none
  bsz : X.base.objs.size ≤ X.s₀.heap.objs.size
  noex : ∀ b o, X.base.get? b = some o → b ∉ X.ex
  exfs : ∀ b ∈ X.ex, b ∉ X.fs
  funs : X.s₀.heap.FunFrames X.base X.outer
  frf : ∀ b ∈ X.fs, X.H₀ b = none

structure Inv (X : Cx) (pins : List (Addr × Obj)) (σ : List (Option V)) (H : Hp) (s : Shared) : Prop where
  ok : X.Ok
  os : s.os = X.s₀.os
  bare : AllBare s.gens
  base : Un X.fs X.ex X.H₀ H X.s₀.heap s.heap
  loc : ∃ m, s.heap.Ns X.env.locals m ∧ ∀ (i : Nat) (x : Str) (v : V), X.N[i]? = some x → σ[i]? = some (some v) → Vis X.env.scope x → ∃ u, RelV v u ∧ Look X.env s.heap m x u
  cell : ∀ x c, X.env.cells.lookup x = some c → ∃ v, s.heap.IsCell c v
  free : H X.env.locals = none
  freeC : ∀ x c, X.env.cells.lookup x = some c → H c = none
  pin : ∀ p ∈ X.pn ++ pins, s.heap.get? p.1 = some p.2 ∧ H p.1 = none ∧ p.1 ≠ X.env.locals ∧ p.1 ∉ X.fs ∧ ∀ v, p.2.data ≠ .cell v
  hok : HOk X.prog X.w H s.heap
  len : σ.length = X.N.length

section
variable {X : Cx} {pins : List (Addr × Obj)} {σ : List (Option V)} {H H' : Hp} {s : Shared} {h' : Heap}

theorem Cx.Ok.nofr (ok : X.Ok) {b : Addr} {o : Obj} (e : X.base.get? b = some o) : b ∉ X.fs := fun hb => by
  have := (ok.funs.mem hb).1
  rw [e] at this; cases this
theorem Inv.bs (I : Inv X pins σ H s) : ∀ b o, X.base.get? b = some o → s.heap.get? b = some o ∧ H b = none := fun b o e =>
  ⟨I.base.keep b o (I.ok.bs b o e).1 (I.ok.bs b o e).2 (I.ok.nofr e) (I.ok.noex b o e), I.base.free b o (I.ok.bs b o e).1 (I.ok.bs b o e).2 (I.ok.noex b o e)⟩
theorem Inv.bk (I : Inv X pins σ H s) : ∀ b o, X.base.get? b = some o → s.heap.get? b = some o := fun b o e => (I.bs b o e).1
theorem Inv.mod (I : Inv X pins σ H s) : Mod X.K X.mg X.base := I.ok.mod
theorem Inv.kIn (I : Inv X pins σ H s) : X.K.In s.heap := I.ok.mod.kin.keeps I.bk
theorem Inv.lt (I : Inv X pins σ H s) : X.env.locals < s.heap.objs.size := let ⟨_, hn, _⟩ := I.loc; hn.lt
theorem Inv.sz (I : Inv X pins σ H s) : X.s₀.heap.objs.size ≤ s.heap.objs.size := Nat.le_trans I.ok.above (Nat.le_of_lt I.lt)
theorem Inv.nofs (I : Inv X pins σ H s) {a : Addr} (h : s.heap.objs.size ≤ a) : a ∉ X.fs := fun hb => by
  obtain ⟨_, o, ho, _⟩ := I.ok.funs.mem hb
  exact absurd (Nat.lt_of_lt_of_le (Heap.lt_size ho) (Nat.le_trans I.sz h)) (Nat.lt_irrefl _)
theorem Inv.cne (I : Inv X pins σ H s) : ∀ x c, X.env.cells.lookup x = some c → c ≠ X.env.locals := fun x c e z => by
  obtain ⟨v, o, ho, hd⟩ := I.cell x c e
  obtain ⟨m, ⟨o', es, ep, ho', hd', _⟩, _⟩ := I.loc
  rw [z, ho'] at ho; cases ho; rw [hd'] at hd; cases hd
theorem Inv.funs (I : Inv X pins σ H s) : s.heap.FunFrames X.base X.outer := by
  have all : ∀ (l : List Env), (∀ b ∈ frs l, b ∈ X.fs) → X.s₀.heap.FunFrames X.base l → s.heap.FunFrames X.base l := by
    intro l
    induction l with
    | nil => intro _ _; trivial
    | cons env r ih =>
      intro hs hl
      obtain ⟨hk, ⟨L, o, hf, hn, ho, hd⟩, hr⟩ := hl
      have hL : L ∈ X.fs := hs L (by unfold frs; rw [List.filterMap_cons, hf]; exact List.mem_cons_self)
      obtain ⟨sl, e⟩ := I.base.slot L o ho (I.ok.frf L hL) hL fun z => I.ok.exfs L z hL
      exact ⟨hk, ⟨L, _, hf, hn, e, hd⟩, ih (fun b hb => hs b (by unfold frs; rw [List.filterMap_cons, hf]; exact List.mem_cons_of_mem _ hb)) hr⟩
  exact all X.outer (fun _ hb => hb) I.ok.funs

/-- the frames that run, for a call -/
theorem Inv.stack (I : Inv X pins σ H s) : s.heap.FunFrames X.base X.stack := by
  rcases I.ok.stk with e | ⟨e, hf⟩
  · rw [e]; exact I.funs
  · rw [e]
    obtain ⟨m, hn, _⟩ := I.loc
    refine .cons (by rw [I.ok.kind]; decide) hf hn ?_ I.funs
    exact Heap.get?_none_of_le (Nat.le_trans I.ok.bsz I.ok.above)
theorem Inv.stkSub (I : Inv X pins σ H s) : ∀ b ∈ frs X.stack, b ∈ X.env.locals :: X.fs := fun b hb => by
  rcases I.ok.stk with e | ⟨e, hf⟩
  · rw [e] at hb; exact List.mem_cons_of_mem _ hb
  · rw [e] at hb
    unfold frs at hb
    rw [List.filterMap_cons, hf] at hb
    exact hb
theorem Inv.stkFree (I : Inv X pins σ H s) : ∀ b ∈ frs X.stack, H b = none := fun b hb => by
  rcases List.mem_cons.mp (I.stkSub b hb) with e | hb
  · rw [e]; exact I.free
  · obtain ⟨_, o, ho, _⟩ := I.ok.funs.mem hb
    exact I.base.free b o ho (I.ok.frf b hb) fun z => I.ok.exfs b z hb

/-- THE STEP: the untracked objects but the frame and the records at ch are kept (the callers' frames up to slots), the frame's map is kept, the new abstract heap is held -/
theorem Inv.step {g' : Array GenState} {t' : Nat} {d' : Drawn} {ch : List Addr} (I : Inv X pins σ H s)
    (hch : ∀ b ∈ ch, (b ∈ X.ex ∨ X.s₀.heap.objs.size ≤ b) ∧ b ≠ X.env.locals ∧ (∀ x c, X.env.cells.lookup x = some c → c ≠ b) ∧ ∀ p ∈ X.pn ++ pins, p.1 ≠ b)
    (keep : ∀ b o, b ≠ X.env.locals → b ∉ X.fs → b ∉ ch → s.heap.get? b = some o → H b = none → h'.get? b = some o)
    (slot : ∀ b o, b ≠ X.env.locals → b ∈ X.fs → b ∉ ch → s.heap.get? b = some o → H b = none → ∃ sl, h'.get? b = some { o with slots := sl }) (free : ∀ b o, b ∉ ch → s.heap.get? b = some o → H b = none → H' b = none)
    (there : ∀ b o, b ∉ ch → s.heap.get? b = some o → ∃ o', h'.get? b = some o')
    (tups : ∀ b xs, H b = some (.tup xs) → H' b = some (.tup xs)) (frzs : ∀ b o u, H b = some (.frz o u) → H' b = some (.frz o u)) (tbls : ∀ b ps, H b = some (.tbl ps) → ∃ more, H' b = some (.tbl (ps ++ more)))
    (ns : ∀ m, s.heap.Ns X.env.locals m → h'.Ns X.env.locals m) (hok : HOk X.prog X.w H' h') (hg : AllBare g') :
    Inv X pins σ H' { s with heap := h', gens := g', drawn := d', toks := t' } := by
  have neL : ∀ b o, X.s₀.heap.get? b = some o → b ≠ X.env.locals := fun b o e => Nat.ne_of_lt (Nat.lt_of_lt_of_le (Heap.lt_size e) I.ok.above)
  have neC : ∀ b o, X.s₀.heap.get? b = some o → b ∉ X.ex → b ∉ ch := fun b o e hx hb => by
    rcases (hch b hb).1 with z | z
    · exact hx z
    · exact absurd (Nat.lt_of_lt_of_le (Heap.lt_size e) z) (Nat.lt_irrefl _)
  have cellK : ∀ x c, X.env.cells.lookup x = some c → ∀ v, s.heap.IsCell c v → h'.IsCell c v := fun x c e v ⟨o, ho, hd⟩ => by
    have nch : c ∉ ch := fun z => (hch c z).2.2.1 x c e rfl
    by_cases hc : c ∈ X.fs
    · obtain ⟨sl, q⟩ := slot c o (I.cne x c e) hc nch ho (I.freeC x c e)
      exact ⟨_, q, hd⟩
    · exact ⟨o, keep c o (I.cne x c e) hc nch ho (I.freeC x c e), hd⟩
  refine ⟨I.ok, I.os, hg, ⟨fun b o e n hb hx => ?_, fun b o e n hb hx => ?_, fun b o e n hx => ?_, fun b o e hx => ?_, fun b xs e => tups b xs (I.base.tups b xs e), fun b o xs e => frzs b o xs (I.base.frzs b o xs e), fun b ps e => ?_⟩, ?_, fun x c e => ?_, ?_, fun x c e => ?_, fun p hp => ?_, hok, I.len⟩
  · exact keep b o (neL b o e) hb (neC b o e hx) (I.base.keep b o e n hb hx) (I.base.free b o e n hx)
  · obtain ⟨sl, e1⟩ := I.base.slot b o e n hb hx
    obtain ⟨sl', e2⟩ := slot b _ (neL b o e) hb (neC b o e hx) e1 (I.base.free b o e n hx)
    exact ⟨sl', e2⟩
  · obtain ⟨o', e1⟩ := I.base.there b o e hx
    exact free b o' (neC b o e hx) e1 (I.base.free b o e n hx)
  · obtain ⟨o', e1⟩ := I.base.there b o e hx
    exact there b o' (neC b o e hx) e1
  · obtain ⟨m1, e1⟩ := I.base.tbls b ps e
    obtain ⟨m2, e2⟩ := tbls b _ e1
    exact ⟨m1 ++ m2, by rw [e2, Array.append_assoc]⟩
  · obtain ⟨m, hn, hl⟩ := I.loc
    refine ⟨m, ns m hn, fun i x v e1 e2 e3 => ?_⟩
    obtain ⟨u, r, l⟩ := hl i x v e1 e2 e3
    refine ⟨u, r, ?_⟩
    rcases l with l | ⟨k, c, e, z⟩
    · exact .inl l
    · exact .inr ⟨k, c, e, cellK x c e _ z⟩
  · obtain ⟨v, z⟩ := I.cell x c e
    exact ⟨v, cellK x c e v z⟩
  · obtain ⟨m, ⟨o, _, _, ho, _⟩, _⟩ := I.loc
    exact free _ o (fun z => (hch _ z).2.1 rfl) ho I.free
  · obtain ⟨v, o, ho, hd⟩ := I.cell x c e
    exact free c o (fun z => (hch c z).2.2.1 x c e rfl) ho (I.freeC x c e)
  · obtain ⟨e, n, ne, nf, d⟩ := I.pin p hp
    have nch : p.1 ∉ ch := fun z => (hch p.1 z).2.2.2 p hp rfl
    exact ⟨keep p.1 p.2 ne nf nch e n, free p.1 p.2 nch e n, ne, nf, d⟩
/-- .. where the frame's own object is kept too -/
theorem Inv.un {t' : Nat} (I : Inv X pins σ H s) (u : Un X.fs [] H H' s.heap h') (hok : HOk X.prog X.w H' h') : Inv X pins σ H' { s with heap := h', toks := t' } := by
  obtain ⟨m, ⟨o, es, ep, ho, r⟩, _⟩ := id I.loc
  obtain ⟨sl, hL⟩ := u.any ho I.free (by simp)
  exact I.step (g' := s.gens) (d' := s.drawn) (ch := []) (fun _ z => nomatch z) (fun b o _ hb _ e n => u.keep b o e n hb (by simp)) (fun b o _ hb _ e n => u.slot b o e n hb (by simp)) (fun b o _ e n => u.free b o e n (by simp)) (fun b o _ e => u.there b o e (by simp)) u.tups u.frzs u.tbls (fun m' hm => by
    obtain ⟨o', es', ep', ho', r'⟩ := hm
    rw [ho] at ho'; cases ho'
    exact ⟨_, es', ep', hL, r'⟩) hok I.bare
/-- behind a call (or a comprehension's block): the slots of this frame may have changed too, the records at ch may have turned -/
theorem Inv.call {g' : Array GenState} {t' : Nat} {d' : Drawn} {ch : List Addr} (I : Inv X pins σ H s) (u : Un (frs X.stack) ch H H' s.heap h') (hok : HOk X.prog X.w H' h') (hg : AllBare g')
    (hch : ∀ b ∈ ch, (b ∈ X.ex ∨ X.s₀.heap.objs.size ≤ b) ∧ b ≠ X.env.locals ∧ (∀ x c, X.env.cells.lookup x = some c → c ≠ b) ∧ ∀ p ∈ X.pn ++ pins, p.1 ≠ b) :
    Inv X pins σ H' { s with heap := h', gens := g', drawn := d', toks := t' } := by
  obtain ⟨m, ⟨o, es, ep, ho, r⟩, _⟩ := id I.loc
  obtain ⟨sl, hL⟩ := u.any ho I.free fun z => (hch _ z).2.1 rfl
  exact I.step (ch := ch) hch (fun b o hL hb hc e n => u.keep b o e n (fun z => (List.mem_cons.mp (I.stkSub b z)).elim hL hb) hc) (fun b o _ _ hc e n => u.any e n hc) (fun b o hc e n => u.free b o e n hc) (fun b o hc e => u.there b o e hc) u.tups u.frzs u.tbls (fun m' hm => by
    obtain ⟨o', es', ep', ho', r'⟩ := hm
    rw [ho] at ho'; cases ho'
    exact ⟨_, es', ep', hL, r'⟩) hok hg
/-- an untracked record of ours (an iterator) has turned -/
theorem Inv.turned {t' : Nat} {it : Addr} (I : Inv X pins σ H s) (k : ∀ b o, b ≠ it → s.heap.get? b = some o → h'.get? b = some o) (hn : H it = none) (hL : it ≠ X.env.locals)
    (h1 : it ∈ X.ex ∨ X.s₀.heap.objs.size ≤ it) (h2 : ∀ x c, X.env.cells.lookup x = some c → c ≠ it) (h3 : ∀ p ∈ X.pn ++ pins, p.1 ≠ it) : Inv X pins σ H { s with heap := h', toks := t' } := by
  have nit : ∀ b u, H b = some u → b ≠ it := fun b u e z => by rw [z, hn] at e; cases e
  refine I.step (g' := s.gens) (d' := s.drawn) (ch := [it]) (fun b hb => ?_) (fun b o _ _ hc e _ => k b o (fun z => hc (by simp [z])) e) (fun b o _ _ hc e _ => ⟨o.slots, k b o (fun z => hc (by simp [z])) e⟩) (fun _ _ _ _ n => n)
    (fun b o hc e => ⟨o, k b o (fun z => hc (by simp [z])) e⟩) (fun _ _ e => e) (fun _ _ _ e => e) (fun b ps e => ⟨#[], by rw [e]; simp⟩) (fun m hm => ?_) (fun b u e => ?_) I.bare
  · have e : b = it := by simpa using hb
    subst e
    exact ⟨h1, hL, h2, h3⟩
  · obtain ⟨o, es, ep, ho, r⟩ := hm
    exact ⟨o, es, ep, k _ o (Ne.symm hL) ho, r⟩
  · refine (I.hok b u e).stay (fun c v hc q => k c v ?_ q) (fun _ q => q) fun _ _ q => q
    rcases hc with z | z
    · rw [z]; exact nit b u e
    · exact nit c _ z
theorem Inv.tok (I : Inv X pins σ H s) (t : Nat) : Inv X pins σ H { s with toks := t } := I.un (h' := s.heap) (t' := t) Un.refl I.hok
/-- all objects kept -/
theorem Inv.kept {t' : Nat} (I : Inv X pins σ H s) (k : ∀ b u, s.heap.get? b = some u → h'.get? b = some u) : Inv X pins σ H { s with heap := h', toks := t' } := I.un (Un.kept k) (I.hok.kept k)
/-- a new object laid and tracked -/
theorem Inv.laid {a : Addr} {o : HO} {t' : Nat} (I : Inv X pins σ H s) (k : ∀ b u, s.heap.get? b = some u → h'.get? b = some u) (hp : s.heap.objs.size ≤ a) (new : ObjOk X.prog X.w (upd H a o) h' a o) :
    Inv X pins σ (upd H a o) { s with heap := h', toks := t' } := I.un (Un.laid k hp (I.hok.fresh hp)) (I.hok.laid k hp new)
/-- an object written -/
theorem Inv.write {x e : Addr} {o : HO} {t' : Nat} (I : Inv X pins σ H s) (mu : Mut (H x)) (he : e = x ∨ H e = some (.own x)) (k : ∀ b u, b ≠ e → s.heap.get? b = some u → h'.get? b = some u) (heo : ∃ u, h'.get? e = some u)
    (new : ObjOk X.prog X.w (upd H x o) h' x o) : Inv X pins σ (upd H x o) { s with heap := h', toks := t' } := I.un (Un.write mu he k heo) (I.hok.write mu he k heo new)
theorem Inv.pins_of {pins' : List (Addr × Obj)} (I : Inv X pins σ H s) (h : ∀ p ∈ pins', s.heap.get? p.1 = some p.2 ∧ H p.1 = none ∧ p.1 ≠ X.env.locals ∧ p.1 ∉ X.fs ∧ ∀ v, p.2.data ≠ .cell v) : Inv X pins' σ H s :=
  ⟨I.ok, I.os, I.bare, I.base, I.loc, I.cell, I.free, I.freeC, fun p hp => (List.mem_append.mp hp).elim (fun z => I.pin p (List.mem_append_left _ z)) (h p), I.hok, I.len⟩

theorem nodup_ix {N : List Str} (hN : N.Nodup) {i j : Nat} {x : Str} (a : N[i]? = some x) (b : N[j]? = some x) : i = j := by
  obtain ⟨h1, e1⟩ := List.getElem?_eq_some_iff.mp a
  obtain ⟨h2, e2⟩ := List.getElem?_eq_some_iff.mp b
  exact (List.getElem_inj hN).mp (e1.trans e2.symm)

/-- a name is stored; what changed -/
theorem store_ok2 {M : Model} {A : Around} {E : Value → Shared → Prop} {i : Nat} {x : Str} {v : V} {u : Value} {Q : Unit → Shared → Prop} (I : Inv X pins σ H s) (hN : X.N.Nodup) (hi : X.N[i]? = some x) (hx : Loc X.env.scope x) (r : RelV v u)
    (h : ∀ s', Inv X pins (σ.set i (some v)) H s' → (∃ a, Heap.SameBut a s.heap s'.heap ∧ (a = X.env.locals ∨ X.env.cells.lookup x = some a)) → Q () s') (hf : X.fn x = true ∨ X.env.scope.names.lookup x = some .local := by first | exact .inl rfl | exact .inr rfl | assumption) : wpAny M A (storeName X.env x u) Q E s := by
  obtain ⟨m, hn, hl⟩ := id I.loc
  have hcls : (X.env.scope.kind == .class || (X.env.scope.kind == .module && X.env.locals != X.env.globals)) = false := by rw [I.ok.kind]; rfl
  have hiσ : i < σ.length := by rw [I.len]; exact (List.getElem?_eq_some_iff.mp hi).1
  have cne := I.cne
  have tracked : ∀ {a : Addr} {h' : Heap}, (∃ o, s.heap.get? a = some o ∧ H a = none) → Heap.SameBut a s.heap h' → HOk X.prog X.w H h' := fun {a h'} ha hs b ob e => by
    obtain ⟨_, _, hfree⟩ := ha
    refine (I.hok b ob e).stay (fun c w' hc q => (hs.2 c ?_).trans q) (fun _ q => q) fun _ _ q => q
    rintro rfl
    rcases hc with rfl | hc
    · rw [hfree] at e; cases e
    · rw [hfree] at hc; cases hc
  rcases hx with hk | hk
  · refine wpAny_storeName_local hk hn (fun h' hn' hs => ?_) hcls
    obtain ⟨oL, _, _, hoL, _⟩ := id hn
    refine h _ ⟨I.ok, I.os, I.bare, ⟨fun b o e n hb hx => ?_, fun b o e n hb hx => ?_, I.base.free, fun b o e hx => ?_, I.base.tups, I.base.frzs, I.base.tbls⟩, ⟨_, hn', fun j y v' e1 e2 e3 => ?_⟩, fun y c e => ?_, I.free, I.freeC, fun p hp => ?_, tracked ⟨oL, hoL, I.free⟩ hs, by simpa using I.len⟩ ⟨_, hs, .inl rfl⟩
    · exact (hs.2 b (Nat.ne_of_lt (Nat.lt_of_lt_of_le (Heap.lt_size e) I.ok.above))).trans (I.base.keep b o e n hb hx)
    · obtain ⟨sl, e1⟩ := I.base.slot b o e n hb hx
      exact ⟨sl, (hs.2 b (Nat.ne_of_lt (Nat.lt_of_lt_of_le (Heap.lt_size e) I.ok.above))).trans e1⟩
    · obtain ⟨o', e1⟩ := I.base.there b o e hx
      exact ⟨o', (hs.2 b (Nat.ne_of_lt (Nat.lt_of_lt_of_le (Heap.lt_size e) I.ok.above))).trans e1⟩
    · by_cases hj : j = i
      · subst hj
        rw [hi] at e1; cases e1
        rw [List.getElem?_set_self hiσ] at e2
        cases e2
        exact ⟨u, r, .inl ⟨hk, by simp⟩⟩
      · rw [List.getElem?_set_ne (Ne.symm hj)] at e2
        obtain ⟨u', r', q⟩ := hl j y v' e1 e2 e3
        refine ⟨u', r', ?_⟩
        rcases q with ⟨k, e⟩ | ⟨k, c, e, z⟩
        · refine .inl ⟨k, ?_⟩
          have : y ≠ x := fun e => hj (nodup_ix hN e1 (e ▸ hi))
          simp [this, e]
        · exact .inr ⟨k, c, e, z.sameBut hs (cne y c e)⟩
    · obtain ⟨w', z⟩ := I.cell y c e
      exact ⟨w', z.sameBut hs (cne y c e)⟩
    · obtain ⟨e, n, ne, nf, d⟩ := I.pin p hp
      exact ⟨(hs.2 p.1 ne).trans e, n, ne, nf, d⟩
  · have hfn : X.fn x = true := by
      rcases hf with z | z
      · exact z
      · rw [z] at hk; cases hk
    obtain ⟨c, hc⟩ := I.ok.has x (.inl hk)
    obtain ⟨w', z⟩ := I.cell x c hc
    refine wpAny_storeName_cell I.ok.kind hk hc z (fun h' hc' hs => ?_)
    obtain ⟨oc, hoc, hocd⟩ := id z
    refine h { s with heap := h' } ⟨I.ok, I.os, I.bare, ⟨fun b o e n hb hx => ?_, fun b o e n hb hx => ?_, I.base.free, fun b o e hx => ?_, I.base.tups, I.base.frzs, I.base.tbls⟩, ⟨m, hn.sameBut hs (Ne.symm (cne x c hc)), fun j y v' e1 e2 e3 => ?_⟩, fun y c' e => ?_, I.free, I.freeC, fun p hp => ?_, tracked ⟨oc, hoc, I.freeC x c hc⟩ hs, by simpa using I.len⟩ ⟨c, hs, .inr hc⟩
    · exact (hs.2 b (Nat.ne_of_lt (Nat.lt_of_lt_of_le (Heap.lt_size e) (I.ok.cab x c hfn hc)))).trans (I.base.keep b o e n hb hx)
    · obtain ⟨sl, e1⟩ := I.base.slot b o e n hb hx
      exact ⟨sl, (hs.2 b (Nat.ne_of_lt (Nat.lt_of_lt_of_le (Heap.lt_size e) (I.ok.cab x c hfn hc)))).trans e1⟩
    · obtain ⟨o', e1⟩ := I.base.there b o e hx
      exact ⟨o', (hs.2 b (Nat.ne_of_lt (Nat.lt_of_lt_of_le (Heap.lt_size e) (I.ok.cab x c hfn hc)))).trans e1⟩
    · by_cases hj : j = i
      · subst hj
        rw [hi] at e1; cases e1
        rw [List.getElem?_set_self hiσ] at e2
        cases e2
        exact ⟨u, r, .inr ⟨.inl hk, c, hc, hc'⟩⟩
      · rw [List.getElem?_set_ne (Ne.symm hj)] at e2
        obtain ⟨u', r', q⟩ := hl j y v' e1 e2 e3
        refine ⟨u', r', ?_⟩
        rcases q with q | ⟨k, c', e, z'⟩
        · exact .inl q
        · refine .inr ⟨k, c', e, z'.sameBut hs ?_⟩
          rintro rfl
          exact hj (nodup_ix hN e1 (I.ok.inj _ _ _ e hc ▸ hi))
    · by_cases hcc : c' = c
      · subst hcc; exact ⟨_, hc'⟩
      · obtain ⟨w2, z2⟩ := I.cell y c' e
        exact ⟨w2, z2.sameBut hs hcc⟩
    · obtain ⟨e, n, ne, nf, d⟩ := I.pin p hp
      refine ⟨(hs.2 p.1 ?_).trans e, n, ne, nf, d⟩
      intro q
      rw [q, hoc] at e
      have q' : oc = p.2 := Option.some.inj e
      exact d w' (by rw [← q']; exact hocd)
theorem store_ok {M : Model} {A : Around} {E : Value → Shared → Prop} {i : Nat} {x : Str} {v : V} {u : Value} {Q : Unit → Shared → Prop} (I : Inv X pins σ H s) (hN : X.N.Nodup) (hi : X.N[i]? = some x) (hx : Loc X.env.scope x) (r : RelV v u)
    (h : ∀ s', Inv X pins (σ.set i (some v)) H s' → Q () s') (hf : X.fn x = true ∨ X.env.scope.names.lookup x = some .local := by first | exact .inl rfl | exact .inr rfl | assumption) : wpAny M A (storeName X.env x u) Q E s :=
  store_ok2 I hN hi hx r (fun s' I' _ => h s' I') hf
/-- behind a call or a block, the state as it is -/
theorem Inv.call' {s' : Shared} {ch : List Addr} (I : Inv X pins σ H s) (ho : s'.os = s.os) (u : Un (frs X.stack) ch H H' s.heap s'.heap) (hok : HOk X.prog X.w H' s'.heap) (hg : AllBare s'.gens)
    (hch : ∀ b ∈ ch, (b ∈ X.ex ∨ X.s₀.heap.objs.size ≤ b) ∧ b ≠ X.env.locals ∧ (∀ x c, X.env.cells.lookup x = some c → c ≠ b) ∧ ∀ p ∈ X.pn ++ pins, p.1 ≠ b) : Inv X pins σ H' s' := by
  obtain ⟨h', g', d', t', o'⟩ := s'
  have e : o' = s.os := ho
  subst e
  exact I.call (g' := g') (t' := t') (d' := d') u hok hg hch
end

/-! ### the judgements -/
/-- an exception: its class, its own dict's address (where it has one), the abstract heap behind it -/
abbrev XK := Value → Option Addr → Hp → Prop
abbrev St := List (Option V)
abbrev VK := V → Hp → Prop
/-- an expression's reading; a test's; an argument list's -/
abbrev TE := St → Hp → VK → Prop
abbrev TT := St → Hp → (Bool → Hp → Prop) → Prop
abbrev TA := St → Hp → (List V → Hp → Prop) → Prop
/-- what is wanted behind a statement -/
structure Ends where
  nx : St → Hp → Prop
  rt : VK
  bk : St → Hp → Prop := fun _ _ => False
  ct : St → Hp → Prop := fun _ _ => False
abbrev TS := Ends → St → Hp → Prop

def EP (X : Cx) (pins : List (Addr × Obj)) (σ : St) (Q : VK) (u : Value) (s' : Shared) : Prop := ∃ v H', Inv X pins σ H' s' ∧ RelV v u ∧ Q v H'
def TP (X : Cx) (pins : List (Addr × Obj)) (σ : St) (Q : Bool → Hp → Prop) (b : Bool) (s' : Shared) : Prop := ∃ H', Inv X pins σ H' s' ∧ Q b H'
def AP (X : Cx) (pins : List (Addr × Obj)) (σ : St) (Q : List V → Hp → Prop) (us : List Value) (s' : Shared) : Prop := ∃ vs H', Inv X pins σ H' s' ∧ Vals vs us ∧ Q vs H'
def SP (X : Cx) (pins : List (Addr × Obj)) (D : Ends) (f : Flow) (s' : Shared) : Prop :=
  match f with
  | .next => ∃ σ' H', Inv X pins σ' H' s' ∧ D.nx σ' H'
  | .brk => ∃ σ' H', Inv X pins σ' H' s' ∧ D.bk σ' H'
  | .cont => ∃ σ' H', Inv X pins σ' H' s' ∧ D.ct σ' H'
  | .ret u => ∃ v σ' H', Inv X pins σ' H' s' ∧ RelV v u ∧ D.rt v H'

def PE (X : Cx) (e : Expr) (t : TE) : Prop :=
  ∀ (pins : List (Addr × Obj)) (s : Shared) (σ : St) (H : Hp) (Q : VK), Inv X pins σ H s → t σ H Q → wpAny (model X.prog X.w) X.A (eval e X.env) (EP X pins σ Q) X.xe s
def PT (X : Cx) (e : Expr) (t : TT) : Prop :=
  ∀ (pins : List (Addr × Obj)) (s : Shared) (σ : St) (H : Hp) (Q : Bool → Hp → Prop), Inv X pins σ H s → t σ H Q → wpAny (model X.prog X.w) X.A (isTrue e X.env (eval e X.env)) (TP X pins σ Q) X.xe s
/-- a test whatever its 'whole' is (and, or) -/
def PW (X : Cx) (e : Expr) (t : TT) : Prop :=
  ∀ (whole : Sem Value) (pins : List (Addr × Obj)) (s : Shared) (σ : St) (H : Hp) (Q : Bool → Hp → Prop), Inv X pins σ H s → t σ H Q → wpAny (model X.prog X.w) X.A (isTrue e X.env whole) (TP X pins σ Q) X.xe s
theorem PW.pt {X : Cx} {e : Expr} {t : TT} (h : PW X e t) : PT X e t := h _
/-- an argument list (no star), from the left -/
def PA (X : Cx) (es : List Expr) (t : TA) : Prop :=
  ∀ (pos : Pos) (pins : List (Addr × Obj)) (s : Shared) (σ : St) (H : Hp) (Q : List V → Hp → Prop), Inv X pins σ H s → t σ H Q → wpAny (model X.prog X.w) X.A (spliced (backTo pos (starEach es X.env))) (AP X pins σ Q) X.xe s
def PS (X : Cx) (st : Stmt) (t : TS) : Prop :=
  ∀ (pins : List (Addr × Obj)) (s : Shared) (σ : St) (H : Hp) (D : Ends), Inv X pins σ H s → t D σ H → wpAny (model X.prog X.w) X.A (exec st X.env) (SP X pins D) X.xe s
def PSs (X : Cx) (st : List Stmt) (t : TS) : Prop :=
  ∀ (pins : List (Addr × Obj)) (s : Shared) (σ : St) (H : Hp) (D : Ends), Inv X pins σ H s → t D σ H → wpAny (model X.prog X.w) X.A (execs st X.env) (SP X pins D) X.xe s
/-- weaken the end -/
theorem thn {α : Type} {t : Sem α} {Q Q' : α → Shared → Prop} {M : Model} {A : Around} {E : Value → Shared → Prop} {s : Shared} (h : wpAny M A t Q E s) (hQ : ∀ a s, Q a s → Q' a s) : wpAny M A t Q' E s := wpAny_mono h hQ fun _ _ x => x
end L2

namespace L2
open PySem PySem.Spec PyProof.Rows
section
variable {X : Cx}

/-- two expressions in a row -/
theorem bin {a b : Expr} {ta tb : TE} (ha : PE X a ta) (hb : PE X b tb) {pins : List (Addr × Obj)} {s : Shared} {σ : St} {H : Hp} {R : V → V → Hp → Prop} (I : Inv X pins σ H s) (h : ta σ H fun x H1 => tb σ H1 fun y H2 => R x y H2)
    {α : Type} {Q : α → Shared → Prop} {f : Value → Value → Sem α}
    (hf : ∀ v u s2 x y H2, Inv X pins σ H2 s2 → RelV x v → RelV y u → R x y H2 → wpAny (model X.prog X.w) X.A (f v u) Q X.xe s2) :
    wpAny (model X.prog X.w) X.A (eval a X.env) (fun v s₁ => wpAny (model X.prog X.w) X.A (eval b X.env) (fun u s₂ => wpAny (model X.prog X.w) X.A (f v u) Q X.xe s₂) X.xe s₁) X.xe s := by
  refine thn (ha pins s σ H _ I h) fun v s1 ⟨x, H1, I1, r1, q1⟩ => ?_
  refine thn (hb pins s1 σ H1 _ I1 q1) fun u s2 ⟨y, H2, I2, r2, q2⟩ => ?_
  exact hf v u s2 x y H2 I2 r1 r2 q2

/-! ### names and constants -/
def tVar (i : Nat) : TE := fun σ H Q => ∃ v, σ[i]? = some (some v) ∧ Q v H
def tC (v : V) : TE := fun _ H Q => Q v H
theorem pe_var {i : Nat} {x : Str} {pos : Pos} (hN : X.N[i]? = some x) (hv : Vis X.env.scope x) (hd : (x == ("__debug__" : Str)) = false := by decide) (hcd : (x == ("__classdict__" : Str)) = false := by decide) : PE X (.Name x pos) (tVar i) := by
  intro pins s σ H Q I h
  obtain ⟨v, e, h⟩ := h
  obtain ⟨m, hn, hl⟩ := I.loc
  obtain ⟨u, r, l⟩ := hl i x v hN e hv
  have fin : EP X pins σ Q u s := ⟨v, H, I, r, h⟩
  rcases l with ⟨hk, hm⟩ | ⟨hk, c, hc, hcell⟩
  · exact wpAny_Name (wpAny_loadName_local I.ok.kind hk hn hm fin) hd
  · rcases hk with hk | hk
    · exact wpAny_Name (wpAny_loadName_cell I.ok.kind hk hc hcell fin) hd
    · exact wpAny_Name (wpAny_loadName_free I.ok.kind hk hc hcell fin hcd) hd
theorem pe_int {i j pos} : PE X (.Constant (.int i) j pos) (tC (.int i)) := fun _ _ _ H _ I h => wpAny_Constant_int ⟨.int i, H, I.tok _, ⟨_, rfl⟩, h⟩
theorem pe_bl {b j pos} : PE X (.Constant (.bool b) j pos) (tC (.bl b)) := fun _ _ _ H _ I h => Constant_bool ⟨.bl b, H, I, rfl, h⟩
theorem pe_non {j pos} : PE X (.Constant .none j pos) (tC .non) := fun _ _ _ H _ I h => Constant_none ⟨.non, H, I, rfl, h⟩
theorem pe_str {x j pos} : PE X (.Constant (.str x) j pos) (tC (.str x)) := fun _ _ _ H _ I h => Calls.Constant_str ⟨.str x, H, I.tok _, ⟨_, rfl⟩, h⟩

/-- a global name of the def -/
def Gl (X : Cx) (x : Str) : Prop := X.env.kindOf x = some .globalImplicit
theorem ld_glob {E : Value → Shared → Prop} {pins : List (Addr × Obj)} {s : Shared} {σ : St} {H : Hp} {x : Str} {u : Value} {pos : Pos} {Q : Value → Shared → Prop} (I : Inv X pins σ H s) (hg : Gl X x) (hm : X.mg x = some u) (h : Q u s)
    (hd : (x == ("__debug__" : Str)) = false := by decide) : wpAny (model X.prog X.w) X.A (eval (.Name x pos) X.env) Q E s :=
  Calls.Name_function_global I.ok.kind hg (Calls.loadGlobal_global (by rw [I.ok.glob]; exact I.mod.glob.keeps I.bk) hm h) hd
theorem ld_blt {E : Value → Shared → Prop} {pins : List (Addr × Obj)} {s : Shared} {σ : St} {H : Hp} {x : Str} {u : Value} {pos : Pos} {Q : Value → Shared → Prop} (I : Inv X pins σ H s) (hg : Gl X x) (hm : X.mg x = none) (hv : bootBuiltins x = some u) (h : Q u s)
    (hn : x ≠ "__name__" := by decide) (hd : (x == ("__debug__" : Str)) = false := by decide) : wpAny (model X.prog X.w) X.A (eval (.Name x pos) X.env) Q E s := by
  obtain ⟨mb, h1, h2⟩ := I.mod.blt
  exact Calls.Name_function_global I.ok.kind hg (Calls.loadGlobal_builtin (by rw [I.ok.glob]; exact I.mod.glob.keeps I.bk) hm (by rw [I.ok.blt]; exact h1.keeps I.bk) ((h2 x hn).trans hv) h) hd
/-- a module's constant, a class, a function, as a value -/
theorem pe_glob {x : Str} {v : V} {u : Value} {pos : Pos} (hg : Gl X x) (hm : X.mg x = some u) (r : RelV v u) (hd : (x == ("__debug__" : Str)) = false := by decide) : PE X (.Name x pos) (tC v) :=
  fun _ _ _ H _ I h => ld_glob I hg hm ⟨v, H, I, r, h⟩ hd
theorem pe_bltn {x : Str} {v : V} {u : Value} {pos : Pos} (hg : Gl X x) (hm : X.mg x = none) (hv : bootBuiltins x = some u) (r : RelV v u) (hn : x ≠ "__name__" := by decide) (hd : (x == ("__debug__" : Str)) = false := by decide) : PE X (.Name x pos) (tC v) :=
  fun _ _ _ H _ I h => ld_blt I hg hm hv ⟨v, H, I, r, h⟩ hn hd

/-! ### arithmetic -/
variable {a b : Expr} {ta tb : TE} {pos : Pos}

/-! ### comparisons -/
def PC (X : Cx) (op : CmpOp) (a b : Expr) (t : TE) : Prop :=
  ∀ (pins : List (Addr × Obj)) (s : Shared) (σ : St) (H : Hp) (Q : VK), Inv X pins σ H s → t σ H Q →
    wpAny (model X.prog X.w) X.A (eval a X.env) (fun v s₁ => wpAny (model X.prog X.w) X.A (eval b X.env) (fun u s₂ => wpAny (model X.prog X.w) X.A (compareOp op v u) (EP X pins σ Q) X.xe s₂) X.xe s₁) X.xe s
/-- a comparison as a value, as a test -/
def tB (t : TE) : TT := fun σ H Q => t σ H fun x H1 => ∃ c, x = .bl c ∧ Q c H1
theorem pt_cmp {op : CmpOp} {t : TE} (h : PC X op a b t) (h1 : behindInMarks op b = false := by first | exact nobehind _ (by decide) (by decide) | rfl) : PT X (.Compare a [op] [b] pos) (tB t) := by
  intro pins s σ H Q I hw
  refine wpAny_isTrue_Compare1 (thn (h pins s σ H _ I hw) fun v s1 h1 => thn h1 fun u s2 h2 => thn h2 fun c s3 ⟨x, H1, I1, r1, q1⟩ => ?_) h1
  obtain ⟨d, rfl, q⟩ := q1
  cases r1
  exact wpAny_truthy_bool ⟨H1, I1, q⟩
/-- an expression whose value is a bool, as a test -/
theorem pt_val {e : Expr} {t : TE} (h : PE X e t) (he : ∀ whole, isTrue e X.env whole = (do let v ← whole; standAt e.pos; holding [v] (truthy v)) := by intro _; rfl) : PT X e (tB t) := by
  intro pins s σ H Q I hw
  refine isTrue_plain (thn (h pins s σ H _ I hw) fun v s1 ⟨x, H1, I1, r1, q1⟩ => ?_) (he _)
  obtain ⟨d, rfl, q⟩ := q1
  cases r1
  exact wpAny_truthy_bool ⟨H1, I1, q⟩

/-! ### and, or, not -/
variable {tA tB' : TT} {rest : List Expr}
def tAnd (t u : TT) : TT := fun σ H Q => t σ H fun c H1 => if c = true then u σ H1 Q else Q false H1
def tOr (t u : TT) : TT := fun σ H Q => t σ H fun c H1 => if c = true then Q true H1 else u σ H1 Q
def tNot (t : TT) : TT := fun σ H Q => t σ H fun c H1 => Q (!c) H1
theorem pw_and1 (ha : PT X a tA) : PW X (.BoolOp .And [a] pos) tA := by
  intro wh pins s σ H Q I h
  refine isTrue_and (thn (ha pins s σ H Q I h) fun c s1 e => ?_)
  cases c with
  | true => exact isTrue_and_nil e
  | false => exact e
theorem pw_or1 (ha : PT X a tA) : PW X (.BoolOp .Or [a] pos) tA := by
  intro wh pins s σ H Q I h
  refine isTrue_or (thn (ha pins s σ H Q I h) fun c s1 e => ?_)
  cases c with
  | false => exact isTrue_or_nil e
  | true => exact e
theorem pw_and (ha : PT X a tA) (hb : PW X (.BoolOp .And (b :: rest) pos) tB') : PW X (.BoolOp .And (a :: b :: rest) pos) (tAnd tA tB') := by
  intro wh pins s σ H Q I h
  refine isTrue_and (thn (ha pins s σ H _ I h) fun c s1 ⟨H1, I1, q1⟩ => ?_)
  cases c with
  | true => exact hb wh pins s1 σ H1 Q I1 q1
  | false => exact ⟨H1, I1, q1⟩
theorem pw_or (ha : PT X a tA) (hb : PW X (.BoolOp .Or (b :: rest) pos) tB') : PW X (.BoolOp .Or (a :: b :: rest) pos) (tOr tA tB') := by
  intro wh pins s σ H Q I h
  refine isTrue_or (thn (ha pins s σ H _ I h) fun c s1 ⟨H1, I1, q1⟩ => ?_)
  cases c with
  | true => exact ⟨H1, I1, q1⟩
  | false => exact hb wh pins s1 σ H1 Q I1 q1
theorem pt_not (ha : PT X a tA) : PT X (.UnaryOp .Not a pos) (tNot tA) := by
  intro pins s σ H Q I h
  exact isTrue_not (ha pins s σ H (fun c H1 => Q (!c) H1) I h)
/-- .. as values (bools) -/
def tAndV (ta tb : TE) : TE := fun σ H Q => ta σ H fun x H1 => ∃ c, x = .bl c ∧ if c = true then tb σ H1 Q else Q (.bl false) H1
def tOrV (ta tb : TE) : TE := fun σ H Q => ta σ H fun x H1 => ∃ c, x = .bl c ∧ if c = true then Q (.bl true) H1 else tb σ H1 Q
def tNotV (ta : TE) : TE := fun σ H Q => ta σ H fun x H1 => ∃ c, x = .bl c ∧ Q (.bl (!c)) H1
theorem pe_one {op} {t : TE} (h : PE X a t) : PE X (.BoolOp op [a] pos) t := fun pins s σ H Q I hw => BoolOp_one (h pins s σ H Q I hw)
theorem pe_and (ha : PE X a ta) (hb : PE X (.BoolOp .And (b :: rest) pos) tb) : PE X (.BoolOp .And (a :: b :: rest) pos) (tAndV ta tb) := by
  intro pins s σ H Q I h
  refine BoolOp_and (thn (ha pins s σ H _ I h) fun v s1 ⟨x, H1, I1, r1, q1⟩ => ?_)
  obtain ⟨c, rfl, q1⟩ := q1
  cases r1
  refine wpAny_truthy_bool ?_
  cases c with
  | true => exact hb pins s1 σ H1 Q I1 q1
  | false => exact ⟨.bl false, H1, I1, rfl, q1⟩
theorem pe_or (ha : PE X a ta) (hb : PE X (.BoolOp .Or (b :: rest) pos) tb) : PE X (.BoolOp .Or (a :: b :: rest) pos) (tOrV ta tb) := by
  intro pins s σ H Q I h
  refine BoolOp_or (thn (ha pins s σ H _ I h) fun v s1 ⟨x, H1, I1, r1, q1⟩ => ?_)
  obtain ⟨c, rfl, q1⟩ := q1
  cases r1
  refine wpAny_truthy_bool ?_
  cases c with
  | false => exact hb pins s1 σ H1 Q I1 q1
  | true => exact ⟨.bl true, H1, I1, rfl, q1⟩
theorem pe_not (ha : PE X a ta) : PE X (.UnaryOp .Not a pos) (tNotV ta) := by
  intro pins s σ H Q I h
  refine UnaryOp_ (thn (ha pins s σ H _ I h) fun v s1 ⟨x, H1, I1, r1, q1⟩ => ?_)
  obtain ⟨c, rfl, q1⟩ := q1
  cases r1
  exact not_of (wpAny_truthy_bool ⟨.bl (!c), H1, I1, rfl, q1⟩)
/-- a if t else b -/
def tIf (t : TT) (ta tb : TE) : TE := fun σ H Q => t σ H fun c H1 => if c = true then ta σ H1 Q else tb σ H1 Q
theorem pe_ifExp {c : Expr} (hc : PT X c tA) (ha : PE X a ta) (hb : PE X b tb) : PE X (.IfExp c a b pos) (tIf tA ta tb) := by
  intro pins s σ H Q I h
  refine wpAny_IfExp (thn (hc pins s σ H _ I h) fun d s1 ⟨H1, I1, q1⟩ => ?_)
  cases d with
  | true => exact ha pins s1 σ H1 Q I1 q1
  | false => exact hb pins s1 σ H1 Q I1 q1
end
end L2

namespace L2
open PySem PySem.Spec PyProof.Rows

/-! ### a list, a tuple that is read: tracked, frozen, or an object of the module -/
def SqL (K : PySem.W.Frag) (H : Hp) (a : Addr) (xs : List V) : Prop :=
  Rd H a (.lst xs) ∨
    ∃ (o : Obj) (its : Array Value) (n : Nat), K.lookup a = some o ∧ o.cls = .type "list" ∧ o.dict = none ∧ o.data = .seq its n ∧ its.size ≤ sizeLine ∧ Vals xs its.toList
def SqT (K : PySem.W.Frag) (H : Hp) (a : Addr) (xs : List V) : Prop :=
  Rd H a (.tup xs) ∨
    ∃ (o : Obj) (its : Array Value) (n : Nat), K.lookup a = some o ∧ o.cls = .type "tuple" ∧ o.data = .seq its n ∧ its.size ≤ sizeLine ∧ Vals xs its.toList
def absV : Value → Option V
  | .none => some .non
  | .bool b => some (.bl b)
  | .int i _ => some (.int i)
  | .str x _ => some (.str x)
  | .bytes b _ => some (.byt b)
  | .float b _ => some (.flt b)
  | .ref a => some (.ref a)
  | .type n => some (.ty n)
  | _ => none
theorem RelV.abs {x : V} {u : Value} (r : RelV x u) : absV u = some x := by
  cases x with
  | non => cases r; rfl
  | bl _ => cases r; rfl
  | int _ => obtain ⟨t, rfl⟩ := r; rfl
  | str _ => obtain ⟨t, rfl⟩ := r; rfl
  | byt _ => obtain ⟨t, rfl⟩ := r; rfl
  | flt _ => obtain ⟨t, rfl⟩ := r; rfl
  | ref _ => cases r; rfl
  | ty _ => cases r; rfl
theorem RelV.inj {x y : V} {u : Value} (r : RelV x u) (q : RelV y u) : x = y := Option.some.inj (r.abs.symm.trans q.abs)
theorem Vals.inj : ∀ {xs ys : List V} {us : List Value}, Vals xs us → Vals ys us → xs = ys
  | _, _, _, .nil, .nil => rfl
  | _, _, _, .cons r t, .cons r' t' => by rw [r.inj r', Vals.inj t t']
section
variable {X : Cx} {pins : List (Addr × Obj)} {σ : St} {H : Hp} {s : Shared} {a : Addr} {xs ys : List V}
theorem SqL.of {K : PySem.W.Frag} (h : H a = some (.lst xs)) : SqL K H a xs := .inl (.inl h)
theorem SqT.of {K : PySem.W.Frag} (h : H a = some (.tup xs)) : SqT K H a xs := .inl (.inl h)
theorem Inv.list (I : Inv X pins σ H s) (h : SqL X.K H a xs) : ∃ its : List Value, Vals xs its ∧ PlainL s.heap a its.toArray ∧ xs.length ≤ sizeLine := by
  rcases h with h | ⟨o, its, n, hk, hc, hd, hs, hz, r⟩
  · obtain ⟨z, its, n, r, e⟩ := h.ok I.hok
    exact ⟨its, r, ⟨_, n, e, rfl, rfl, rfl⟩, z⟩
  · refine ⟨its.toList, r, ⟨o, n, I.kIn a o hk, hc, hd, by simpa using hs⟩, ?_⟩
    have e := r.length
    simp only [Array.length_toList] at e
    omega
theorem Inv.tuple (I : Inv X pins σ H s) (h : SqT X.K H a xs) : ∃ its : List Value, Vals xs its ∧ IsTup s.heap a its.toArray ∧ xs.length ≤ sizeLine := by
  rcases h with h | ⟨o, its, n, hk, hc, hs, hz, r⟩
  · obtain ⟨z, its, r, p⟩ := h.ok I.hok
    exact ⟨its, r, p, z⟩
  · refine ⟨its.toList, r, ⟨o, I.kIn a o hk, hc, n, by simpa using hs⟩, ?_⟩
    have e := r.length
    simp only [Array.length_toList] at e
    omega
theorem Inv.list_inj (I : Inv X pins σ H s) (h : SqL X.K H a xs) (h' : SqL X.K H a ys) : xs = ys := by
  obtain ⟨its, r, ⟨o, n, e, _, _, d⟩, _⟩ := I.list h
  obtain ⟨its', r', ⟨o', n', e', _, _, d'⟩, _⟩ := I.list h'
  rw [e] at e'; cases e'
  rw [d] at d'
  injection d' with d1 _
  have : its = its' := by simpa using congrArg Array.toList d1
  subst this
  exact r.inj r'
theorem Inv.tuple_inj (I : Inv X pins σ H s) (h : SqT X.K H a xs) (h' : SqT X.K H a ys) : xs = ys := by
  obtain ⟨its, r, ⟨o, e, _, n, d⟩, _⟩ := I.tuple h
  obtain ⟨its', r', ⟨o', e', _, n', d'⟩, _⟩ := I.tuple h'
  rw [e] at e'; cases e'
  rw [d] at d'
  injection d' with d1 _
  have : its = its' := by simpa using congrArg Array.toList d1
  subst this
  exact r.inj r'
end

/-! ### another wish about exceptions -/
abbrev Cx.wish (X : Cx) (E : Value → Shared → Prop) : Cx := { X with xe := E }
/-- no exception leaves -/
abbrev Cx.nox (X : Cx) : Cx := X.wish fun _ _ => False
theorem Cx.Ok.wish {X : Cx} (ok : X.Ok) (E : Value → Shared → Prop) : (X.wish E).Ok :=
  ⟨ok.mod, ok.kind, ok.glob, ok.blt, ok.above, ok.inj, ok.has, ok.cab, ok.hd, ok.frames, ok.stk, ok.exf, ok.bs, ok.bsz, ok.noex, ok.exfs, ok.funs, ok.frf⟩
theorem Cx.Ok.unwish {X : Cx} {E : Value → Shared → Prop} (ok : (X.wish E).Ok) : X.Ok :=
  ⟨ok.mod, ok.kind, ok.glob, ok.blt, ok.above, ok.inj, ok.has, ok.cab, ok.hd, ok.frames, ok.stk, ok.exf, ok.bs, ok.bsz, ok.noex, ok.exfs, ok.funs, ok.frf⟩
section
variable {X : Cx} {pins : List (Addr × Obj)} {σ : St} {H : Hp} {s : Shared} {E : Value → Shared → Prop}
theorem Inv.wish (I : Inv X pins σ H s) (E : Value → Shared → Prop) : Inv (X.wish E) pins σ H s := ⟨I.ok.wish E, I.os, I.bare, I.base, I.loc, I.cell, I.free, I.freeC, I.pin, I.hok, I.len⟩
theorem Inv.unwish (I : Inv (X.wish E) pins σ H s) : Inv X pins σ H s := ⟨I.ok.unwish, I.os, I.bare, I.base, I.loc, I.cell, I.free, I.freeC, I.pin, I.hok, I.len⟩
theorem SP.unwish {D : Ends} {f : Flow} {s' : Shared} (h : SP (X.wish E) pins D f s') : SP X pins D f s' := by
  cases f with
  | next => obtain ⟨σ', H', I, q⟩ := h; exact ⟨σ', H', I.unwish, q⟩
  | brk => obtain ⟨σ', H', I, q⟩ := h; exact ⟨σ', H', I.unwish, q⟩
  | cont => obtain ⟨σ', H', I, q⟩ := h; exact ⟨σ', H', I.unwish, q⟩
  | ret u => obtain ⟨v, σ', H', I, r, q⟩ := h; exact ⟨v, σ', H', I.unwish, r, q⟩
theorem PSs.nox {st : List Stmt} {t : TS} (h : PSs X.nox st t) : PSs X st t := fun pins s σ H D I hw =>
  wpAny_mono (h pins s σ H D (I.wish _) hw) (fun _ _ q => q.unwish) fun _ _ z => False.elim z
end

/-! ### blocks and small statements -/
section
variable {X : Cx} {st : Stmt} {rest : List Stmt} {t u : TS} {e : Expr} {te : TE} {pos : Pos}
def tNext : TS := fun D σ H => D.nx σ H
def tSeq (t u : TS) : TS := fun D σ H => t { D with nx := u D } σ H
theorem pss_nil : PSs X [] tNext := fun _ _ σ H _ I h => wpAny_execs_nil ⟨σ, H, I, h⟩
theorem pss_cons (h1 : PS X st t) (h2 : PSs X rest u) : PSs X (st :: rest) (tSeq t u) := by
  intro pins s σ H D I h
  refine wpAny_execs_cons (thn (h1 pins s σ H { D with nx := u D } I h) fun f s1 q => ?_)
  cases f with
  | next =>
    obtain ⟨σ', H', I', q⟩ := q
    exact h2 pins s1 σ' H' D I' q
  | ret v => exact q
  | brk => exact q
  | cont => exact q
theorem pss_one (h1 : PS X st t) : PSs X [st] t := by
  intro pins s σ H D I h
  refine wpAny_execs_cons (thn (h1 pins s σ H D I h) fun f s1 q => ?_)
  cases f with
  | next => exact wpAny_execs_nil q
  | ret v => exact q
  | brk => exact q
  | cont => exact q
/-- in a def's body nothing is shown -/
theorem Inv.quiet {pins : List (Addr × Obj)} {σ : St} {H : Hp} {s : Shared} (I : Inv X pins σ H s) : interactive X.env = false := by simp [interactive, I.ok.kind]
/-- an expression whose value is dropped -/
def tDrop (te : TE) : TS := fun D σ H => te σ H fun _ H1 => D.nx σ H1
theorem ps_expr (he : PE X e te) (hs : swapsWith e none pos.line X.env = pure false := by rfl) : PS X (.Expr e pos) (tDrop te) := by
  intro pins s σ H D I h
  exact wpAny_Expr_any (thn (he pins s σ H _ I h) fun v s1 ⟨x, H1, I1, r1, q1⟩ => ⟨σ, H1, I1, q1⟩) I.quiet hs
def tRet (te : TE) : TS := fun D σ H => te σ H D.rt
theorem ps_ret (he : PE X e te) : PS X (.Return (some e) pos) (tRet te) := by
  intro pins s σ H D I h
  exact wpAny_Return_some (thn (he pins s σ H _ I h) fun v s1 ⟨x, H1, I1, r1, q1⟩ => ⟨x, σ, H1, I1, r1, q1⟩)
def tIfS (c : TT) (t u : TS) : TS := fun D σ H => c σ H fun b H1 => if b = true then t D σ H1 else u D σ H1
theorem ps_if {c : Expr} {a b : List Stmt} {tc : TT} (hc : PT X c tc) (ha : PSs X a t) (hb : PSs X b u) : PS X (.If c a b pos) (tIfS tc t u) := by
  intro pins s σ H D I h
  refine wpAny_If (thn (hc pins s σ H _ I h) fun d s1 ⟨H1, I1, q1⟩ => ?_)
  cases d with
  | true => exact ha pins s1 σ H1 D I1 q1
  | false => exact hb pins s1 σ H1 D I1 q1
/-- code that the proof never comes to -/
def tNever : TS := fun _ _ _ => False
theorem ps_never : PS X st tNever := fun _ _ _ _ _ _ h => h.elim
end

/-! ### targets -/
abbrev TG := V → St → Hp → (St → Hp → Prop) → Prop
abbrev TGs := List V → St → Hp → (St → Hp → Prop) → Prop
def PG (X : Cx) (target : Expr) (t : TG) : Prop :=
  ∀ (pins : List (Addr × Obj)) (s : Shared) (σ : St) (H : Hp) (v : V) (u : Value) (Q : St → Hp → Prop), Inv X pins σ H s → RelV v u → t v σ H Q →
    wpAny (model X.prog X.w) X.A (assign target X.env u) (fun _ s' => ∃ σ' H', Inv X pins σ' H' s' ∧ Q σ' H') X.xe s
/-- several targets, one after another -/
def PGs (X : Cx) (ts : List Expr) (t : TGs) : Prop :=
  ∀ (pins : List (Addr × Obj)) (s : Shared) (σ : St) (H : Hp) (vs : List V) (us : List Value) (Q : St → Hp → Prop), Inv X pins σ H s → Vals vs us → t vs σ H Q →
    wpAny (model X.prog X.w) X.A (assignInOrder ((assignEach ts X.env).map (·.2)) us) (fun _ s' => ∃ σ' H', Inv X pins σ' H' s' ∧ Q σ' H') X.xe s
/-- o[i] = v, by values -/
abbrev TSet := V → V → V → Hp → (Hp → Prop) → Prop
def PSet (X : Cx) (t : TSet) : Prop :=
  ∀ (pins : List (Addr × Obj)) (s : Shared) (σ : St) (H : Hp) (o i v : V) (ov iv u : Value) (Q : Hp → Prop), Inv X pins σ H s → RelV o ov → RelV i iv → RelV v u → t o i v H Q →
    wpAny (model X.prog X.w) X.A (setItem ov iv u) (fun _ s' => ∃ H', Inv X pins σ H' s' ∧ Q H') X.xe s
section
variable {X : Cx} {pos : Pos}
def gName (i : Nat) : TG := fun v σ H Q => Q (σ.set i (some v)) H
theorem pg_name {i : Nat} {x : Str} (hN : X.N.Nodup) (hi : X.N[i]? = some x) (hx : Loc X.env.scope x) (hf : X.fn x = true ∨ X.env.scope.names.lookup x = some .local := by first | exact .inl rfl | exact .inr rfl | assumption) : PG X (.Name x pos) (gName i) := by
  intro pins s σ H v u Q I r h
  exact wpAny_assign_Name (store_ok I hN hi hx r (fun s' I' => ⟨_, H, I', h⟩) hf)
def gNil : TGs := fun vs σ H Q => vs = [] ∧ Q σ H
def gCons (t : TG) (u : TGs) : TGs := fun vs σ H Q => ∃ v r, vs = v :: r ∧ t v σ H fun σ' H' => u r σ' H' Q
theorem pgs_nil : PGs X [] gNil := by
  intro pins s σ H vs us Q I r h
  obtain ⟨e, h⟩ := h
  subst e
  cases r
  exact assignInOrder_nil ⟨σ, H, I, h⟩
theorem pgs_cons {e : Expr} {es : List Expr} {t : TG} {u : TGs} (h1 : PG X e t) (h2 : PGs X es u)
    (hs : (assignEach (e :: es) X.env).map (·.2) = assign e X.env :: (assignEach es X.env).map (·.2) := by rfl) : PGs X (e :: es) (gCons t u) := by
  intro pins s σ H vs us Q I r h
  obtain ⟨v, vr, e1, h⟩ := h
  subst e1
  cases r with
  | cons r rr =>
    rw [hs]
    refine assignInOrder_cons (thn (h1 pins s σ H _ _ _ I r h) fun _ s1 ⟨σ1, H1, I1, q1⟩ => ?_)
    exact h2 pins s1 σ1 H1 _ _ Q I1 rr q1
/-- (a, b, ..) = a tuple of that length -/
def gTup (K : PySem.W.Frag) (n : Nat) (t : TGs) : TG := fun v σ H Q => ∃ a xs, v = .ref a ∧ SqT K H a xs ∧ xs.length = n ∧ t xs σ H Q
theorem pg_tup {es : List Expr} {k : Nat} {t : TGs} {n : Nat} (hc : X.calm = true) (h : PGs X es t)
    (hn : (assignEach es X.env).length = n := by rfl) (hst : (assignEach es X.env).findIdx? (·.1) = none := by rfl) : PG X (.Tuple es k pos) (gTup X.K n t) := by
  intro pins s σ H v u Q I r hw
  obtain ⟨a, xs, e1, hq, hl, hw⟩ := hw
  subst e1
  cases r
  obtain ⟨its, rv, ht, hz⟩ := I.tuple hq
  refine assign_Tuple_tuple (I.ok.hd hc) ht (by simp [hn, ← hl, rv.length]) hst fun h' hx => ?_
  have I1 : Inv X pins σ H { s with heap := h' } := I.kept (t' := s.toks) fun b o e => hx b o (Nat.ne_of_lt (Heap.lt_size e)) e
  exact h pins _ σ H xs _ Q I1 (by simpa using rv) hw
/-- o[i] = .. -/
def gSub (to ti : TE) (t : TSet) : TG := fun v σ H Q => to σ H fun o H1 => ti σ H1 fun i H2 => t o i v H2 fun H3 => Q σ H3
theorem pg_sub {o i : Expr} {to ti : TE} {t : TSet} (ho : PE X o to) (hi : PE X i ti) (hs : PSet X t)
    (ha : ∀ v, assign (.Subscript o i pos) X.env v = (do
      let ov ← holding [v] (eval o X.env)
      let iv ← holding [v, ov] (eval i X.env)
      standAt pos
      holding [v, ov, iv] (setItem ov iv v)
      release [v, ov, iv] []) := by intro _; rfl) : PG X (.Subscript o i pos) (gSub to ti t) := by
  intro pins s σ H v u Q I r h
  rw [ha]
  refine wpAny_bind (wpAny_holding (thn (ho pins s σ H _ I h) fun ov s1 ⟨x, H1, I1, r1, q1⟩ => ?_))
  refine wpAny_bind (wpAny_holding (thn (hi pins s1 σ H1 _ I1 q1) fun iv s2 ⟨y, H2, I2, r2, q2⟩ => ?_))
  refine wpAny_bind (wpAny_standAt (wpAny_bind (wpAny_holding (thn (hs pins s2 σ H2 x y v ov iv u _ I2 r1 r2 r q2) fun _ s3 ⟨H3, I3, q3⟩ => ?_))))
  exact wpAny_release ⟨σ, H3, I3, q3⟩
/-- target = value -/
def tAsg (te : TE) (g : TG) : TS := fun D σ H => te σ H fun x H1 => g x σ H1 D.nx
theorem ps_asg {tg e : Expr} {te : TE} {g : TG} (he : PE X e te) (hg : PG X tg g) (hs : swapsWithSole [tg] e pos.line X.env = pure false := by rfl) (hw : swappedStores [tg] e X.env = pure none := by rfl)
    (h1 : (assignEach [tg] X.env).map (·.2) = [assign tg X.env] := by rfl) : PS X (.Assign [tg] e pos) (tAsg te g) := by
  intro pins s σ H D I h
  refine wpAny_Assign_stores (thn (he pins s σ H _ I h) fun v s1 ⟨x, H1, I1, r1, q1⟩ => ?_) hs hw
  rw [h1]
  exact thn (hg pins s1 σ H1 x v _ I1 r1 q1) fun _ s2 q => q
/-- name = value -/
theorem ps_set {i : Nat} {x : Str} {e : Expr} {te : TE} {pos' : Pos} (hN : X.N.Nodup) (hi : X.N[i]? = some x) (hx : Loc X.env.scope x) (he : PE X e te) (hs : swapsWith e (some (.Name x pos')) pos.line X.env = pure false := by rfl) (hf : X.fn x = true ∨ X.env.scope.names.lookup x = some .local := by first | exact .inl rfl | exact .inr rfl | assumption) :
    PS X (.Assign [.Name x pos'] e pos) (tAsg te (gName i)) := by
  intro pins s σ H D I h
  refine wpAny_Assign_Name (thn (he pins s σ H _ I h) fun v s1 ⟨y, H1, I1, r1, q1⟩ => ?_) hs
  exact store_ok I1 hN hi hx r1 (fun s2 I2 => ⟨_, H1, I2, q1⟩) hf
end

/-! ### while -/
section
variable {X : Cx} {pos : Pos}
/-- the invariant W with its measure -/
def tWhile (c : TT) (tb : TS) : TS := fun D σ H => ∃ W : Nat → St → Hp → Prop, (∃ m, W m σ H) ∧ ∀ m σ H, W m σ H →
  c σ H fun b H1 => if b = true then ∃ N : St → Hp → Prop, (∀ σ' H', N σ' H' → ∃ m', m' < m ∧ W m' σ' H') ∧ tb { D with nx := N, ct := N, bk := D.nx } σ H1 else D.nx σ H1
theorem ps_while {c : Expr} {body : List Stmt} {tc : TT} {tb : TS} (hp : PassesOwn (model X.prog X.w) X.A X.env X.xe) (hc : PT X c tc) (hb : PSs X body tb) : PS X (.While c body [] pos) (tWhile tc tb) := by
  intro pins s σ H D I h
  obtain ⟨W, ⟨m0, w0⟩, turn⟩ := h
  refine wpAny_While (codeAny_whileLoop (fun n s' => ∃ σ' H', Inv X pins σ' H' s' ∧ W n σ' H') ?_ m0 ⟨σ, H, I, w0⟩)
  rintro n s1 ⟨σ1, H1, I1, w1⟩
  refine wpAny_passesOwn hp (thn (hc pins s1 σ1 H1 _ I1 (turn n σ1 H1 w1)) fun b s2 ⟨H2, I2, q2⟩ => ?_)
  cases b with
  | true =>
    obtain ⟨N, hN, q2⟩ := q2
    rw [if_pos rfl]
    refine wpAny_passesOwn hp (thn (hb pins s2 σ1 H2 _ I2 q2) fun f s3 q3 => ?_)
    cases f with
    | next =>
      obtain ⟨σ3, H3, I3, n3⟩ := q3
      obtain ⟨m', hm, w3⟩ := hN σ3 H3 n3
      exact ⟨m', hm, σ3, H3, I3, w3⟩
    | cont =>
      obtain ⟨σ3, H3, I3, n3⟩ := q3
      obtain ⟨m', hm, w3⟩ := hN σ3 H3 n3
      exact ⟨m', hm, σ3, H3, I3, w3⟩
    | brk => exact q3
    | ret v => exact q3
  | false =>
    rw [if_neg Bool.false_ne_true]
    exact wpAny_execs_nil ⟨σ1, H2, I2, q2⟩
end

/-! ### what a loop or a comprehension walks -/
/-- at turn i: it yields x (the heap may grow), or it stops -/
structure It where
  go : Nat → Hp → Prop
  yld : Nat → Hp → V → Hp → Prop
  stop : Nat → Hp → Prop
/-- the iterator's own objects may turn: they are not the frame's, not pinned, younger than the entry (or a comprehension's own) -/
def FpOk (X : Cx) (pins : List (Addr × Obj)) (H : Hp) (b : Addr) : Prop :=
  H b = none ∧ b ≠ X.env.locals ∧ b ∉ X.fs ∧ (b ∈ X.ex ∨ X.s₀.heap.objs.size ≤ b) ∧ (∀ x c, X.env.cells.lookup x = some c → c ≠ b) ∧ ∀ p ∈ X.pn ++ pins, p.1 ≠ b
theorem Inv.fpOk {X : Cx} {pins : List (Addr × Obj)} {σ : St} {H H' : Hp} {s : Shared} {b : Addr} (I : Inv X pins σ H s) (hb : s.heap.objs.size ≤ b) (hn : H' b = none) : FpOk X pins H' b := by
  refine ⟨hn, Nat.ne_of_gt (Nat.lt_of_lt_of_le I.lt hb), I.nofs hb, .inr (Nat.le_trans I.sz hb), fun x c e z => ?_, fun p hp z => ?_⟩
  · obtain ⟨v, q⟩ := I.cell x c e
    exact absurd (Nat.lt_of_lt_of_le q.lt (by rw [z]; exact hb)) (Nat.lt_irrefl _)
  · exact absurd (Nat.lt_of_lt_of_le (Heap.lt_size (I.pin p hp).1) (by rw [z]; exact hb)) (Nat.lt_irrefl _)
structure Turn (P : Program) (w : World) (K : PySem.W.Frag) (tg : Expr) (J : It) (fp : List Addr) (it : Addr) (tn : Nat → Heap → Prop) : Prop where
  mem : it ∈ fp
  obj : ∀ i h, tn i h → ∀ b ∈ fp, ∃ o, h.get? b = some o ∧ ∀ v, o.data ≠ .cell v
  keep : ∀ i h h', tn i h → (∀ b ∈ fp, ∀ o, h.get? b = some o → h'.get? b = some o) → tn i h'
  item : ∀ (X : Cx), X.prog = P → X.w = w → X.K = K → X.calm = true → ∀ (i : Nat) (pins : List (Addr × Obj)) (s : Shared) (σ : St) (H : Hp) (E : Value → Shared → Prop), Inv X pins σ H s → (∀ b ∈ fp, FpOk X pins H b) → tn i s.heap → J.go i H →
    wpAny (model P w) X.A (pyNext (.ref it)) (fun r s1 => ∃ u, r = some u ∧
      wpAny (model P w) X.A (letOwnedTupleGo tg (.ref it) u) (fun _ s2 => ∃ x H', Inv X pins σ H' s2 ∧ RelV x u ∧ J.yld i H x H' ∧ tn (i + 1) s2.heap ∧ ∀ b ∈ fp, H' b = none) E s1) E s
  done : ∀ (X : Cx), X.prog = P → X.w = w → X.K = K → X.calm = true → ∀ (i : Nat) (pins : List (Addr × Obj)) (s : Shared) (σ : St) (H : Hp) (E : Value → Shared → Prop), Inv X pins σ H s → (∀ b ∈ fp, FpOk X pins H b) → tn i s.heap → J.stop i H →
    wpAny (model P w) X.A (pyNext (.ref it)) (fun r s1 => r = none ∧ Inv X pins σ H s1) E s
  self : ∀ (A : Around) (i : Nat) (s : Shared) (Q : Value → Shared → Prop) (E : Value → Shared → Prop), tn i s.heap → Q (.ref it) s → wpAny (model P w) A (pyIter (.ref it)) Q E s
abbrev TI := St → Hp → (It → Hp → Prop) → Prop
/-- an iterator has come -/
def PIE (X : Cx) (pins : List (Addr × Obj)) (σ : St) (tg : Expr) (R : It → Hp → Prop) (itv : Value) (s2 : Shared) : Prop :=
  ∃ (it : Addr) (fp : List Addr) (tn : Nat → Heap → Prop) (J : It) (H' : Hp), itv = .ref it ∧ Inv X pins σ H' s2 ∧ Turn X.prog X.w X.K tg J fp it tn ∧ tn 0 s2.heap ∧ (∀ b ∈ fp, FpOk X pins H' b) ∧ R J H'
def PI (X : Cx) (tg iter : Expr) (wi : TI) : Prop :=
  ∀ (pins : List (Addr × Obj)) (s : Shared) (σ : St) (H : Hp) (R : It → Hp → Prop), Inv X pins σ H s → wi σ H R →
    wpAny (model X.prog X.w) X.A (eval iter X.env) (fun v s1 => wpAny (model X.prog X.w) X.A (pyIter v) (PIE X pins σ tg R) X.xe s1) X.xe s

/-- the step ahead of the store is nothing for an iterator that keeps no tuple -/
theorem go_of {M : Model} {A : Around} {E : Value → Shared → Prop} {s : Shared} {tg : Expr} {it : Addr} {u : Value} {o : Obj} {n : String} {vs : Array Value} {Q : Unit → Shared → Prop} (ho : s.heap.get? it = some o) (hc : o.cls = .type n) (hd : o.data = .fields vs)
    (hn : ["enumerate", "zip", "dict_itemiterator", "dict_reverseitemiterator", "odict_iterator", "itertools.zip_longest", "itertools.pairwise"].contains n = false) (hQ : Q () s) : wpAny M A (letOwnedTupleGo tg (.ref it) u) Q E s := by
  unfold letOwnedTupleGo
  cases tg <;> first
    | exact wpAny_pure hQ
    | (cases u <;> first
        | exact wpAny_pure hQ
        | (refine wpAny_bind (wpAny_load ho ?_)
           rw [hc, hd]
           show wpAny M A (if (["enumerate", "zip", "dict_itemiterator", "dict_reverseitemiterator", "odict_iterator", "itertools.zip_longest", "itertools.pairwise"].contains n && vs[0]? == some (rawInt _)) = true then _ else _) Q E s
           rw [if_neg (by intro h; rw [hn, Bool.false_and] at h; cases h)]
           exact wpAny_pure hQ))

/-- the list at a, as it stands at each turn (a loop may append to it) -/
def Itl (K : PySem.W.Frag) (a : Addr) : It :=
  ⟨fun i H => ∃ xs x, SqL K H a xs ∧ xs[i]? = some x, fun i H x H' => H' = H ∧ ∀ xs, SqL K H a xs → xs[i]? = some x, fun i H => ∃ xs, SqL K H a xs ∧ xs.length ≤ i⟩
/-- lo, lo + 1, .. (n of them) -/
def Itr (lo : Int) (n : Nat) : It := ⟨fun i _ => i < n, fun i H x H' => H' = H ∧ x = .int (lo + i), fun i _ => n ≤ i⟩
theorem turn_list {P : Program} {w : World} {K : PySem.W.Frag} {tg : Expr} (a it : Addr) : Turn P w K tg (Itl K a) [it] it (fun i h => h.IsListIter it a i) where
  mem := by simp
  obj := fun i h st b hb => by
    have e : b = it := by simpa using hb
    subst e
    obtain ⟨o, e, c, d⟩ := st
    exact ⟨o, e, fun v z => by rw [d] at z; cases z⟩
  keep := fun i h h' st k => st.at fun o e => k it (by simp) o e
  item := by
    intro X hP hw hK hc i pins s σ H E I hf st hg
    subst hP hw hK
    obtain ⟨xs, x, hq, hx⟩ := hg
    obtain ⟨its, rv, p, hz⟩ := I.list hq
    obtain ⟨u, hu, ru⟩ := rv.get hx
    obtain ⟨f0, f1, f2, f3, f4, f5⟩ := hf it (by simp)
    refine wpAny_pyNext_list_item st p.isList (x := u) (by simpa using hu) fun h' st' sb => ?_
    have I1 : Inv X pins σ H { s with heap := h' } := I.turned (t' := s.toks) (fun b o hb e => (sb.2 b hb).trans e) f0 f1 f3 f4 f5
    obtain ⟨o, e, c, d⟩ := id st'
    exact ⟨u, rfl, go_of (s := { s with heap := h' }) e c d (by decide) ⟨x, H, I1, ru, ⟨rfl, fun ys hy => by rw [I.list_inj hy hq]; exact hx⟩, st', fun b hb => (hf b hb).1⟩⟩
  done := by
    intro X hP hw hK hc i pins s σ H E I hf st hg
    subst hP hw hK
    obtain ⟨xs, hq, hx⟩ := hg
    obtain ⟨its, rv, p, hz⟩ := I.list hq
    obtain ⟨f0, f1, f2, f3, f4, f5⟩ := hf it (by simp)
    have hl := rv.length
    exact wpAny_pyNext_list_end (I.ok.hd hc) st p.isList (by simp; omega) fun h' eb => ⟨rfl, I.turned (t' := s.toks) (fun b o hb e => eb b o hb e) f0 f1 f3 f4 f5⟩
  self := fun _ _ _ _ _ st h => wpAny_pyIter_listiter st h
theorem turn_range {P : Program} {w : World} {K : PySem.W.Frag} {tg : Expr} (it : Addr) (lo : Int) (n : Nat) : Turn P w K tg (Itr lo n) [it] it (fun i h => IsRangeIter h it (lo + (i : Nat) * 1) ((n : Int) - (i : Nat)) 1) where
  mem := by simp
  obj := fun i h st b hb => by
    have e : b = it := by simpa using hb
    subst e
    exact ⟨_, st, fun v z => by
      have z' : Data.fields _ = Data.cell v := z
      cases z'⟩
  keep := fun i h h' st k => k it (by simp) _ st
  item := by
    intro X hP hw hK hc i pins s σ H E I hf st hg
    subst hP hw hK
    obtain ⟨f0, f1, f2, f3, f4, f5⟩ := hf it (by simp)
    have W := Walks.range (prog := X.prog) (w := X.w) (I.ok.hd hc) it lo 1 n
    refine W.item i s _ _ hg st fun v h' tk hv st' kk => ?_
    obtain ⟨t, rfl⟩ := hv
    have I1 : Inv X pins σ H { s with heap := h', toks := tk } := I.turned (fun b o hb e => kk b o (by simpa using hb) e) f0 f1 f3 f4 f5
    refine ⟨_, rfl, go_of (s := { s with heap := h', toks := tk }) (n := "range_iterator") st' rfl rfl (by decide) ⟨.int (lo + i), H, I1, ⟨t, ?_⟩, ⟨rfl, rfl⟩, st', fun b hb => (hf b hb).1⟩⟩
    rw [Int.mul_one]
  done := by
    intro X hP hw hK hc i pins s σ H E I hf st hg
    subst hP hw hK
    obtain ⟨f0, f1, f2, f3, f4, f5⟩ := hf it (by simp)
    exact wpAny_pyNext_range_end (I.ok.hd hc) st (by have : n ≤ i := hg; omega) fun h' eb => ⟨rfl, I.turned (t' := s.toks) (fun b o hb e => eb b o hb e) f0 f1 f3 f4 f5⟩
  self := fun _ _ _ _ _ st h => wpAny_pyIter_rangeiter st h
end L2

namespace L2
open PySem PySem.Spec PyProof.Rows
section
variable {X : Cx} {tg : Expr}
def iList (K : PySem.W.Frag) (tl : TE) : TI := fun σ H R => tl σ H fun x H1 => ∃ a, x = .ref a ∧ (∃ xs, SqL K H1 a xs) ∧ R (Itl K a) H1
theorem pi_list {l : Expr} {tl : TE} (hl : PE X l tl) : PI X tg l (iList X.K tl) := by
  intro pins s σ H R I h
  refine thn (hl pins s σ H _ I h) fun v s1 ⟨x, H1, I1, r1, q1⟩ => ?_
  obtain ⟨a, e, ⟨xs, hq⟩, q⟩ := q1
  subst e
  cases r1
  obtain ⟨its, rv, p, hz⟩ := I1.list hq
  refine wpAny_pyIter_list p.isList ?_
  refine ⟨s1.heap.objs.size, [s1.heap.objs.size], _, _, H1, rfl, I1.kept (t' := s1.toks) fun b o e => Heap.get?_push_of_some _ e, turn_list a _, ⟨_, Heap.get?_push_size _ rfl, rfl, rfl⟩, fun b hb => ?_, q⟩
  have e : b = s1.heap.objs.size := by simpa using hb
  subst e
  exact I1.fpOk (Nat.le_refl _) (I1.hok.fresh (Nat.le_refl _))
/-- a range object just made, walked -/
theorem range_it {pins : List (Addr × Obj)} {σ : St} {H : Hp} {s : Shared} {R : It → Hp → Prop} {E : Value → Shared → Prop} {lo hi : Int} {t u v : Tok} {tk : Nat} (I : Inv X pins σ H s) (h1 : -(2 ^ 62) ≤ lo) (h2 : lo < 2 ^ 62) (h3 : -(2 ^ 62) ≤ hi) (h4 : hi < 2 ^ 62)
    (q : R (Itr lo (hi - lo).toNat) H) : wpAny (model X.prog X.w) X.A (pyIter (.ref s.heap.objs.size)) (PIE X pins σ tg R) E { s with heap := s.heap.push { cls := .type "range", data := .fields #[.int lo t, .int hi u, .int 1 v] }, toks := tk } := by
  refine wpAny_pyIter_range (IsRange.new ..) (small_one h1 h2 h3 h4) ?_
  have I1 : Inv X pins σ H { s with heap := s.heap.push { cls := .type "range", data := .fields #[.int lo t, .int hi u, .int 1 v] }, toks := tk } := I.kept fun b o e => Heap.get?_push_of_some _ e
  refine ⟨(s.heap.push { cls := .type "range", data := .fields #[.int lo t, .int hi u, .int 1 v] }).objs.size, [(s.heap.push { cls := .type "range", data := .fields #[.int lo t, .int hi u, .int 1 v] }).objs.size], _, _, H, rfl,
    I1.kept (t' := tk) fun b o e => Heap.get?_push_of_some _ e, turn_range _ lo (hi - lo).toNat, ?_, fun b hb => ?_, q⟩
  · have e1 : lo + ((0 : Nat) : Int) * 1 = lo := by simp
    have e2 : (((hi - lo).toNat : Nat) : Int) - ((0 : Nat) : Int) = Builtin.Range.rangeSize lo hi 1 := by rw [rangeSize_one]; split <;> omega
    show IsRangeIter _ _ (lo + ((0 : Nat) : Int) * 1) ((((hi - lo).toNat : Nat) : Int) - ((0 : Nat) : Int)) 1
    rw [e1, e2]
    exact Heap.get?_push_size _ rfl
  · have e : b = (s.heap.push { cls := .type "range", data := .fields #[.int lo t, .int hi u, .int 1 v] }).objs.size := by simpa using hb
    subst e
    exact I1.fpOk (Nat.le_refl _) (I1.hok.fresh (Nat.le_refl _))
def iRng1 (ta : TA) : TI := fun σ H R => ta σ H fun vs H1 => ∃ j : Int, vs = [.int j] ∧ -(2 ^ 62) ≤ j ∧ j < 2 ^ 62 ∧ R (Itr 0 j.toNat) H1
theorem pi_range1 {a : Expr} {ta : TA} {p pos : Pos} (hg : Gl X "range") (hm : X.mg "range" = none) (ha : PA X [a] ta) (hs : starEach [a] X.env = [(false, eval a X.env)] := by rfl) : PI X tg (.Call (.Name "range" p) [a] [] pos) (iRng1 ta) := by
  intro pins s σ H R I h
  refine Call_ (ld_blt I hg hm boot_range (PyProof.Rows.callWith_type1 (thn (ha pos pins s σ H _ I h) fun us s1 ⟨vs, H1, I1, r1, q1⟩ => ?_) hs rfl))
  obtain ⟨j, e, q1, q2, q⟩ := q1
  subst e
  cases r1 with
  | cons r rr =>
    cases rr
    obtain ⟨t, rfl⟩ := r
    exact call_range_1 (range_it I1 (by omega) (by omega) q1 q2 (by simpa using q))

/-! ### for -/
/-- W: the invariant by the turn and a measure; N: what the body is to reach -/
def tFor (wi : TI) (g : TG) (tb : TS) : TS := fun D σ H => wi σ H fun J H1 => ∃ W : Nat → Nat → St → Hp → Prop, (∃ m, W 0 m σ H1) ∧ ∀ i m σ H, W i m σ H →
  (J.stop i H ∧ D.nx σ H) ∨ (J.go i H ∧ ∃ N : St → Hp → Prop, (∀ σ' H', N σ' H' → ∃ m', m' < m ∧ W (i + 1) m' σ' H') ∧ ∀ x H', J.yld i H x H' → g x σ H' fun σ2 H2 => tb { D with nx := N, ct := N, bk := D.nx } σ2 H2)
/-- the records at fp as they stand -/
def pinsAt (fp : List Addr) (h : Heap) : List (Addr × Obj) := fp.filterMap fun b => (h.get? b).map fun o => (b, o)
theorem mem_pinsAt {fp : List Addr} {h : Heap} {b : Addr} {o : Obj} (hb : b ∈ fp) (e : h.get? b = some o) : (b, o) ∈ pinsAt fp h := List.mem_filterMap.mpr ⟨b, hb, by rw [e]; rfl⟩
theorem of_pinsAt {fp : List Addr} {h : Heap} {p : Addr × Obj} (hp : p ∈ pinsAt fp h) : p.1 ∈ fp ∧ h.get? p.1 = some p.2 := by
  obtain ⟨b, hb, e⟩ := List.mem_filterMap.mp hp
  cases q : h.get? b with
  | none => rw [q] at e; cases e
  | some o =>
    rw [q] at e
    have e' : (b, o) = p := Option.some.inj e
    subst e'
    exact ⟨hb, q⟩
theorem Inv.pinned {pins : List (Addr × Obj)} {σ : St} {H : Hp} {s : Shared} {fp : List Addr} (I : Inv X pins σ H s) (hf : ∀ b ∈ fp, FpOk X pins H b) (ho : ∀ b ∈ fp, ∃ o, s.heap.get? b = some o ∧ ∀ v, o.data ≠ .cell v) : Inv X (pins ++ pinsAt fp s.heap) σ H s :=
  I.pins_of fun p hp => (List.mem_append.mp hp).elim (fun z => I.pin p (List.mem_append_right _ z)) fun z => by
    obtain ⟨hb, e⟩ := of_pinsAt z
    obtain ⟨f0, f1, f2, _⟩ := hf p.1 hb
    obtain ⟨o, e', d⟩ := ho p.1 hb
    rw [e] at e'; cases e'
    exact ⟨e, f0, f1, f2, d⟩
theorem Inv.unpinned {pins pl : List (Addr × Obj)} {σ : St} {H : Hp} {s : Shared} (I : Inv X (pins ++ pl) σ H s) : Inv X pins σ H s := I.pins_of fun p hp => I.pin p (List.mem_append_right _ (List.mem_append_left _ hp))
theorem ps_for {iter : Expr} {body : List Stmt} {wi : TI} {g : TG} {tb : TS} {pos : Pos} (hp : PassesOwn (model X.prog X.w) X.A X.env X.xe) (hc : X.calm = true) (hi : PI X tg iter wi) (hg : PG X tg g) (hb : PSs X body tb)
    (hs : ∀ x, foldedSetIterable iter X.env x = pure x := by intro _; rfl) : PS X (.For tg iter body [] pos) (tFor wi g tb) := by
  intro pins s σ H D I h
  refine wpAny_For (thn (hi pins s σ H _ I h) fun v s1 h1 => thn h1 fun itv s2 h2 => ?_) hs
  obtain ⟨it, fp, tn, J, H2, e, I2, T, st2, f2, W, ⟨m0, w0⟩, turn⟩ := h2
  subst e
  -- what stays true of the iterator's objects through the loop
  have stat : ∀ {H' : Hp}, (∀ b ∈ fp, H' b = none) → ∀ b ∈ fp, FpOk X pins H' b := fun hn b hb => ⟨hn b hb, (f2 b hb).2⟩
  refine codeAny_forLoop_any (fun n s' => ∃ i σ' H', Inv X pins σ' H' s' ∧ tn i s'.heap ∧ (∀ b ∈ fp, H' b = none) ∧ W i n σ' H') ?_ m0 ⟨0, σ, H2, I2, st2, fun b hb => (f2 b hb).1, w0⟩
  rintro n s3 ⟨i, σ3, H3, I3, st3, fr3, w3⟩
  rcases turn i n σ3 H3 w3 with ⟨stop, qn⟩ | ⟨go, N, hN, step⟩
  · refine wpAny_passesOwn hp (thn (T.done X rfl rfl rfl hc i pins s3 σ3 H3 X.xe I3 (stat fr3) st3 stop) fun r s4 ⟨hr, I4⟩ => ?_)
    subst hr
    exact wpAny_execs_nil ⟨σ3, H3, I4, qn⟩
  · refine wpAny_passesOwn hp (thn (T.item X rfl rfl rfl hc i pins s3 σ3 H3 X.xe I3 (stat fr3) st3 go) fun r s4 ⟨u, hr, h4⟩ => ?_)
    subst hr
    refine wpAny_passesOwn hp (thn h4 fun _ s5 ⟨x, H5, I5, r5, y5, st5, fr5⟩ => ?_)
    have I5' := I5.pinned (stat fr5) (T.obj _ _ st5)
    refine wpAny_passesOwn hp (thn (hg _ s5 σ3 H5 x u _ I5' r5 (step x H5 y5)) fun _ s6 ⟨σ6, H6, I6, q6⟩ => ?_)
    refine wpAny_passesOwn hp (thn (hb _ s6 σ6 H6 _ I6 q6) fun f s7 q7 => ?_)
    have again : ∀ {σ7 : St} {H7 : Hp}, Inv X (pins ++ pinsAt fp s5.heap) σ7 H7 s7 → N σ7 H7 → ∃ m, m < n ∧ ∃ i σ' H', Inv X pins σ' H' s7 ∧ tn i s7.heap ∧ (∀ b ∈ fp, H' b = none) ∧ W i m σ' H' := fun {σ7 H7} I7 n7 => by
      obtain ⟨m', hm, w7⟩ := hN σ7 H7 n7
      refine ⟨m', hm, i + 1, σ7, H7, I7.unpinned, T.keep _ _ _ st5 fun b hb o e => (I7.pin (b, o) (List.mem_append_right _ (List.mem_append_right _ (mem_pinsAt hb e)))).1, fun b hb => ?_, w7⟩
      obtain ⟨o, e, d⟩ := T.obj _ _ st5 b hb
      exact (I7.pin (b, o) (List.mem_append_right _ (List.mem_append_right _ (mem_pinsAt hb e)))).2.1
    cases f with
    | next => obtain ⟨σ7, H7, I7, n7⟩ := q7; exact again I7 n7
    | cont => obtain ⟨σ7, H7, I7, n7⟩ := q7; exact again I7 n7
    | brk => obtain ⟨σ7, H7, I7, q7⟩ := q7; exact ⟨σ7, H7, I7.unpinned, q7⟩
    | ret v => obtain ⟨x7, σ7, H7, I7, r7, q7⟩ := q7; exact ⟨x7, σ7, H7, I7.unpinned, r7, q7⟩
end

/-! ### the forms one uses -/
/-- over a list that the body leaves as it is -/
theorem for_list {K : PySem.W.Frag} {a : Addr} {xs : List V} {g : TG} {tb : TS} {D : Ends} {σ : St} {H : Hp} (Pv : Nat → St → Hp → Prop) (h0 : Pv 0 σ H) (hl : ∀ i σ H, i ≤ xs.length → Pv i σ H → SqL K H a xs)
    (hs : ∀ i x σ H, xs[i]? = some x → Pv i σ H → g x σ H fun σ2 H2 => tb { D with nx := Pv (i + 1), ct := Pv (i + 1), bk := D.nx } σ2 H2) (hd : ∀ σ H, Pv xs.length σ H → D.nx σ H) :
    ∃ W : Nat → Nat → St → Hp → Prop, (∃ m, W 0 m σ H) ∧ ∀ i m σ H, W i m σ H →
      ((Itl K a).stop i H ∧ D.nx σ H) ∨ ((Itl K a).go i H ∧ ∃ N : St → Hp → Prop, (∀ σ' H', N σ' H' → ∃ m', m' < m ∧ W (i + 1) m' σ' H') ∧ ∀ x H', (Itl K a).yld i H x H' → g x σ H' fun σ2 H2 => tb { D with nx := N, ct := N, bk := D.nx } σ2 H2) := by
  refine ⟨fun i m σ H => m = xs.length - i ∧ i ≤ xs.length ∧ Pv i σ H, ⟨xs.length, by simp, Nat.zero_le _, h0⟩, ?_⟩
  rintro i m σ H ⟨rfl, hi, p⟩
  have q := hl i σ H hi p
  by_cases hlt : i < xs.length
  · refine .inr ⟨⟨xs, xs[i], q, by simp [hlt]⟩, Pv (i + 1), fun σ' H' p' => ⟨xs.length - (i + 1), by omega, rfl, hlt, p'⟩, fun x H' y => ?_⟩
    obtain ⟨e, y⟩ := y
    subst e
    exact hs i x σ _ (y xs q) p
  · have e : i = xs.length := by omega
    subst e
    exact .inl ⟨⟨xs, q, Nat.le_refl _⟩, hd σ H p⟩
theorem for_range {lo : Int} {n : Nat} {g : TG} {tb : TS} {D : Ends} {σ : St} {H : Hp} (Pv : Nat → St → Hp → Prop) (h0 : Pv 0 σ H)
    (hs : ∀ i σ H, i < n → Pv i σ H → g (.int (lo + i)) σ H fun σ2 H2 => tb { D with nx := Pv (i + 1), ct := Pv (i + 1), bk := D.nx } σ2 H2) (hd : ∀ σ H, Pv n σ H → D.nx σ H) :
    ∃ W : Nat → Nat → St → Hp → Prop, (∃ m, W 0 m σ H) ∧ ∀ i m σ H, W i m σ H →
      ((Itr lo n).stop i H ∧ D.nx σ H) ∨ ((Itr lo n).go i H ∧ ∃ N : St → Hp → Prop, (∀ σ' H', N σ' H' → ∃ m', m' < m ∧ W (i + 1) m' σ' H') ∧ ∀ x H', (Itr lo n).yld i H x H' → g x σ H' fun σ2 H2 => tb { D with nx := N, ct := N, bk := D.nx } σ2 H2) := by
  refine ⟨fun i m σ H => m = n - i ∧ i ≤ n ∧ Pv i σ H, ⟨n, by simp, Nat.zero_le _, h0⟩, ?_⟩
  rintro i m σ H ⟨rfl, hi, p⟩
  by_cases hlt : i < n
  · refine .inr ⟨hlt, Pv (i + 1), fun σ' H' p' => ⟨n - (i + 1), by omega, rfl, hlt, p'⟩, fun x H' y => ?_⟩
    obtain ⟨e, y⟩ := y
    subst e y
    exact hs i σ _ hlt p
  · have e : i = n := by omega
    subst e
    exact .inl ⟨Nat.le_refl _, hd σ H p⟩
end L2

namespace L2
open PySem PySem.Spec PyProof.Rows

abbrev R2 := V → V → Hp → VK → Prop
/-- a two-place operation on values: f is binaryOp op, inplaceOp op or compareOp op -/
def OpR (X : Cx) (f : Value → Value → Sem Value) (r : R2) : Prop :=
  ∀ (pins : List (Addr × Obj)) (s : Shared) (σ : St) (H : Hp) (x y : V) (v u : Value) (Q : VK), Inv X pins σ H s → RelV x v → RelV y u → r x y H Q →
    wpAny (model X.prog X.w) X.A (f v u) (EP X pins σ Q) X.xe s
/-- a one-place operation -/
def UnR (X : Cx) (f : Value → Sem Value) (r : V → Hp → VK → Prop) : Prop :=
  ∀ (pins : List (Addr × Obj)) (s : Shared) (σ : St) (H : Hp) (x : V) (v : Value) (Q : VK), Inv X pins σ H s → RelV x v → r x H Q →
    wpAny (model X.prog X.w) X.A (f v) (EP X pins σ Q) X.xe s
/-- a call of a value that is known (a builtin, a type) with values -/
def CallR (X : Cx) (f : Value) (r : List V → Hp → VK → Prop) : Prop :=
  ∀ (pins : List (Addr × Obj)) (s : Shared) (σ : St) (H : Hp) (xs : List V) (us : List Value) (Q : VK), Inv X pins σ H s → Vals xs us → r xs H Q →
    wpAny (model X.prog X.w) X.A (call f us) (EP X pins σ Q) X.xe s

def tOp (r : R2) (ta tb : TE) : TE := fun σ H Q => ta σ H fun x H1 => tb σ H1 fun y H2 => r x y H2 Q
def tUn (r : V → Hp → VK → Prop) (ta : TE) : TE := fun σ H Q => ta σ H fun x H1 => r x H1 Q
/-- ints in, under C, and a value out -/
def rI (C : Int → Int → Prop) (g : Int → Int → V) : R2 := fun x y H Q => ∃ i j, x = .int i ∧ y = .int j ∧ C i j ∧ Q (g i j) H
def rI0 (g : Int → Int → V) : R2 := fun x y H Q => ∃ i j, x = .int i ∧ y = .int j ∧ Q (g i j) H
def rU (g : Int → V) : V → Hp → VK → Prop := fun x H Q => ∃ i, x = .int i ∧ Q (g i) H

section
variable {X : Cx} {a b c : Expr} {ta tb tc : TE} {pos : Pos}

theorem binT (ha : PE X a ta) (hb : PE X b tb) {pins : List (Addr × Obj)} {s : Shared} {σ : St} {H : Hp} {R : V → V → Hp → Prop} (I : Inv X pins σ H s)
    (h : ta σ H fun x H1 => tb σ H1 fun y H2 => R x y H2) {Q : Value → Shared → Prop} {f : Value → Value → Sem Value}
    (hf : ∀ v u s2 x y H2, Inv X pins σ H2 s2 → RelV x v → RelV y u → R x y H2 → wpAny (model X.prog X.w) X.A (f v u) Q X.xe s2) :
    wpAny (model X.prog X.w) X.A (eval a X.env) (fun v s₁ => wpAny (model X.prog X.w) X.A (eval b X.env) (fun u s₂ => wpAny (model X.prog X.w) X.A (f v u) Q X.xe s₂) X.xe s₁) X.xe s := by
  refine thn (ha pins s σ H _ I h) fun v s1 ⟨x, H1, I1, r1, q1⟩ => ?_
  refine thn (hb pins s1 σ H1 _ I1 q1) fun u s2 ⟨y, H2, I2, r2, q2⟩ => ?_
  exact hf v u s2 x y H2 I2 r1 r2 q2

theorem pe_op {op : Operator} {r : R2} (ho : OpR X (binaryOp op) r) (ha : PE X a ta) (hb : PE X b tb) : PE X (.BinOp a op b pos) (tOp r ta tb) := by
  intro pins s σ H Q I h
  exact wpAny_BinOp (binT ha hb I h fun v u s2 x y H2 I2 rx ry q => ho pins s2 σ H2 x y v u Q I2 rx ry q)
theorem pe_un {op : UnaryOp} {r : V → Hp → VK → Prop} (ho : UnR X (unaryOp op) r) (ha : PE X a ta) : PE X (.UnaryOp op a pos) (tUn r ta) := by
  intro pins s σ H Q I h
  exact UnaryOp_ (thn (ha pins s σ H _ I h) fun v s1 ⟨x, H1, I1, r1, q1⟩ => ho pins s1 σ H1 x v Q I1 r1 q1)

/-! ### ints -/
theorem opI {f : Value → Value → Sem Value} {C : Int → Int → Prop} {g : Int → Int → Int}
    (rule : ∀ (i j : Int) (t u : Tok) (s : Shared) (Q : Value → Shared → Prop) (E : Value → Shared → Prop), C i j → Q (.int (g i j) s.toks) { s with toks := s.toks + 1 } → wpAny (model X.prog X.w) X.A (f (.int i t) (.int j u)) Q E s) :
    OpR X f (rI C fun i j => .int (g i j)) := by
  intro pins s σ H x y v u Q I rx ry h
  obtain ⟨i, j, rfl, rfl, hc, q⟩ := h
  obtain ⟨t, rfl⟩ := rx
  obtain ⟨t', rfl⟩ := ry
  exact rule i j t t' s _ _ hc ⟨.int (g i j), H, I.tok _, ⟨_, rfl⟩, q⟩
theorem opI0 {f : Value → Value → Sem Value} {g : Int → Int → Int}
    (rule : ∀ (i j : Int) (t u : Tok) (s : Shared) (Q : Value → Shared → Prop) (E : Value → Shared → Prop), Q (.int (g i j) s.toks) { s with toks := s.toks + 1 } → wpAny (model X.prog X.w) X.A (f (.int i t) (.int j u)) Q E s) :
    OpR X f (rI0 fun i j => .int (g i j)) := by
  intro pins s σ H x y v u Q I rx ry h
  obtain ⟨i, j, rfl, rfl, q⟩ := h
  obtain ⟨t, rfl⟩ := rx
  obtain ⟨t', rfl⟩ := ry
  exact rule i j t t' s _ _ ⟨.int (g i j), H, I.tok _, ⟨_, rfl⟩, q⟩
theorem opB0 {f : Value → Value → Sem Value} {g : Int → Int → Bool}
    (rule : ∀ (i j : Int) (t u : Tok) (s : Shared) (Q : Value → Shared → Prop) (E : Value → Shared → Prop), Q (.bool (g i j)) s → wpAny (model X.prog X.w) X.A (f (.int i t) (.int j u)) Q E s) :
    OpR X f (rI0 fun i j => .bl (g i j)) := by
  intro pins s σ H x y v u Q I rx ry h
  obtain ⟨i, j, rfl, rfl, q⟩ := h
  obtain ⟨t, rfl⟩ := rx
  obtain ⟨t', rfl⟩ := ry
  exact rule i j t t' s _ _ ⟨.bl (g i j), H, I, rfl, q⟩

def CDiv (i j : Int) : Prop := 0 < j ∧ j < 1073741824
def CPow (i j : Int) : Prop := 0 ≤ j ∧ j ≤ 1000000 ∧ i.natAbs < 2 ^ 64
def CMul (i j : Int) : Prop := (-(2 ^ 64) < i ∧ i < 2 ^ 64) ∨ (-(2 ^ 64) < j ∧ j < 2 ^ 64)
theorem CMul.ok {i j : Int} (h : CMul i j) : IntMulOk i j := by
  rcases h with ⟨h1, h2⟩ | ⟨h1, h2⟩
  · exact .of_left (intBits_le_64 h1 h2)
  · exact .of_right (intBits_le_64 h1 h2)

theorem op_add : OpR X (binaryOp .Add) (rI0 fun i j => .int (i + j)) := opI0 fun _ _ _ _ _ _ _ q => add_int q
theorem op_sub : OpR X (binaryOp .Sub) (rI0 fun i j => .int (i - j)) := opI0 fun _ _ _ _ _ _ _ q => sub_int q
theorem op_mul : OpR X (binaryOp .Mult) (rI CMul fun i j => .int (i * j)) := opI fun _ _ _ _ _ _ _ hc q => mul_int q hc.ok
/-- // by a positive divisor -/
theorem op_fdiv : OpR X (binaryOp .FloorDiv) (rI CDiv fun i j => .int (i / j)) := opI fun i j _ _ _ _ _ hc q => by
  have h1 : (0 : Int) < j := hc.1
  have h2 : j < 1073741824 := hc.2
  exact floordiv_int (by omega) (by rw [Int.fdiv_eq_ediv_of_nonneg i (by omega)]; exact q) (.inl (PyProof.noPylong_small (by omega)))
/-- % by a positive divisor of any size -/
theorem op_mod : OpR X (binaryOp .Mod) (rI (fun _ j => 0 < j) fun i j => .int (i % j)) := opI fun i j _ _ _ _ _ hc q => by
  have h1 : (0 : Int) < j := hc
  exact mod_int' (by omega) (by rw [Int.fmod_eq_emod_of_nonneg i (by omega)]; exact q)
theorem op_pow : OpR X (binaryOp .Pow) (rI CPow fun i j => .int (i ^ j.toNat)) := opI fun _ _ _ _ _ _ _ hc q => pow_int_small hc.1 hc.2.1 hc.2.2 q


theorem unI {f : Value → Sem Value} {g : Int → Int}
    (rule : ∀ (i : Int) (t : Tok) (s : Shared) (Q : Value → Shared → Prop) (E : Value → Shared → Prop), Q (.int (g i) s.toks) { s with toks := s.toks + 1 } → wpAny (model X.prog X.w) X.A (f (.int i t)) Q E s) :
    UnR X f (rU fun i => .int (g i)) := by
  intro pins s σ H x v Q I rx h
  obtain ⟨i, rfl, q⟩ := h
  obtain ⟨t, rfl⟩ := rx
  exact rule i t s _ _ ⟨.int (g i), H, I.tok _, ⟨_, rfl⟩, q⟩
theorem un_neg : UnR X (unaryOp .USub) (rU fun i => .int (-i)) := unI fun _ _ _ _ _ q => neg_int q

/-! ### bools among ints: n += (a < b) -/
end

/-! ### comparisons -/
/-- the scalars that == tells apart as data does -/
def scal : V → V → Bool
  | .non, .non => true | .non, .int _ => true | .int _, .non => true | .non, .bl _ => true | .bl _, .non => true | .non, .str _ => true | .str _, .non => true
  | .int _, .int _ => true | .bl _, .bl _ => true | .str _, .str _ => true | .byt _, .byt _ => true
  | .int _, .str _ => true | .str _, .int _ => true | .bl _, .str _ => true | .str _, .bl _ => true
  | _, _ => false
def rEq : R2 := fun x y H Q => scal x y = true ∧ Q (.bl (decide (x = y))) H
def rNe : R2 := fun x y H Q => scal x y = true ∧ Q (.bl (!decide (x = y))) H

theorem dec_int {i j : Int} : decide (V.int i = V.int j) = (i == j) := by
  rw [Bool.eq_iff_iff]
  simp
theorem dec_bl {i j : Bool} : decide (V.bl i = V.bl j) = (i == j) := by
  rw [Bool.eq_iff_iff]
  simp
theorem dec_str {i j : Str} : decide (V.str i = V.str j) = (i == j) := by
  rw [Bool.eq_iff_iff]
  simp
theorem dec_byt {i j : Array UInt8} : decide (V.byt i = V.byt j) = (i.toList == j.toList) := by
  rw [Bool.eq_iff_iff]
  cases i
  cases j
  simp

section
variable {X : Cx} {a b c : Expr} {ta tb tc : TE} {pos : Pos}
theorem fin_bl {pins : List (Addr × Obj)} {σ : St} {H : Hp} {s : Shared} {Q : VK} {k k' : Bool} (I : Inv X pins σ H s) (q : Q (.bl k) H) (e : k = k') : EP X pins σ Q (.bool k') s := by
  subst e
  exact ⟨.bl k, H, I, rfl, q⟩
theorem op_eq : OpR X (compareOp .Eq) rEq := by
  intro pins s σ H x y v u Q I rx ry h
  obtain ⟨hs, q⟩ := h
  cases x with
  | non =>
    cases rx
    cases y with
    | non => cases ry; exact PySem.EqNone.eq_none_none (fin_bl I q (by simp))
    | bl j => cases ry; exact PySem.EqNone.eq_none_bool (fin_bl I q (by simp))
    | int j => obtain ⟨t', rfl⟩ := ry; exact PySem.EqNone.eq_none_int (fin_bl I q (by simp))
    | str j => obtain ⟨t', rfl⟩ := ry; exact PySem.EqNone.eq_none_str (fin_bl I q (by simp))
    | _ => exact absurd (show false = true from hs) Bool.false_ne_true
  | bl i =>
    cases rx
    cases y with
    | non => cases ry; exact PySem.EqNone.eq_bool_none (fin_bl I q (by simp))
    | bl j => cases ry; exact eq_bool (fin_bl I q dec_bl)
    | str j => obtain ⟨t', rfl⟩ := ry; exact PySem.EqMixed.eq_bool_str (fin_bl I q (by simp))
    | _ => exact absurd (show false = true from hs) Bool.false_ne_true
  | int i =>
    obtain ⟨t, rfl⟩ := rx
    cases y with
    | non => cases ry; exact PySem.EqNone.eq_int_none (fin_bl I q (by simp))
    | int j => obtain ⟨t', rfl⟩ := ry; exact eq_int (fin_bl I q dec_int)
    | str j => obtain ⟨t', rfl⟩ := ry; exact PySem.EqMixed.eq_int_str (fin_bl I q (by simp))
    | _ => exact absurd (show false = true from hs) Bool.false_ne_true
  | str i =>
    obtain ⟨t, rfl⟩ := rx
    cases y with
    | non => cases ry; exact PySem.EqNone.eq_str_none (fin_bl I q (by simp))
    | bl j => cases ry; exact PySem.EqMixed.eq_str_bool (fin_bl I q (by simp))
    | int j => obtain ⟨t', rfl⟩ := ry; exact PySem.EqMixed.eq_str_int (fin_bl I q (by simp))
    | str j => obtain ⟨t', rfl⟩ := ry; exact eq_str (fin_bl I q dec_str)
    | _ => exact absurd (show false = true from hs) Bool.false_ne_true
  | byt i =>
    obtain ⟨t, rfl⟩ := rx
    cases y with
    | byt j => obtain ⟨t', rfl⟩ := ry; exact PySem.W.eq_bytes (fin_bl I q dec_byt)
    | _ => exact absurd (show false = true from hs) Bool.false_ne_true
  | _ => cases y <;> exact absurd (show false = true from hs) Bool.false_ne_true
theorem op_ne : OpR X (compareOp .NotEq) rNe := by
  intro pins s σ H x y v u Q I rx ry h
  obtain ⟨hs, q⟩ := h
  cases x with
  | non =>
    cases rx
    cases y with
    | non => cases ry; exact PySem.EqNone.ne_none_none (fin_bl I q (by simp))
    | bl j => cases ry; exact PySem.EqNone.ne_none_bool (fin_bl I q (by simp))
    | int j => obtain ⟨t', rfl⟩ := ry; exact PySem.EqNone.ne_none_int (fin_bl I q (by simp))
    | str j => obtain ⟨t', rfl⟩ := ry; exact PySem.EqNone.ne_none_str (fin_bl I q (by simp))
    | _ => exact absurd (show false = true from hs) Bool.false_ne_true
  | bl i =>
    cases rx
    cases y with
    | non => cases ry; exact PySem.EqNone.ne_bool_none (fin_bl I q (by simp))
    | bl j => cases ry; exact ne_bool (fin_bl I q (congrArg not dec_bl))
    | str j => obtain ⟨t', rfl⟩ := ry; exact PySem.EqMixed.ne_bool_str (fin_bl I q (by simp))
    | _ => exact absurd (show false = true from hs) Bool.false_ne_true
  | int i =>
    obtain ⟨t, rfl⟩ := rx
    cases y with
    | non => cases ry; exact PySem.EqNone.ne_int_none (fin_bl I q (by simp))
    | int j => obtain ⟨t', rfl⟩ := ry; exact ne_int (fin_bl I q (congrArg not dec_int))
    | str j => obtain ⟨t', rfl⟩ := ry; exact PySem.EqMixed.ne_int_str (fin_bl I q (by simp))
    | _ => exact absurd (show false = true from hs) Bool.false_ne_true
  | str i =>
    obtain ⟨t, rfl⟩ := rx
    cases y with
    | non => cases ry; exact PySem.EqNone.ne_str_none (fin_bl I q (by simp))
    | bl j => cases ry; exact PySem.EqMixed.ne_str_bool (fin_bl I q (by simp))
    | int j => obtain ⟨t', rfl⟩ := ry; exact PySem.EqMixed.ne_str_int (fin_bl I q (by simp))
    | str j => obtain ⟨t', rfl⟩ := ry; exact ne_str (fin_bl I q (congrArg not dec_str))
    | _ => exact absurd (show false = true from hs) Bool.false_ne_true
  | byt i =>
    obtain ⟨t, rfl⟩ := rx
    cases y with
    | byt j => obtain ⟨t', rfl⟩ := ry; exact PySem.W.ne_bytes (fin_bl I q (congrArg not dec_byt))
    | _ => exact absurd (show false = true from hs) Bool.false_ne_true
  | _ => cases y <;> exact absurd (show false = true from hs) Bool.false_ne_true

theorem op_lt : OpR X (compareOp .Lt) (rI0 fun i j => .bl (decide (i < j))) := opB0 fun _ _ _ _ _ _ _ q => lt_int q
theorem op_le : OpR X (compareOp .LtE) (rI0 fun i j => .bl (decide (i ≤ j))) := opB0 fun _ _ _ _ _ _ _ q => le_int q
theorem op_gt : OpR X (compareOp .Gt) (rI0 fun i j => .bl (decide (j < i))) := opB0 fun _ _ _ _ _ _ _ q => gt_int q

/-- is None, is not None: the right side a value none -/
theorem op_isN : OpR X (compareOp .Is) (fun x y H Q => y = .non ∧ Q (.bl (decide (x = .non))) H) := by
  intro pins s σ H x y v u Q I rx ry h
  obtain ⟨rfl, q⟩ := h
  cases ry
  refine is_none_gen (fin_bl I q ?_)
  cases x <;> first
    | (cases rx; rfl)
    | (obtain ⟨t, rfl⟩ := rx; rfl)



theorem nomark (b : Expr) {op : CmpOp} (h : op ≠ .In := by decide) (h2 : op ≠ .NotIn := by decide) : behindInMarks op b = false := by
  have e1 : (op == CmpOp.In) = false := by cases op <;> first | rfl | exact absurd rfl h
  have e2 : (op == CmpOp.NotIn) = false := by cases op <;> first | rfl | exact absurd rfl h2
  cases b <;> simp [behindInMarks, e1, e2]
/-- a comparison as a value; hm: nomark b, or (for in, not in) by with_unfolding_all rfl -/
theorem pe_cmpR {op : CmpOp} {r : R2} (ho : OpR X (compareOp op) r) (ha : PE X a ta) (hb : PE X b tb) (hm : behindInMarks op b = false) : PE X (.Compare a [op] [b] pos) (tOp r ta tb) := by
  intro pins s σ H Q I h
  exact wpAny_Compare1 (binT ha hb I h fun v u s2 x y H2 I2 rx ry q => ho pins s2 σ H2 x y v u Q I2 rx ry q) hm
/-- a reading of a value as a test -/
def tTest (t : TE) : TT := fun σ H Q => t σ H fun x H' => ∃ k, x = .bl k ∧ Q k H'
theorem pt_cmpR {op : CmpOp} {r : R2} (ho : OpR X (compareOp op) r) (ha : PE X a ta) (hb : PE X b tb) (hm : behindInMarks op b = false) : PT X (.Compare a [op] [b] pos) (tTest (tOp r ta tb)) := by
  intro pins s σ H Q I h
  refine wpAny_isTrue_Compare1 (thn (ha pins s σ H _ I h) fun v s1 ⟨x, H1, I1, r1, q1⟩ => thn (hb pins s1 σ H1 _ I1 q1) fun u s2 ⟨y, H2, I2, r2, q2⟩ =>
    thn (ho pins s2 σ H2 x y v u _ I2 r1 r2 q2) fun c s3 ⟨z, H3, I3, r3, k, e, q3⟩ => ?_) hm
  subst e
  cases r3
  exact wpAny_truthy_bool ⟨H3, I3, q3⟩
/-- a op1 b op2 c -/
def tChain (r r' : R2) (ta tb tc : TE) : TE := fun σ H Q => ta σ H fun x H1 => tb σ H1 fun y H2 => r x y H2 fun z H3 => ∃ k, z = .bl k ∧
  (if k = true then tc σ H3 fun w' H4 => r' y w' H4 Q else Q (.bl false) H3)
theorem pe_chain {op op' : CmpOp} {r r' : R2} (ho : OpR X (compareOp op) r) (ho' : OpR X (compareOp op') r') (ha : PE X a ta) (hb : PE X b tb) (hc : PE X c tc)
    (hm : lastMarks [op, op'] [b, c] = false := by with_unfolding_all rfl) : PE X (.Compare a [op, op'] [b, c] pos) (tChain r r' ta tb tc) := by
  intro pins s σ H Q I h
  refine Compare_chain (thn (ha pins s σ H _ I h) fun v s1 ⟨x, H1, I1, r1, q1⟩ => chain_link (thn (hb pins s1 σ H1 _ I1 q1) fun u s2 ⟨y, H2, I2, r2, q2⟩ =>
    thn (ho pins s2 σ H2 x y v u _ I2 r1 r2 q2) fun d s3 ⟨z, H3, I3, r3, k, e, q3⟩ => ?_)) hm
  subst e
  cases r3
  refine wpAny_truthy_bool ?_
  cases k with
  | false => exact ite_ff ⟨.bl false, H3, I3, rfl, q3⟩
  | true => exact ite_tt (chain_last (thn (hc pins s3 σ H3 _ I3 q3) fun w' s4 ⟨z', H4, I4, r4, q4⟩ => ho' pins s4 σ H4 y z' u w' Q I4 r2 r4 q4))

/-! ### truth -/
theorem line63 : (sizeLine : Nat) < 2 ^ 63 := by rw [sizeLine_eq]; decide

/-! ### strs and bytes -/


/-! ### scalar builtins, by CallR -/
theorem vals1 {x : V} {us : List Value} (r : Vals [x] us) : ∃ u, us = [u] ∧ RelV x u := by
  cases r with
  | cons r1 r2 => cases r2; exact ⟨_, rfl, r1⟩
theorem vals2 {x y : V} {us : List Value} (r : Vals [x, y] us) : ∃ u w', us = [u, w'] ∧ RelV x u ∧ RelV y w' := by
  cases r with
  | cons r1 r2 =>
    cases r2 with
    | cons r3 r4 => cases r4; exact ⟨_, _, rfl, r1, r3⟩
theorem call_int1 : CallR X (.type "int") (fun xs H Q => (∃ i, xs = [.int i] ∧ Q (.int i) H) ∨ ∃ k, xs = [.bl k] ∧ Q (.int (if k then 1 else 0)) H) := by
  intro pins s σ H xs us Q I r h
  rcases h with ⟨i, rfl, q⟩ | ⟨k, rfl, q⟩
  · obtain ⟨u, rfl, t, rfl⟩ := vals1 r
    exact call_int_int ⟨.int i, H, I, ⟨_, rfl⟩, q⟩
  · obtain ⟨u, rfl, r1⟩ := vals1 r
    cases r1
    exact call_int_bool ⟨.int (if k then 1 else 0), H, I.tok _, ⟨_, rfl⟩, q⟩
end
end L2

namespace L2
open PySem PySem.Spec PyProof.Rows

/-! ### an instance, its attributes a map -/
structure ObjM (h : Heap) (x dx C : Addr) (mA : Str → Option Value) : Prop where
  obj : h.get? x = some (PySem.W.instObj C dx)
  ns : h.Ns1 dx mA
  ne : dx ≠ x

theorem lookIn_ns {h : Heap} {dx : Addr} {mA : Str → Option Value} (n : h.Ns1 dx mA) : ∃ od, h.get? dx = some od ∧ ∀ name, PySem.W.lookIn name od = some (mA name) := by
  obtain ⟨o, es, ep, ho, hd, hk, _, hm⟩ := n
  refine ⟨o, ho, fun name => ?_⟩
  have e := hm name
  unfold nsFind findBy at e
  rw [← Array.find?_toList] at e
  unfold PySem.W.lookIn
  rw [hd]
  dsimp only
  split
  · rename_i y q
    rw [q] at e
    exact congrArg some e
  · rename_i q
    rw [q] at e
    have a : es.toList.any (·.refKey) = false := by
      rw [List.any_eq_false]
      intro y hy
      obtain ⟨z, t, hkey⟩ := hk y (Array.mem_toList_iff.mp hy)
      simp [DictEntry.refKey, hkey]
    have a' : ¬ es.toList.any (·.refKey) = true := by rw [a]; exact Bool.false_ne_true
    rw [if_neg a']
    exact congrArg some e

theorem ObjM.look {h : Heap} {x dx C : Addr} {mA : Str → Option Value} (I : ObjM h x dx C mA) : ∃ od, PySem.W.InstAt h x (PySem.W.instObj C dx) C (some od) ∧ ∀ name, PySem.W.lookIn name od = some (mA name) :=
  let ⟨od, ho, hl⟩ := lookIn_ns I.ns
  ⟨od, ⟨I.obj, rfl, rfl, ho⟩, hl⟩

section
variable {prog : Program} {w : World} {A : Around} {E : Value → Shared → Prop} {s : Shared} {K : PySem.W.Frag} {x dx C f : Addr} {mA : Str → Option Value} {name : Str} {v : Value}

theorem get_map {expr : Bool} {Q : Value → Shared → Prop} (X : K.In s.heap) (I : ObjM s.heap x dx C mA) (hg : PySem.W.plainGet K C name = true) (hh : PySem.W.hasDictIn K C = true)
    (ha : PySem.W.findIn K (.ref C) name = some none) (hv : mA name = some v) (hv' : PySem.W.handedIn v = true) (h : Q v { s with toks := s.toks + 1 }) :
    wpAny (model prog w) A (getAttr (.ref x) name expr) Q E s := by
  obtain ⟨od, J, hl⟩ := I.look
  exact PySem.W.get_value X J (PySem.W.plainGet_of hg).1 (PySem.W.findObj_own hh ha rfl (by rw [hl, hv])) hv' h


theorem get_meth {pl : Sem Bool} {Q : Value × List Value → Shared → Prop} (X : K.In s.heap) (I : ObjM s.heap x dx C mA) (hg : PySem.W.plainGet K C name = true)
    (hf : PySem.W.findIn K (.ref C) name = some (some (.ref f))) (ht : PySem.W.isFn K (.ref f) = true) (hv : mA name = none) (h : Q (.ref f, [.ref x]) s) :
    wpAny (model prog w) A (getMethod (.ref x) name pl) Q E s := by
  obtain ⟨od, J, hl⟩ := I.look
  exact PySem.W.method_fn X J (PySem.W.plainGet_of hg).1 (PySem.W.plainGet_of hg).2 hf (beq_iff_eq.mp ht) (by show (PySem.W.lookIn name od).map (·.isSome) = some false; rw [hl, hv]; rfl) h

theorem set_map {ns : List Str} {Q : Unit → Shared → Prop} (X : K.In s.heap) (I : ObjM s.heap x dx C mA)
    (hs : PySem.W.findIn K (.ref C) "__setattr__" = some (some (.builtin "object.__setattr__"))) (hp : PySem.W.plainOver K C = true) (ht : PySem.W.takerIn K C name = some none) (hh : PySem.W.hasDictIn K C = true)
    (hw : PySem.Within mA ns) (hsz : ns.length ≤ sizeLine)
    (h : ∀ h', ObjM h' x dx C (fun y => if y = name then some v else mA y) → Heap.SameBut dx s.heap h' → Q () { s with heap := h', toks := s.toks + 2 }) :
    wpAny (model prog w) A (setAttr (.ref x) name v) Q E s := by
  obtain ⟨od, J, hl⟩ := I.look
  refine PySem.W.set_plain X J hs (PySem.W.osa_open (s := { s with toks := s.toks + 1 }) (r := none) X J hp ht fun b => ?_)
  obtain ⟨cd, hc, hd'⟩ := PySem.W.any_some hh
  have hx : s.heap.get? x = some ⟨.ref C, some dx, .plain, #[]⟩ := I.obj
  refine wpAny_bind (wpAny_pure (wpAny_bind (wpAny_bind (wpAny_loadPart hx (wpAny_bind (PySem.W.Looks.here (s := { s with toks := s.toks + 1 }) (PySem.W.looks_clsIn X hc) ?_))))))
  rw [hd']
  refine wpAny_pure (a := some dx) (wpAny_bind (wpAny_pure (wpAny_bind ?_)))
  refine wpAny_nsSet1 (s := { s with toks := s.toks + 1 }) I.ns fun h' hn2 hs2 => ?_
  obtain ⟨oD, esD, epD, hoD, hdD, hcD⟩ := hn2.count (PySem.Within.cons name v hw)
  refine wpAny_bind (wpAny_lookBehind hoD (by rw [hdD]; exact pastItsLine_dict (Nat.le_trans hcD (by rw [List.length_cons]; omega))) ?_)
  exact wpAny_pure (h _ ⟨(hs2.2 _ (Ne.symm I.ne)).trans I.obj, hn2, I.ne⟩ hs2)

/-- C(..): the dict at the heap's end, the instance behind it; then its __init__ -/
theorem make_map {R : Result → Shared → Prop} {vs : List Value} {kw : List (Str × Value)} (X : K.In s.heap) (hm : PySem.W.makesIn K C = true)
    (hi : PySem.W.findIn K (.ref C) "__init__" = some (some (.ref f))) (hf : PySem.W.typeIn K (.ref f) = some (.type "function"))
    (h : codeAny (model prog w) (A.under (.builtin "type.__call__" ⟨.ref C :: vs, kw⟩)) (.call (.ref f) ⟨.ref (s.heap.objs.size + 1) :: vs, kw⟩) (PySem.W.InitBack (s.heap.objs.size + 1) R)
      { s with heap := (s.heap.push PySem.W.emptyDict).push (PySem.W.instObj C s.heap.objs.size) }) :
    codeAny (model prog w) A (.call (.ref C) ⟨vs, kw⟩) R s := by
  obtain ⟨hh, g, d, t, os⟩ := s
  exact PySem.W.make_core (PySem.W.makes_of X hm) (PySem.W.looks_findIn X hi) (fun self => PySem.W.bind_fn X self hf) (.inl rfl) h
/-- C() where there is no __init__ but object's -/
theorem make_map0 {R : Result → Shared → Prop} (X : K.In s.heap) (hm : PySem.W.makesIn K C = true)
    (hi : PySem.W.findIn K (.ref C) "__init__" = some (some (.builtin "object.__init__")))
    (hb : ∀ self, PySem.W.Looks (model prog w) s.heap (bindSpecial (.builtin "object.__init__") self) (.builtin "object.__init__", [self]))
    (h : codeAny (model prog w) (A.under (.builtin "type.__call__" ⟨[.ref C], []⟩)) (.call (.builtin "object.__init__") ⟨[.ref (s.heap.objs.size + 1)], []⟩) (PySem.W.InitBack (s.heap.objs.size + 1) R)
      { s with heap := (s.heap.push PySem.W.emptyDict).push (PySem.W.instObj C s.heap.objs.size) }) :
    codeAny (model prog w) A (.call (.ref C) ⟨[], []⟩) R s := by
  obtain ⟨hh, g, d, t, os⟩ := s
  exact PySem.W.make_core (PySem.W.makes_of X hm) (PySem.W.looks_findIn X hi) hb (.inr ⟨rfl, rfl⟩) h
end

/-! ### the attributes as a list of pairs -/
def putF (f : Str) (v : V) : List (Str × V) → List (Str × V)
  | [] => [(f, v)]
  | (g, x) :: r => if g = f then (g, v) :: r else (g, x) :: putF f v r
theorem lookup_putF (f g : Str) (v : V) : ∀ fs : List (Str × V), (putF f v fs).lookup g = if g = f then some v else fs.lookup g
  | [] => by
    show List.lookup g [(f, v)] = _
    by_cases h : g = f
    · have hb : (g == f) = true := beq_iff_eq.mpr h
      simp only [List.lookup, hb, if_pos h]
    · have hb : (g == f) = false := beq_eq_false_iff_ne.mpr h
      simp only [List.lookup, hb, if_neg h]
  | (k, x) :: r => by
    have ih := lookup_putF f g v r
    rw [show putF f v ((k, x) :: r) = (if k = f then (k, v) :: r else (k, x) :: putF f v r) from rfl]
    by_cases hk : k = f
    · rw [if_pos hk]
      by_cases h : g = k
      · have hb : (g == k) = true := beq_iff_eq.mpr h
        simp only [List.lookup, hb, if_pos (h.trans hk)]
      · have hb : (g == k) = false := beq_eq_false_iff_ne.mpr h
        simp only [List.lookup, hb, if_neg (fun e : g = f => h (e.trans hk.symm))]
    · rw [if_neg hk]
      by_cases h : g = k
      · have hb : (g == k) = true := beq_iff_eq.mpr h
        simp only [List.lookup, hb, if_neg (fun e : g = f => hk (h.symm.trans e))]
      · have hb : (g == k) = false := beq_eq_false_iff_ne.mpr h
        simp only [List.lookup, hb]
        exact ih
theorem keys_putF (f : Str) (v : V) : ∀ fs : List (Str × V), f ∈ (putF f v fs).map (·.1) ∧ ∀ g, g ∈ fs.map (·.1) → g ∈ (putF f v fs).map (·.1)
  | [] => ⟨by simp [putF], fun g h => by simp at h⟩
  | (k, x) :: r => by
    obtain ⟨i1, i2⟩ := keys_putF f v r
    rw [show putF f v ((k, x) :: r) = (if k = f then (k, v) :: r else (k, x) :: putF f v r) from rfl]
    by_cases hk : k = f
    · rw [if_pos hk]
      subst hk
      exact ⟨by simp, fun g h => by simpa using h⟩
    · rw [if_neg hk]
      refine ⟨?_, fun g h => ?_⟩
      · rw [List.map_cons]
        exact List.mem_cons_of_mem _ i1
      · rw [List.map_cons] at h ⊢
        rcases List.mem_cons.mp h with e | e
        · exact List.mem_cons.mpr (.inl e)
        · exact List.mem_cons_of_mem _ (i2 g e)
theorem length_putF (f : Str) (v : V) : ∀ fs : List (Str × V), (putF f v fs).length ≤ fs.length + 1
  | [] => by simp [putF]
  | (k, x) :: r => by
    have ih := length_putF f v r
    rw [show putF f v ((k, x) :: r) = (if k = f then (k, v) :: r else (k, x) :: putF f v r) from rfl]
    by_cases hk : k = f
    · rw [if_pos hk, List.length_cons, List.length_cons]; omega
    · rw [if_neg hk, List.length_cons, List.length_cons]; omega

theorem RelO.some_of {v : V} {o : Option Value} (r : RelO (some v) o) : ∃ u, o = some u ∧ RelV v u := by
  cases o with
  | none => exact (show False from r).elim
  | some u => exact ⟨u, rfl, r⟩
theorem RelO.none_of {o : Option Value} (r : RelO none o) : o = none := by
  cases o with
  | none => rfl
  | some u => exact (show False from r).elim
theorem handed_of {v : V} {u : Value} (r : RelV v u) : PySem.W.handedIn u = true := by
  cases v with
  | non => cases (show u = Value.none from r); rfl
  | bl b => cases (show u = Value.bool b from r); rfl
  | int i => obtain ⟨t, e⟩ := (show ∃ t, u = Value.int i t from r); cases e; rfl
  | str x => obtain ⟨t, e⟩ := (show ∃ t, u = Value.str x t from r); cases e; rfl
  | byt b => obtain ⟨t, e⟩ := (show ∃ t, u = Value.bytes b t from r); cases e; rfl
  | flt b => obtain ⟨t, e⟩ := (show ∃ t, u = Value.float b t from r); cases e; rfl
  | ref a => cases (show u = Value.ref a from r); rfl
  | ty n => cases (show u = Value.type n from r); rfl

section
variable {P : Program} {w : World} {H H' : Hp} {h h' : Heap} {a C dx : Addr} {fs fs' : List (Str × V)}
theorem ins_get (hok : HOk P w H h) (e : H a = some (.ins C dx fs)) : ∃ mA, ObjM h a dx C mA ∧ (∀ f, RelO (fs.lookup f) (mA f)) ∧ PySem.Within mA (fs.map (·.1)) ∧ fs.length ≤ 1000 ∧ H dx = some (.own a) := by
  obtain ⟨d, z, ne, ob, mA, n, r, q⟩ := (show ObjOk P w H h a (.ins C dx fs) from hok a _ e)
  exact ⟨mA, ⟨ob, n, ne⟩, r, q, z, d⟩
end

/-! ### what of the text a class must have -/
structure Cls (K : PySem.W.Frag) (C : Addr) : Prop where
  pg : PySem.W.plainGet K C Str.empty = true
  hd : PySem.W.hasDictIn K C = true
  po : PySem.W.plainOver K C = true
  sa : PySem.W.findIn K (.ref C) "__setattr__" = some (some (.builtin "object.__setattr__"))
theorem Cls.get {K : PySem.W.Frag} {C : Addr} (c : Cls K C) (f : Str) : PySem.W.plainGet K C f = true := c.pg
/-- no class of it has the name -/
def NoAttr (K : PySem.W.Frag) (C : Addr) (f : Str) : Prop := PySem.W.findIn K (.ref C) f = some none
theorem NoAttr.taker {K : PySem.W.Frag} {C : Addr} {f : Str} (n : NoAttr K C f) : PySem.W.takerIn K C f = some none := by
  unfold PySem.W.takerIn
  rw [show PySem.W.findIn K (.ref C) f = some none from n]
  rfl
/-- a method: a plain def of the class or of one above it -/
structure Meth (K : PySem.W.Frag) (C : Addr) (m : Str) (f : Addr) : Prop where
  at_ : PySem.W.findIn K (.ref C) m = some (some (.ref f))
  fn : PySem.W.isFn K (.ref f) = true
  kp : PySem.W.keepIn K (.ref f) = true

section
variable {X : Cx} {pins : List (Addr × Obj)} {σ : St} {H : Hp} {s : Shared} {a C dx : Addr} {fs : List (Str × V)} {f : Str} {v : V} {A : Around} {E : Value → Shared → Prop}

theorem getattr_ok {b : Bool} {Q : Value → Shared → Prop} (I : Inv X pins σ H s) (e : H a = some (.ins C dx fs)) (c : Cls X.K C) (n : NoAttr X.K C f) (l : fs.lookup f = some v)
    (h : ∀ u s', Inv X pins σ H s' → RelV v u → Q u s') : wpAny (model X.prog X.w) A (getAttr (.ref a) f b) Q E s := by
  obtain ⟨mA, O, r, _, _, _⟩ := ins_get I.hok e
  obtain ⟨u, hu, ru⟩ := RelO.some_of (v := v) (o := mA f) (by rw [← l]; exact r f)
  exact get_map I.kIn O (c.get f) c.hd n hu (handed_of ru) (h u _ (I.tok _) ru)


theorem getmeth_ok {m : Str} {g : Addr} {pl : Sem Bool} {Q : Value × List Value → Shared → Prop} (I : Inv X pins σ H s) (e : H a = some (.ins C dx fs)) (c : Cls X.K C) (k : Meth X.K C m g) (l : fs.lookup m = none)
    (h : Q (.ref g, [.ref a]) s) : wpAny (model X.prog X.w) A (getMethod (.ref a) m pl) Q E s := by
  obtain ⟨mA, O, r, _, _, _⟩ := ins_get I.hok e
  have hn : mA m = none := RelO.none_of (by rw [← l]; exact r m)
  exact get_meth I.kIn O (c.get m) k.at_ k.fn hn h

theorem setattr_ok {y : V} {u : Value} {Q : Unit → Shared → Prop} (I : Inv X pins σ H s) (e : H a = some (.ins C dx fs)) (c : Cls X.K C) (n : NoAttr X.K C f) (hl : fs.length < 1000) (ry : RelV y u)
    (h : ∀ s', Inv X pins σ (upd H a (.ins C dx (putF f y fs))) s' → Q () s') : wpAny (model X.prog X.w) A (setAttr (.ref a) f u) Q E s := by
  obtain ⟨mA, O, r, wi, _, ho⟩ := ins_get I.hok e
  have hz : (fs.map (·.1)).length ≤ sizeLine := by rw [List.length_map, sizeLine_eq]; omega
  refine set_map I.kIn O c.sa c.po n.taker c.hd wi hz fun h' O' sb => h _ ?_
  have hd : ∃ o, h'.get? dx = some o := let ⟨o, _, _, e', _⟩ := O'.ns; ⟨o, e'⟩
  refine I.write (x := a) (e := dx) (by rw [e]; exact True.intro) (.inr ho) (fun b q hb z => (sb.2 b hb).trans z) hd ?_
  refine ⟨by rw [upd_ne O.ne]; exact ho, ?_, O.ne, O'.obj, _, O'.ns, fun g => ?_, fun g hg => ?_⟩
  · have := length_putF f y fs; omega
  · show RelO ((putF f y fs).lookup g) (if g = f then some u else mA g)
    rw [lookup_putF]
    by_cases q : g = f
    · rw [if_pos q, if_pos q]; exact ry
    · rw [if_neg q, if_neg q]; exact r g
  · by_cases q : g = f
    · rw [q]; exact (keys_putF f y fs).1
    · refine (keys_putF f y fs).2 g (wi g fun z => hg ?_)
      show (if g = f then some u else mA g) = none
      rw [if_neg q]; exact z

/-- a new instance, tracked, without attributes -/
theorem Inv.made (I : Inv X pins σ H s) : Inv X pins σ (upd (upd H s.heap.objs.size (.own (s.heap.objs.size + 1))) (s.heap.objs.size + 1) (.ins C s.heap.objs.size []))
    { s with heap := (s.heap.push PySem.W.emptyDict).push (PySem.W.instObj C s.heap.objs.size) } := by
  have e1 : (s.heap.push PySem.W.emptyDict).get? s.heap.objs.size = some PySem.W.emptyDict := Heap.get?_push_size s.heap rfl
  have e2 : ((s.heap.push PySem.W.emptyDict).push (PySem.W.instObj C s.heap.objs.size)).get? (s.heap.objs.size + 1) = some (PySem.W.instObj C s.heap.objs.size) := by
    have := Heap.get?_push_size (s.heap.push PySem.W.emptyDict) (o := PySem.W.instObj C s.heap.objs.size) rfl
    rwa [Heap.size_push] at this
  have e3 : (s.heap.push PySem.W.emptyDict).Ns s.heap.objs.size (fun _ => none) := ⟨PySem.W.emptyDict, #[], _, e1, rfl, (fun e he => absurd he (by simp)), fun _ => rfl⟩
  have I1 := I.laid (a := s.heap.objs.size) (o := .own (s.heap.objs.size + 1)) (h' := s.heap.push PySem.W.emptyDict) (t' := s.toks) (fun b u q => Heap.get?_push_of_some _ q) (Nat.le_refl _) ⟨_, e1⟩
  refine I1.laid (a := s.heap.objs.size + 1) (o := .ins C s.heap.objs.size []) (t' := s.toks) (fun b u q => Heap.get?_push_of_some _ q) (Nat.le_of_eq (Heap.size_push _ _)) ?_
  have ne : s.heap.objs.size ≠ s.heap.objs.size + 1 := Nat.ne_of_lt (Nat.lt_succ_self _)
  refine ⟨by rw [upd_ne ne, upd_same], Nat.zero_le _, ne, e2, fun _ => none, (Heap.Ns1.of_empty e3).at fun o q => Heap.get?_push_of_some _ q, fun _ => True.intro, fun y hy => absurd rfl hy⟩

/-- e.f where nothing but the object is asked: through attributeBase (super) and the last hold -/
theorem attr_of {prog : Program} {w : World} {env : Env} {e : Expr} {f : Str} {pos : Pos} {s : Shared} {Q : Value → Shared → Prop} (hb : attributeBase e f env (eval e env) = eval e env)
    (h : wpAny (model prog w) A (eval e env) (fun o s₁ => wpAny (model prog w) A (getAttr o f true) Q E s₁) E s) : wpAny (model prog w) A (eval (.Attribute e f pos) env) Q E s :=
  Attribute_any_ h (by rw [arm_eval_Attribute, hb])
end

/-! ### readings and rules -/
/-- e.f, an attribute of the instance -/
def tFld (K : PySem.W.Frag) (ta : TE) (f : Str) : TE := fun σ H Q => ta σ H fun x H1 => ∃ a C dx fs v, x = .ref a ∧ H1 a = some (.ins C dx fs) ∧ Cls K C ∧ NoAttr K C f ∧ fs.lookup f = some v ∧ Q v H1
/-- e.f = value -/
def sFld (K : PySem.W.Frag) (ta tv : TE) (f : Str) : TS := fun D σ H => tv σ H fun y H1 => ta σ H1 fun x H2 => ∃ a C dx fs, x = .ref a ∧ H2 a = some (.ins C dx fs) ∧ Cls K C ∧ NoAttr K C f ∧ fs.length < 1000 ∧
  D.nx σ (upd H2 a (.ins C dx (putF f y fs)))

section
variable {X : Cx} {o e value : Expr} {f : Str} {pos pos' tpos : Pos} {ta tv : TE}
theorem pe_fld (he : PE X e ta) (hb : attributeBase e f X.env (eval e X.env) = eval e X.env) : PE X (.Attribute e f pos) (tFld X.K ta f) := by
  intro pins s σ H Q I h
  refine attr_of hb (thn (he pins s σ H _ I h) fun u s1 ⟨x, H1, I1, rx, a, C, dx, fs, v, ex, ea, c, n, l, q⟩ => ?_)
  subst ex
  obtain rfl : u = Value.ref a := rx
  exact getattr_ok I1 ea c n l fun u' s2 I2 ru => ⟨v, H1, I2, ru, q⟩
theorem ps_fld (ha : PE X o ta) (hv : PE X value tv) (hs : swapsWith value (some (.Attribute o f pos')) pos.line X.env = pure false) : PS X (.Assign [.Attribute o f pos'] value pos) (sFld X.K ta tv f) := by
  intro pins s σ H D I h
  refine plainObj_wpAny_Assign_Attribute (thn (hv pins s σ H _ I h) fun u s1 ⟨y, H1, I1, ry, q⟩ => thn (ha pins s1 σ H1 _ I1 q) fun ov s2 ⟨x, H2, I2, rx, a, C, dx, fs, ex, ea, c, n, l, q2⟩ => ?_) hs
  subst ex
  obtain rfl : ov = Value.ref a := rx
  exact setattr_ok I2 ea c n l ry fun s3 I3 => ⟨σ, _, I3, q2⟩

/-- what is between an instance and its method: the tree of a method call -/
theorem methcall_of {pl : Sem Bool} {m : Str} {apos : Pos} {args : List Expr} {pins : List (Addr × Obj)} {s : Shared} {σ : St} {H : Hp} {Q : Value → Shared → Prop} {te : TE} (he : PE X e te) (I : Inv X pins σ H s)
    (h : te σ H fun x H1 => ∃ a C dx fs g, x = .ref a ∧ H1 a = some (.ins C dx fs) ∧ Cls X.K C ∧ Meth X.K C m g ∧ fs.lookup m = none ∧
      ∀ s1, Inv X pins σ H1 s1 → wpAny (model X.prog X.w) X.A (callWith pos (.ref g) [.ref a] (backTo pos (starEach args X.env)) (backToKw pos (keywordEach [] X.env))) Q X.xe s1)
    (ht : eval (.Call (.Attribute e m apos) args [] pos) X.env = (do
      let ov ← eval e X.env
      standAt apos.atName
      let (f, first) ← holding [ov] (getMethod ov m pl)
      callWith pos f first (backTo pos (starEach args X.env)) (backToKw pos (keywordEach [] X.env)))) :
    wpAny (model X.prog X.w) X.A (eval (.Call (.Attribute e m apos) args [] pos) X.env) Q X.xe s := by
  refine PySem.W.methodCall_KW (pl := pl) (thn (he pins s σ H _ I h) fun u s1 ⟨x, H1, I1, rx, a, C, dx, fs, g, ex, ea, c, k, l, q⟩ => ?_) ht
  subst ex
  obtain rfl : u = Value.ref a := rx
  exact getmeth_ok I1 ea c k l (q s1 I1)
end

/-! ### isinstance -/
section
variable {X : Cx} {pins : List (Addr × Obj)} {σ : St} {H : Hp} {s : Shared} {A : Around} {E : Value → Shared → Prop} {Q : Value → Shared → Prop} {c : Value} {b : Bool}
/-- the type of a value, as the fragment's deciders take it; for an instance its class -/
inductive TyOf (K : PySem.W.Frag) (H : Hp) : V → Value → Prop where
  | non : TyOf K H .non (.type "NoneType")
  | bl (x : Bool) : TyOf K H (.bl x) (.type "bool")
  | int (i : Int) : TyOf K H (.int i) (.type "int")
  | str (x : Str) : TyOf K H (.str x) (.type "str")
  | flt (x : UInt64) : TyOf K H (.flt x) (.type "float")
  | lst {a : Addr} {xs : List V} (e : H a = some (.lst xs)) : TyOf K H (.ref a) (.type "list")
  | frz {a : Addr} {o : Obj} {xs : List V} (e : H a = some (.frz o (.lst xs))) : TyOf K H (.ref a) (.type "list")
  | tup {a : Addr} {xs : List V} (e : H a = some (.tup xs)) : TyOf K H (.ref a) (.type "tuple")
  | dK {a : Addr} {kvs : List (Key × V)} (e : H a = some (.dK kvs)) : TyOf K H (.ref a) (.type "dict")
  | dT {a : Addr} {kvs : List (List Key × V)} (e : H a = some (.dT kvs)) : TyOf K H (.ref a) (.type "dict")
  | ins {a C dx : Addr} {fs : List (Str × V)} (e : H a = some (.ins C dx fs)) (cl : Cls K C) (ha : PySem.W.findIn K (.ref C) "__class__" = some (some (.builtin "object.__class__")))
      (hn : PySem.W.specialIn K (.builtin "object.__class__") "__get__" = some (some (.builtin "getset_descriptor.__get__"))) (htk : PySem.W.takesIn K (.builtin "object.__class__") = some true)
      (hm : PySem.W.mroIn K C (.type "object") = some true) : TyOf K H (.ref a) (.ref C)
/-- isinstance(x, c) for one class c, a built-in or an own one: kitOne's answer -/
theorem isinst_ok {x : V} {u t : Value} (I : Inv X pins σ H s) (rx : RelV x u) (ty : TyOf X.K H x t) (e : PySem.W.kitOne X.K t c = some b) (h : ∀ tk, Q (.bool b) { s with toks := tk }) :
    wpAny (model X.prog X.w) A (call (.builtin "isinstance") [u, c]) Q E s := by
  cases ty with
  | non => cases (show u = Value.none from rx); exact PySem.W.kia_one PySem.W.kitx_none I.kIn True.intro e (fun z => nomatch z) h
  | bl y => cases (show u = Value.bool y from rx); exact PySem.W.kia_one PySem.W.kitx_bool I.kIn True.intro e (fun z => nomatch z) h
  | int i => obtain ⟨t, q⟩ := (show ∃ t, u = Value.int i t from rx); cases q; exact PySem.W.kia_one PySem.W.kitx_int I.kIn True.intro e (fun z => nomatch z) h
  | str y => obtain ⟨t, q⟩ := (show ∃ t, u = Value.str y t from rx); cases q; exact PySem.W.kia_one PySem.W.kitx_str I.kIn True.intro e (fun z => nomatch z) h
  | flt y => obtain ⟨t, q⟩ := (show ∃ t, u = Value.float y t from rx); cases q; exact PySem.W.kia_one PySem.W.kitx_float I.kIn True.intro e (fun z => nomatch z) h
  | @lst a xs ea =>
    cases (show u = Value.ref a from rx)
    obtain ⟨_, _, n, _, h1⟩ := (show ObjOk X.prog X.w H s.heap a (.lst xs) from I.hok a _ ea)
    exact PySem.W.kia_one PySem.W.kitx_list I.kIn ⟨_, h1, rfl⟩ e (fun z => nomatch z) h
  | @frz a ob xs ea =>
    cases (show u = Value.ref a from rx)
    obtain ⟨_, _, _, n, _, h1⟩ := (show ObjOk X.prog X.w H s.heap a (.frz ob (.lst xs)) from I.hok a _ ea)
    exact PySem.W.kia_one PySem.W.kitx_list I.kIn ⟨_, h1, rfl⟩ e (fun z => nomatch z) h
  | @tup a xs ea =>
    cases (show u = Value.ref a from rx)
    obtain ⟨_, _, _, p⟩ := (show ObjOk X.prog X.w H s.heap a (.tup xs) from I.hok a _ ea)
    obtain ⟨o, h1, h2, _⟩ := p
    exact PySem.W.kia_one PySem.W.kitx_tuple I.kIn ⟨o, h1, h2⟩ e (fun z => nomatch z) h
  | @dK a kvs ea =>
    cases (show u = Value.ref a from rx)
    obtain ⟨_, _, vs, _, p⟩ := (show ObjOk X.prog X.w H s.heap a (.dK kvs) from I.hok a _ ea)
    obtain ⟨o, es, ep, h1, h2, _⟩ := p
    exact PySem.W.kia_one PySem.W.kitx_dict I.kIn ⟨o, h1, h2.1⟩ e (fun z => nomatch z) h
  | @dT a kvs ea =>
    cases (show u = Value.ref a from rx)
    obtain ⟨_, _, xs, _, o, es, ep, h1, h2, _⟩ := (show ObjOk X.prog X.w H s.heap a (.dT kvs) from I.hok a _ ea)
    exact PySem.W.kia_one PySem.W.kitx_dict I.kIn ⟨o, h1, h2.1⟩ e (fun z => nomatch z) h
  | @ins a C dx fs ea cl ha hn htk hm =>
    cases (show u = Value.ref a from rx)
    obtain ⟨mA, O, _⟩ := ins_get I.hok ea
    obtain ⟨od, J, _⟩ := O.look
    exact PySem.W.kia_one (PySem.W.kitx_own (cl.get _) cl.hd ha hn htk hm) I.kIn J e (fun z => nomatch z) h
end
end L2

namespace L2
open PySem PySem.Spec PyProof.Rows

/-! ### room -/
structure Room (k : Nat) (A : Around) : Prop where
  hd : A.handled = none
  dp : A.depth + 3 * k + 5 < recursionLimit
  un : A.units + 16 * k + 200 < cLine
theorem Room.mono {j k : Nat} {A : Around} (r : Room k A) (h : j ≤ k) : Room j A := ⟨r.hd, by have := r.dp; omega, by have := r.un; omega⟩
theorem Room.deeper {k : Nat} {A : Around} (r : Room (k + 1) A) (env : Env) : Room k (A.deeper env) :=
  ⟨r.hd, by have := r.dp; show A.depth + 1 + 3 * k + 5 < _; omega, by have := r.un; show A.units + 3 + 16 * k + 200 < _; omega⟩
theorem make_depth {A : Around} {C : Addr} {us : List Value} {kw : List (Str × Value)} : (A.under (.builtin "type.__call__" ⟨.ref C :: us, kw⟩)).depth = A.depth + 1 := by
  first | rfl | simp [Around.under, Code.weight, Code.isCreation, Code.isGuard, Code.isCaller, Code.frames, Code.isFrame, guardIds]
theorem make_units {A : Around} {C : Addr} {us : List Value} {kw : List (Str × Value)} : (A.under (.builtin "type.__call__" ⟨.ref C :: us, kw⟩)).units = A.units + 1 := by
  first | rfl | simp [Around.under, Code.cUnits, Code.frames, Code.isFrame]
theorem Room.make {k : Nat} {A : Around} (r : Room (k + 1) A) (C : Addr) (us : List Value) (kw : List (Str × Value)) : Room k (A.under (.builtin "type.__call__" ⟨.ref C :: us, kw⟩)) :=
  ⟨r.hd, by have := r.dp; rw [make_depth]; omega, by have := r.un; rw [make_units]; omega⟩
theorem Room.depth {k : Nat} {A : Around} (r : Room k A) : A.depth < recursionLimit := by have := r.dp; omega
theorem Room.units {k : Nat} {A : Around} (r : Room k A) : A.units + 64 < cLine := by have := r.un; omega
theorem Room.units0 {k : Nat} {A : Around} (r : Room k A) : A.units < cLine := by have := r.un; omega

/-! ### argument lists and displays -/
def tNil : TA := fun _ H Q => Q [] H
def tCons (ta : TE) (tr : TA) : TA := fun σ H Q => ta σ H fun x H1 => tr σ H1 fun xs H2 => Q (x :: xs) H2
section
variable {X : Cx} {e : Expr} {es : List Expr} {te : TE} {t : TA} {pos : Pos}
theorem pa_nil : PA X [] tNil := fun _ _ _ _ H Q I h => Calls.spliced_nil ⟨[], H, I, .nil, h⟩
theorem pa_cons (ha : PE X e te) (hr : PA X es t) (hs : starEach (e :: es) X.env = (false, eval e X.env) :: starEach es X.env := by rfl) : PA X (e :: es) (tCons te t) := by
  intro pos pins s σ H Q I h
  rw [hs]
  show wpAny _ _ (spliced ((false, eval e X.env) :: backTo pos (starEach es X.env))) _ _ s
  refine Calls.spliced_cons (thn (ha pins s σ H _ I h) fun u s1 ⟨x, H1, I1, r1, q1⟩ => ?_)
  exact thn (hr pos pins s1 σ H1 _ I1 q1) fun us s2 ⟨xs, H2, I2, r2, q2⟩ => ⟨x :: xs, H2, I2, .cons r1 r2, q2⟩

/-- a tuple, a list of written items -/
def tTup (t : TA) : TE := fun σ H Q => t σ H fun xs H1 => xs.length ≤ sizeLine ∧ ∀ p, H1 p = none → Q (.ref p) (upd H1 p (.tup xs))
def tLst (t : TA) : TE := fun σ H Q => t σ H fun xs H1 => xs.length ≤ sizeLine ∧ ∀ p, H1 p = none → Q (.ref p) (upd H1 p (.lst xs))
theorem pe_tup {x1} (h : PA X es t) : PE X (.Tuple es x1 pos) (tTup t) := by
  intro pins s σ H Q I hq
  refine wpAny_Tuple_spliced (thn (h pos pins s σ H _ I hq) fun us s1 ⟨xs, H1, I1, r, z, q⟩ => ⟨by rw [← r.length]; exact z, ?_⟩)
  have hf : H1 s1.heap.objs.size = none := I1.hok.fresh (Nat.le_refl _)
  refine ⟨.ref s1.heap.objs.size, upd H1 s1.heap.objs.size (.tup xs), I1.laid (t' := s1.toks) (fun b u e => Heap.get?_push_of_some _ e) (Nat.le_refl _) ?_, rfl, q _ hf⟩
  exact ⟨z, us, r, ⟨_, Heap.get?_push_size _ rfl, rfl, _, rfl⟩⟩
theorem pe_lst (h : PA X es t) : PE X (.List es pos) (tLst t) := by
  intro pins s σ H Q I hq
  refine wpAny_List_spliced (thn (h pos pins s σ H _ I hq) fun us s1 ⟨xs, H1, I1, r, z, q⟩ => ⟨by rw [← r.length]; exact z, ?_⟩)
  have hf : H1 s1.heap.objs.size = none := I1.hok.fresh (Nat.le_refl _)
  refine ⟨.ref s1.heap.objs.size, upd H1 s1.heap.objs.size (.lst xs), I1.laid (t' := s1.toks) (fun b u e => Heap.get?_push_of_some _ e) (Nat.le_refl _) ?_, rfl, q _ hf⟩
  exact ⟨z, us, 0, r, Heap.get?_push_size _ rfl⟩
end

/-! ### what a def promises -/
/-- a def's promise: the bound arguments in the parameters' order, the heap, the wanted end, the wanted exception -/
abbrev Sp := List V → Hp → VK → XK → Prop
/-- how an exception lies behind a call (file 08 gives it): the callers' frames, abstract heap and state ahead of the call, the wish, the exception, the state -/
abbrev CXT := List Env → Hp → Shared → XK → Value → Shared → Prop

/-- the state at a call -/
structure Env0 (P : Program) (w : World) (K : PySem.W.Frag) (mg : Str → Option Value) (base : Heap) (A : Around) (outer : List Env) (s : Shared) (H : Hp) : Prop where
  frames : A.frames = some outer
  mod : Mod K mg base
  bs : ∀ b o, base.get? b = some o → s.heap.get? b = some o ∧ H b = none
  bsz : base.objs.size ≤ s.heap.objs.size
  funs : s.heap.FunFrames base outer
  frf : ∀ b ∈ frs outer, H b = none
  hok : HOk P w H s.heap
  bare : AllBare s.gens
/-- a call's end -/
def CE (outer : List Env) (P : Program) (w : World) (H : Hp) (s : Shared) (Q : VK) (u : Value) (s' : Shared) : Prop :=
  ∃ v H', s'.os = s.os ∧ AllBare s'.gens ∧ Un (frs outer) [] H H' s.heap s'.heap ∧ HOk P w H' s'.heap ∧ RelV v u ∧ Q v H'
def CR (CX : CXT) (outer : List Env) (P : Program) (w : World) (H : Hp) (s : Shared) (Q : VK) (E : XK) (r : Result) (s' : Shared) : Prop :=
  match r with
  | .ok (.ret u) => CE outer P w H s Q u s'
  | .ok _ => False
  | .error e => CX outer H s E e s'
structure FnOk (P : Program) (w : World) (K : PySem.W.Frag) (mg : Str → Option Value) (base : Heap) (CX : CXT) (k : Nat) (f : Addr) (fd : FuncData) (ps : List Str) (sp : Sp) : Prop where
  len : ∀ vs H Q E, sp vs H Q E → vs.length = ps.length
  run : ∀ (A : Around) (outer : List Env) (s : Shared) (H : Hp) (args : Args) (us : List Value) (vs : List V) (Q : VK) (E : XK), Room k A → Env0 P w K mg base A outer s H → BindsTo s fd args (ps.zip us) → Vals vs us → sp vs H Q E →
    codeAny (model P w) A (.call (.ref f) args) (CR CX outer P w H s Q E) s
theorem FnOk.mono {P : Program} {w : World} {K : PySem.W.Frag} {mg : Str → Option Value} {base : Heap} {CX : CXT} {j k : Nat} {f : Addr} {fd : FuncData} {ps : List Str} {sp : Sp} (F : FnOk P w K mg base CX j f fd ps sp) (h : j ≤ k) :
    FnOk P w K mg base CX k f fd ps sp := ⟨F.len, fun A outer s H args us vs Q E hr => F.run A outer s H args us vs Q E (hr.mono h)⟩

theorem Env0.make {P : Program} {w : World} {K : PySem.W.Frag} {mg : Str → Option Value} {base : Heap} {A : Around} {outer : List Env} {s : Shared} {H : Hp} (e : Env0 P w K mg base A outer s H) (C : Addr) (us : List Value) (kw : List (Str × Value)) :
    Env0 P w K mg base (A.under (.builtin "type.__call__" ⟨.ref C :: us, kw⟩)) outer s H := ⟨by first | exact e.frames | (simpa [Around.under, Code.envs, Code.isFrame, pushEnvs] using e.frames), e.mod, e.bs, e.bsz, e.funs, e.frf, e.hok, e.bare⟩

section
variable {X : Cx} {pins : List (Addr × Obj)} {σ : St} {H : Hp} {s s' : Shared}
/-- from a body: what a callee wants -/
theorem Inv.env0 (I : Inv X pins σ H s) : Env0 X.prog X.w X.K X.mg X.base X.A X.stack s H :=
  ⟨I.ok.frames, I.ok.mod, I.bs, Nat.le_trans I.ok.bsz I.sz, I.stack, I.stkFree, I.hok, I.bare⟩
/-- behind a call -/
theorem Inv.after {Q : VK} {u : Value} (I : Inv X pins σ H s) (h : CE X.stack X.prog X.w H s Q u s') : EP X pins σ Q u s' := by
  obtain ⟨v, H', os, bare, un, hok, r, q⟩ := h
  obtain ⟨hh, g, d, t, os'⟩ := s'
  obtain rfl : os' = s.os := os
  exact ⟨v, H', I.call (h' := hh) (g' := g) (d' := d) (t' := t) (ch := []) un hok bare (fun b z => absurd z (by simp)), r, q⟩
end

/-! ### calls -/
/-- f(..): the written arguments, then the defaults dvs; E: what is wanted of an exception -/
def tCall (sp : Sp) (dvs : List V) (E : XK) (t : TA) : TE := fun σ H Q => t σ H fun vs H1 => sp (vs ++ dvs) H1 Q E
/-- o.m(..) of an instance of the class at C -/
def tMeth (C : Addr) (m : Str) (sp : Sp) (dvs : List V) (E : XK) (ta : TE) (t : TA) : TE := fun σ H Q => ta σ H fun x H1 => ∃ a dx fs, x = .ref a ∧ H1 a = some (.ins C dx fs) ∧ fs.lookup m = none ∧
  t σ H1 fun vs H2 => sp (x :: (vs ++ dvs)) H2 Q E
/-- C(..): a new instance and its dict, then __init__ -/
def tMake (C : Addr) (sp : Sp) (dvs : List V) (E : XK) (t : TA) : TE := fun σ H Q => t σ H fun vs H1 => ∀ x dx, H1 x = none → H1 dx = none → dx ≠ x →
  sp (.ref x :: (vs ++ dvs)) (upd (upd H1 dx (.own x)) x (.ins C dx [])) (fun v H2 => v = .non ∧ Q (.ref x) H2) E

/-- how the parameters are bound: us the positional arguments, kw the keywords' values by name, ds the defaults that fill up -/
def Binds (K : PySem.W.Frag) (fd : FuncData) (ps : List Str) (ds : List Value) : Prop :=
  ∀ (s : Shared) (us : List Value), K.In s.heap → (us ++ ds).length = ps.length → BindsTo s fd ⟨us, []⟩ (ps.zip (us ++ ds))
/-- every parameter is given -/
theorem Binds.all {K : PySem.W.Frag} {fd : FuncData} {ps : List Str} (h : ∀ us : List Value, us.length = ps.length → bindArgs fd ⟨us, []⟩ = pure (ps.zip us)) : Binds K fd ps [] := fun s us _ hl => by
  rw [List.append_nil] at hl ⊢
  exact .of_eq (h us hl)

/-- an exception of a callee reaches what this body wants of exceptions -/
def Passes (CX : CXT) (X : Cx) (E : XK) : Prop := ∀ (pins : List (Addr × Obj)) (σ : St) (H : Hp) (s : Shared) (e : Value) (s' : Shared), Inv X pins σ H s → CX X.stack H s E e s' → X.xe e s'

section
variable {X : Cx} {CX : CXT} {k : Nat} {f C : Addr} {fd : FuncData} {ps : List Str} {sp : Sp} {dvs : List V} {ds : List Value} {E : XK} {x m : Str} {p pos apos : Pos} {e o : Expr} {es : List Expr} {ta : TE} {t : TA}

/-- the callee runs -/
theorem run_fn {pins : List (Addr × Obj)} {σ : St} {H : Hp} {s : Shared} {Q : VK} {us : List Value} {vs : List V} (F : FnOk X.prog X.w X.K X.mg X.base CX k f fd ps sp) (hr : Room k X.A) (hb : Binds X.K fd ps ds) (hd : Vals dvs ds) (hx : Passes CX X E)
    (I : Inv X pins σ H s) (r : Vals vs us) (h : sp (vs ++ dvs) H Q E) : wpAny (model X.prog X.w) X.A (call (.ref f) us) (EP X pins σ Q) X.xe s := by
  have r2 : Vals (vs ++ dvs) (us ++ ds) := r.append hd
  have hl : (us ++ ds).length = ps.length := by rw [← r2.length]; exact F.len _ _ _ _ h
  refine wpAny_call (codeAny_mono (F.run X.A X.stack s H ⟨us, []⟩ (us ++ ds) (vs ++ dvs) Q E hr I.env0 (hb s us I.kIn hl) r2 h) fun r s' hq => ?_)
  cases r with
  | error e => exact hx pins σ H s e s' I hq
  | ok fl =>
    cases fl with
    | ret u => exact I.after hq
    | next => exact False.elim hq
    | brk => exact False.elim hq
    | cont => exact False.elim hq

theorem pe_call (F : FnOk X.prog X.w X.K X.mg X.base CX k f fd ps sp) (hr : Room k X.A) (hg : Gl X x) (hm : X.mg x = some (.ref f)) (hk : PySem.W.keepIn X.K (.ref f) = true) (hb : Binds X.K fd ps ds) (hd : Vals dvs ds) (hx : Passes CX X E)
    (ha : PA X (e :: es) t) (hdb : (x == ("__debug__" : Str)) = false := by decide) (he : starEach (e :: es) X.env = (false, eval e X.env) :: starEach es X.env := by rfl) (hpl : (backTo pos (starEach es X.env)).any (·.1) = false := by rfl) :
    PE X (.Call (.Name x p) (e :: es) [] pos) (tCall sp dvs E t) := by
  intro pins s σ H Q I h
  refine wpAny_Call_Name_kw (ld_glob I hg hm ?_ hdb)
  refine PySem.W.callWith_K (h₀ := X.base) I.ok.mod.kin hk (thn (ha pos pins s σ H _ I h) fun us s1 ⟨vs, H1, I1, r, q⟩ => ⟨I1.kIn, ?_⟩) he hpl
  exact run_fn F hr hb hd hx I1 r q

/-- o.m(e, ..) -/
theorem pe_meth {pl : Sem Bool} (he : PE X o ta) (c : Cls X.K C) (hm : Meth X.K C m f) (F : FnOk X.prog X.w X.K X.mg X.base CX k f fd ps sp) (hr : Room k X.A) (hb : Binds X.K fd ps ds) (hd : Vals dvs ds) (hx : Passes CX X E) (ha : PA X (e :: es) t)
    (hst : starEach (e :: es) X.env = (false, eval e X.env) :: starEach es X.env := by rfl) (hpl : (backTo pos (starEach es X.env)).any (·.1) = false := by rfl)
    (ht : eval (.Call (.Attribute o m apos) (e :: es) [] pos) X.env = (do
      let ov ← eval o X.env
      standAt apos.atName
      let (f, first) ← holding [ov] (getMethod ov m pl)
      callWith pos f first (backTo pos (starEach (e :: es) X.env)) (backToKw pos (keywordEach [] X.env))) := by rfl) :
    PE X (.Call (.Attribute o m apos) (e :: es) [] pos) (tMeth C m sp dvs E ta t) := by
  intro pins s σ H Q I h
  refine PySem.W.methodCall_KW (pl := pl) (thn (he pins s σ H _ I h) fun u s1 ⟨x, H1, I1, rx, a, dx, fs, ex, ea, l, q⟩ => ?_) ht
  subst ex
  obtain rfl : u = Value.ref a := rx
  refine getmeth_ok I1 ea c hm l ?_
  refine PySem.W.callWith_K (first := [.ref a]) (h₀ := X.base) I.ok.mod.kin hm.kp (thn (ha pos pins s1 σ H1 _ I1 q) fun us s2 ⟨vs, H2, I2, r, q2⟩ => ⟨I2.kIn, ?_⟩) hst hpl
  exact run_fn (us := .ref a :: us) (vs := .ref a :: vs) F hr hb hd hx I2 (.cons rfl r) q2
/-- o.m() -/
theorem pe_meth0 {pl : Sem Bool} (he : PE X o ta) (c : Cls X.K C) (hm : Meth X.K C m f) (F : FnOk X.prog X.w X.K X.mg X.base CX k f fd ps sp) (hr : Room k X.A) (hb : Binds X.K fd ps ds) (hd : Vals dvs ds) (hx : Passes CX X E)
    (ht : eval (.Call (.Attribute o m apos) [] [] pos) X.env = (do
      let ov ← eval o X.env
      standAt apos.atName
      let (f, first) ← holding [ov] (getMethod ov m pl)
      callWith pos f first (backTo pos (starEach [] X.env)) (backToKw pos (keywordEach [] X.env))) := by rfl) :
    PE X (.Call (.Attribute o m apos) [] [] pos) (tMeth C m sp dvs E ta tNil) := by
  intro pins s σ H Q I h
  refine PySem.W.methodCall_KW (pl := pl) (thn (he pins s σ H _ I h) fun u s1 ⟨x, H1, I1, rx, a, dx, fs, ex, ea, l, q⟩ => ?_) ht
  subst ex
  obtain rfl : u = Value.ref a := rx
  refine getmeth_ok I1 ea c hm l ?_
  exact PySem.W.callWith_K0 (first := [.ref a]) I1.kIn hm.kp (run_fn (us := [.ref a]) (vs := [.ref a]) F hr hb hd hx I1 (.cons rfl .nil) q)

/-- what a class must have to be made -/
structure Mk (K : PySem.W.Frag) (C f : Addr) : Prop where
  makes : PySem.W.makesIn K C = true
  init : PySem.W.findIn K (.ref C) "__init__" = some (some (.ref f))
  fn : PySem.W.isFn K (.ref f) = true
  kp : PySem.W.keepIn K (.ref C) = true

theorem run_make {pins : List (Addr × Obj)} {σ : St} {H : Hp} {s : Shared} {Q : VK} {us : List Value} {vs : List V} (M : Mk X.K C f) (F : FnOk X.prog X.w X.K X.mg X.base CX k f fd ps sp) (hr : Room (k + 1) X.A) (hb : Binds X.K fd ps ds) (hd : Vals dvs ds)
    (hx : Passes CX X E) (I : Inv X pins σ H s) (r : Vals vs us)
    (h : ∀ x dx, H x = none → H dx = none → dx ≠ x → sp (.ref x :: (vs ++ dvs)) (upd (upd H dx (.own x)) x (.ins C dx [])) (fun v H2 => v = .non ∧ Q (.ref x) H2) E) :
    wpAny (model X.prog X.w) X.A (call (.ref C) us) (EP X pins σ Q) X.xe s := by
  have hq := h (s.heap.objs.size + 1) s.heap.objs.size (I.hok.fresh (Nat.le_succ _)) (I.hok.fresh (Nat.le_refl _)) (Nat.ne_of_lt (Nat.lt_succ_self _))
  have I2 := Inv.made (C := C) I
  have r2 : Vals (V.ref (s.heap.objs.size + 1) :: (vs ++ dvs)) (Value.ref (s.heap.objs.size + 1) :: (us ++ ds)) := .cons rfl (r.append hd)
  have hl : (Value.ref (s.heap.objs.size + 1) :: us ++ ds).length = ps.length := by
    have e := r2.length
    rw [F.len _ _ _ _ hq] at e
    exact e.symm
  refine wpAny_call (make_map (f := f) I.kIn M.makes M.init (beq_iff_eq.mp M.fn) (codeAny_mono (F.run _ X.stack _ _ ⟨Value.ref (s.heap.objs.size + 1) :: us, []⟩ (Value.ref (s.heap.objs.size + 1) :: (us ++ ds)) _ _ E (hr.make C us [])
    (I2.env0.make C us []) (hb _ (Value.ref (s.heap.objs.size + 1) :: us) I2.kIn hl) r2 hq) fun r s' hq' => ?_))
  cases r with
  | error e => exact hx pins σ _ _ e s' I2 hq'
  | ok fl =>
    cases fl with
    | ret u =>
      obtain ⟨v, H', I3, rv, ev, q3⟩ := I2.after hq'
      subst ev
      exact ⟨rv, ⟨V.ref (s.heap.objs.size + 1), H', I3, rfl, q3⟩⟩
    | next => exact False.elim hq'
    | brk => exact False.elim hq'
    | cont => exact False.elim hq'
theorem pe_make (M : Mk X.K C f) (F : FnOk X.prog X.w X.K X.mg X.base CX k f fd ps sp) (hr : Room (k + 1) X.A) (hg : Gl X x) (hm : X.mg x = some (.ref C)) (hb : Binds X.K fd ps ds) (hd : Vals dvs ds) (hx : Passes CX X E)
    (ha : PA X (e :: es) t) (hdb : (x == ("__debug__" : Str)) = false := by decide) (he : starEach (e :: es) X.env = (false, eval e X.env) :: starEach es X.env := by rfl) (hpl : (backTo pos (starEach es X.env)).any (·.1) = false := by rfl) :
    PE X (.Call (.Name x p) (e :: es) [] pos) (tMake C sp dvs E t) := by
  intro pins s σ H Q I h
  refine wpAny_Call_Name_kw (ld_glob I hg hm ?_ hdb)
  refine PySem.W.callWith_K (h₀ := X.base) I.ok.mod.kin M.kp (thn (ha pos pins s σ H _ I h) fun us s1 ⟨vs, H1, I1, r, q⟩ => ⟨I1.kIn, ?_⟩) he hpl
  exact run_make M F hr hb hd hx I1 r q
end

/-! ### keywords -/
section
variable {X : Cx} {CX : CXT} {k : Nat} {f C : Addr} {fd : FuncData} {ps ks : List Str} {sp : Sp} {E : XK} {x m : Str} {p pos apos kpos : Pos} {e o : Expr} {es : List Expr} {kws : List Keyword} {te ta : TE} {t tk : TA} {nm : Option Str}

variable {g : List Value → List Value → List Value} {gV : List V → List V → List V}
end

/-! ### a def's body keeps its promise -/
/-- names: the parameters first -/
structure FnScope (N P : List Str) (sc : Scope) : Prop where
  kind : sc.kind = .function
  co : sc.isCoroutine = false
  gen : sc.isGenerator = false
  nd : N.Nodup
  pre : N.take P.length = P
  par : ∀ x ∈ P, sc.names.lookup x = some .local ∨ sc.names.lookup x = some .cell
  nofree : ∀ y ∈ sc.names, y.2 ≠ .free

theorem bindL_out {kindOf : Str → Option NameKind} {x : Str} : ∀ {binds : List (Str × Value)} {m : Str → Option Value}, (∀ v, (x, v) ∉ binds) → bindL kindOf binds m x = m x
  | [], _, _ => rfl
  | (n, v) :: r, m, h => by
    unfold bindL
    rw [bindL_out fun w hw => h w (List.mem_cons_of_mem _ hw)]
    split
    · have : x ≠ n := by rintro rfl; exact h v List.mem_cons_self
      simp [this]
    · rfl
theorem bindC_out {kindOf : Str → Option NameKind} {x : Str} : ∀ {binds : List (Str × Value)} {m : Str → Option Value}, (∀ v, (x, v) ∉ binds) → bindC kindOf binds m x = m x
  | [], _, _ => rfl
  | (n, v) :: r, m, h => by
    unfold bindC
    rw [bindC_out fun w hw => h w (List.mem_cons_of_mem _ hw)]
    split
    · rfl
    · have : x ≠ n := by rintro rfl; exact h v List.mem_cons_self
      simp [this]
theorem bindL_get {kindOf : Str → Option NameKind} {x : Str} {v : Value} : ∀ {P : List Str} {vs : List Value} {i : Nat} {m : Str → Option Value}, P.Nodup → P[i]? = some x → vs[i]? = some v → kindOf x = some .local →
    bindL kindOf (P.zip vs) m x = some v
  | [], _, _, _, _, h, _, _ => by simp at h
  | _ :: _, [], _, _, _, _, h, _ => by simp at h
  | p :: P, w :: vs, 0, m, nd, h1, h2, hk => by
    simp at h1 h2; subst h1; subst h2
    show bindL kindOf ((p, w) :: P.zip vs) m p = _
    unfold bindL
    rw [bindL_out fun v hv => (List.nodup_cons.mp nd).1 (List.of_mem_zip hv).1, if_pos hk]
    simp
  | p :: P, w :: vs, i + 1, m, nd, h1, h2, hk => by
    show bindL kindOf ((p, w) :: P.zip vs) m x = _
    unfold bindL
    exact bindL_get (i := i) (List.nodup_cons.mp nd).2 (by simpa using h1) (by simpa using h2) hk
theorem bindC_get {kindOf : Str → Option NameKind} {x : Str} {v : Value} : ∀ {P : List Str} {vs : List Value} {i : Nat} {m : Str → Option Value}, P.Nodup → P[i]? = some x → vs[i]? = some v → kindOf x ≠ some .local →
    bindC kindOf (P.zip vs) m x = some v
  | [], _, _, _, _, h, _, _ => by simp at h
  | _ :: _, [], _, _, _, _, h, _ => by simp at h
  | p :: P, w :: vs, 0, m, nd, h1, h2, hk => by
    simp at h1 h2; subst h1; subst h2
    show bindC kindOf ((p, w) :: P.zip vs) m p = _
    unfold bindC
    rw [bindC_out fun v hv => (List.nodup_cons.mp nd).1 (List.of_mem_zip hv).1, if_neg hk]
    simp
  | p :: P, w :: vs, i + 1, m, nd, h1, h2, hk => by
    show bindC kindOf ((p, w) :: P.zip vs) m x = _
    unfold bindC
    exact bindC_get (i := i) (List.nodup_cons.mp nd).2 (by simpa using h1) (by simpa using h2) hk

/-- the names' values at the entry -/
def start (N : List Str) (vs : List V) : St := vs.map some ++ List.replicate (N.length - vs.length) none

/-- the context of a def's body, at its entry; an exception leaves the frame, then lies as CX says -/
def cxOf (CX : CXT) (P : Program) (w : World) (K : PySem.W.Frag) (mg : Str → Option Value) (base : Heap) (N : List Str) (qual : Str) (scope : Scope) (f : Addr) (cd : Value) (A : Around) (outer : List Env) (s : Shared) (H : Hp) (E : XK) : Cx where
  prog := P
  w := w
  K := K
  mg := mg
  base := base
  A := A.deeper (envOfC qual scope s.heap.objs.size f cd)
  N := N
  s₀ := s
  H₀ := H
  env := envOfC qual scope s.heap.objs.size f cd
  outer := outer
  stack := envOfC qual scope s.heap.objs.size f cd :: outer
  ex := []
  calm := true
  fn := fun _ => true
  pn := []
  xe := fun e s' => wpAny (model P w) (A.deeper (envOfC qual scope s.heap.objs.size f cd)) (leaving (envOfC qual scope s.heap.objs.size f cd) e) (fun _ s'' => CX outer H s E e s'') (fun e' s'' => CX outer H s E e' s'') s'

theorem cell_has {sc : Scope} {n : Nat} {x : Str} (h : sc.names.lookup x = some .cell) : ∃ c, (cellsFrom n sc.names []).lookup x = some c := by
  have q := PySem.W.cellsFrom_some sc.names n [] (.inl h)
  exact Option.isSome_iff_exists.mp q

theorem inv_start {CX : CXT} {P : Program} {w : World} {K : PySem.W.Frag} {mg : Str → Option Value} {base : Heap} {N ps : List Str} {qual : Str} {scope : Scope} {f : Addr} {cd : Value} {A : Around} {outer : List Env} {s s1 : Shared} {H : Hp} {E : XK} {us : List Value} {vs : List V}
    (S : FnScope N ps scope) (hd : A.handled = none) (e0 : Env0 P w K mg base A outer s H) (hl : vs.length = ps.length) (r : Vals vs us)
    (x : InCallC s s.heap.objs.size (bindL (envOfC qual scope s.heap.objs.size f cd).kindOf (ps.zip us) fun _ => none) (cellsFrom (s.heap.objs.size + 1) scope.names []) (bindC (envOfC qual scope s.heap.objs.size f cd).kindOf (ps.zip us) fun _ => none) s1) :
    Inv (cxOf CX P w K mg base N qual scope f cd A outer s H E) [] (start N vs) H s1 := by
  have hpl : ps.length ≤ N.length := by have := congrArg List.length S.pre; rw [List.length_take] at this; omega
  obtain ⟨h1, tk, rfl, hk⟩ := x.done
  have noA : ∀ b : Addr, b ∉ (cxOf CX P w K mg base N qual scope f cd A outer s H E).ex := fun b z => absurd (show b ∈ ([] : List Addr) from z) (by simp)
  refine ⟨⟨e0.mod, S.kind, rfl, rfl, Nat.le_refl _, fun y z c h1 h2 => ?_, fun y hy => ?_, fun y c _ h => ?_, fun _ => hd, Around.frames_deeper e0.frames, .inr ⟨rfl, rfl⟩, fun b z => absurd z (noA b), e0.bs, e0.bsz, fun b _ _ => noA b, fun b z => absurd z (noA b), e0.funs, e0.frf⟩,
    rfl, e0.bare, Un.kept hk, ⟨_, x.toInCall.ns, fun i y v h1 h2 h3 => ?_⟩, fun y c h => ⟨_, x.cell y c h⟩, e0.hok.fresh (Nat.le_refl _), fun y c h => ?_, fun p hp => absurd (show p ∈ ([] : List (Addr × Obj)) from hp) (by simp), e0.hok.kept hk, ?_⟩
  · exact name_of_addr x.apart (PySem.mem_of_lookup h1) (PySem.mem_of_lookup h2)
  · have hy : scope.names.lookup y = some .cell ∨ scope.names.lookup y = some .free := hy
    rcases hy with hy | hy
    · exact cell_has hy
    · exact absurd rfl (S.nofree _ (PySem.mem_of_lookup hy))
  · exact Nat.le_of_lt (x.above y c (PySem.mem_of_lookup h))
  · have hi : i < vs.length := by
      unfold start at h2
      by_cases hi : i < vs.length
      · exact hi
      · rw [List.getElem?_append_right (by simpa using hi)] at h2
        rw [List.getElem?_replicate] at h2
        split at h2 <;> cases h2
    have ha : vs[i]? = some v := by
      unfold start at h2
      rw [List.getElem?_append_left (by simpa using hi), List.getElem?_map] at h2
      cases e : vs[i]? with
      | none => rw [e] at h2; cases h2
      | some a => rw [e] at h2; cases h2; rfl
    obtain ⟨u, hu, rv⟩ := r.get ha
    have hp : ps[i]? = some y := by
      rw [← S.pre, List.getElem?_take_of_lt (by omega)]; exact h1
    have ndP : ps.Nodup := by rw [← S.pre]; exact S.nd.sublist (List.take_sublist _ _)
    refine ⟨u, rv, ?_⟩
    rcases S.par y (List.mem_of_getElem? hp) with k | k
    · exact .inl ⟨k, bindL_get ndP hp hu k⟩
    · obtain ⟨c, e⟩ := cell_has (n := s.heap.objs.size + 1) k
      refine .inr ⟨.inl k, c, e, ?_⟩
      have q := x.cell y c e
      rw [bindC_get ndP hp hu (by show scope.names.lookup y ≠ _; rw [k]; decide)] at q
      exact q
  · exact e0.hok.fresh (Nat.le_of_lt (x.above y c (PySem.mem_of_lookup h)))
  · unfold start
    show _ = N.length
    rw [List.length_append, List.length_map, List.length_replicate]
    omega

/-- THE RULE: a def (or a method) of the text, by its body. The body's reading t is chosen for each entry; it is run at the parameters' values -/
theorem fn_of {CX : CXT} {P : Program} {w : World} {K : PySem.W.Frag} {mg : Str → Option Value} {base : Heap} {k : Nat} {f : Addr} {name qual : Str} {params : Arguments} {body : List Stmt} {scope : Scope} {dV kV doc pm cdv ct oc : Value} {an od : Option Addr}
    {osl : Array (Option Value)} {N ps : List Str} {sp : Sp} (lk : K.lookup f = some ⟨oc, od, .func (PySem.W.fnOf name qual params body scope dV kV doc pm an cdv ct), osl⟩) (hcd : PySem.W.codeIn K cdv qual = true) (S : FnScope N ps scope)
    (len : ∀ vs H Q E, sp vs H Q E → vs.length = ps.length)
    (hbody : ∀ (A : Around) (outer : List Env) (s : Shared) (H : Hp) (vs : List V) (Q : VK) (E : XK), Room k (A.deeper (envOfC qual scope s.heap.objs.size f cdv)) → sp vs H Q E →
      ∃ t, PSs (cxOf CX P w K mg base N qual scope f cdv A outer s H E) body t ∧ t { nx := fun _ H' => Q .non H', rt := Q } (start N vs) H) :
    FnOk P w K mg base CX (k + 1) f (PySem.W.fnOf name qual params body scope dV kV doc pm an cdv ct) ps sp := by
  refine ⟨len, fun A outer s H args us vs Q E hr e0 hb r hsp => ?_⟩
  have hl := len _ _ _ _ hsp
  have KX : K.In s.heap := e0.mod.kin.keeps fun b o e => (e0.bs b o e).1
  have lim : s.heap.NoLimit := e0.mod.nolimit.keeps fun b o e => (e0.bs b o e).1
  have hkind : ∀ y ∈ ps.zip us, scope.names.lookup y.1 = some .local ∨ (scope.names.lookup y.1 = some .cell ∧ ((cellsFrom (s.heap.objs.size + 1) scope.names []).lookup y.1).isSome = true) := fun ⟨n, v⟩ hy => by
    rcases S.par n (List.of_mem_zip hy).1 with q | q
    · exact .inl q
    · exact .inr ⟨q, PySem.W.cellsFrom_some _ _ _ (.inl q)⟩
  refine codeAny_call_function hr.depth (KX _ _ lk) rfl S.co S.gen rfl (PySem.W.codeRec_of KX hcd) (hb _ _ _ _ ?_)
  refine wpAny_newFunctionEnv_cells S.kind hkind fun env he s1 x => ?_
  subst he
  refine ⟨lim.keeps x.toInCall.keep, codeAny_func ?_⟩
  obtain ⟨t, ht, hq⟩ := hbody A outer s H vs Q E (hr.deeper _) hsp
  have I : Inv (cxOf CX P w K mg base N qual scope f cdv A outer s H E) [] (start N vs) H s1 := inv_start S hr.hd e0 hl r x
  refine wpAny_mono (ht [] s1 (start N vs) H _ I hq) (fun fl s' hs => ?_) fun e s' hs => hs
  have fin : ∀ {σ' : St} {H' : Hp} {v : V} {u : Value}, Inv (cxOf CX P w K mg base N qual scope f cdv A outer s H E) [] σ' H' s' → RelV v u → Q v H' → CE outer P w H s Q u s' :=
    fun {σ' H' v u} J rv q => ⟨v, H', J.os, J.bare, J.base, J.hok, rv, q⟩
  cases fl with
  | ret u =>
    obtain ⟨v, σ', H', J, rv, q⟩ := hs
    exact fin J rv q
  | next =>
    obtain ⟨σ', H', J, q⟩ := hs
    exact fin (v := V.non) (u := Value.none) J rfl q
  | brk =>
    obtain ⟨_, _, _, q⟩ := hs
    exact False.elim q
  | cont =>
    obtain ⟨_, _, _, q⟩ := hs
    exact False.elim q
end L2

namespace L2
open PySem PySem.Spec PyProof.Rows
section
variable {X : Cx} {x : Str} {p pos : Pos} {e : Expr} {es : List Expr} {t : TA} {id T : String} {r : List V → Hp → VK → Prop}

def tCB (r : List V → Hp → VK → Prop) (t : TA) : TE := fun σ H Q => t σ H fun vs H1 => r vs H1 Q
/-- f(e, ..), f a built-in function -/
theorem pe_callB (hc : CallR X (.builtin id) r) (hg : Gl X x) (hm : X.mg x = none) (hv : bootBuiltins x = some (.builtin id)) (ha : PA X (e :: es) t) (hn : x ≠ "__name__" := by decide) (hdb : (x == ("__debug__" : Str)) = false := by decide)
    (he : starEach (e :: es) X.env = (false, eval e X.env) :: starEach es X.env := by rfl) (hpl : (backTo pos (starEach es X.env)).any (·.1) = false := by rfl) : PE X (.Call (.Name x p) (e :: es) [] pos) (tCB r t) := by
  intro pins s σ H Q I h
  refine wpAny_Call_Name_kw (ld_blt I hg hm hv ?_ hn hdb)
  exact PyProof.Rows.callWith_builtin1 (thn (ha pos pins s σ H _ I h) fun us s1 ⟨vs, H1, I1, r1, q1⟩ => hc pins s1 σ H1 vs us Q I1 r1 q1) he hpl
/-- T(e, ..), T a built-in type -/
theorem pe_callTy (hc : CallR X (.type T) r) (hg : Gl X x) (hm : X.mg x = none) (hv : bootBuiltins x = some (.type T)) (ha : PA X (e :: es) t) (hn : x ≠ "__name__" := by decide) (hdb : (x == ("__debug__" : Str)) = false := by decide)
    (he : starEach (e :: es) X.env = (false, eval e X.env) :: starEach es X.env := by rfl) (hpl : (backTo pos (starEach es X.env)).any (·.1) = false := by rfl) : PE X (.Call (.Name x p) (e :: es) [] pos) (tCB r t) := by
  intro pins s σ H Q I h
  refine wpAny_Call_Name_kw (ld_blt I hg hm hv ?_ hn hdb)
  exact PyProof.Rows.callWith_type1 (thn (ha pos pins s σ H _ I h) fun us s1 ⟨vs, H1, I1, r1, q1⟩ => hc pins s1 σ H1 vs us Q I1 r1 q1) he hpl
end
end L2

namespace HT
open PySem PyProof.Rows



section
open PySem.SeqAt
open PySem.AutoSeq1 (wpAny_loadPart')
open PySem.MeetsSeq PySem.MeetsSeq2 PySem.MeetsSeq3

end

section
variable {prog : Program} {w : World} {A : Around} {E : Value → Shared → Prop} {s : Shared}



/-! ### t[a:b], not the whole -/
/-- a slice's bound as a place among n (d where it is left out) -/
def sIx (n d : Nat) : Option Int → Nat
  | none => d
  | some v => if v < 0 then (v + (n : Int)).toNat else min v.toNat n

end
end HT

namespace L2
open PySem PySem.Spec PyProof.Rows

/-! ### the parts of a slice -/
abbrev TO := St → Hp → (Option Int → Hp → Prop) → Prop
/-- a slice's part (left out, or an int) -/
def PO (X : Cx) (e : Option Expr) (t : TO) : Prop :=
  ∀ (pins : List (Addr × Obj)) (s : Shared) (σ : St) (H : Hp) (Q : Option Int → Hp → Prop), Inv X pins σ H s → t σ H Q →
    wpAny (model X.prog X.w) X.A (evalPart e X.env) (fun u s' => ∃ o H', Inv X pins σ H' s' ∧ IsPart u o ∧ Q o H') X.xe s
def tNoPart : TO := fun _ H Q => Q none H
def tPart (t : TE) : TO := fun σ H Q => t σ H fun x H1 => ∃ i, x = .int i ∧ Q (some i) H1


section
variable {X : Cx} {e : Expr} {te : TE} {lo hi : Option Expr} {tl th : TO} {pos p2 : Pos}

theorem po_none : PO X none tNoPart := by
  intro pins s σ H Q I h
  rw [evalPart_none]
  exact wpAny_pure ⟨none, H, I, .none, h⟩
theorem po_some (h : PE X e te) : PO X (some e) (tPart te) := by
  intro pins s σ H Q I hw
  rw [evalPart_some]
  refine thn (h pins s σ H _ I hw) fun u s1 ⟨x, H1, I1, r1, q1⟩ => ?_
  obtain ⟨i, rfl, q⟩ := q1
  obtain ⟨t, rfl⟩ := r1
  exact ⟨some i, H1, I1, .int i t, q⟩

/-- what a slice of a value is, by values: the slice object stands at sl -/
def SlR (X : Cx) (r : V → Option Int → Option Int → Hp → VK → Prop) : Prop :=
  ∀ (pins : List (Addr × Obj)) (s : Shared) (σ : St) (H : Hp) (x : V) (v vl vu : Value) (lo hi : Option Int) (sl : Addr) (Q : VK), Inv X pins σ H s → RelV x v → s.heap.IsSliceOf sl vl vu .none → IsPart vl lo → IsPart vu hi → r x lo hi H Q →
    ∃ T id, typeLookup (.type T) "__getitem__" = pure (some (.builtin id)) ∧ s.TypeIs v T ∧ wpAny (model X.prog X.w) X.A (getItem v (.ref sl)) (EP X pins σ Q) X.xe s
def tSl (r : V → Option Int → Option Int → Hp → VK → Prop) (te : TE) (tl th : TO) : TE := fun σ H Q => te σ H fun x H1 => tl σ H1 fun l H2 => th σ H2 fun u H3 => r x l u H3 Q
/-- a[lo:hi], any a -/
theorem pe_slice {r : V → Option Int → Option Int → Hp → VK → Prop} (hr : SlR X r) (he : PE X e te) (hl : PO X lo tl) (hu : PO X hi th) : PE X (.Subscript e (.Slice lo hi none p2) pos) (tSl r te tl th) := by
  intro pins s σ H Q I h
  refine Subscript_ (thn (he pins s σ H _ I h) fun v s1 ⟨x, H1, I1, r1, q1⟩ => ?_)
  refine wpAny_Slice (thn (hl pins s1 σ H1 _ I1 q1) fun vl s2 ⟨l, H2, I2, pl, q2⟩ => thn (hu pins s2 σ H2 _ I2 q2) fun vu s3 ⟨u, H3, I3, pu, q3⟩ => ?_)
  rw [evalPart_none]
  refine wpAny_pure ?_
  have I4 : Inv X pins σ H3 { s3 with heap := s3.heap.push { cls := .type "slice", data := .fields #[vl, vu, .none] } } := I3.kept (t' := s3.toks) fun b ob q => Heap.get?_push_of_some _ q
  obtain ⟨T, id, hT, ht, hg⟩ := hr pins { s3 with heap := s3.heap.push { cls := .type "slice", data := .fields #[vl, vu, .none] } } σ H3 x v vl vu l u s3.heap.objs.size Q I4 r1 (Heap.IsSliceOf.new ..) pl pu q3
  show wpAny (model X.prog X.w) X.A (subscriptTail e (.Slice lo hi none p2) v (.ref s3.heap.objs.size)) (EP X pins σ Q) X.xe { s3 with heap := s3.heap.push { cls := .type "slice", data := .fields #[vl, vu, .none] } }
  exact tail_any (ops := [.ref s3.heap.objs.size, v]) ht hT hg (by with_unfolding_all rfl)

/-- the items of xs[lo:hi] -/
def cutV (xs : List V) (lo hi : Option Int) : List V := (xs.drop (HT.sIx xs.length 0 lo)).take (HT.sIx xs.length xs.length hi - HT.sIx xs.length 0 lo)
theorem cutV_length (xs : List V) (lo hi : Option Int) : (cutV xs lo hi).length ≤ xs.length := by
  unfold cutV
  rw [List.length_take, List.length_drop]
  omega

/-! ### t < u, t + u -/
end
end L2

namespace L2
open PySem PySem.Spec PyProof.Rows

/-! ### places -/
/-- the place that an index of any sign means -/
def ixN (n : Nat) (i : Int) : Option Nat := if 0 ≤ i then (if i < n then some i.toNat else none) else if -(n : Int) ≤ i then some (i + n).toNat else none
def atI {α : Type} (xs : List α) (i : Int) : Option α := (ixN xs.length i).bind fun j => xs[j]?
theorem ixN_seq {n : Nat} {i : Int} {j : Nat} (h : ixN n i = some j) : seqIndex? i n = some j ∧ j < n ∧ -(n : Int) ≤ i ∧ i < n := by
  unfold ixN at h
  by_cases h0 : 0 ≤ i
  · rw [if_pos h0] at h
    by_cases h1 : i < n
    · rw [if_pos h1] at h
      have e : i.toNat = j := Option.some.inj h
      exact ⟨by rw [seqIndex_of h0 h1, e], by omega, by omega, h1⟩
    · rw [if_neg h1] at h; cases h
  · rw [if_neg h0] at h
    by_cases h1 : -(n : Int) ≤ i
    · rw [if_pos h1] at h
      have e : (i + n).toNat = j := Option.some.inj h
      exact ⟨by rw [seqIndex_neg (by omega) h1, e], by omega, h1, by omega⟩
    · rw [if_neg h1] at h; cases h
theorem atI_get {α : Type} {xs : List α} {i : Int} {v : α} (h : atI xs i = some v) : ∃ j, seqIndex? i xs.length = some j ∧ xs[j]? = some v ∧ j < xs.length ∧ -(xs.length : Int) ≤ i ∧ i < xs.length := by
  unfold atI at h
  cases e : ixN xs.length i with
  | none => rw [e] at h; cases h
  | some j =>
    rw [e] at h
    obtain ⟨h1, h2, h3, h4⟩ := ixN_seq e
    exact ⟨j, h1, h, h2, h3, h4⟩
theorem atI_nat {α : Type} {xs : List α} {j : Nat} {v : α} (h : xs[j]? = some v) : atI xs (j : Int) = some v := by
  have hj : j < xs.length := (List.getElem?_eq_some_iff.mp h).1
  have e : ixN xs.length (j : Int) = some j := by
    unfold ixN
    rw [if_pos (by omega), if_pos (by omega)]; simp
  unfold atI; rw [e]; exact h

/-! ### what may be subscripted -/
/-- what stands as an index of a plain subscript -/
def PlainIx (b : Expr) : Prop := ∀ o i, subscripted b false o i = operate [o, i] (getItem o i)
/-- a subscript by values -/
def IxR (X : Cx) (r : R2) : Prop :=
  ∀ (value slice : Expr) (pins : List (Addr × Obj)) (s : Shared) (σ : St) (H : Hp) (x y : V) (v u : Value) (Q : VK), Inv X pins σ H s → RelV x v → RelV y u → r x y H Q →
    subscripted slice false v u = operate [v, u] (getItem v u) → wpAny (model X.prog X.w) X.A (subscriptTail value slice v u) (EP X pins σ Q) X.xe s
/-- a call of a builtin's method by values: the receiver, the arguments -/
def MtR (X : Cx) (id : String) (r : V → List V → Hp → VK → Prop) : Prop :=
  ∀ (pins : List (Addr × Obj)) (s : Shared) (σ : St) (H : Hp) (x : V) (xs : List V) (v : Value) (us : List Value) (Q : VK), Inv X pins σ H s → RelV x v → Vals xs us → r x xs H Q →
    wpAny (model X.prog X.w) X.A (call (.builtin id) (v :: us)) (EP X pins σ Q) X.xe s
section
variable {X : Cx} {a b : Expr} {ta tb : TE} {pos : Pos}
/-- a[b] -/
theorem pe_ix {r : R2} (hr : IxR X r) (ha : PE X a ta) (hb : PE X b tb) (hs : PlainIx b) : PE X (.Subscript a b pos) (tOp r ta tb) := by
  intro pins s σ H Q I h
  exact Subscript_ (binT ha hb I h fun v u s2 x y H2 I2 rx ry q => hr a b pins s2 σ H2 x y v u Q I2 rx ry q (hs _ _))

def rIxL (K : PySem.W.Frag) : R2 := fun x y H Q => ∃ p xs i v, x = .ref p ∧ y = .int i ∧ SqL K H p xs ∧ atI xs i = some v ∧ Q v H
def rIxT (K : PySem.W.Frag) : R2 := fun x y H Q => ∃ p xs i v, x = .ref p ∧ y = .int i ∧ SqT K H p xs ∧ atI xs i = some v ∧ Q v H
def rIxS : R2 := fun x y H Q => ∃ z i c, x = .str z ∧ y = .int i ∧ z.length ≤ sizeLine ∧ atI z.cps.toList i = some c ∧ Q (.str ⟨#[c]⟩) H
theorem ix_list : IxR X (rIxL X.K) := by
  intro value slice pins s σ H x y v u Q I rx ry h hs
  obtain ⟨p, xs, i, z, rfl, rfl, hq, he, q⟩ := h
  cases rx
  obtain ⟨t, rfl⟩ := ry
  obtain ⟨its, r, pl, hz⟩ := I.list hq
  obtain ⟨j, h1, h2, h3, h4, h5⟩ := atI_get he
  obtain ⟨w, ew, rw'⟩ := r.get h2
  have hl := r.length
  have hn := line63
  have fin : EP X pins σ Q w s := ⟨z, H, I, rw', q⟩
  by_cases h0 : 0 ≤ i
  · have hj : i.toNat = j := by
      rw [seqIndex_of h0 h5] at h1
      exact Option.some.inj h1
    exact item_listR pl.isList h0 (by omega) (by rw [hj]; simpa using ew) fin hs
  · have hj : (i + (its.toArray.size : Int)).toNat = j := by
      rw [seqIndex_neg (by omega) h4] at h1
      rw [List.size_toArray, ← hl]
      exact Option.some.inj h1
    exact subscriptTail_builtinR (x := w) pl.isList.typeIs slot_list_getitem.lookup
      (wpAny_getItem_list_neg (Q := fun r s' => r = w ∧ EP X pins σ Q r s') pl.isList (by omega) (by rw [List.size_toArray] <;> omega) (by omega) (by rw [hj]; simpa using ew) ⟨rfl, fin⟩) hs
theorem ix_tup : IxR X (rIxT X.K) := by
  intro value slice pins s σ H x y v u Q I rx ry h hs
  obtain ⟨p, xs, i, z, rfl, rfl, hq, he, q⟩ := h
  cases rx
  obtain ⟨t, rfl⟩ := ry
  obtain ⟨its, r, pl, hz⟩ := I.tuple hq
  obtain ⟨j, h1, h2, h3, h4, h5⟩ := atI_get he
  obtain ⟨w, ew, rw'⟩ := r.get h2
  have hl := r.length
  have hn := line63
  have fin : EP X pins σ Q w s := ⟨z, H, I, rw', q⟩
  exact subscriptTail_builtinR (x := w) pl.typeIs slot_tuple_getitem.lookup
    (getItem_tuple (j := j) (Q := fun r s' => r = w ∧ EP X pins σ Q r s') pl (by omega) (by omega) (by rw [List.size_toArray, ← hl]; exact h1) (by simpa using ew) ⟨rfl, fin⟩) hs
theorem ix_str : IxR X rIxS := by
  intro value slice pins s σ H x y v u Q I rx ry h hs
  obtain ⟨z, i, c, rfl, rfl, hz, he, q⟩ := h
  obtain ⟨t, rfl⟩ := rx
  obtain ⟨t', rfl⟩ := ry
  obtain ⟨j, h1, h2, h3, h4, h5⟩ := atI_get he
  have hl : z.cps.toList.length = z.length := by simp [Str.length]
  rw [hl] at h1 h4 h5
  have hn := line63
  exact tail_any (typeIs_str s z t) slot_str_getitem.lookup (getItem_str (c := c) (by
    have e1 : decide (i < -(2 ^ 63 : Int)) = false := decide_eq_false (by omega)
    have e2 : decide (i ≥ 2 ^ 63) = false := decide_eq_false (by omega)
    rw [e1, e2, Bool.or_false]) (by rw [h1]; simpa using h2) ⟨.str ⟨#[c]⟩, H, I.tok _, ⟨_, rfl⟩, q⟩) hs

/-! ### xs[i] = v, any sign -/
/-- the list's object behind a store -/
theorem mapSeq_set (its : List Value) (n j : Nat) (u : Value) : Obj.mapSeq (·.setIfInBounds j u) { cls := .type "list", data := .seq its.toArray n } = { cls := .type "list", data := .seq (its.set j u).toArray n } := by
  simp [Obj.mapSeq]
theorem Inv.lst {pins : List (Addr × Obj)} {σ : St} {H : Hp} {s : Shared} {p : Addr} {xs : List V} (I : Inv X pins σ H s) (h : H p = some (.lst xs)) :
    ∃ (its : List Value) (n : Nat), Vals xs its ∧ s.heap.get? p = some { cls := .type "list", data := .seq its.toArray n } ∧ xs.length ≤ sizeLine := by
  obtain ⟨z, its, n, r, e⟩ := I.hok p _ h
  exact ⟨its, n, r, e, z⟩
/-- the list at p is written by an update of its object -/
theorem Inv.lstUpd {pins : List (Addr × Obj)} {σ : St} {H : Hp} {s : Shared} {p : Addr} {xs ys : List V} {its its' : List Value} {n n' : Nat} {f : Obj → Obj} (I : Inv X pins σ H s) (h : H p = some (.lst xs))
    (ho : s.heap.get? p = some { cls := .type "list", data := .seq its.toArray n }) (hf : f { cls := .type "list", data := .seq its.toArray n } = { cls := .type "list", data := .seq its'.toArray n' }) (r : Vals ys its') (hz : ys.length ≤ sizeLine) (t : Nat) :
    Inv X pins σ (upd H p (.lst ys)) { s with heap := s.heap.update p f, toks := t } := by
  have e : (s.heap.update p f).get? p = some { cls := .type "list", data := .seq its'.toArray n' } := by
    rw [Heap.get?_update_self f ho (by rw [hf] <;> rfl), hf]
  refine I.write (x := p) (e := p) (by rw [h]; trivial) (.inl rfl) (fun b u hb q => (Heap.get?_update_other _ _ (Ne.symm hb)).trans q) ⟨_, e⟩ ?_
  exact ⟨hz, its', n', r, e⟩
def rSetL : V → V → V → Hp → (Hp → Prop) → Prop := fun o i v H Q => ∃ p xs k j, o = .ref p ∧ i = .int k ∧ H p = some (.lst xs) ∧ ixN xs.length k = some j ∧ Q (upd H p (.lst (xs.set j v)))
theorem set_list : PSet X rSetL := by
  intro pins s σ H o i v ov iv u Q I ro ri rv h
  obtain ⟨p, xs, k, j, rfl, rfl, hp, hj, q⟩ := h
  cases ro
  obtain ⟨t, rfl⟩ := ri
  obtain ⟨its, n, r, ho, hz⟩ := I.lst hp
  obtain ⟨h1, h2, h3, h4⟩ := ixN_seq hj
  have hl := r.length
  have hn := line63
  have I' : Inv X pins σ (upd H p (.lst (xs.set j v))) { s with heap := s.heap.update p (Obj.mapSeq (·.setIfInBounds j u)) } :=
    I.lstUpd hp ho (mapSeq_set its n j u) (r.set rv j) (by rw [List.length_set]; exact hz) s.toks
  by_cases h0 : 0 ≤ k
  · have hk : k.toNat = j := by
      rw [seqIndex_of h0 h4] at h1
      exact Option.some.inj h1
    exact PySem.W.ki_setAt ho h0 (by omega) (by rw [List.size_toArray, ← hl]; exact h4) (by rw [hk]; exact ⟨_, I', q⟩)
  · have hk : (k + (its.toArray.size : Int)).toNat = j := by
      rw [seqIndex_neg (by omega) h3] at h1
      rw [List.size_toArray, ← hl]
      exact Option.some.inj h1
    exact PySem.W.ki_setBack ho (by omega) (by rw [List.size_toArray, ← hl]; exact h3) (by omega) (by rw [hk]; exact ⟨_, I', q⟩)

/-! ### slices -/
theorem slice_bounds (lo hi : Option Int) (n : Nat) : (sliceBounds lo hi none n).1 = ((HT.sIx n 0 lo : Nat) : Int) ∧ (sliceBounds lo hi none n).2.1 = ((HT.sIx n n hi : Nat) : Int) ∧ (sliceBounds lo hi none n).2.2 = 1 := by
  refine ⟨?_, ?_, rfl⟩
  · cases lo with
    | none => simp [sliceBounds, HT.sIx]
    | some i =>
      simp only [sliceBounds, HT.sIx, Option.getD_none, show (1 : Int) > 0 by decide, if_true]
      by_cases h : i < 0
      · simp only [h, if_true] <;> omega
      · simp only [h, if_false] <;> omega
  · cases hi with
    | none => simp [sliceBounds, HT.sIx]
    | some i =>
      simp only [sliceBounds, HT.sIx, Option.getD_none, show (1 : Int) > 0 by decide, if_true]
      by_cases h : i < 0
      · simp only [h, if_true] <;> omega
      · simp only [h, if_false] <;> omega
theorem slicePick_cut (its : List Value) (lo hi : Option Int) : slicePick its.toArray lo hi none = ((its.drop (HT.sIx its.length 0 lo)).take (HT.sIx its.length its.length hi - HT.sIx its.length 0 lo)).toArray := by
  obtain ⟨h1, h2, h3⟩ := slice_bounds lo hi its.toArray.size
  unfold slicePick
  rw [h1, h2, h3]
  simp only [sliceRange_one, pick_run, List.size_toArray] <;> rfl
/-- xs[lo:hi] of a list: a new list -/
def rSlL (K : PySem.W.Frag) : V → Option Int → Option Int → Hp → VK → Prop := fun x lo hi H Q => ∃ a xs, x = .ref a ∧ SqL K H a xs ∧ ∀ p, H p = none → Q (.ref p) (upd H p (.lst (cutV xs lo hi)))
theorem sl_list : SlR X (rSlL X.K) := by
  intro pins s σ H x v vl vu lo hi sl Q I rx hs pl pu h
  obtain ⟨a, xs, rfl, hx, q⟩ := h
  cases rx
  obtain ⟨its, r, ht, hz⟩ := I.list hx
  have hlen := r.length
  refine ⟨"list", _, slot_list_getitem.lookup, ht.isList.typeIs, ?_⟩
  refine wpAny_getItem_list_slice ht.isList hs pl pu .none (by simp) ?_ (by rw [List.size_toArray] <;> omega)
  rw [slicePick_cut, ← hlen]
  refine ⟨.ref s.heap.objs.size, _, I.laid (t' := s.toks) (o := .lst (cutV xs lo hi)) (fun b ob q => Heap.get?_push_of_some _ q) (Nat.le_refl _) ?_, rfl, q _ (I.hok.fresh (Nat.le_refl _))⟩
  exact ⟨Nat.le_trans (cutV_length xs lo hi) hz, _, 0, (r.drop (HT.sIx xs.length 0 lo)).take (HT.sIx xs.length xs.length hi - HT.sIx xs.length 0 lo), Heap.get?_push_size _ rfl⟩

/-! ### in, not in: flat items -/
def flatV : V → Bool
  | .non => true
  | .bl _ => true
  | .int _ => true
  | .str _ => true
  | _ => false
/-- == of flat values -/
def eqV : V → V → Bool
  | .non, .non => true
  | .bl a, .bl b => a == b
  | .bl a, .int b => (if a then 1 else 0) == b
  | .int a, .bl b => a == (if b then 1 else 0)
  | .int a, .int b => a == b
  | .str a, .str b => a == b
  | _, _ => false
theorem eqAt_V {A : Around} {s : Shared} {y x : V} {u v : Value} (ry : RelV y u) (rx : RelV x v) (fy : flatV y = true) (fx : flatV x = true) : SeqAt.EqAt A s u v (eqV y x) := by
  cases y with
  | non =>
    cases ry
    cases x with
    | non => cases rx; exact SeqAt.EqAt.same _
    | bl b => cases rx; exact SeqAt.EqAt.none_bool b
    | int b => obtain ⟨t, rfl⟩ := rx; exact SeqAt.EqAt.none_int b t
    | str b => obtain ⟨t, rfl⟩ := rx; exact SeqAt.EqAt.none_str b t
    | _ => exact absurd (show false = true from fx) Bool.false_ne_true
  | bl a =>
    cases ry
    cases x with
    | non => cases rx; exact SeqAt.EqAt.bool_none a
    | bl b => cases rx; exact SeqAt.EqAt.bool_bool a b
    | int b => obtain ⟨t, rfl⟩ := rx; exact SeqAt.EqAt.bool_int a b t
    | str b => obtain ⟨t, rfl⟩ := rx; exact SeqAt.EqAt.bool_str a b t
    | _ => exact absurd (show false = true from fx) Bool.false_ne_true
  | int a =>
    obtain ⟨t', rfl⟩ := ry
    cases x with
    | non => cases rx; exact SeqAt.EqAt.int_none a t'
    | bl b => cases rx; exact SeqAt.EqAt.int_bool a t' b
    | int b => obtain ⟨t, rfl⟩ := rx; exact SeqAt.EqAt.int_int a t' b t
    | str b => obtain ⟨t, rfl⟩ := rx; exact SeqAt.EqAt.int_str a t' b t
    | _ => exact absurd (show false = true from fx) Bool.false_ne_true
  | str a =>
    obtain ⟨t', rfl⟩ := ry
    cases x with
    | non => cases rx; exact SeqAt.EqAt.str_none a t'
    | bl b => cases rx; exact SeqAt.EqAt.str_bool a t' b
    | int b => obtain ⟨t, rfl⟩ := rx; exact SeqAt.EqAt.str_int a t' b t
    | str b => obtain ⟨t, rfl⟩ := rx; exact SeqAt.EqAt.str_str a t' b t
    | _ => exact absurd (show false = true from fx) Bool.false_ne_true
  | _ => exact absurd (show false = true from fy) Bool.false_ne_true
/-- the items' answers, read off the values (a value's own answer does not lean on its token) -/
def eqU (x : V) (u : Value) : Bool := match u with
  | .none => eqV .non x
  | .bool b => eqV (.bl b) x
  | .int i _ => eqV (.int i) x
  | .str z _ => eqV (.str z) x
  | _ => false
theorem eqU_of {x y : V} {u : Value} (r : RelV y u) (f : flatV y = true) : eqU x u = eqV y x := by
  cases y with
  | non => cases r; rfl
  | bl b => cases r; rfl
  | int i => obtain ⟨t, rfl⟩ := r; rfl
  | str z => obtain ⟨t, rfl⟩ := r; rfl
  | _ => exact absurd (show false = true from f) Bool.false_ne_true
theorem any_eqU {x : V} : ∀ {xs : List V} {us : List Value}, Vals xs us → xs.all flatV = true → us.any (eqU x) = xs.any fun y => eqV y x
  | _, _, .nil, _ => rfl
  | y :: xs, u :: us, .cons r t, f => by
    rw [List.all_cons, Bool.and_eq_true] at f
    rw [List.any_cons, List.any_cons, eqU_of r f.1, any_eqU t f.2]
theorem mem_eqAt {A : Around} {s : Shared} {x : V} {v : Value} (rx : RelV x v) (fx : flatV x = true) : ∀ {xs : List V} {us : List Value}, Vals xs us → xs.all flatV = true → ∀ u ∈ us, SeqAt.EqAt A s u v (eqU x u)
  | _, _, .nil, _ => fun u hu => by cases hu
  | y :: xs, u :: us, .cons r t, f => fun u' hu => by
    rw [List.all_cons, Bool.and_eq_true] at f
    rcases List.mem_cons.mp hu with rfl | hu
    · rw [eqU_of r f.1]; exact eqAt_V r rx f.1 fx
    · exact mem_eqAt rx fx t f.2 u' hu
def inV (x : V) (xs : List V) : Bool := xs.any fun y => eqV y x
/-- x in a list or tuple of flat items -/
def rIn (K : PySem.W.Frag) (neg : Bool) : R2 := fun x y H Q => ∃ p xs, y = .ref p ∧ (SqL K H p xs ∨ SqT K H p xs) ∧ flatV x = true ∧ xs.all flatV = true ∧ Q (.bl (if neg then !inV x xs else inV x xs)) H
theorem op_in_seq : OpR X (compareOp .In) (rIn X.K false) := by
  intro pins s σ H x y v u Q I rx ry h
  obtain ⟨p, xs, rfl, hq, fx, fs, q⟩ := h
  cases ry
  rcases hq with hq | hq
  · obtain ⟨its, r, pl, hz⟩ := I.list hq
    refine SeqAt.in_listAt (eqU x) pl.isList (fun w hw => mem_eqAt rx fx r fs w (by simpa using hw)) ⟨.bl _, H, I, rfl, ?_⟩
    rw [show its.toArray.any (eqU x) = its.any (eqU x) by simp, any_eqU r fs]
    exact q
  · obtain ⟨its, r, pl, hz⟩ := I.tuple hq
    refine SeqAt.in_tupleAt (eqU x) pl (fun w hw => mem_eqAt rx fx r fs w (by simpa using hw)) ⟨.bl _, H, I, rfl, ?_⟩
    rw [show its.toArray.any (eqU x) = its.any (eqU x) by simp, any_eqU r fs]
    exact q
theorem op_notIn_seq : OpR X (compareOp .NotIn) (rIn X.K true) := by
  intro pins s σ H x y v u Q I rx ry h
  obtain ⟨p, xs, rfl, hq, fx, fs, q⟩ := h
  cases ry
  rcases hq with hq | hq
  · obtain ⟨its, r, pl, hz⟩ := I.list hq
    refine SeqAt.notIn_listAt (eqU x) pl.isList (fun w hw => mem_eqAt rx fx r fs w (by simpa using hw)) ⟨.bl _, H, I, rfl, ?_⟩
    rw [show its.toArray.any (eqU x) = its.any (eqU x) by simp, any_eqU r fs]
    exact q
  · obtain ⟨its, r, pl, hz⟩ := I.tuple hq
    refine SeqAt.notIn_tupleAt (eqU x) pl (fun w hw => mem_eqAt rx fx r fs w (by simpa using hw)) ⟨.bl _, H, I, rfl, ?_⟩
    rw [show its.toArray.any (eqU x) = its.any (eqU x) by simp, any_eqU r fs]
    exact q
theorem op_notIn_str : OpR X (compareOp .NotIn) (fun x y H Q => ∃ i j, x = .str i ∧ y = .str j ∧ Q (.bl (!(!(Builtin.Str.occurrences j i 0 j.length 1).isEmpty))) H) := by
  intro pins s σ H x y v u Q I rx ry h
  obtain ⟨i, j, rfl, rfl, q⟩ := h
  obtain ⟨t, rfl⟩ := rx
  obtain ⟨t', rfl⟩ := ry
  exact notIn_str ⟨.bl _, H, I, rfl, q⟩

/-! ### len, list(x), tuple(x) of any list or tuple that is read -/
theorem call_len_seq : CallR X (.builtin "len") (fun xs H Q => ∃ p ys, xs = [.ref p] ∧ (SqL X.K H p ys ∨ SqT X.K H p ys) ∧ Q (.int ys.length) H) := by
  intro pins s σ H xs us Q I r h
  obtain ⟨p, ys, rfl, hq, q⟩ := h
  obtain ⟨u, rfl, rx⟩ := vals1 r
  cases rx
  have hn := line63
  rcases hq with hq | hq
  · obtain ⟨its, r', pl, hz⟩ := I.list hq
    have hlen := r'.length
    exact Calls.call_len_list pl.isList (by simp only [List.size_toArray] <;> omega) ⟨.int ys.length, H, I.tok _, ⟨s.toks + 1, by rw [List.size_toArray, hlen]⟩, q⟩
  · obtain ⟨its, r', pl, hz⟩ := I.tuple hq
    have hlen := r'.length
    exact len_tuple pl (by simp only [List.size_toArray] <;> omega) ⟨.int ys.length, H, I.tok _, ⟨s.toks + 1, by rw [List.size_toArray, hlen]⟩, q⟩
theorem call_len_str : CallR X (.builtin "len") (fun xs H Q => ∃ z, xs = [.str z] ∧ z.length ≤ sizeLine ∧ Q (.int z.length) H) := by
  intro pins s σ H xs us Q I r h
  obtain ⟨z, rfl, hz, q⟩ := h
  obtain ⟨u, rfl, t, rfl⟩ := vals1 r
  have hn := line63
  exact len_str (by omega) ⟨.int z.length, H, I.tok _, ⟨_, rfl⟩, q⟩
theorem call_list_of : CallR X (.type "list") (fun xs H Q => ∃ p ys, xs = [.ref p] ∧ (SqL X.K H p ys ∨ SqT X.K H p ys) ∧ ∀ l, H l = none → Q (.ref l) (upd H l (.lst ys))) := by
  intro pins s σ H xs us Q I r h
  obtain ⟨p, ys, rfl, hq, q⟩ := h
  obtain ⟨u, rfl, rx⟩ := vals1 r
  cases rx
  have fin : ∀ (its : List Value), Vals ys its → ys.length ≤ sizeLine → ∀ (h' : Heap) (c' : Nat), (∀ b o', s.heap.get? b = some o' → h'.get? b = some o') →
      h'.get? s.heap.objs.size = some { cls := .type "list", dict := none, data := .seq its.toArray c', slots := #[] } → EP X pins σ Q (.ref s.heap.objs.size) { s with heap := h' } := fun its r' hz h' c' kp e =>
    ⟨.ref s.heap.objs.size, _, I.laid (t' := s.toks) kp (Nat.le_refl _) (show ObjOk X.prog X.w _ h' _ (.lst ys) from ⟨hz, its, c', r', e⟩), rfl, q _ (I.hok.fresh (Nat.le_refl _))⟩
  rcases hq with hq | hq
  · obtain ⟨its, r', pl, hz⟩ := I.list hq
    have hlen := r'.length
    obtain ⟨o, ho, hc, n, hd⟩ := pl.isList
    exact call_list_seq p (.inl rfl) ho hc hd (fun h' c' kp e => fin its r' hz h' c' kp e) (by simp only [List.size_toArray] <;> omega)
  · obtain ⟨its, r', pl, hz⟩ := I.tuple hq
    have hlen := r'.length
    obtain ⟨o, ho, hc, n, hd⟩ := pl
    exact call_list_seq p (.inr rfl) ho hc hd (fun h' c' kp e => fin its r' hz h' c' kp e) (by simp only [List.size_toArray] <;> omega)

/-! ### the call of a builtin's method: o.m(..) -/
/-- the value is of that builtin type -/
def tyV (K : PySem.W.Frag) (T : String) (x : V) (H : Hp) : Prop := match x with
  | .str _ => T = "str"
  | .int _ => T = "int"
  | .ref p => (T = "list" ∧ ∃ xs, SqL K H p xs) ∨ (T = "tuple" ∧ ∃ o, K.lookup p = some o ∧ o.cls = .type "tuple" ∧ o.dict = none) ∨
      (T = "dict" ∧ ((∃ kvs, H p = some (.dK kvs)) ∨ ∃ kvs, H p = some (.dT kvs))) ∨ (T = "set" ∧ ∃ S n, H p = some (.set S n))
  | _ => False
theorem tyV_is {pins : List (Addr × Obj)} {σ : St} {H : Hp} {s : Shared} {T : String} {x : V} {v : Value} (I : Inv X pins σ H s) (r : RelV x v) (ty : tyV X.K T x H) :
    s.TypeIs v T ∧ ∀ a, v = .ref a → ∃ ob, s.heap.get? a = some ob ∧ ob.dict = none := by
  cases x with
  | str z =>
    obtain ⟨t, rfl⟩ := r
    cases (show T = "str" from ty)
    exact ⟨typeIs_str s z t, fun _ e => nomatch e⟩
  | int i =>
    obtain ⟨t, rfl⟩ := r
    cases (show T = "int" from ty)
    exact ⟨typeIs_int s i t, fun _ e => nomatch e⟩
  | ref p =>
    cases r
    rcases ty with ⟨rfl, xs, hq⟩ | ⟨rfl, o, hk, hc, hd⟩ | ⟨rfl, hk⟩ | ⟨rfl, S, n, hk⟩
    · obtain ⟨its, _, pl, _⟩ := I.list hq
      refine ⟨pl.isList.typeIs, fun a e => ?_⟩
      cases e
      obtain ⟨o, n, e, c, hd, _⟩ := pl
      exact ⟨o, e, hd⟩
    · refine ⟨⟨o, I.kIn p o hk, hc⟩, fun a e => ?_⟩
      cases e
      exact ⟨o, I.kIn _ o hk, hd⟩
    · have z : ∃ o, s.heap.get? p = some o ∧ o.ExactDict := by
        rcases hk with ⟨kvs, hk⟩ | ⟨kvs, hk⟩
        · obtain ⟨_, _, _, _, o, _, _, e, ex, _⟩ := I.hok p _ hk
          exact ⟨o, e, ex⟩
        · obtain ⟨_, _, _, _, o, _, _, e, ex, _⟩ := I.hok p _ hk
          exact ⟨o, e, ex⟩
      obtain ⟨o, e, ex⟩ := z
      refine ⟨⟨o, e, ex.1⟩, fun a e2 => ?_⟩
      cases e2
      exact ⟨o, e, ex.2.1⟩
    · obtain ⟨o, _, _, _, e, ex, _⟩ := I.hok p _ hk
      refine ⟨⟨o, e, ex.1⟩, fun a e2 => ?_⟩
      cases e2
      exact ⟨o, e, ex.2.1⟩
  | _ => exact False.elim ty
def tBM (K : PySem.W.Frag) (T : String) (r : V → List V → Hp → VK → Prop) (to : TE) (t : TA) : TE := fun σ H Q => to σ H fun x H1 => tyV K T x H1 ∧ t σ H1 fun xs H2 => r x xs H2 Q
variable {o e : Expr} {es : List Expr} {to : TE} {t : TA} {name : Str} {apos cpos : Pos} {T id : String} {r : V → List V → Hp → VK → Prop}
theorem pe_bm (pa : PlainAttrs T) (slot : Slot T name id) (hty : typeOf (.builtin id) = pure (.type "method_descriptor")) (hm : MtR X id r) (ho : PE X o to) (ha : PA X (e :: es) t)
    (hbase : attributeBase o name X.env (eval o X.env) = eval o X.env := by rfl)
    (hfew : ((backTo cpos (starEach (e :: es) X.env)).all (fun x => !x.1) && (backToKw cpos (keywordEach [] X.env)).all (fun x => x.1.isSome)
      && decide ((e :: es).length + ([] : List Keyword).length + (if ([] : List Keyword).isEmpty then 0 else 1) < 30)) = true := by rfl)
    (hline : (apos.endLine == cpos.line) = true := by rfl) (hs : starEach (e :: es) X.env = (false, eval e X.env) :: starEach es X.env := by rfl) (hplain : (backTo cpos (starEach es X.env)).any (·.1) = false := by rfl) :
    PE X (.Call (.Attribute o name apos) (e :: es) [] cpos) (tBM X.K T r to t) := by
  intro pins s σ H Q I h
  refine wpAny_Call_method_late hbase hfew hline rfl (thn (ho pins s σ H _ I h) fun v s1 ⟨x, H1, I1, r1, ty, q1⟩ => ?_)
  obtain ⟨h1, h2⟩ := tyV_is I1 r1 ty
  refine ⟨T, id, pa, slot, hty, h1, h2, ?_⟩
  have hA := ha cpos pins s1 σ H1 _ I1 q1
  rw [hs] at hA ⊢
  refine Calls.callWith_builtin (by show (false || (backTo cpos (starEach es X.env)).any (·.1)) = false; rw [hplain] <;> rfl) (Calls.evalArgs_plain ?_)
  exact thn hA fun us s2 ⟨vs, H2, I2, r2, q2⟩ => hm pins s2 σ H2 x vs v us Q I2 r1 r2 q2
/- xs.append(e), list.index on a module's tuple .. are MtR facts of 06m -/
end
end L2

namespace L2
open PySem PySem.Spec PyProof.Rows

def MtM (X : Cx) (id : String) (r : V → List V → Hp → VK → Prop) : Prop :=
  ∀ (pins : List (Addr × Obj)) (s : Shared) (σ : St) (H : Hp) (x : V) (xs : List V) (v : Value) (us : List Value) (Q : VK), Inv X pins σ H s → RelV x v → Vals xs us → r x xs H Q →
    wpAny (model X.prog X.w) X.A (call (.builtin id) (v :: us)) (EP X pins σ Q) X.xe s

/-! ### lists of values -/
theorem Vals.one : ∀ {x : V} {us : List Value}, Vals [x] us → ∃ u, us = [u] ∧ RelV x u
  | _, _, .cons r .nil => ⟨_, rfl, r⟩
theorem Vals.rep {xs : List V} {us : List Value} (h : Vals xs us) : ∀ k : Nat, Vals (List.replicate k xs).flatten (List.replicate k us).flatten
  | 0 => .nil
  | k + 1 => by
    rw [List.replicate_succ, List.replicate_succ, List.flatten_cons, List.flatten_cons]
    exact Vals.append h (Vals.rep h k)
theorem foldl_rep (its : List Value) : ∀ (k : Nat) (acc : List Value),
    List.foldl (fun x1 x2 => x1 ++ x2) acc.toArray (List.replicate k its.toArray) = (acc ++ (List.replicate k its).flatten).toArray
  | 0, acc => by simp
  | k + 1, acc => by
    have e : acc.toArray ++ its.toArray = (acc ++ its).toArray := by simp
    have e2 : (acc ++ its) ++ (List.replicate k its).flatten = acc ++ (List.replicate (k + 1) its).flatten := by
      rw [List.replicate_succ, List.flatten_cons, List.append_assoc]
    rw [← e2, ← foldl_rep its k (acc ++ its), ← e, List.replicate_succ, List.foldl_cons]

section
variable {X : Cx} {pins : List (Addr × Obj)} {σ : St} {H : Hp} {s : Shared} {l b : Addr} {xs ys zs : List V}

/-! ### the two steps: a tracked list is rewritten, a new list is laid -/
theorem Inv.lset {its its' : List Value} {n : Nat} {f : Array Value → Array Value} {t' : Nat} (I : Inv X pins σ H s) (hH : H l = some (.lst xs))
    (e : s.heap.get? l = some { cls := .type "list", data := .seq its.toArray n }) (hf : f its.toArray = its'.toArray) (hv : Vals ys its') (hz : ys.length ≤ sizeLine) :
    Inv X pins σ (upd H l (.lst ys)) { s with heap := s.heap.update l (Obj.mapSeq f), toks := t' } := by
  have q := PySem.IsL.update e f
  rw [hf] at q
  refine I.write (x := l) (e := l) (by rw [hH]; exact trivial) (.inl rfl) (fun b' u hb hu => (Heap.get?_update_other s.heap (Obj.mapSeq f) (Ne.symm hb)).trans hu) ⟨_, q⟩ ?_
  exact ⟨hz, its', _, hv, q⟩
theorem Inv.lnew {its : List Value} {t' : Nat} (I : Inv X pins σ H s) (hv : Vals ys its) (hz : ys.length ≤ sizeLine) :
    Inv X pins σ (upd H s.heap.objs.size (.lst ys)) { s with heap := s.heap.push { cls := .type "list", data := .seq its.toArray }, toks := t' } :=
  I.laid (fun _ _ q => Heap.get?_push_of_some _ q) (Nat.le_refl _) ⟨hz, its, 0, hv, Heap.get?_push_size _ rfl⟩
theorem Inv.fresh (I : Inv X pins σ H s) : H s.heap.objs.size = none := I.hok.fresh (Nat.le_refl _)
theorem Inv.lstM (I : Inv X pins σ H s) (hH : H l = some (.lst xs)) : xs.length ≤ sizeLine ∧ ∃ (its : List Value) (n : Nat), Vals xs its ∧ xs.length = its.length ∧ s.heap.get? l = some { cls := .type "list", data := .seq its.toArray n } := by
  obtain ⟨z, its, n, r, e⟩ := I.hok l _ hH
  exact ⟨z, its, n, r, r.length, e⟩

theorem notLongL {n : Nat} (h : n ≤ sizeLine) : Builtin.List.listTooLong n = false := by
  unfold Builtin.List.listTooLong
  exact decide_eq_false (by omega)
end

section
variable {X : Cx}

/-! ### methods -/
def rAppend : V → List V → Hp → VK → Prop := fun x vs H Q => ∃ l xs y, x = .ref l ∧ vs = [y] ∧ H l = some (.lst xs) ∧ xs.length < sizeLine ∧ Q .non (upd H l (.lst (xs ++ [y])))
theorem mt_append : MtM X "list.append" rAppend := by
  intro pins s σ H x vs v us Q I rx rv h
  obtain ⟨l, xs, y, rfl, rfl, hH, hz, q⟩ := h
  cases rx
  obtain ⟨u, rfl, ru⟩ := rv.one
  obtain ⟨z, its, n, r, hl, e⟩ := I.lstM hH
  refine call_meets F.slot_list_append ⟨_, e, rfl⟩ F.entry_list_append (F.args_list_append_2 _ _) (PySem.list_append l its.toArray n u (by rw [List.size_toArray]; omega)) ⟨e, ?_⟩
  refine ⟨.non, _, I.lset (its' := its ++ [u]) hH e (by simp) (r.append (.cons ru .nil)) ?_, rfl, q⟩
  rw [List.length_append, List.length_singleton]
  omega

def rExtend : V → List V → Hp → VK → Prop := fun x vs H Q => ∃ l b xs zs, x = .ref l ∧ vs = [.ref b] ∧ H l = some (.lst xs) ∧ H b = some (.lst zs) ∧ xs.length + zs.length ≤ sizeLine ∧ Q .non (upd H l (.lst (xs ++ zs)))
theorem mt_extend : MtM X "list.extend" rExtend := by
  intro pins s σ H x vs v us Q I rx rv h
  obtain ⟨l, b, xs, zs, rfl, rfl, hH, hB, hz, q⟩ := h
  cases rx
  obtain ⟨u, rfl, ru⟩ := rv.one
  cases ru
  obtain ⟨z, its, n, r, hl, e⟩ := I.lstM hH
  obtain ⟨z2, its2, n2, r2, hl2, e2⟩ := I.lstM hB
  have hsz : its.toArray.size + its2.toArray.size ≤ sizeLine := by rw [List.size_toArray, List.size_toArray]; omega
  have hlong : ¬ (!its.toArray.isEmpty && Builtin.List.listTooLong (its.toArray.size + its2.toArray.size)) = true := by
    rw [notLongL hsz, Bool.and_false]
    exact Bool.false_ne_true
  refine call_meets F.slot_list_extend ⟨_, e, rfl⟩ F.entry_list_extend (F.args_list_extend_2 _ _)
    (AutoSeq1.list_extend_list_list_0 l its.toArray n b its2.toArray n2 hlong (by rw [List.size_toArray]; omega) (by omega)) ⟨e, e2, ?_⟩
  refine ⟨.non, _, I.lset (its' := its ++ its2) hH e (by simp) (r.append r2) ?_, rfl, q⟩
  rw [List.length_append]
  omega





/-! ### list + list, list += list, list * int -/
def rCat : R2 := fun x y H Q => ∃ l b xs zs, x = .ref l ∧ y = .ref b ∧ H l = some (.lst xs) ∧ H b = some (.lst zs) ∧ xs.length + zs.length ≤ sizeLine ∧ ∀ p, H p = none → Q (.ref p) (upd H p (.lst (xs ++ zs)))
theorem op_cat : OpR X (binaryOp .Add) rCat := by
  intro pins s σ H x y v u Q I rx ry h
  obtain ⟨l, b, xs, zs, rfl, rfl, hH, hB, hz, q⟩ := h
  cases rx
  cases ry
  obtain ⟨z, its, n, r, hl, e⟩ := I.lstM hH
  obtain ⟨z2, its2, n2, r2, hl2, e2⟩ := I.lstM hB
  refine PySem.P.add_list e e2 ?_ (by rw [List.size_toArray, List.size_toArray]; omega)
  have ea : its.toArray ++ its2.toArray = (its ++ its2).toArray := by simp
  rw [ea]
  exact ⟨.ref _, _, I.lnew (t' := s.toks) (r.append r2) (by rw [List.length_append]; omega), rfl, q _ I.fresh⟩
/-- a list times an int (a negative one is nothing) -/
def rRep : R2 := fun x y H Q => ∃ l k xs, x = .ref l ∧ y = .int k ∧ H l = some (.lst xs) ∧ -(2 ^ 63) ≤ k ∧ k < 2 ^ 63 ∧ xs.length * k.toNat ≤ sizeLine ∧
  ∀ p, H p = none → Q (.ref p) (upd H p (.lst (List.replicate k.toNat xs).flatten))
theorem len_rep {α : Type} (xs : List α) (k : Nat) : (List.replicate k xs).flatten.length = k * xs.length := by
  induction k with
  | zero => simp
  | succ k ih => rw [List.replicate_succ, List.flatten_cons, List.length_append, ih, Nat.succ_mul, Nat.add_comm]
theorem op_rep : OpR X (binaryOp .Mult) rRep := by
  intro pins s σ H x y v u Q I rx ry h
  obtain ⟨l, k, xs, rfl, rfl, hH, h1, h2, hz, q⟩ := h
  cases rx
  obtain ⟨t, rfl⟩ := ry
  obtain ⟨z, its, n, r, hl, e⟩ := I.lstM hH
  have hlen : its.toArray.size * k.toNat ≤ sizeLine := by rw [List.size_toArray, ← hl]; exact hz
  have hcap : ¬ its.toArray.size * k.toNat > (2 ^ 63 - 1) / 8 := by
    have : (sizeLine : Nat) ≤ (2 ^ 63 - 1) / 8 := by decide
    omega
  have hfit : ¬ (!Builtin.List.listFitsIndex k) = true := by
    rw [fitsIndex_both h1 h2]
    exact Bool.false_ne_true
  have hlong : ¬ Builtin.List.listTooLong (its.toArray.size * k.toNat) = true := by
    rw [notLongL hlen]
    exact Bool.false_ne_true
  have hnew : List.foldl (fun x1 x2 => x1 ++ x2) #[] (List.replicate (if its.toArray.isEmpty = true then 0 else k.toNat) its.toArray) = (List.replicate k.toNat its).flatten.toArray := by
    have f0 : ∀ m : Nat, List.foldl (fun x1 x2 => x1 ++ x2) #[] (List.replicate m its.toArray) = (List.replicate m its).flatten.toArray := fun m => by
      have := foldl_rep its m []
      rw [List.nil_append] at this
      exact this
    rw [f0]
    cases its with
    | nil => simp
    | cons a r' => rw [if_neg (by simp)]
  refine wpAny_binaryOp_repeat_ref (T := "list") (U := "int") (by decide) ⟨_, e, rfl⟩ (fun s' => typeIs_int s' k t) noFill_list_mul F.fills_int_mul F.slot_int_rmul repeat_list F.slot_int_index.lookup
    (call_meets F.slot_int_rmul (typeIs_int s k t) F.entry_int_rmul (F.args_int_rmul_2 _ _) (int___rmul___int_list k t l its.toArray n)
      ⟨e, rfl, ⟨_, e, rfl⟩, call_meets F.slot_list_mul ⟨_, e, rfl⟩ F.entry_list_mul (F.args_list_mul_2 _ _) (AutoListH.list___mul___list_int_3 l its.toArray n k t hfit hcap hlong) ⟨e, ?_⟩⟩)
  rw [hnew]
  exact ⟨.ref _, _, I.lnew (t' := s.toks) (r.rep k.toNat) (by rw [len_rep, Nat.mul_comm]; exact hz), rfl, q _ I.fresh⟩

/-! ### del xs[i] -/
end

/-! ### xs[a:b] = ys -/
section
variable {prog : Program} {w : World} {A : Around} {E : Value → Shared → Prop} {s : Shared}
end

section
variable {X : Cx}
end
end L2

namespace Att
open PySem PySem.W PySem.Calls PyProof.Rows

/-! ### the script -/
theorem ints_of_wellAll {P : Params} {h : Heap} : ∀ (ns : List Int) (vs : List Value), WellAll P h vs (ns.map WData.int) → IntsAre vs ns := by
  intro ns
  induction ns with
  | nil =>
    intro vs w
    rw [List.map_nil] at w
    cases w
    exact .nil
  | cons n ns ih =>
    intro vs w
    rw [List.map_cons] at w
    cases w with
    | cons a b =>
      cases a
      exact .cons _ _ (ih _ b)

theorem script_of {l : OpenLaw} {n : Nat} (hn : l.most = some n) {P : Params} {h : Heap} {args : List WData} {vals : List Value}
    (hpre : l.row.toRowW.claim.pre args = true) (hwl : WellAll P h vals args) :
    ∃ a vs ns, vals = [Value.ref a] ∧ args = [WData.list (ns.map WData.int)] ∧ h.get? a = some { cls := .type "list", data := .seq vs.toArray } ∧ IntsAre vs ns ∧ ns.length ≤ n := by
  have hsh : WShape.hasAll [] args [.list .int] = true := (pre_splitW hpre).1
  have hc : l.pre.holds [] { args := args } = true := (pre_splitW hpre).2
  obtain ⟨d, r, rfl, h1, h2⟩ := hasAllW_cons hsh
  obtain rfl := hasAllW_nil h2
  obtain ⟨xs, rfl, h3⟩ := hasW_list h1
  obtain ⟨ns, rfl⟩ := items_int h3
  have hlen : ns.length ≤ n := by
    unfold OpenLaw.pre at hc
    have h4 : (WTm.not (.lt (.lit (.int (n : Int))) (.len (.arg 0)))).holds [] { args := [.list (ns.map .int)] } = true := by
      have h4 := (holds_andW hc).1
      rw [hn] at h4
      exact h4
    have h5 := condW_of h4 (w_not (w_lt w_lit (w_len_list (w_arg rfl))))
    rw [List.length_map] at h5
    refine Nat.le_of_not_lt fun q => ?_
    have q' : (n : Int) < ((ns.length : Nat) : Int) := by omega
    first
      | (rw [decide_eq_true q'] at h5; exact absurd h5 (by decide))
      | (simp at h5; omega)
  cases hwl with
  | cons w1 w2 =>
    cases w2
    cases w1 with
    | list ho hall => exact ⟨_, _, ns, rfl, rfl, ho, ints_of_wellAll ns _ hall, hlen⟩

theorem post_true (l : OpenLaw) (args : List WData) : l.row.toRowW.claim.post args (.bool true) args = true :=
  postW_of (r := l.row.toRowW) (X := (true == true))
    (show WShape.has [] (.bool true) .bool = true by first | rfl | decide | simp [WShape.has, WShape.arms, WShape.armsAll])
    (show (WTm.eq .res (.lit (.bool true))).value [] { args := args, res := some (.bool true), after := args } = some (.bool (true == true)) from w_eq_bool (w_res rfl) w_lit) rfl

/-! ### the attachment: holds_open's last premise (the goal 'hc' behind k_head) from a wpAny of the law's body -/

/-- the same from a codeAny of the CALL (for a layer whose function contracts speak of calls) -/
theorem attach_call {l : OpenLaw} {n : Nat} {q : Program} {loose : List Str} {XP : (Str → Option Value) → Heap → Prop} {YP : World → Heap → Prop} {d : DefRec}
    (hn : l.most = some n) (hdf : d.params.defaults = [])
    (call : ∀ (w : World) (s₀ s₁ : Shared) (mg mb : Str → Option Value) (fa : Addr) (o : Obj) (pm cd doc : Value) (a : Addr) (vs : List Value) (ns : List Int),
      Ground q loose [] XP w s₀ mg mb s₁.heap → YP w s₁.heap →
      s₁.heap.get? fa = some o → o.data = .func (docDef d.name d.params d.body d.scope pm cd doc) → s₁.heap.CodeRec cd d.name → mg d.name = some (.ref fa) →
      s₁.heap.get? a = some { cls := .type "list", data := .seq vs.toArray } → IntsAre vs ns → ns.length ≤ n → s₁.gens = #[] →
      codeAny (model l.prog w) callerA (.call (.ref fa) ⟨[.ref a], []⟩) (fun r s' => r = .ok (.ret (.bool true)) ∧ OldK s₁.heap s'.heap ∧ s'.os = s₁.os ∧ AllBare s'.gens) s₁) :
    WalkO q loose XP YP l.row.toRowW d [] (fun f vs => PySem.call f vs) := by
  intro w s₀ s₁ mg mb G Y fa o pm cd doc dV kV ho hd hcd hD hmg hg args vals as hpre hlay hrd hwl hlo
  obtain rfl : dV = .none := Dflts.none hD hdf
  obtain rfl : kV = .none := Dflts.noKw hD
  obtain ⟨a, vs, ns, rfl, rfl, hobj, hints, hlen⟩ := script_of hn hpre hwl
  refine enter_call (codeAny_mono (call w s₀ s₁ mg mb fa o pm cd doc a vs ns G Y ho (fd_plain hd) hcd hmg hobj hints hlen hg) fun r s' hq => ?_)
  obtain ⟨rfl, h2, h3, h4⟩ := hq
  exact ⟨.inl ⟨.bool true, .bool true, [], rfl, fun _ => rfl, .bool true, post_true l _, fun _ => ⟨List.Pairwise.nil, fun _ hm => (nomatch hm)⟩⟩, h2, h3, h4⟩


/-! ### rules over ANY heap (no ledger) from facts about the written part K: the library's own take a ledger (News) for what they write -/
section
variable {prog : Program} {w : World} {A : Around} {E : Value → Shared → Prop} {s : Shared} {K : Frag}





/-! the whole heap as the ledger: makes every rule that writes through a ledger a rule over any heap -/

end
end Att

namespace L2
open PySem PySem.Spec PyProof.Rows

theorem vals_ints : ∀ {vs : List Value} {ns : List Int}, IntsAre vs ns → Vals (ns.map V.int) vs
  | _, _, .nil => .nil
  | _, _, .cons n t h => .cons ⟨t, rfl⟩ (vals_ints h)

/-- nothing is tracked but the script, known to the object (or it is an object of the module) -/
def Only (H : Hp) : Prop := ∀ b, H b = none ∨ ∃ o xs, H b = some (.frz o (.lst xs))

/-- THE HEAD: the law's promise, at the heap behind the top. F, the promise of the law's def, may use that base is part of the heap (so K.In base, base.Ns mainGlobals mg stand in Mod) -/
theorem law_call {P : Program} {w : World} {K : PySem.W.Frag} {mg mb : Str → Option Value} {CX : CXT} {k : Nat} {fa a : Addr} {fd : FuncData} {x : Str} {sp : Sp} {s₁ : Shared} {vs : List Value} {ns : List Int}
    (KX : K.In s₁.heap) (hns : s₁.heap.Ns mainGlobals mg) (hb : s₁.heap.Ns builtinsNs mb) (hbb : ∀ x : Str, x ≠ "__name__" → mb x = bootBuiltins x) (hlim : s₁.heap.NoLimit) (hg : s₁.gens = #[])
    (ha : s₁.heap.get? a = some { cls := .type "list", data := .seq vs.toArray }) (hi : IntsAre vs ns) (hl : ns.length ≤ sizeLine) (hr : Room k callerA)
    (F : ∀ base : Heap, K.In base → base.Ns mainGlobals mg → FnOk P w K mg base CX k fa fd [x] sp) (hbind : ∀ (s : Shared) (u : Value), BindsTo s fd ⟨[u], []⟩ [(x, u)])
    (hsp : ∀ H : Hp, Only H → SqL K H a (ns.map V.int) → sp [.ref a] H (fun v _ => v = .bl true) fun _ _ _ => False)
    (hCX : ∀ H e s', CX [] H s₁ (fun _ _ _ => False) e s' → False) :
    codeAny (model P w) callerA (.call (.ref fa) ⟨[.ref a], []⟩) (fun r s' => r = .ok (.ret (.bool true)) ∧ OldK s₁.heap s'.heap ∧ s'.os = s₁.os ∧ AllBare s'.gens) s₁ := by
  have rv := vals_ints hi
  have lenV := hi.length
  -- from an abstract heap in which nothing but the script may be tracked
  have core : ∀ H : Hp, Only H → SqL K H a (ns.map V.int) → HOk P w H s₁.heap → (∀ b, H b ≠ none → b = a) → (H a ≠ none → K.lookup a = none) →
      codeAny (model P w) callerA (.call (.ref fa) ⟨[.ref a], []⟩) (fun r s' => r = .ok (.ret (.bool true)) ∧ OldK s₁.heap s'.heap ∧ s'.os = s₁.os ∧ AllBare s'.gens) s₁ := by
    intro H hO hS hok hA hK
    have base_of : ∀ {b : Addr} {o : Obj}, s₁.heap.get? b = some o → H b = none → (hidT s₁.heap H).get? b = some o := fun e n => hidT_get e n
    have noA : ∀ {b : Addr} {o : Obj} {es : Array DictEntry} {ep : Nat}, s₁.heap.get? b = some o → o.data = .dict es ep → H b = none := fun {b o es ep} e d => by
      cases q : H b with
      | none => rfl
      | some u =>
        have e' : b = a := hA b (by rw [q]; simp)
        subst e'
        rw [ha] at e; cases e
        have d' : Data.seq vs.toArray _ = Data.dict es ep := d
        cases d'
    have nsK : ∀ {b : Addr} {m : Str → Option Value}, s₁.heap.Ns b m → (hidT s₁.heap H).Ns b m := fun {b m} ⟨o, es, ep, e, d, r⟩ => ⟨o, es, ep, base_of e (noA e d), d, r⟩
    have hKb : K.In (hidT s₁.heap H) := fun b o e => base_of (KX b o e) (by
      cases q : H b with
      | none => rfl
      | some u =>
        have e' : b = a := hA b (by rw [q]; simp)
        subst e'
        rw [hK (by rw [q]; simp)] at e; cases e)
    have hM : Mod K mg (hidT s₁.heap H) := ⟨hKb, nsK hns, ⟨mb, nsK hb, hbb⟩, let ⟨mc, h1, h2⟩ := hlim; ⟨mc, nsK h1, h2⟩⟩
    have e0 : Env0 P w K mg (hidT s₁.heap H) callerA [] s₁ H := ⟨rfl, hM, fun b o e => of_hidT e, Nat.le_of_eq (hidT_size _ _), trivial, fun b hb => absurd (show b ∈ ([] : List Addr) from hb) (by simp), hok, .of_eq hg⟩
    refine codeAny_mono ((F _ hKb (nsK hns)).run callerA [] s₁ H ⟨[.ref a], []⟩ [.ref a] [.ref a] _ _ hr e0 (hbind s₁ (.ref a)) (.cons rfl .nil) (hsp H hO hS)) fun r s' h => ?_
    cases r with
    | error e => exact (hCX H e s' h).elim
    | ok fl =>
      cases fl with
      | next => exact False.elim h
      | brk => exact False.elim h
      | cont => exact False.elim h
      | ret u =>
        obtain ⟨v, H', os, bare, un, hok', r', q⟩ := h
        have q' : v = .bl true := q
        subst q'
        obtain rfl : u = Value.bool true := r'
        refine ⟨rfl, OldK.of_keep fun b o e => ?_, os, bare⟩
        cases q : H b with
        | none => exact un.keep b o e q (by intro z; exact absurd (show b ∈ ([] : List Addr) from z) (by simp)) (by simp)
        | some u =>
          rcases hO b with z | ⟨ob, xs, z⟩
          · rw [q] at z; cases z
          · have z2 := un.frzs b ob _ z
            obtain ⟨e1, _⟩ := hok b _ z
            obtain ⟨e2, _⟩ := hok' b _ z2
            rw [e] at e1; cases e1
            exact e2
  cases hk : K.lookup a with
  | some o =>
    -- the script is one of the module's own objects
    have e := KX a o hk
    rw [ha] at e
    cases e
    refine core (fun _ => none) (fun _ => .inl rfl) (.inr ⟨_, vs.toArray, _, hk, rfl, rfl, rfl, by rw [List.size_toArray, lenV]; exact hl, by simpa using rv⟩) (fun b u z => by have z' : (none : Option HO) = some u := z; cases z') (fun b z => absurd rfl z) fun z => absurd rfl z
  | none =>
    refine core (fun b => if b = a then some (.frz { cls := .type "list", data := .seq vs.toArray } (.lst (ns.map V.int))) else none) (fun b => ?_) (.inl (.inr ⟨{ cls := .type "list", data := .seq vs.toArray }, if_pos rfl⟩)) (fun b u z => ?_) (fun b z => ?_) fun _ => hk
    · by_cases hb : b = a
      · exact .inr ⟨_, _, if_pos hb⟩
      · exact .inl (if_neg hb)
    · by_cases hb : b = a
      · have z' := (if_pos hb).symm.trans z
        cases z'
        subst hb
        exact ⟨ha, by rw [List.length_map]; exact hl, vs, _, rv, ha⟩
      · have z' := (if_neg hb).symm.trans z
        cases z'
    · by_cases hb : b = a
      · exact hb
      · exact absurd (if_neg hb) z
end L2

namespace L2
open PySem PySem.Spec PyProof.Rows


/-- the goal that k_head leaves (case hc), from the law's promise. F gives the function object fd (K's own) once, then the promise over every base -/
theorem walk_of {l : PySem.W.OpenLaw} {n k : Nat} {q : Program} {loose : List Str} {XP : (Str → Option Value) → Heap → Prop} {YP : World → Heap → Prop} {d : DefRec} {K : Params → PySem.W.Frag} {CX : World → CXT} {sp : World → Sp} {x : Str}
    (hn : l.most = some n) (hn2 : n ≤ sizeLine) (hdf : d.params.defaults = []) (hr : Room k callerA)
    (hY : ∀ (w : World) (h : Heap), YP w h → (K w.params).In h)
    (F : ∀ (w : World) (mg : Str → Option Value) (fa : Addr) (h : Heap), (K w.params).In h → h.Ns mainGlobals mg → mg d.name = some (.ref fa) →
      ∃ fd : FuncData, (∀ (s : Shared) (u : Value), BindsTo s fd ⟨[u], []⟩ [(x, u)]) ∧
        ∀ base : Heap, (K w.params).In base → base.Ns mainGlobals mg → FnOk l.prog w (K w.params) mg base (CX w) k fa fd [x] (sp w))
    (hsp : ∀ (w : World) (H : Hp) (a : Addr) (ns : List Int), ns.length ≤ n → Only H → SqL (K w.params) H a (ns.map V.int) → sp w [.ref a] H (fun v _ => v = .bl true) fun _ _ _ => False)
    (hCX : ∀ (w : World) (H : Hp) (s : Shared) (e : Value) (s' : Shared), CX w [] H s (fun _ _ _ => False) e s' → False) :
    PySem.W.WalkO q loose XP YP l.row.toRowW d [] (fun f vs => PySem.call f vs) := by
  refine Att.attach_call hn hdf fun w s₀ s₁ mg mb fa o pm cd doc a vs ns G Y ho hd hcd hmg hobj hints hlen hg => ?_
  have KX := hY w _ Y
  obtain ⟨fd, hb, hF⟩ := F w mg fa _ KX G.T.g hmg
  exact law_call KX G.T.g G.T.b G.T.builtins G.T.nolimit hg hobj hints (Nat.le_trans hlen hn2) hr hF hb (fun H hO hS => hsp w H a ns hlen hO hS) fun H e s' => hCX w H s₁ e s'
end L2

/- THE LAST THEOREM (shape; LID, My.* are yours):
   My.Adr: a structure of the addresses that your layer names (classes, functions); My.Txt K t: a structure (Prop) of the equations over K;
   My.txt_mk : {K} {implicit addresses ..} (e1 : nsIn K mainGlobals "law" = some (some (.ref f))) (e2 : K.lookup f = some ⟨oc, od, .func (fnOf "law" "law" params body scope dV kV doc pm an cdv ct), sl⟩) (e3 : codeIn K cdv "law" = true) .. : ∃ t, My.Txt K t

theorem PySem.Challenge.cw_LID_holds : PySem.Challenge.rw_LID.Holds := by
  w_on; o_law; k_head; (case hw => w_witness2)
  k_fill
  refine L2.walk_of (l := PySem.Challenge.rw_LID) (n := 63) (k := 40) (x := "script") (CX := fun w => ..) (sp := fun _ => My.sp_law) rfl (by decide) rfl ⟨rfl, by decide, by decide⟩ (fun w h Y => PySem.W.kIn_of Y) ?F ?S ?C
  case F =>
    intro w mg fa h KX G hmg
    have T : ∃ t, My.Txt (L2.KOf KX) t := by
      dsimp only [L2.KOf]                          -- K must stand as «<heap const> w.params» for k_is
      refine' My.txt_mk ?e1 ?e2 ?e3 ..
      (case e1 => PySem.W.k_is)                    -- in the order: a name -> its address -> its object -> its parts
      (case e2 => PySem.W.k_is)
      ..
    obtain ⟨t, T⟩ := T
    have e0 := hmg.symm.trans (PySem.W.mg_of KX G T.law)
    cases e0                                       -- fa is the law's own address
    exact ⟨_, fun s u => .of_eq rfl, fun base kb nb => My.law_fn T kb nb⟩     -- if «.of_eq rfl» comes too early: refine' ⟨_, ?b, fun base kb nb => My.law_fn T kb nb⟩; exact fun s u => .of_eq rfl
  case S => exact fun w H a ns hl hO hS => ..
  case C => exact ..
(the tactic k_is has no namespace: write k_is) -/

/-! SHORT WORDS over the layer: a def of the text, its body, what a loop and a test want. -/
namespace L2
open PySem PySem.Spec PyProof.Rows

/-! ### the text by places -/
/-- the j-th statement of a class's body -/
def inClass (s : Stmt) (j : Nat) : Stmt := match s with
  | .ClassDef _ _ _ body _ _ _ _ _ _ _ => body.getD j (.Pass ⟨0, 0, 0, 0⟩)
  | _ => .Pass ⟨0, 0, 0, 0⟩
def defArgs (s : Stmt) : Arguments := match s with
  | .FunctionDef _ a _ _ _ _ _ _ _ _ => a
  | _ => { posonlyargs := [], args := [], vararg := none, kwonlyargs := [], kw_defaults := [], kwarg := none, defaults := [] }
def defBody (s : Stmt) : List Stmt := match s with
  | .FunctionDef _ _ b _ _ _ _ _ _ _ => b
  | _ => []
def defScope (s : Stmt) : Scope := match s with
  | .FunctionDef _ _ _ _ _ _ sc _ _ _ => sc
  | _ => { kind := .function, names := [], isGenerator := false, isCoroutine := false }

/-! ### no exception leaves a def -/
abbrev CX0 : CXT := fun _ _ _ _ _ _ => False
abbrev E0 : XK := fun _ _ _ => False
theorem pass0 {X : Cx} : Passes CX0 X E0 := fun _ _ _ _ _ _ _ h => h.elim

/-! ### a def (or method) of the text as it stands behind the top -/
structure Fun (K : PySem.W.Frag) (x qual : Str) (st : Stmt) (f : Addr) (fd : FuncData) : Prop where
  ex : ∃ (oc : Value) (od : Option Addr) (kV doc pm : Value) (an : Option Addr) (cdv ct : Value) (osl : Array (Option Value)),
    fd = PySem.W.fnOf x qual (defArgs st) (defBody st) (defScope st) .none kV doc pm an cdv ct ∧ K.lookup f = some ⟨oc, od, .func fd, osl⟩ ∧ PySem.W.codeIn K cdv qual = true
  kp : PySem.W.keepIn K (.ref f) = true
section
variable {P : Program} {w : World} {K : PySem.W.Frag} {mg : Str → Option Value} {base : Heap}
/-- THE RULE for a def: its body as a term of rules, and the reading of that term -/
theorem Fun.ok {x qual : Str} {st : Stmt} {f : Addr} {fd : FuncData} {N ps : List Str} {k : Nat} {sp : Sp} (F : Fun K x qual st f fd) (S : FnScope N ps (defScope st)) (len : ∀ vs H Q E, sp vs H Q E → vs.length = ps.length)
    (hbody : ∀ (cdv : Value) (A : Around) (outer : List Env) (s : Shared) (H : Hp) (vs : List V) (Q : VK) (E : XK), Room k (A.deeper (envOfC qual (defScope st) s.heap.objs.size f cdv)) → sp vs H Q E →
      ∃ t, PSs (cxOf CX0 P w K mg base N qual (defScope st) f cdv A outer s H E).nox (defBody st) t ∧ t { nx := fun _ H' => Q .non H', rt := Q } (start N vs) H) : FnOk P w K mg base CX0 (k + 1) f fd ps sp := by
  obtain ⟨oc, od, kV, doc, pm, an, cdv, ct, osl, rfl, lk, hcd⟩ := F.ex
  refine fn_of lk hcd S len fun A outer s H vs Q E hr hsp => ?_
  obtain ⟨t, h, q⟩ := hbody cdv A outer s H vs Q E hr hsp
  exact ⟨t, h.nox, q⟩
/-- how its arguments bind (no defaults): h is «fun _ _ _ _ _ _ us hl => match us, hl with | [_, _], _ => rfl», one _ a parameter -/
theorem Fun.binds {x qual : Str} {st : Stmt} {f : Addr} {fd : FuncData} {ps : List Str} (F : Fun K x qual st f fd)
    (h : ∀ (kV doc pm : Value) (an : Option Addr) (cdv ct : Value) (us : List Value), us.length = ps.length → bindArgs (PySem.W.fnOf x qual (defArgs st) (defBody st) (defScope st) .none kV doc pm an cdv ct) ⟨us, []⟩ = pure (ps.zip us)) : Binds K fd ps [] := by
  obtain ⟨oc, od, kV, doc, pm, an, cdv, ct, osl, rfl, lk, hcd⟩ := F.ex
  exact .all (h kV doc pm an cdv ct)
theorem fun_mk {x qual : Str} {st : Stmt} {f : Addr} {oc : Value} {od an : Option Addr} {osl : Array (Option Value)} {kV doc pm cdv ct : Value} (l : K.lookup f = some ⟨oc, od, .func (PySem.W.fnOf x qual (defArgs st) (defBody st) (defScope st) .none kV doc pm an cdv ct), osl⟩)
    (c : PySem.W.codeIn K cdv qual = true) (k : PySem.W.keepIn K (.ref f) = true) : Fun K x qual st f (PySem.W.fnOf x qual (defArgs st) (defBody st) (defScope st) .none kV doc pm an cdv ct) := ⟨⟨oc, od, kV, doc, pm, an, cdv, ct, osl, rfl, l, c⟩, k⟩
end
theorem small1000 {n : Nat} (h : n ≤ 1000) : n < sizeLine := Nat.lt_of_le_of_lt h (by decide)

/-! ### expressions in short: the name that stands in the i-th slot -/
section
variable {X : Cx}
theorem pv (i : Nat) {x : Str} {pos : Pos} (hN : X.N[i]? = some x := by rfl) (hv : Vis X.env.scope x := by first | exact Or.inl rfl | exact Or.inr (Or.inl rfl) | exact Or.inr (Or.inr rfl)) (hd : (x == ("__debug__" : Str)) = false := by decide)
    (hcd : (x == ("__classdict__" : Str)) = false := by decide) : PE X (.Name x pos) (tVar i) := pe_var hN hv hd hcd
end

/-! ### tests -/
theorem iteF {A B : Prop} (h : B) : if false = true then A else B := by
  rw [if_neg Bool.false_ne_true]
  exact h
theorem iteT {A B : Prop} (h : A) : if true = true then A else B := by
  rw [if_pos rfl]
  exact h
theorem ite2 {c A B : Prop} [Decidable c] (h1 : c → A) (h2 : ¬ c → B) : if c then A else B := by
  by_cases h : c
  · rw [if_pos h]
    exact h1 h
  · rw [if_neg h]
    exact h2 h

/-! ### heaps -/
/-- all that was tracked is as it was -/
def Same (H H' : Hp) : Prop := ∀ b o, H b = some o → H' b = some o
theorem Same.refl (H : Hp) : Same H H := fun _ _ h => h
theorem Same.trans {H H1 H2 : Hp} (a : Same H H1) (b : Same H1 H2) : Same H H2 := fun c o h => b c o (a c o h)
theorem Same.free {H H' : Hp} (e : Same H H') {l : Addr} (h : H' l = Option.none) : H l = Option.none := by
  cases q : H l with
  | none => rfl
  | some o =>
    rw [e l o q] at h
    cases h
theorem Same.seq {K : PySem.W.Frag} {H H' : Hp} {a : Addr} {xs : List V} (e : Same H H') (h : SqL K H a xs) : SqL K H' a xs := by
  rcases h with (h | ⟨o, h⟩) | h
  · exact .inl (.inl (e _ _ h))
  · exact .inl (.inr ⟨o, e _ _ h⟩)
  · exact .inr h

end L2

namespace L2
open PySem PySem.Spec PyProof.Rows
/-! ### lists of pairs as tables -/
section
variable {κ : Type} [DecidableEq κ]



end


/-! ### a tracked dict, its keys ints and texts or tuples of these -/


section
variable {P : Program} {w : World} {H : Hp} {h : Heap} {a : Addr}
end



section
variable {X : Cx} {pins : List (Addr × Obj)} {σ : St} {H : Hp} {s : Shared} {a : Addr} {y v : V} {u r : Value} {o : Option V} {A : Around} {E : Value → Shared → Prop}


end

section
variable {X : Cx} {pins : List (Addr × Obj)} {σ : St} {H : Hp} {s : Shared} {a : Addr} {kvs : List (Key × V)} {k : Key} {u : Value} {A : Around} {E : Value → Shared → Prop}
end


/-! ### readings and rules -/



section
variable {X : Cx} {o i e value : Expr} {pos pos' tpos : Pos} {td ty tv : TE}
end


/-! ### displays -/
section
variable {X : Cx} {pos : Pos}
end




/-! ### methods -/


section
variable {X : Cx} {pins : List (Addr × Obj)} {σ : St} {H : Hp} {s : Shared} {a : Addr} {y d : V} {u r : Value} {o : Option V} {A : Around} {E : Value → Shared → Prop}
end

section
variable {X : Cx} {o e f : Expr} {apos cpos : Pos} {td ty tx : TE}
end

/-! ### dict(d): a copy -/
section
variable {X : Cx} {pins : List (Addr × Obj)} {σ : St} {H : Hp} {s : Shared} {a : Addr} {kvs : List (Key × V)} {A : Around} {E : Value → Shared → Prop}
end


section
variable {X : Cx} {pins : List (Addr × Obj)} {σ : St} {H : Hp} {s : Shared} {a : Addr} {y : V} {u : Value} {A : Around} {E : Value → Shared → Prop}
end
end L2

namespace L2
open PySem PySem.Spec PyProof.Rows
section
variable {X : Cx}
end

/-! ### a dict's pairs: keys that differ -/
section
variable {κ : Type} [DecidableEq κ]
end
end L2


namespace L2
open PySem PySem.Spec PyProof.Rows

/-! ### list comprehensions: one clause, tests, any target -/


/-- the caught names cs stand at the places ix of the frame -/
def Caps (X : Cx) (scope : Scope) : List Str → List Nat → Prop
  | [], [] => True
  | x :: cs, j :: js => (X.N[j]? = some x ∧ (X.env.kindOf x = some .cell ∨ X.env.kindOf x = some .free) ∧ scope.names.lookup x = some .free) ∧ Caps X scope cs js
  | _, _ => False




section
variable {X : Cx} {pins : List (Addr × Obj)} {σ : St} {H H' : Hp} {s s' : Shared}
end
end L2

namespace L2
open PySem PySem.Spec PyProof.Rows

/-! ### isinstance -/
theorem call_isinst {X : Cx} : CallR X (.builtin "isinstance") (fun xs H Q => ∃ x c cv t b, xs = [x, c] ∧ (∀ u, RelV c u → u = cv) ∧ TyOf X.K H x t ∧ PySem.W.kitOne X.K t cv = some b ∧ Q (.bl b) H) := by
  intro pins s σ H xs us Q I r h
  obtain ⟨x, c, cv, t, b, rfl, hc, ty, e, q⟩ := h
  obtain ⟨u, z, rfl, rx, rc⟩ := vals2 r
  cases hc z rc
  exact isinst_ok I rx ty e fun tk => ⟨.bl b, H, I.tok tk, rfl, q⟩
theorem ty_is {n : String} : ∀ u, RelV (.ty n) u → u = .type n := fun _ h => h
theorem ref_is {a : Addr} : ∀ u, RelV (.ref a) u → u = .ref a := fun _ h => h

/-! ### sum -/

/-! ### == and != of lists of flat items -/
def eqL : List V → List V → Bool
  | [], [] => true
  | x :: xs, y :: ys => eqV x y && eqL xs ys
  | _, _ => false
theorem eqL_len : ∀ {xs ys : List V}, xs.length ≠ ys.length → eqL xs ys = false
  | [], [], h => absurd rfl h
  | [], _ :: _, _ => rfl
  | _ :: _, [], _ => rfl
  | x :: xs, y :: ys, h => by
    unfold eqL
    rw [eqL_len (xs := xs) (ys := ys) fun e => h (by rw [List.length_cons, List.length_cons, e]), Bool.and_false]
theorem eqL_all : ∀ {xs ys : List V}, xs.length = ys.length → ∀ e : Nat → Bool, (∀ j x y, xs[j]? = some x → ys[j]? = some y → e j = eqV x y) → (List.range xs.length).all e = eqL xs ys
  | [], [], _, _, _ => rfl
  | [], _ :: _, h, _, _ => by simp at h
  | _ :: _, [], h, _, _ => by simp at h
  | x :: xs, y :: ys, h, e, he => by
    have ih := eqL_all (xs := xs) (ys := ys) (by simpa using h) (fun j => e (j + 1)) fun j a b ha hb => he (j + 1) a b (by simpa using ha) (by simpa using hb)
    unfold eqL
    rw [List.length_cons, List.range_succ_eq_map, List.all_cons, List.all_map, he 0 x y rfl rfl, ← ih]
    rfl
def eqAtJ (its js : List Value) (xs ys : List V) (j : Nat) : Bool := match xs[j]?, ys[j]? with
  | some x, some y => eqV x y
  | _, _ => true
theorem lists_at {X : Cx} {pins : List (Addr × Obj)} {s : Shared} {σ : St} {H : Hp} {A : Around} {xs ys : List V} {its js : List Value} (r1 : Vals xs its) (r2 : Vals ys js) (f1 : xs.all flatV = true) (f2 : ys.all flatV = true) (hl : xs.length = ys.length) :
    ∀ j (h1 : j < its.toArray.size) (h2 : j < js.toArray.size), SeqAt.EqAt A s its.toArray[j] js.toArray[j] (eqAtJ its js xs ys j) := fun j h1 h2 => by
  have l1 := r1.length
  have l2 := r2.length
  rw [List.size_toArray] at h1 h2
  have e1 : xs[j]? = some xs[j] := List.getElem?_eq_getElem (by omega)
  have e2 : ys[j]? = some ys[j] := List.getElem?_eq_getElem (by omega)
  obtain ⟨u, hu, ru⟩ := r1.get e1
  obtain ⟨v, hv, rv⟩ := r2.get e2
  have eu : its.toArray[j] = u := by rw [List.getElem_toArray]; exact (List.getElem?_eq_some_iff.mp hu).2
  have ev : js.toArray[j] = v := by rw [List.getElem_toArray]; exact (List.getElem?_eq_some_iff.mp hv).2
  rw [eu, ev]
  unfold eqAtJ
  rw [e1, e2]
  exact eqAt_V ru rv (List.all_eq_true.mp f1 _ (List.getElem_mem _)) (List.all_eq_true.mp f2 _ (List.getElem_mem _))
def rEqL (K : PySem.W.Frag) (neg : Bool) : R2 := fun x y H Q => ∃ a b xs ys, x = .ref a ∧ y = .ref b ∧ SqL K H a xs ∧ SqL K H b ys ∧ xs.all flatV = true ∧ ys.all flatV = true ∧ Q (.bl (if neg then !eqL xs ys else eqL xs ys)) H
theorem op_eqL {X : Cx} (hu : X.A.units < cLine) : OpR X (compareOp .Eq) (rEqL X.K false) := by
  intro pins s σ H x y v u Q I rx ry h
  obtain ⟨a, b, xs, ys, rfl, rfl, h1, h2, f1, f2, q⟩ := h
  cases rx
  cases ry
  obtain ⟨its, r1, p1, z1⟩ := I.list h1
  obtain ⟨js, r2, p2, z2⟩ := I.list h2
  have l1 := r1.length
  have l2 := r2.length
  by_cases hl : xs.length = ys.length
  · refine SeqAt.eq_listAt p1.isList p2.isList (by rw [List.size_toArray, List.size_toArray]; omega) hu (lists_at (X := X) (pins := pins) (σ := σ) (H := H) r1 r2 f1 f2 hl) ?_
    refine ⟨.bl (eqL xs ys), H, I, ?_, q⟩
    show Value.bool _ = Value.bool _
    rw [List.size_toArray, ← l1, eqL_all hl]
    intro j x y e1 e2
    unfold eqAtJ
    rw [e1, e2]
  · refine SeqAt.eq_list_lengthsAt p1.isList p2.isList (by simp only [List.size_toArray, bne_iff_ne, ne_eq]; omega) hu ?_
    exact ⟨.bl (eqL xs ys), H, I, by rw [eqL_len hl]; rfl, q⟩

/-! ### xs[::-1] -/

/-! ### xs.count(x) -/
def rCount (K : PySem.W.Frag) : V → List V → Hp → VK → Prop := fun x vs H Q => ∃ l xs y, x = .ref l ∧ vs = [y] ∧ SqL K H l xs ∧ flatV y = true ∧ xs.all flatV = true ∧ Q (.int ((xs.countP fun z => eqV z y : Nat) : Int)) H
theorem count_eqU {x : V} : ∀ {xs : List V} {us : List Value}, Vals xs us → xs.all flatV = true → us.countP (eqU x) = xs.countP fun y => eqV y x
  | _, _, .nil, _ => rfl
  | y :: xs, u :: us, .cons r t, f => by
    rw [List.all_cons, Bool.and_eq_true] at f
    rw [List.countP_cons, List.countP_cons, eqU_of r f.1, count_eqU t f.2]
theorem mt_count {X : Cx} : MtM X "list.count" (rCount X.K) := by
  intro pins s σ H x vs v us Q I rx rv h
  obtain ⟨l, xs, y, rfl, rfl, hH, fy, fx, q⟩ := h
  cases rx
  obtain ⟨u, rfl, ru⟩ := rv.one
  obtain ⟨its, r, p, hz⟩ := I.list hH
  obtain ⟨⟨cls, dd, data, sl⟩, ho, hc, n, hd⟩ := p.isList
  simp only at hc hd
  subst hc hd
  refine call_meets F.slot_list_count ⟨_, ho, rfl⟩ F.entry_list_count (F.args_list_count_2 _ _) (SeqAt.list_countAt l its.toArray n dd sl u (eqU y)) ⟨ho, ?_, ?_⟩
  · intro z hz'
    exact mem_eqAt ru fy r fx z (by simpa using hz')
  · refine ⟨.int _, H, I.tok _, ⟨s.toks, ?_⟩, q⟩
    show Value.int ((its.toArray.toList.countP (eqU y) : Nat) : Int) s.toks = _
    rw [show its.toArray.toList = its from rfl, count_eqU r fx]

/-! ### comprehensions over ranges and lists, by a word over the turn, the list so far, the heap -/
end L2

namespace L2
open PySem PySem.Spec PyProof.Rows

/-! ### a def of the text with its promise, in one -/
structure Cal (P : Program) (w : World) (K : PySem.W.Frag) (mg : Str → Option Value) (base : Heap) (k : Nat) (x : Str) (ps : List Str) (sp : Sp) : Prop where
  ex : ∃ f fd, FnOk P w K mg base CX0 k f fd ps sp ∧ Binds K fd ps [] ∧ PySem.W.keepIn K (.ref f) = true ∧ mg x = some (.ref f)
theorem pe_callC {X : Cx} {k : Nat} {x : Str} {ps : List Str} {sp : Sp} {e : Expr} {es : List Expr} {p pos : Pos} {t : TA} (C : Cal X.prog X.w X.K X.mg X.base k x ps sp) (hr : Room k X.A) (hg : Gl X x) (ha : PA X (e :: es) t)
    (hdb : (x == ("__debug__" : Str)) = false := by decide) (he : starEach (e :: es) X.env = (false, eval e X.env) :: starEach es X.env := by rfl) (hpl : (backTo pos (starEach es X.env)).any (·.1) = false := by rfl) :
    PE X (.Call (.Name x p) (e :: es) [] pos) (tCall sp [] E0 t) := by
  obtain ⟨f, fd, F, b, kp, hm⟩ := C.ex
  exact pe_call F hr hg hm kp b .nil pass0 ha hdb he hpl
/-- a def as it stands behind the top: how it binds, its name -/
structure Def (K : PySem.W.Frag) (mg : Str → Option Value) (x : Str) (st : Stmt) (ps : List Str) : Prop where
  ex : ∃ f fd, Fun K x x st f fd ∧ Binds K fd ps [] ∧ mg x = some (.ref f)
theorem Def.cal {P : Program} {w : World} {K : PySem.W.Frag} {mg : Str → Option Value} {base : Heap} {k : Nat} {x : Str} {st : Stmt} {ps : List Str} {sp : Sp} (D : Def K mg x st ps) (h : ∀ f fd, Fun K x x st f fd → FnOk P w K mg base CX0 k f fd ps sp) : Cal P w K mg base k x ps sp := by
  obtain ⟨f, fd, F, b, m⟩ := D.ex
  exact ⟨f, fd, h f fd F, b, F.kp, m⟩
/-- a module's constant -/
def GInt (mg : Str → Option Value) (x : Str) (i : Int) : Prop := ∃ t, mg x = some (.int i t)
def GStr (mg : Str → Option Value) (x : Str) (z : Str) : Prop := ∃ t, mg x = some (.str z t)
theorem pe_gint {X : Cx} {x : Str} {i : Int} {pos : Pos} (h : GInt X.mg x i) (hg : Gl X x) (hd : (x == ("__debug__" : Str)) = false := by decide) : PE X (.Name x pos) (tC (.int i)) := by
  obtain ⟨t, e⟩ := h
  exact pe_glob hg e ⟨t, rfl⟩ hd
theorem pe_gstr {X : Cx} {x : Str} {i : Str} {pos : Pos} (h : GStr X.mg x i) (hg : Gl X x) (hd : (x == ("__debug__" : Str)) = false := by decide) : PE X (.Name x pos) (tC (.str i)) := by
  obtain ⟨t, e⟩ := h
  exact pe_glob hg e ⟨t, rfl⟩ hd
/-- a built-in type's name -/
theorem pe_ty {X : Cx} {x : Str} {pos : Pos} (T : String) (hg : Gl X x) (hm : X.mg x = none) (hv : bootBuiltins x = some (.type T)) (hn : x ≠ "__name__" := by decide) (hd : (x == ("__debug__" : Str)) = false := by decide) : PE X (.Name x pos) (tC (.ty T)) :=
  pe_bltn (v := .ty T) hg hm hv rfl hn hd
theorem same_new {H : Hp} {p : Addr} (h : H p = none) (o : HO) : Same H (upd H p o) := fun b u q => by rw [upd_ne (ne_of_none q h)]; exact q
theorem le_line {n : Nat} (h : n ≤ 1000) : n ≤ sizeLine := Nat.le_of_lt (small1000 h)
/-- an item of a list of ints -/
theorem at_int {ns : List Int} {i : Nat} {n : Int} (h : ns[i]? = some n) : atI (ns.map V.int) (i : Int) = some (.int n) := atI_nat (by rw [List.getElem?_map, h]; rfl)
theorem at_intI {ns : List Int} {i : Int} (h0 : 0 ≤ i) (h : i < ns.length) : atI (ns.map V.int) i = some (.int (ns.getD i.toNat 0)) := by
  have e : ((i.toNat : Nat) : Int) = i := by omega
  have q := at_int (ns := ns) (i := i.toNat) (n := ns.getD i.toNat 0) (by rw [List.getElem?_eq_getElem (by omega), List.getD_eq_getElem?_getD, List.getElem?_eq_getElem (by omega)]; rfl)
  rw [e] at q
  exact q
theorem room_u {k : Nat} {A : Around} (hr : Room k A) : A.units < cLine := hr.units0
example : bootBuiltins "int" = some (.type "int") := by rfl
end L2

namespace L2
open PySem PySem.Spec PyProof.Rows

/-! ### enumerate(xs), its pairs unpacked by the target -/
end L2

namespace L2
open PySem PySem.Spec PyProof.Rows
/-! ### a method, a class of the text with their promises, in one -/
structure MCal (P : Program) (w : World) (K : PySem.W.Frag) (mg : Str → Option Value) (base : Heap) (k : Nat) (C : Addr) (m : Str) (ps : List Str) (sp : Sp) : Prop where
  ex : ∃ f fd, FnOk P w K mg base CX0 k f fd ps sp ∧ Binds K fd ps [] ∧ Meth K C m f
  cl : Cls K C
theorem pe_methC {X : Cx} {k : Nat} {C : Addr} {m : Str} {ps : List Str} {sp : Sp} {e o : Expr} {es : List Expr} {apos pos : Pos} {ta : TE} {t : TA} {pl : Sem Bool} (M : MCal X.prog X.w X.K X.mg X.base k C m ps sp) (hr : Room k X.A) (he : PE X o ta) (ha : PA X (e :: es) t)
    (hst : starEach (e :: es) X.env = (false, eval e X.env) :: starEach es X.env := by rfl) (hpl : (backTo pos (starEach es X.env)).any (·.1) = false := by rfl)
    (ht : eval (.Call (.Attribute o m apos) (e :: es) [] pos) X.env = (do
      let ov ← eval o X.env
      standAt apos.atName
      let (f, first) ← holding [ov] (getMethod ov m pl)
      callWith pos f first (backTo pos (starEach (e :: es) X.env)) (backToKw pos (keywordEach [] X.env))) := by rfl) :
    PE X (.Call (.Attribute o m apos) (e :: es) [] pos) (tMeth C m sp [] E0 ta t) := by
  obtain ⟨f, fd, F, b, hm⟩ := M.ex
  exact pe_meth he M.cl hm F hr b .nil pass0 ha hst hpl ht
structure KCal (P : Program) (w : World) (K : PySem.W.Frag) (mg : Str → Option Value) (base : Heap) (k : Nat) (x : Str) (C : Addr) (ps : List Str) (sp : Sp) : Prop where
  ex : ∃ f fd, Mk K C f ∧ FnOk P w K mg base CX0 k f fd ps sp ∧ Binds K fd ps [] ∧ mg x = some (.ref C)
theorem pe_makeC {X : Cx} {k : Nat} {x : Str} {C : Addr} {ps : List Str} {sp : Sp} {e : Expr} {es : List Expr} {p pos : Pos} {t : TA} (M : KCal X.prog X.w X.K X.mg X.base k x C ps sp) (hr : Room (k + 1) X.A) (hg : Gl X x) (ha : PA X (e :: es) t)
    (hdb : (x == ("__debug__" : Str)) = false := by decide) (he : starEach (e :: es) X.env = (false, eval e X.env) :: starEach es X.env := by rfl) (hpl : (backTo pos (starEach es X.env)).any (·.1) = false := by rfl) :
    PE X (.Call (.Name x p) (e :: es) [] pos) (tMake C sp [] E0 t) := by
  obtain ⟨f, fd, mk, F, b, hm⟩ := M.ex
  exact pe_make mk F hr hg hm b .nil pass0 ha hdb he hpl
end L2

namespace L2
open PySem PySem.Spec PyProof.Rows
/-! ### range(lo, hi) of any ints -/
/-! ### min(xs) of ints: one of them -/
end L2

namespace L2
open PySem PySem.Spec PyProof.Rows

/-! ### exceptions of own classes: how one lies, flies, is caught -/
theorem ObjOk.is {P : Program} {w : World} {H : Hp} {h : Heap} {a : Addr} {o : HO} (x : ObjOk P w H h a o) : ∃ ob, h.get? a = some ob := by
  cases o with
  | lst xs => obtain ⟨_, _, _, _, e⟩ := x; exact ⟨_, e⟩
  | tup xs => obtain ⟨_, _, _, _, e, _⟩ := x; exact ⟨_, e⟩
  | dK kvs => obtain ⟨_, _, _, _, _, _, _, e, _⟩ := x; exact ⟨_, e⟩
  | dT kvs => obtain ⟨_, _, _, _, _, _, _, e, _⟩ := x; exact ⟨_, e⟩
  | set S n => obtain ⟨_, _, _, _, e, _⟩ := x; exact ⟨_, e⟩
  | ins C dx fs => obtain ⟨_, _, _, e, _⟩ := x; exact ⟨_, e⟩
  | own y => exact x
  | xd fs => obtain ⟨_, ⟨_, _, _, e, _⟩, _⟩ := x; exact ⟨_, e⟩
  | rng lo hi => obtain ⟨_, _, _, e⟩ := x; exact ⟨_, e⟩
  | frz ob u => exact ⟨_, x.1⟩
  | tbl ps => exact ⟨_, x⟩
  | met f y => exact ⟨_, x⟩
  | ext φ => exact x.2.1
/-- the object of an exception: class, own dict, context; no traceback yet, or one whose last entry isn't in flight; fx: what is true of the records that turn -/
def XOb (h : Heap) (e : Addr) (c : Value) (d : Option Addr) (ctx : Value) (fx : Addr → Prop) : Prop :=
  ∃ oe vs, h.get? e = some oe ∧ oe.cls = c ∧ oe.dict = d ∧ oe.data = .fields vs ∧ 1 < vs.size ∧ vs[2]? = some ctx ∧ fx e ∧
    (vs[1]? = some .none ∨ ∃ T oT ts, vs[1]? = some (.ref T) ∧ T ≠ e ∧ h.get? T = some oT ∧ oT.data = .fields ts ∧ ts[3]? = some .none ∧ fx T)
theorem XOb.imp {h : Heap} {e : Addr} {c : Value} {d : Option Addr} {ctx : Value} {fx fy : Addr → Prop} (x : XOb h e c d ctx fx) (f : ∀ b, fx b → fy b) : XOb h e c d ctx fy := by
  obtain ⟨oe, vs, he, hc, hdd, hd, hz, h2, fe, ht⟩ := x
  refine ⟨oe, vs, he, hc, hdd, hd, hz, h2, f _ fe, ?_⟩
  rcases ht with h1 | ⟨T, oT, ts, h1, hTe, hT, hdT, h3, fT⟩
  · exact .inl h1
  · exact .inr ⟨T, oT, ts, h1, hTe, hT, hdT, h3, f _ fT⟩
theorem XOb.there {h : Heap} {e : Addr} {c : Value} {d : Option Addr} {ctx : Value} {fx : Addr → Prop} (x : XOb h e c d ctx fx) : ∃ oe vs, h.get? e = some oe ∧ oe.cls = c ∧ oe.dict = d ∧ oe.data = .fields vs :=
  let ⟨oe, vs, he, hc, hdd, hd, _⟩ := x
  ⟨oe, vs, he, hc, hdd, hd⟩
/-- a record of our own that may turn: FpOk, but «not there at the entry» in the place of «younger than the entry» -/
def FxOk (X : Cx) (pins : List (Addr × Obj)) (H : Hp) (b : Addr) : Prop :=
  H b = none ∧ b ≠ X.env.locals ∧ b ∉ X.fs ∧ (b ∈ X.ex ∨ X.s₀.heap.get? b = none) ∧ (∀ x c, X.env.cells.lookup x = some c → c ≠ b) ∧ ∀ p ∈ X.pn ++ pins, p.1 ≠ b
section
variable {X : Cx} {pins : List (Addr × Obj)} {σ : St} {H H' : Hp} {s : Shared} {h' : Heap}
theorem Inv.fxOk {b : Addr} (I : Inv X pins σ H s) (hb : s.heap.get? b = none) (hn : H' b = none) : FxOk X pins H' b := by
  have no : ∀ {a : Addr} {o : Obj}, s.heap.get? a = some o → a ≠ b := fun {a o} q z => by rw [z, hb] at q; cases q
  refine ⟨hn, fun z => ?_, fun z => ?_, ?_, fun x c e => ?_, fun p hp => no (I.pin p hp).1⟩
  · obtain ⟨m, ⟨o, es, ep, ho, _⟩, _⟩ := I.loc
    exact no ho z.symm
  · obtain ⟨_, o, ho, _⟩ := I.ok.funs.mem z
    have n1 : b ∉ X.ex := fun y => I.ok.exfs b y z
    obtain ⟨o', e'⟩ := I.base.there b o ho n1
    exact no e' rfl
  · by_cases hx : b ∈ X.ex
    · exact .inl hx
    · refine .inr ?_
      cases q : X.s₀.heap.get? b with
      | none => rfl
      | some o =>
        obtain ⟨o', e'⟩ := I.base.there b o q hx
        exact absurd rfl (no e')
  · obtain ⟨v, o, ho, _⟩ := I.cell x c e
    exact no ho
/-- the step, with records that were not there at the entry -/
theorem Inv.stepN {g' : Array GenState} {t' : Nat} {d' : Drawn} {ch : List Addr} (I : Inv X pins σ H s)
    (hch : ∀ b ∈ ch, (b ∈ X.ex ∨ X.s₀.heap.get? b = none) ∧ b ≠ X.env.locals ∧ (∀ x c, X.env.cells.lookup x = some c → c ≠ b) ∧ ∀ p ∈ X.pn ++ pins, p.1 ≠ b)
    (keep : ∀ b o, b ≠ X.env.locals → b ∉ X.fs → b ∉ ch → s.heap.get? b = some o → H b = none → h'.get? b = some o)
    (slot : ∀ b o, b ≠ X.env.locals → b ∈ X.fs → b ∉ ch → s.heap.get? b = some o → H b = none → ∃ sl, h'.get? b = some { o with slots := sl }) (free : ∀ b o, b ∉ ch → s.heap.get? b = some o → H b = none → H' b = none)
    (there : ∀ b o, b ∉ ch → s.heap.get? b = some o → ∃ o', h'.get? b = some o')
    (tups : ∀ b xs, H b = some (.tup xs) → H' b = some (.tup xs)) (frzs : ∀ b o u, H b = some (.frz o u) → H' b = some (.frz o u)) (tbls : ∀ b ps, H b = some (.tbl ps) → ∃ more, H' b = some (.tbl (ps ++ more)))
    (ns : ∀ m, s.heap.Ns X.env.locals m → h'.Ns X.env.locals m) (hok : HOk X.prog X.w H' h') (hg : AllBare g') :
    Inv X pins σ H' { s with heap := h', gens := g', drawn := d', toks := t' } := by
  have neL : ∀ b o, X.s₀.heap.get? b = some o → b ≠ X.env.locals := fun b o e => Nat.ne_of_lt (Nat.lt_of_lt_of_le (Heap.lt_size e) I.ok.above)
  have neC : ∀ b o, X.s₀.heap.get? b = some o → b ∉ X.ex → b ∉ ch := fun b o e hx hb => by
    rcases (hch b hb).1 with z | z
    · exact hx z
    · rw [e] at z; cases z
  have cellK : ∀ x c, X.env.cells.lookup x = some c → ∀ v, s.heap.IsCell c v → h'.IsCell c v := fun x c e v ⟨o, ho, hd⟩ => by
    have nch : c ∉ ch := fun z => (hch c z).2.2.1 x c e rfl
    by_cases hc : c ∈ X.fs
    · obtain ⟨sl, q⟩ := slot c o (I.cne x c e) hc nch ho (I.freeC x c e)
      exact ⟨_, q, hd⟩
    · exact ⟨o, keep c o (I.cne x c e) hc nch ho (I.freeC x c e), hd⟩
  refine ⟨I.ok, I.os, hg, ⟨fun b o e n hb hx => ?_, fun b o e n hb hx => ?_, fun b o e n hx => ?_, fun b o e hx => ?_, fun b xs e => tups b xs (I.base.tups b xs e), fun b o xs e => frzs b o xs (I.base.frzs b o xs e), fun b ps e => ?_⟩, ?_, fun x c e => ?_, ?_, fun x c e => ?_, fun p hp => ?_, hok, I.len⟩
  · exact keep b o (neL b o e) hb (neC b o e hx) (I.base.keep b o e n hb hx) (I.base.free b o e n hx)
  · obtain ⟨sl, e1⟩ := I.base.slot b o e n hb hx
    obtain ⟨sl', e2⟩ := slot b _ (neL b o e) hb (neC b o e hx) e1 (I.base.free b o e n hx)
    exact ⟨sl', e2⟩
  · obtain ⟨o', e1⟩ := I.base.there b o e hx
    exact free b o' (neC b o e hx) e1 (I.base.free b o e n hx)
  · obtain ⟨o', e1⟩ := I.base.there b o e hx
    exact there b o' (neC b o e hx) e1
  · obtain ⟨m1, e1⟩ := I.base.tbls b ps e
    obtain ⟨m2, e2⟩ := tbls b _ e1
    exact ⟨m1 ++ m2, by rw [e2, Array.append_assoc]⟩
  · obtain ⟨m, hn, hl⟩ := I.loc
    refine ⟨m, ns m hn, fun i x v e1 e2 e3 => ?_⟩
    obtain ⟨u, r, l⟩ := hl i x v e1 e2 e3
    refine ⟨u, r, ?_⟩
    rcases l with l | ⟨k, c, e, z⟩
    · exact .inl l
    · exact .inr ⟨k, c, e, cellK x c e _ z⟩
  · obtain ⟨v, z⟩ := I.cell x c e
    exact ⟨v, cellK x c e v z⟩
  · obtain ⟨m, ⟨o, _, _, ho, _⟩, _⟩ := I.loc
    exact free _ o (fun z => (hch _ z).2.1 rfl) ho I.free
  · obtain ⟨v, o, ho, hd⟩ := I.cell x c e
    exact free c o (fun z => (hch c z).2.2.1 x c e rfl) ho (I.freeC x c e)
  · obtain ⟨e, n, ne, nf, d⟩ := I.pin p hp
    have nch : p.1 ∉ ch := fun z => (hch p.1 z).2.2.2 p hp rfl
    exact ⟨keep p.1 p.2 ne nf nch e n, free p.1 p.2 nch e n, ne, nf, d⟩
theorem Inv.callN {g' : Array GenState} {t' : Nat} {d' : Drawn} {ch : List Addr} (I : Inv X pins σ H s) (u : Un (frs X.stack) ch H H' s.heap h') (hok : HOk X.prog X.w H' h') (hg : AllBare g')
    (hch : ∀ b ∈ ch, (b ∈ X.ex ∨ X.s₀.heap.get? b = none) ∧ b ≠ X.env.locals ∧ (∀ x c, X.env.cells.lookup x = some c → c ≠ b) ∧ ∀ p ∈ X.pn ++ pins, p.1 ≠ b) :
    Inv X pins σ H' { s with heap := h', gens := g', drawn := d', toks := t' } := by
  obtain ⟨m, ⟨o, es, ep, ho, r⟩, _⟩ := id I.loc
  obtain ⟨sl, hL⟩ := u.any ho I.free fun z => (hch _ z).2.1 rfl
  exact I.stepN (ch := ch) hch (fun b o hL hb hc e n => u.keep b o e n (fun z => (List.mem_cons.mp (I.stkSub b z)).elim hL hb) hc) (fun b o _ _ hc e n => u.any e n hc) (fun b o hc e n => u.free b o e n hc) (fun b o hc e => u.there b o e hc) u.tups u.frzs u.tbls (fun m' hm => by
    obtain ⟨o', es', ep', ho', r'⟩ := hm
    rw [ho] at ho'; cases ho'
    exact ⟨_, es', ep', hL, r'⟩) hok hg

/-- the entry of this frame, laid and let go -/
theorem note_tail {M : Model} {A' : Around} {e : Addr} {oe : Obj} {vs : Array Value} {head ctx : Value} {hadNext : Bool} {E E' : Value → Shared → Prop} {K : Unit → Shared → Prop} (I : Inv X pins σ H s) (hst : X.stack = X.env :: X.outer) (hfr : X.env.frame = some X.env.locals)
    (he : s.heap.get? e = some oe) (hd : oe.data = .fields vs) (hz : 1 < vs.size) (h2 : vs[2]? = some ctx) (fe : FxOk X pins H e)
    (h : ∀ h', Inv X pins σ H { s with heap := h' } → XOb h' e oe.cls oe.dict ctx (FxOk X pins H) → K () { s with heap := h' }) :
    wpAny M X.A (do let a ← frameOf X.env; let pl ← entryPlaceOf X.env.locals hadNext; let b ← EntryCells.newEntry head a .none (rawInt X.env.locals) .none pl; setField (.ref e) 1 b)
      (fun _ s2 => wpAny M A' (setFlight (.ref e) none) K E' s2) E s := by
  have hl : s.heap.FunFrames X.base (X.env :: X.outer) := by rw [← hst]; exact I.stack
  have hfs : X.A.frames = some (X.env :: X.outer) := by rw [← hst]; exact I.ok.frames
  have een : e ∉ (X.env :: X.outer).filterMap (·.frame) := fun hb => by
    have hb' : e ∈ frs X.stack := by rw [hst]; exact hb
    rcases List.mem_cons.mp (I.stkSub e hb') with z | z
    · exact fe.2.1 z
    · exact fe.2.2.1 z
  refine wpAny_bind (wpAny_frameOf_fun hfs hl hfr fun h1 s1 => ?_)
  refine wpAny_bind (wpAny_entryPlaceOf fun pl place => ?_)
  unfold EntryCells.newEntry
  unfold newFields
  refine wpAny_bind (wpAny_newObj_type ?_ (place.sizeOk5 _ _ _ _ _))
  have he1 : h1.get? e = some oe := (s1.2.1 e een).trans he
  generalize hO : ({ cls := .type "traceback", dict := none, data := .fields ([head, .ref X.env.locals, .none, rawInt X.env.locals, .none] ++ (if pl.isEmpty then List.replicate 6 Value.none else pl)).toArray } : Obj) = O
  have dO : ∃ ts, O.data = .fields ts ∧ 3 < ts.size := by
    refine ⟨_, by rw [← hO], ?_⟩
    rw [List.size_toArray, List.length_append, List.length_cons, List.length_cons, List.length_cons, List.length_cons, List.length_cons]
    omega
  obtain ⟨ts, hts, hts3⟩ := dO
  have he2 := Heap.get?_push_of_some (h := h1) O he1
  refine wpAny_setField he2 hd hz ?_
  have hTe : h1.objs.size ≠ e := Nat.ne_of_gt (Heap.lt_size he1)
  have hd3 := Obj.data_mapFields hd (fun z => z.setIfInBounds 1 (Value.ref h1.objs.size))
  have he3 := Heap.get?_update_self (Obj.mapFields fun z => z.setIfInBounds 1 (Value.ref h1.objs.size)) he2 (Obj.isFreed_of_fields hd3)
  have hT3 : ((h1.push O).update e (Obj.mapFields fun z => z.setIfInBounds 1 (Value.ref h1.objs.size))).get? h1.objs.size = some O :=
    (Heap.get?_update_other _ _ (Ne.symm hTe)).trans (Heap.get?_push_size h1 (by rw [← hO]; rfl))
  unfold setFlight
  refine wpAny_bind (wpAny_field he3 hd3 (x := .ref h1.objs.size) (by simp [hz]) ?_)
  rw [if_pos (show (Value.ref h1.objs.size != .none) = true by simp)]
  refine wpAny_setField hT3 hts hts3 ?_
  -- the heap behind it
  generalize hF : ((h1.push O).update e (Obj.mapFields fun z => z.setIfInBounds 1 (Value.ref h1.objs.size))).update h1.objs.size (Obj.mapFields fun z => z.setIfInBounds 3 ((none : Option Addr).elim Value.none fun f => rawInt f)) = h4
  have keep : ∀ b o, b ≠ e → h1.get? b = some o → h4.get? b = some o := fun b o hbe hb => by
    have hbT : h1.objs.size ≠ b := Nat.ne_of_gt (Heap.lt_size hb)
    rw [← hF, Heap.get?_update_other _ _ hbT, Heap.get?_update_other _ _ (Ne.symm hbe)]
    exact Heap.get?_push_of_some _ hb
  have he4 : h4.get? e = some (Obj.mapFields (fun z => z.setIfInBounds 1 (Value.ref h1.objs.size)) oe) := by
    rw [← hF, Heap.get?_update_other _ _ hTe]
    exact he3
  have hd5 := Obj.data_mapFields hts (fun z => z.setIfInBounds 3 ((none : Option Addr).elim Value.none fun f => rawInt f))
  have hT4 : h4.get? h1.objs.size = some (Obj.mapFields (fun z => z.setIfInBounds 3 ((none : Option Addr).elim Value.none fun f => rawInt f)) O) := by
    rw [← hF]
    exact Heap.get?_update_self _ hT3 (Obj.isFreed_of_fields hd5)
  have u : Un (frs X.stack) [e] H H s.heap h4 := by
    refine ⟨fun b o q _ hb hx => keep b o (by simpa using hx) ((s1.2.1 b ?_).trans q), fun b o q _ _ hx => ?_, fun _ _ _ n _ => n, fun b o q hx => ?_, fun _ _ q => q, fun _ _ _ q => q, fun b ps q => ⟨#[], by rw [q]; simp⟩⟩
    · rw [hst] at hb
      exact hb
    · obtain ⟨sl, z⟩ := s1.2.2 b o q
      exact ⟨sl, keep b _ (by simpa using hx) z⟩
    · obtain ⟨sl, z⟩ := s1.2.2 b o q
      exact ⟨_, keep b _ (by simpa using hx) z⟩
  have hok : HOk X.prog X.w H h4 := fun b o z => (I.hok b o z).stay (fun c v hc q => by
    have hs : ∃ w, H c = some w := by
      rcases hc with r | r
      · exact ⟨o, by rw [r]; exact z⟩
      · exact ⟨_, r⟩
    obtain ⟨w, hw⟩ := hs
    refine keep c v (fun y => ?_) ((s1.2.1 c fun y => ?_).trans q)
    · rw [y, fe.1] at hw; cases hw
    · have n := I.stkFree c (by rw [hst]; exact y)
      rw [hw] at n; cases n) (fun _ q => q) fun _ _ q => q
  have I4 : Inv X pins σ H { s with heap := h4 } := I.callN (g' := s.gens) (d' := s.drawn) (t' := s.toks) (ch := [e]) u hok I.bare fun b hb => by
    have z : b = e := by simpa using hb
    subst z
    exact ⟨fe.2.2.2.1, fe.2.1, fe.2.2.2.2.1, fe.2.2.2.2.2⟩
  have gT : s.heap.get? h1.objs.size = none := Heap.get?_none_of_le (by rw [s1.1]; exact Nat.le_refl _)
  have nT : H h1.objs.size = none := I.hok.fresh (by rw [s1.1]; exact Nat.le_refl _)
  refine h h4 I4 ⟨_, _, he4, Obj.cls_mapFields _ _, ?_, hd3, by simpa using hz, ?_, fe, .inr ⟨h1.objs.size, _, _, by simp [hz], hTe, hT4, hd5, ?_, I.fxOk gT nT⟩⟩
  · obtain ⟨c0, d0, dt, sl⟩ := oe
    cases dt <;> rfl
  · rw [Array.getElem?_setIfInBounds_ne (by decide)]
    exact h2
  · rw [Array.getElem?_setIfInBounds_self_of_lt hts3]
    rfl

/-- an exception is noted in this frame and let go: at a def's end, at an except clause -/
theorem note_land {M : Model} {A' : Around} {e : Addr} {c ctx : Value} {d : Option Addr} {E E' : Value → Shared → Prop} {K : Unit → Shared → Prop} (I : Inv X pins σ H s) (hst : X.stack = X.env :: X.outer) (hfr : X.env.frame = some X.env.locals)
    (x : XOb s.heap e c d ctx (FxOk X pins H)) (h : ∀ h', Inv X pins σ H { s with heap := h' } → XOb h' e c d ctx (FxOk X pins H) → K () { s with heap := h' }) :
    wpAny M X.A (noteFrame (.ref e) X.env) (fun _ s2 => wpAny M A' (setFlight (.ref e) none) K E' s2) E s := by
  obtain ⟨oe, vs, he, hc, hdd, hd, hz, h2, fe, ht⟩ := x
  subst hc hdd
  unfold noteFrame
  simp only [hfr]
  rcases ht with h1 | ⟨T, oT, ts, h1, hTe, hT, hdT, h3, fT⟩
  · refine wpAny_bind (wpAny_field he hd h1 ?_)
    rw [if_neg (show ¬ (Value.none != .none) = true by decide)]
    exact note_tail I hst hfr he hd hz h2 fe h
  · refine wpAny_bind (wpAny_field he hd h1 ?_)
    rw [if_pos (show (Value.ref T != .none) = true by simp)]
    refine wpAny_bind (wpAny_field hT hdT h3 ?_)
    rw [if_neg (show ¬ (Value.none == rawInt X.env.locals) = true by simp [rawInt])]
    refine wpAny_bind (wpAny_setField hT hdT (Array.getElem?_eq_some_iff.mp h3).1 ?_)
    rw [Heap.update_setField_same s.heap T oT ts 3 .none hT hdT h3]
    exact note_tail I hst hfr he hd hz h2 fe h
/-- let go once more: nothing changes -/
theorem land_again {M : Model} {A' : Around} {e : Addr} {c ctx : Value} {d : Option Addr} {E' : Value → Shared → Prop} {K : Unit → Shared → Prop} {fx : Addr → Prop} (x : XOb s.heap e c d ctx fx) (h : K () s) : wpAny M A' (setFlight (.ref e) none) K E' s := by
  obtain ⟨oe, vs, he, hc, hdd, hd, hz, h2, fe, ht⟩ := x
  unfold setFlight
  rcases ht with h1 | ⟨T, oT, ts, h1, hTe, hT, hdT, h3, fT⟩
  · refine wpAny_bind (wpAny_field he hd h1 ?_)
    rw [if_neg (show ¬ (Value.none != .none) = true by decide)]
    exact wpAny_pure h
  · refine wpAny_bind (wpAny_field he hd h1 ?_)
    rw [if_pos (show (Value.ref T != .none) = true by simp)]
    refine wpAny_setField hT hdT (Array.getElem?_eq_some_iff.mp h3).1 ?_
    show K () { s with heap := s.heap.update T (Obj.mapFields fun z => z.setIfInBounds 3 .none) }
    rw [Heap.update_setField_same s.heap T oT ts 3 .none hT hdT h3]
    exact h
end

/-! ### behind a call that raised -/
def CX1 (P : Program) (w : World) : CXT := fun outer H s E v s' => ∃ e c d ctx H', v = .ref e ∧ s'.os = s.os ∧ AllBare s'.gens ∧ Un (frs outer) [] H H' s.heap s'.heap ∧ HOk P w H' s'.heap ∧
  XOb s'.heap e c d ctx (fun b => s.heap.get? b = none ∧ H' b = none) ∧ E c d H'
/-- what a body wants of an exception that leaves it, by the names' values -/
def Wish (X : Cx) (W : St → XK) : Prop := ∀ (pins : List (Addr × Obj)) (σ : St) (H : Hp) (s : Shared) (e : Addr) (c : Value) (d : Option Addr) (ctx : Value), Inv X pins σ H s → XOb s.heap e c d ctx (FxOk X pins H) → W σ c d H → X.xe (.ref e) s
theorem Wish.pass {X : Cx} {W : St → XK} {pins : List (Addr × Obj)} {σ : St} {H : Hp} {s s' : Shared} {v : Value} (hW : Wish X W) (I : Inv X pins σ H s) (h : CX1 X.prog X.w X.stack H s (W σ) v s') : X.xe v s' := by
  obtain ⟨e, c, d, ctx, H', rfl, os, bare, un, hok, x, hw⟩ := h
  exact hW pins σ H' s' e c d ctx (I.call' os un hok bare fun b z => absurd z (by simp)) (x.imp fun b q => I.fxOk q.1 q.2) hw
theorem wish_fn {P : Program} {w : World} {K : PySem.W.Frag} {mg : Str → Option Value} {base : Heap} {N : List Str} {qual : Str} {scope : Scope} {f : Addr} {cd : Value} {A : Around} {outer : List Env} {s0 : Shared} {H0 : Hp} {E : XK} :
    Wish (cxOf (CX1 P w) P w K mg base N qual scope f cd A outer s0 H0 E) (fun _ => E) := by
  intro pins σ H s e c d ctx I x hw
  show wpAny _ _ (leaving _ (.ref e)) _ _ s
  unfold leaving
  refine wpAny_bind (note_land I rfl rfl x fun h' I' x' => ?_)
  refine ⟨e, c, d, ctx, H, rfl, I'.os, I'.bare, I'.base, I'.hok, x'.imp fun b fb => ⟨?_, fb.1⟩, hw⟩
  rcases fb.2.2.2.1 with z | z
  · exact nomatch (show b ∈ ([] : List Addr) from z)
  · exact z
/-- a def that may raise, called -/
def tCallX (sp : Sp) (W : St → XK) (t : TA) : TE := fun σ H Q => t σ H fun vs H1 => sp vs H1 Q (W σ)
structure CalX (P : Program) (w : World) (K : PySem.W.Frag) (mg : Str → Option Value) (base : Heap) (k : Nat) (x : Str) (ps : List Str) (sp : Sp) : Prop where
  ex : ∃ f fd, FnOk P w K mg base (CX1 P w) k f fd ps sp ∧ Binds K fd ps [] ∧ PySem.W.keepIn K (.ref f) = true ∧ mg x = some (.ref f)
theorem Def.calX {P : Program} {w : World} {K : PySem.W.Frag} {mg : Str → Option Value} {base : Heap} {k : Nat} {x : Str} {st : Stmt} {ps : List Str} {sp : Sp} (D : Def K mg x st ps) (h : ∀ f fd, Fun K x x st f fd → FnOk P w K mg base (CX1 P w) k f fd ps sp) : CalX P w K mg base k x ps sp := by
  obtain ⟨f, fd, F, b, m⟩ := D.ex
  exact ⟨f, fd, h f fd F, b, F.kp, m⟩
section
variable {X : Cx} {k : Nat} {f : Addr} {fd : FuncData} {ps : List Str} {sp : Sp} {x : Str} {p pos : Pos} {e : Expr} {es : List Expr} {t : TA} {W : St → XK}
theorem run_fnX {pins : List (Addr × Obj)} {σ : St} {H : Hp} {s : Shared} {Q : VK} {us : List Value} {vs : List V} (F : FnOk X.prog X.w X.K X.mg X.base (CX1 X.prog X.w) k f fd ps sp) (hr : Room k X.A) (hb : Binds X.K fd ps []) (hW : Wish X W)
    (I : Inv X pins σ H s) (r : Vals vs us) (h : sp vs H Q (W σ)) : wpAny (model X.prog X.w) X.A (call (.ref f) us) (EP X pins σ Q) X.xe s := by
  have hl : (us ++ []).length = ps.length := by rw [List.append_nil, ← r.length]; exact F.len _ _ _ _ h
  have b := hb s us I.kIn hl
  rw [List.append_nil] at b
  refine wpAny_call (codeAny_mono (F.run X.A X.stack s H ⟨us, []⟩ us vs Q (W σ) hr I.env0 b r h) fun q s' hq => ?_)
  cases q with
  | error v => exact hW.pass I hq
  | ok fl =>
    cases fl with
    | ret u => exact I.after hq
    | next => exact False.elim hq
    | brk => exact False.elim hq
    | cont => exact False.elim hq
theorem pe_callX (C : CalX X.prog X.w X.K X.mg X.base k x ps sp) (hr : Room k X.A) (hW : Wish X W) (hg : Gl X x) (ha : PA X (e :: es) t)
    (hdb : (x == ("__debug__" : Str)) = false := by decide) (he : starEach (e :: es) X.env = (false, eval e X.env) :: starEach es X.env := by rfl) (hpl : (backTo pos (starEach es X.env)).any (·.1) = false := by rfl) :
    PE X (.Call (.Name x p) (e :: es) [] pos) (tCallX sp W t) := by
  intro pins s σ H Q I h
  obtain ⟨f, fd, F, b, kp, hm⟩ := C.ex
  refine wpAny_Call_Name_kw (ld_glob I hg hm ?_ hdb)
  refine PySem.W.callWith_K (h₀ := X.base) I.ok.mod.kin kp (thn (ha pos pins s σ H _ I h) fun us s1 ⟨vs, H1, I1, r, q⟩ => ⟨I1.kIn, ?_⟩) he hpl
  exact run_fnX F hr b hW I1 r q
end
/-- a def's body that may raise -/
theorem Fun.okX {P : Program} {w : World} {K : PySem.W.Frag} {mg : Str → Option Value} {base : Heap} {x qual : Str} {st : Stmt} {f : Addr} {fd : FuncData} {N ps : List Str} {k : Nat} {sp : Sp} (F : Fun K x qual st f fd) (S : FnScope N ps (defScope st)) (len : ∀ vs H Q E, sp vs H Q E → vs.length = ps.length)
    (hbody : ∀ (cdv : Value) (A : Around) (outer : List Env) (s : Shared) (H : Hp) (vs : List V) (Q : VK) (E : XK), Room k (A.deeper (envOfC qual (defScope st) s.heap.objs.size f cdv)) → sp vs H Q E →
      ∃ t, PSs (cxOf (CX1 P w) P w K mg base N qual (defScope st) f cdv A outer s H E) (defBody st) t ∧ t { nx := fun _ H' => Q .non H', rt := Q } (start N vs) H) : FnOk P w K mg base (CX1 P w) (k + 1) f fd ps sp := by
  obtain ⟨oc, od, kV, doc, pm, an, cdv, ct, osl, rfl, lk, hcd⟩ := F.ex
  exact fn_of lk hcd S len fun A outer s H vs Q E hr hsp => hbody cdv A outer s H vs Q E hr hsp

/-! ### raise C(..) -/
/-- an own exception class without an __init__ of its own, as the fragment has it -/
structure XCls (K : PySem.W.Frag) (x : Str) (mg : Str → Option Value) (C : Addr) : Prop where
  at_ : mg x = some (.ref C)
  ex : ∃ bm newId initId B, PySem.W.excIn K C bm newId = true ∧ ExcBaseFacts B newId initId bm
theorem exc_obj {K : PySem.W.Frag} {h : Heap} {C : Addr} {bmB : List Value} {newId : String} (X : K.In h) (q : PySem.W.excIn K C bmB newId = true) :
    ∃ bm N nm qn bs hdct sn sub ab col dd k0 k1 k2 k3 k5 mN, h.get? C = some (excClassObj nm qn C N bs bm hdct sn sub ab col dd k0 k1 k2 k3 k5 newId) ∧ h.Ns N mN ∧ mN "__init__" = none ∧ OwnTail h bmB bm := by
  unfold PySem.W.excIn at q
  split at q
  · rename_i dd cd sl lk
    split at q
    · rename_i C1 bm k0 k1 k2 k3 n k5 hm hsl
      simp only [Bool.and_eq_true, beq_iff_eq, Bool.not_eq_true'] at q
      obtain ⟨⟨⟨⟨⟨e1, e2⟩, hdel⟩, ht⟩, hns⟩, hni⟩ := q
      subst e1 e2
      obtain ⟨nm, bs, mro, ns, qn, hd, sn, sub, ab, col, del⟩ := cd
      simp only at hm hdel hns hni
      subst hm hdel
      obtain ⟨l⟩ := sl
      simp only at hsl
      subst hsl
      exact ⟨bm, ns, nm, qn, bs, hd, sn, sub, ab, col, dd, k0, k1, k2, k3, k5, _, X _ _ lk, .of_isNs (PySem.W.isNs_of_in X hns), PySem.W.nsMap_none_of_in X hns hni, PySem.W.tail_of_in X ht⟩
    · cases q
  · cases q
def tRaise (C : Addr) (W : St → XK) (t : TA) : TS := fun _ σ H => t σ H fun vs H1 => vs.length ≤ sizeLine ∧ W σ (.ref C) none H1
theorem ps_raise {X : Cx} {x : Str} {C : Addr} {W : St → XK} {t : TA} {e : Expr} {es : List Expr} {np cpos pos : Pos} (hW : Wish X W) (hc : X.calm = true) (XC : XCls X.K x X.mg C) (hg : Gl X x) (ha : PA X (e :: es) t)
    (hdb : (x == ("__debug__" : Str)) = false := by decide) (he : starEach (e :: es) X.env = (false, eval e X.env) :: starEach es X.env := by rfl) (hpl : (backTo cpos (starEach es X.env)).any (·.1) = false := by rfl) :
    PS X (.Raise (some (.Call (.Name x np) (e :: es) [] cpos)) none pos) (tRaise C W t) := by
  intro pins s σ H D I h
  obtain ⟨bmB, newId, initId, B, q, FB⟩ := XC.ex
  obtain ⟨bm, N, nm, qn, bs, hdct, sn, sub, ab, col, dd, k0, k1, k2, k3, k5, mN, hC, hN, hni, T⟩ := exc_obj I.mod.kin q
  refine wpAny_Raise_call_subT (C := C) (nm := nm) (q := qn) (N := N) (bs := bs) (bm := bm) (hdct := hdct) (sn := sn) (sub := sub) (ab := ab) (col := col) (dd := dd) (k0 := k0) (k1 := k1) (k2 := k2) (k3 := k3) (k5 := k5) FB (mN := mN)
    (T.hasType FB.hasBase) (I.ok.hd hc) ?_ hni (ld_glob I hg XC.at_ ⟨rfl, ?_⟩ hdb)
  · rw [he]
    show (false || (backTo cpos (starEach es X.env)).any (·.1)) = false
    rw [hpl]
    rfl
  have ha' := ha cpos pins s σ H _ I h
  rw [he] at ha' ⊢
  refine Calls.evalArgs_plain (thn ha' fun us s1 ⟨vs, H1, I1, r, hl, hw⟩ => ⟨rfl, by rw [← r.length]; exact hl, I1.bk _ _ hC, hN.keeps I1.bk, T.keeps I1.bk, fun h' ex hm => ?_⟩)
  obtain ⟨t0, ht, htn, _⟩ := hm.there
  have nH : H1 ex = none := by
    cases z : H1 ex with
    | none => rfl
    | some o =>
      obtain ⟨ob, eo⟩ := (I1.hok ex o z).is
      rw [hm.new] at eo
      cases eo
  exact hW pins σ H1 { s1 with heap := h' } ex (.ref C) none .none (I1.kept (t' := s1.toks) hm.keeps) ⟨_, _, ht, rfl, rfl, rfl, (show (1 : Nat) < 6 from by decide), rfl, I1.fxOk hm.new nH, .inl rfl⟩ hw

/-! ### try: one clause, an own class -/
abbrev Cx.tr (X : Cx) (pn : List (Addr × Obj)) (E : Value → Shared → Prop) : Cx := { X with pn := pn, xe := E }
/-- an except suite (nothing leaves it) -/
abbrev Cx.sup (X : Cx) (e : Addr) : Cx := { X with A := X.A.mark (some (.ref e)), calm := false, xe := fun _ _ => False }
section
variable {X : Cx} {pins pins' pn : List (Addr × Obj)} {σ : St} {H : Hp} {s : Shared} {E : Value → Shared → Prop} {e : Addr}
theorem Cx.Ok.tr (ok : X.Ok) : (X.tr pn E).Ok := ⟨ok.mod, ok.kind, ok.glob, ok.blt, ok.above, ok.inj, ok.has, ok.cab, ok.hd, ok.frames, ok.stk, ok.exf, ok.bs, ok.bsz, ok.noex, ok.exfs, ok.funs, ok.frf⟩
theorem Cx.Ok.untr (ok : (X.tr pn E).Ok) : X.Ok := ⟨ok.mod, ok.kind, ok.glob, ok.blt, ok.above, ok.inj, ok.has, ok.cab, ok.hd, ok.frames, ok.stk, ok.exf, ok.bs, ok.bsz, ok.noex, ok.exfs, ok.funs, ok.frf⟩
theorem Inv.tr (I : Inv X pins σ H s) : Inv (X.tr (X.pn ++ pins) E) [] σ H s := ⟨I.ok.tr, I.os, I.bare, I.base, I.loc, I.cell, I.free, I.freeC, fun p hp => I.pin p (by simpa using hp), I.hok, I.len⟩
theorem Inv.untr (I : Inv (X.tr (X.pn ++ pins) E) pins' σ H s) : Inv X pins σ H s := ⟨I.ok.untr, I.os, I.bare, I.base, I.loc, I.cell, I.free, I.freeC, fun p hp => I.pin p (List.mem_append_left _ hp), I.hok, I.len⟩
theorem FxOk.untr {b : Addr} (f : FxOk (X.tr (X.pn ++ pins) E) pins' H b) : FxOk X pins H b := ⟨f.1, f.2.1, f.2.2.1, f.2.2.2.1, f.2.2.2.2.1, fun p hp => f.2.2.2.2.2 p (List.mem_append_left _ hp)⟩
theorem SP.untr {D : Ends} {f : Flow} (h : SP (X.tr (X.pn ++ pins) E) pins' D f s) : SP X pins D f s := by
  cases f with
  | next => obtain ⟨σ', H', I, q⟩ := h; exact ⟨σ', H', I.untr, q⟩
  | brk => obtain ⟨σ', H', I, q⟩ := h; exact ⟨σ', H', I.untr, q⟩
  | cont => obtain ⟨σ', H', I, q⟩ := h; exact ⟨σ', H', I.untr, q⟩
  | ret u => obtain ⟨v, σ', H', I, r, q⟩ := h; exact ⟨v, σ', H', I.untr, r, q⟩
theorem Cx.Ok.sup (ok : X.Ok) : (X.sup e).Ok := ⟨ok.mod, ok.kind, ok.glob, ok.blt, ok.above, ok.inj, ok.has, ok.cab, (fun z => nomatch z), ok.frames, ok.stk, ok.exf, ok.bs, ok.bsz, ok.noex, ok.exfs, ok.funs, ok.frf⟩
theorem Inv.sup (I : Inv X pins σ H s) : Inv (X.sup e) pins σ H s := ⟨I.ok.sup, I.os, I.bare, I.base, I.loc, I.cell, I.free, I.freeC, I.pin, I.hok, I.len⟩
/-- (X.Ok: the calm of X itself is not to be had from the suite's) -/
theorem Inv.unsup (I : Inv (X.sup e) pins σ H s) (ok : X.Ok) : Inv X pins σ H s := ⟨ok, I.os, I.bare, I.base, I.loc, I.cell, I.free, I.freeC, I.pin, I.hok, I.len⟩
theorem SP.unsup {D : Ends} {f : Flow} (h : SP (X.sup e) pins D f s) (ok : X.Ok) : SP X pins D f s := by
  cases f with
  | next => obtain ⟨σ', H', I, q⟩ := h; exact ⟨σ', H', I.unsup ok, q⟩
  | brk => obtain ⟨σ', H', I, q⟩ := h; exact ⟨σ', H', I.unsup ok, q⟩
  | cont => obtain ⟨σ', H', I, q⟩ := h; exact ⟨σ', H', I.unsup ok, q⟩
  | ret u => obtain ⟨v, σ', H', I, r, q⟩ := h; exact ⟨v, σ', H', I.unsup ok, r, q⟩

/-- an exception that was caught, tracked: its class, its dict -/
def exO (e : Addr) (c : Value) (d : Option Addr) : HO := .ext fun h => ∃ oe vs, h.get? e = some oe ∧ oe.cls = c ∧ oe.dict = d ∧ oe.data = .fields vs
theorem Inv.track {c : Value} {d : Option Addr} {oe : Obj} {vs : Array Value} (I : Inv X pins σ H s) (fe : FxOk X pins H e) (he : s.heap.get? e = some oe) (hc : oe.cls = c) (hdd : oe.dict = d) (hd : oe.data = .fields vs) :
    Inv X pins σ (upd H e (exO e c d)) s := by
  have ne : ∀ b u, H b = some u → b ≠ e := fun b u q => ne_of_none q fe.1
  refine ⟨I.ok, I.os, I.bare, ⟨I.base.keep, I.base.slot, fun b o q n hx => ?_, I.base.there, fun b xs q => ?_, fun b o u q => ?_, fun b ps q => ?_⟩, I.loc, I.cell, ?_, fun x c q => ?_, fun p hp => ?_, fun b u q => ?_, I.len⟩
  · rw [upd_ne]
    · exact I.base.free b o q n hx
    · rintro rfl
      rcases fe.2.2.2.1 with z | z
      · exact hx z
      · rw [q] at z; cases z
  · have z := I.base.tups b xs q
    rw [upd_ne (ne _ _ z)]; exact z
  · have z := I.base.frzs b o u q
    rw [upd_ne (ne _ _ z)]; exact z
  · obtain ⟨m, z⟩ := I.base.tbls b ps q
    exact ⟨m, by rw [upd_ne (ne _ _ z)]; exact z⟩
  · rw [upd_ne (Ne.symm fe.2.1)]; exact I.free
  · rw [upd_ne (fe.2.2.2.2.1 x c q)]; exact I.freeC x c q
  · obtain ⟨a1, a2, a3, a4, a5⟩ := I.pin p hp
    exact ⟨a1, by rw [upd_ne (fe.2.2.2.2.2 p hp)]; exact a2, a3, a4, a5⟩
  · by_cases z : b = e
    · subst z
      rw [upd_same] at q
      cases q
      refine ⟨⟨oe, vs, he, hc, hdd, hd⟩, ⟨oe, he⟩, fun h1 h2 p k => ?_⟩
      obtain ⟨o1, v1, p1, p2⟩ := p
      exact ⟨o1, v1, k _ p1, p2⟩
    · rw [upd_ne z] at q
      exact (I.hok b u q).stay (fun _ _ _ y => y) (fun c y => by rw [upd_ne (ne _ _ y)]; exact y) fun c xs y => by rw [upd_ne (ne _ _ y)]; exact y
/-- the names are forgotten (one of them has gone) -/
theorem Inv.forget {h' : Heap} {m' : Str → Option Value} {t' : Nat} (I : Inv X pins σ H s) (hn : h'.Ns X.env.locals m') (hs : Heap.SameBut X.env.locals s.heap h') : Inv X pins (σ.map fun _ => none) H { s with heap := h', toks := t' } := by
  have ne0 : ∀ b o, X.s₀.heap.get? b = some o → b ≠ X.env.locals := fun b o q => Nat.ne_of_lt (Nat.lt_of_lt_of_le (Heap.lt_size q) I.ok.above)
  refine ⟨I.ok, I.os, I.bare, ⟨fun b o q n hb hx => ?_, fun b o q n hb hx => ?_, I.base.free, fun b o q hx => ?_, I.base.tups, I.base.frzs, I.base.tbls⟩, ⟨m', hn, fun i x v _ e2 _ => ?_⟩, fun x c q => ?_, I.free, I.freeC, fun p hp => ?_, fun b u q => ?_, by simpa using I.len⟩
  · exact (hs.2 b (ne0 b o q)).trans (I.base.keep b o q n hb hx)
  · obtain ⟨sl, z⟩ := I.base.slot b o q n hb hx
    exact ⟨sl, (hs.2 b (ne0 b o q)).trans z⟩
  · obtain ⟨o', z⟩ := I.base.there b o q hx
    exact ⟨o', (hs.2 b (ne0 b o q)).trans z⟩
  · rw [List.getElem?_map] at e2
    cases z : σ[i]? with
    | none => rw [z] at e2; cases e2
    | some y => rw [z] at e2; cases e2
  · obtain ⟨v, z⟩ := I.cell x c q
    exact ⟨v, z.sameBut hs (I.cne x c q)⟩
  · obtain ⟨a1, a2, a3, a4, a5⟩ := I.pin p hp
    exact ⟨(hs.2 p.1 a3).trans a1, a2, a3, a4, a5⟩
  · refine (I.hok b u q).stay (fun c v hc y => (hs.2 c fun z => ?_).trans y) (fun _ y => y) fun _ _ y => y
    rcases hc with r | r
    · rw [← r, z, I.free] at q; cases q
    · rw [z, I.free] at r; cases r
end

/-- try .. except C: the suite does not name the exception -/
def tTry (K : PySem.W.Frag) (Ch : Addr) (tb : (St → XK) → TS) (ts : TS) : TS := fun D σ H => tb (fun σ' c _ H' => ∃ C, c = .ref C ∧ PySem.W.exmOne K (.ref C) (.ref Ch) = some true ∧ ts D σ' H') D σ H
/-- try .. except C as n (its place i); behind the suite the names are forgotten -/
def tTryA (K : PySem.W.Frag) (Ch : Addr) (i : Nat) (tb : (St → XK) → TS) (ts : TS) : TS := fun D σ H => tb (fun σ' c d H' => ∃ C, c = .ref C ∧ PySem.W.exmOne K (.ref C) (.ref Ch) = some true ∧
  ∀ e, H' e = none → ts { nx := fun σ H => D.nx (σ.map fun _ => none) H, rt := D.rt, bk := fun σ H => D.bk (σ.map fun _ => none) H, ct := fun σ H => D.ct (σ.map fun _ => none) H } (σ'.set i (some (.ref e))) (upd H' e (exO e c d))) D σ H
section
variable {X : Cx} {x n : Str} {Ch : Addr} {i : Nat} {body suite : List Stmt} {b₀ : Stmt} {tb : (St → XK) → TS} {ts : TS} {np hpos pos : Pos}
theorem looks_ty {M : Model} {h : Heap} {e : Addr} {c : Value} {oe : Obj} (he : h.get? e = some oe) (hc : oe.cls = c) : PySem.W.Looks M h (typeOf (.ref e)) c := hc ▸ (PySem.W.Looks.ld he).andThen .now
theorem ps_try (hst : X.stack = X.env :: X.outer) (hfr : X.env.frame = some X.env.locals) (hg : Gl X x) (hm : X.mg x = some (.ref Ch))
    (hb : ∀ pn E W, Wish (X.tr pn E) W → PassesOwn (model X.prog X.w) X.A X.env E → PSs (X.tr pn E) body (tb W)) (hs : ∀ e, PSs (X.sup e) (b₀ :: suite) ts) (hdb : (x == ("__debug__" : Str)) = false := by decide) :
    PS X (.Try body [.ExceptHandler (some (.Name x np)) none (b₀ :: suite) hpos] [] [] pos) (tTry X.K Ch tb ts) := by
  intro pins s σ H D I h
  refine wpAny_Try_except ?_
  refine wpAny_mono (hb (X.pn ++ pins) _ _ ?_ ?_ [] s σ H D I.tr h) (fun f s1 q => ?_) fun e s1 q => q
  · intro pins' σ' H' s' e c d ctx I' x' hw
    obtain ⟨C, rfl, hx, hq⟩ := hw
    have I1 : Inv X pins σ' H' s' := I'.untr
    refine note_land I1 hst hfr (x'.imp fun b fb => fb.untr) fun h2 I2 x2 => ?_
    obtain ⟨oe, vs, he, hc, _, _⟩ := x2.there
    refine wpAny_handleBy_cons (codeAny_handlers_test (ld_glob (I2.sup (e := e)) hg hm ?_ hdb)) (by intro q; cases q)
    refine (PySem.W.exm_one I2.kIn (looks_ty he hc) hx).here ?_
    refine codeAny_handlers_suite (land_again x2 ?_)
    exact wpAny_mono (hs e pins _ σ' H' D (I2.sup (e := e)) hq) (fun f s3 q => q.unsup I2.ok) fun _ _ z => False.elim z
  · exact PassesOwn.looking
  · have q' := q.untr
    cases f with
    | next => exact wpAny_execs_nil q'
    | brk => exact q'
    | cont => exact q'
    | ret u => exact q'
theorem ps_tryA (hst : X.stack = X.env :: X.outer) (hfr : X.env.frame = some X.env.locals) (hg : Gl X x) (hm : X.mg x = some (.ref Ch)) (hN : X.N.Nodup) (hi : X.N[i]? = some n) (hl : X.env.kindOf n = some .local)
    (hb : ∀ pn E W, Wish (X.tr pn E) W → PassesOwn (model X.prog X.w) X.A X.env E → PSs (X.tr pn E) body (tb W)) (hs : ∀ e, PSs (X.sup e) (b₀ :: suite) ts) (hdb : (x == ("__debug__" : Str)) = false := by decide) :
    PS X (.Try body [.ExceptHandler (some (.Name x np)) (some n) (b₀ :: suite) hpos] [] [] pos) (tTryA X.K Ch i tb ts) := by
  intro pins s σ H D I h
  refine wpAny_Try_except ?_
  refine wpAny_mono (hb (X.pn ++ pins) _ _ ?_ ?_ [] s σ H D I.tr h) (fun f s1 q => ?_) fun e s1 q => q
  · intro pins' σ' H' s' e c d ctx I' x' hw
    obtain ⟨C, rfl, hx, hq⟩ := hw
    have I1 : Inv X pins σ' H' s' := I'.untr
    refine note_land I1 hst hfr (x'.imp fun b fb => fb.untr) fun h2 I2 x2 => ?_
    obtain ⟨oe, vs, he, hc, hdd, hd, _, _, fe, _⟩ := id x2
    refine wpAny_handleBy_cons (codeAny_handlers_test (ld_glob (I2.sup (e := e)) hg hm ?_ hdb)) (by intro q; cases q)
    refine (PySem.W.exm_one I2.kIn (looks_ty he hc) hx).here ?_
    refine codeAny_handlers_suite_as (land_again x2 ?_)
    have I3 := (I2.track fe he hc hdd hd).sup (e := e)
    refine store_ok (X := X.sup e) I3 hN hi (.inl hl) (v := .ref e) rfl (fun s4 I4 => ?_) (.inr hl)
    refine wpAny_mono (hs e pins s4 _ _ _ I4 (hq e fe.1)) (fun f s5 q5 => ?_) fun _ _ z => False.elim z
    have go : ∀ {σ5 : St} {H5 : Hp} {R : Unit → Shared → Prop} {E5 : Value → Shared → Prop}, Inv (X.sup e) pins σ5 H5 s5 → (∀ s6, Inv X pins (σ5.map fun _ => none) H5 s6 → R () s6) →
        wpAny (model X.prog X.w) X.A (do bindName X.env n .none; unbindBehindTheSuite X.env n hpos) R E5 s5 := fun {σ5 H5 R E5} I5 hR => by
      obtain ⟨m5, hn5, _⟩ := I5.loc
      refine wpAny_nameGoes hl hn5 ?_ fun h6 m6 hn6 hs6 => hR _ ((I5.unsup I2.ok).forget hn6 hs6)
      rw [I2.ok.kind]
      rfl
    cases f with
    | next => obtain ⟨σ5, H5, I5, q⟩ := q5; exact go I5 fun s6 I6 => ⟨_, _, I6, q⟩
    | brk => obtain ⟨σ5, H5, I5, q⟩ := q5; exact go I5 fun s6 I6 => ⟨_, _, I6, q⟩
    | cont => obtain ⟨σ5, H5, I5, q⟩ := q5; exact go I5 fun s6 I6 => ⟨_, _, I6, q⟩
    | ret u => obtain ⟨v5, σ5, H5, I5, r5, q⟩ := q5; exact go I5 fun s6 I6 => ⟨v5, _, _, I6, r5, q⟩
  · exact PassesOwn.looking
  · have q' := q.untr
    cases f with
    | next => exact wpAny_execs_nil q'
    | brk => exact q'
    | cont => exact q'
    | ret u => exact q'
end
end L2

namespace L2
open PySem PySem.Spec PyProof.Rows
/-! ### defs that may be called while an exception is handled (nothing in them walks or raises) -/
section
variable {X : Cx} {k : Nat} {f : Addr} {fd : FuncData} {ps : List Str} {sp : Sp} {x : Str} {p pos : Pos} {e : Expr} {es : List Expr} {t : TA}
end
end L2

namespace L2
open PySem PySem.Spec PyProof.Rows

/-! ### texts by their codes -/
def tx (l : List Nat) : Str := ⟨l.toArray⟩
theorem tx_codes (l : List Nat) : (tx l).cps.toList = l := rfl
theorem tx_len (l : List Nat) : (tx l).length = l.length := by simp [tx, Str.length]
theorem tx_of (x : Str) : tx x.cps.toList = x := by cases x; rfl
theorem tx_inj {l m : List Nat} (h : tx l = tx m) : l = m := by
  have e := congrArg (fun z : Str => z.cps.toList) h
  exact e
theorem tx_app (l m : List Nat) : tx l ++ tx m = tx (l ++ m) := by
  show (⟨l.toArray ++ m.toArray⟩ : Str) = ⟨(l ++ m).toArray⟩
  rw [List.append_toArray]
/-- the figures of a number -/
def figs (n : Nat) : List Nat := (Nat.toDigits 10 n).map Char.toNat
theorem str_nat (n : Nat) : ((toString (n : Int) : String) : Str) = tx (figs n) := by
  have e := PySem.W.KIN.signs_num n
  rw [← tx_of (Str.ofString (toString ((n : Nat) : Int))), e]
  rfl
theorem figs_val (n : Nat) : NumText.digitsVal (figs n) = n := PySem.W.KIN.val_back n
theorem figs_dig (n : Nat) : NumText.AllDigits (figs n) := fun c hc => by
  obtain ⟨ch, hch, e⟩ := List.mem_map.mp hc
  rw [← e]
  exact PyProof.Rows.digit_range (Nat.isDigit_of_mem_toDigits (by decide) (by decide) hch)
theorem figs_small {n : Nat} (h : n < 10) : figs n = [48 + n] := by
  unfold figs
  rw [Nat.toDigits_of_lt_base h]
  have : n = 0 ∨ n = 1 ∨ n = 2 ∨ n = 3 ∨ n = 4 ∨ n = 5 ∨ n = 6 ∨ n = 7 ∨ n = 8 ∨ n = 9 := by omega
  rcases this with rfl | rfl | rfl | rfl | rfl | rfl | rfl | rfl | rfl | rfl <;> rfl
theorem figs_more {n : Nat} (h : 10 ≤ n) : figs n = figs (n / 10) ++ figs (n % 10) := by
  have hm : n % 10 < 10 := Nat.mod_lt n (by decide)
  have t : Nat.toDigits 10 (n / 10) ++ Nat.toDigits 10 (n % 10) = Nat.toDigits 10 (10 * (n / 10) + n % 10) := Nat.toDigits_append_toDigits (by decide) (by omega) hm
  rw [Nat.div_add_mod] at t
  unfold figs
  rw [← t, List.map_append]
theorem figs_ne (n : Nat) : figs n ≠ [] := by
  by_cases h : n < 10
  · rw [figs_small h]; simp
  · rw [figs_more (by omega), figs_small (Nat.mod_lt n (by decide))]; simp
theorem figs_len {n k : Nat} (hk : 1 ≤ k) (h : n < 10 ^ k) : (figs n).length ≤ k := by
  induction k generalizing n with
  | zero => omega
  | succ k ih =>
    by_cases hn : n < 10
    · rw [figs_small hn]; simp
    · have h1 : n / 10 < 10 ^ k := by rw [Nat.pow_succ] at h; omega
      have hk1 : 1 ≤ k := by
        rcases Nat.eq_zero_or_pos k with z | z
        · rw [z] at h1; simp at h1; omega
        · exact z
      have := ih hk1 h1
      rw [figs_more (by omega), List.length_append, figs_small (Nat.mod_lt n (by decide))]
      simp
      omega
/-- no nought ahead but the only figure -/
theorem figs_head (n : Nat) : (figs n).head? = some 48 → figs n = [48] := by
  induction n using Nat.strongRecOn with
  | _ n ih =>
    intro h
    by_cases hn : n < 10
    · rw [figs_small hn] at h ⊢
      simpa using h
    · exfalso
      have e := figs_more (n := n) (by omega)
      have h1 : (figs (n / 10)).head? = some 48 := by
        rw [e] at h
        cases z : figs (n / 10) with
        | nil => exact absurd z (figs_ne _)
        | cons a r => rw [z] at h; simpa using h
      have h2 := ih (n / 10) (by omega) h1
      have h3 := figs_val (n / 10)
      rw [h2] at h3
      have h4 : n / 10 = 0 := h3.symm
      omega

/-! ### pieces at a sign -/
def cutAt (c : Nat) : List Nat → List (List Nat)
  | [] => [[]]
  | x :: l => if x = c then [] :: cutAt c l else match cutAt c l with
    | [] => [[x]]
    | p :: r => (x :: p) :: r
theorem cutAt_free {c : Nat} : ∀ {l : List Nat}, c ∉ l → cutAt c l = [l]
  | [], _ => rfl
  | x :: l, h => by
    have h1 : x ≠ c := fun e => h (by rw [e]; exact List.mem_cons_self)
    unfold cutAt
    rw [if_neg h1, cutAt_free fun z => h (List.mem_cons_of_mem _ z)]
theorem cutAt_app {c : Nat} : ∀ {p : List Nat} (l : List Nat), c ∉ p → cutAt c (p ++ c :: l) = p :: cutAt c l
  | [], l, _ => by
    show cutAt c (c :: l) = _
    rw [cutAt, if_pos rfl]
  | x :: p, l, h => by
    have h1 : x ≠ c := fun e => h (by rw [e]; exact List.mem_cons_self)
    show cutAt c (x :: (p ++ c :: l)) = _
    rw [cutAt, if_neg h1, cutAt_app l fun z => h (List.mem_cons_of_mem _ z)]
theorem cut_join {c : Nat} : ∀ {ps : List Str}, ps ≠ [] → (∀ p ∈ ps, c ∉ p.cps.toList) → cutAt c (Str.join (tx [c]) ps).cps.toList = ps.map fun p => p.cps.toList
  | [], h, _ => absurd rfl h
  | [p], _, h => cutAt_free (h p List.mem_cons_self)
  | p :: q :: r, _, h => by
    have ih := cut_join (ps := q :: r) (by simp) fun z hz => h z (List.mem_cons_of_mem _ hz)
    have e : (Str.join (tx [c]) (p :: q :: r)).cps.toList = p.cps.toList ++ c :: (Str.join (tx [c]) (q :: r)).cps.toList := by
      show (p ++ tx [c] ++ Str.join (tx [c]) (q :: r)).cps.toList = _
      show (p.cps ++ (tx [c]).cps ++ (Str.join (tx [c]) (q :: r)).cps).toList = _
      simp [tx]
    rw [e, cutAt_app _ (h p List.mem_cons_self), ih]
    rfl
theorem split_cut (l : List Nat) (c : Nat) : Txt.split (tx l) (tx [c]) = (cutAt c l).map tx := by
  have h1 := StrLaws.join_split (tx l) (tx [c])
  have h2 := StrLaws.split_free (tx l) c
  have h3 : Txt.split (tx l) (tx [c]) ≠ [] := fun z => by
    have := split_pos (tx l) (tx [c])
    rw [z] at this
    simp at this
  have h4 := cut_join h3 h2
  rw [h1, tx_codes] at h4
  rw [h4, List.map_map]
  symm
  have : ∀ ps : List Str, ps.map (tx ∘ fun p => p.cps.toList) = ps := fun ps => by
    induction ps with
    | nil => rfl
    | cons p r ih => rw [List.map_cons, ih]; show tx p.cps.toList :: r = _; rw [tx_of]
  exact this _

/-! ### methods of texts -/
section
variable {X : Cx}
theorem vals_strs : ∀ (ps : List Str) (n : Nat), Vals (ps.map V.str) (strsFrom n ps)
  | [], _ => .nil
  | p :: r, n => .cons ⟨n, rfl⟩ (vals_strs r (n + 1))
/-- z.split(y), y not empty -/
theorem mt_split : MtM X "str.split" (fun x vs H Q => ∃ z y, x = .str z ∧ vs = [.str y] ∧ (y.length == 0) = false ∧ z.length + 2 ≤ sizeLine ∧ ∀ p, H p = none → Q (.ref p) (upd H p (.lst ((Txt.split z y).map V.str)))) := by
  intro pins s σ H x vs v us Q I rx rv h
  obtain ⟨z, y, rfl, rfl, hy, hz, q⟩ := h
  obtain ⟨t, rfl⟩ := rx
  obtain ⟨w, rfl, ru⟩ := rv.one
  obtain ⟨u, rfl⟩ := ru
  have hle := split_le z y
  have hq := q s.heap.objs.size I.fresh
  unfold Txt.split at hq hle
  cases h1 : (decide (z.length < y.length) || decide (Builtin.Str.strKind z < Builtin.Str.strKind y)) with
  | false =>
    rw [h1] at hq hle
    cases hf : (Builtin.Str.occurrences z y 0 z.length (z.length + 1)).isEmpty with
    | false =>
      rw [hf] at hq hle
      simp only [Bool.false_eq_true, if_false] at hq hle
      refine call_meets F.slot_str_split (typeIs_str _ _ _) F.entry_str_split (F.args_str_split_2 _ _) (meets_str_split_sep z y t u h1 hy hf (by omega) (by omega)) ?_
      exact ⟨.ref _, _, I.lnew (vals_strs _ _) (by rw [List.length_map]; omega), rfl, hq⟩
    | true =>
      rw [hf] at hq
      simp only [Bool.false_eq_true, if_false, if_true] at hq
      refine call_meets F.slot_str_split (typeIs_str _ _ _) F.entry_str_split (F.args_str_split_2 _ _) (meets_str_split_not_found z y t u h1 hy hf) ?_
      exact ⟨.ref _, _, I.lnew (t' := s.toks) (ys := [V.str z]) (.cons ⟨t, rfl⟩ .nil) (by show 1 ≤ sizeLine; exact le_line (by decide)), rfl, hq⟩
  | true =>
    rw [h1] at hq
    simp only [if_true] at hq
    refine call_meets F.slot_str_split (typeIs_str _ _ _) F.entry_str_split (F.args_str_split_2 _ _) (meets_str_split_cannot_occur z y t u h1) ?_
    exact ⟨.ref _, _, I.lnew (t' := s.toks) (ys := [V.str z]) (.cons ⟨t, rfl⟩ .nil) (by show 1 ≤ sizeLine; exact le_line (by decide)), rfl, hq⟩
/-- int(text) -/
theorem call_int_text : CallR X (.type "int") (fun xs H Q => ∃ z n, xs = [.str z] ∧ intText? z = some n ∧ z.length ≤ 640 ∧ Q (.int n) H) := by
  intro pins s σ H xs us Q I r h
  obtain ⟨z, n, rfl, hn, hl, q⟩ := h
  obtain ⟨u, rfl, ru⟩ := vals1 r
  obtain ⟨t, rfl⟩ := ru
  exact PySem.W.KIN.call_text hn hl ⟨.int n, H, I.tok _, ⟨_, rfl⟩, q⟩
/-- c in z, of one sign c -/
theorem op_notIn1 : OpR X (compareOp .NotIn) (fun x y H Q => ∃ c z, x = .str (tx [c]) ∧ y = .str z ∧ Q (.bl (!decide (c ∈ z.cps.toList))) H) := by
  intro pins s σ H x y v u Q I rx ry h
  obtain ⟨c, z, rfl, rfl, q⟩ := h
  refine op_notIn_str pins s σ H _ _ v u Q I rx ry ⟨tx [c], z, rfl, rfl, ?_⟩
  rw [show (!(Builtin.Str.occurrences z (tx [c]) 0 z.length 1).isEmpty) = decide (c ∈ z.cps.toList) from StrLaws.found_one z c]
  exact q

/-! ### for sign in text -/
def Its (x : Str) : It := ⟨fun i _ => i < x.cps.size, fun i H v H' => H' = H ∧ ∃ c, x.cps[i]? = some c ∧ v = .str (tx [c]), fun i _ => x.cps.size ≤ i⟩
theorem turn_strA {P : Program} {w : World} {K : PySem.W.Frag} {tg : Expr} (x : Str) (t : Tok) (it : Addr) : Turn P w K tg (Its x) [it] it (fun i h => h.IsStrIter it "str_ascii_iterator" x t i) where
  mem := by simp
  obj := fun i h st b hb => by
    have e : b = it := by simpa using hb
    subst e
    obtain ⟨o, e, c, d⟩ := st
    exact ⟨o, e, fun v z => by rw [d] at z; cases z⟩
  keep := fun i h h' st k => by
    obtain ⟨o, e, c, d⟩ := st
    exact ⟨o, k it (by simp) o e, c, d⟩
  item := by
    intro X hP hw hK hc i pins s σ H E I hf st hg
    subst hP hw hK
    obtain ⟨f0, f1, f2, f3, f4, f5⟩ := hf it (by simp)
    have hi : i < x.cps.size := hg
    refine wpAny_pyNext_ascii_item st (c := x.cps[i]) (by simp [hi]) fun h' st' sb => ?_
    have I1 : Inv X pins σ H { s with heap := h', toks := s.toks + 1 } := I.turned (fun b o hb e => (sb.2 b hb).trans e) f0 f1 f3 f4 f5
    obtain ⟨o, e, c, d⟩ := id st'
    exact ⟨_, rfl, go_of (s := { s with heap := h', toks := s.toks + 1 }) e c d (by decide) ⟨.str (tx [x.cps[i]]), H, I1, ⟨_, rfl⟩, ⟨rfl, _, by simp [hi], rfl⟩, st', fun b hb => (hf b hb).1⟩⟩
  done := by
    intro X hP hw hK hc i pins s σ H E I hf st hg
    subst hP hw hK
    obtain ⟨f0, f1, f2, f3, f4, f5⟩ := hf it (by simp)
    have hi : x.cps.size ≤ i := hg
    exact wpAny_pyNext_ascii_end (I.ok.hd hc) st (by simp; omega) fun h' eb => ⟨rfl, I.turned (t' := s.toks) (fun b o hb e => eb b o hb e) f0 f1 f3 f4 f5⟩
  self := fun _ _ _ _ _ st h => wpAny_pyIter_striter_ascii st h
theorem turn_strW {P : Program} {w : World} {K : PySem.W.Frag} {tg : Expr} (x : Str) (t : Tok) (it : Addr) : Turn P w K tg (Its x) [it] it (fun i h => h.IsStrIter it "str_iterator" x t i) where
  mem := by simp
  obj := fun i h st b hb => by
    have e : b = it := by simpa using hb
    subst e
    obtain ⟨o, e, c, d⟩ := st
    exact ⟨o, e, fun v z => by rw [d] at z; cases z⟩
  keep := fun i h h' st k => by
    obtain ⟨o, e, c, d⟩ := st
    exact ⟨o, k it (by simp) o e, c, d⟩
  item := by
    intro X hP hw hK hc i pins s σ H E I hf st hg
    subst hP hw hK
    obtain ⟨f0, f1, f2, f3, f4, f5⟩ := hf it (by simp)
    have hi : i < x.cps.size := hg
    refine wpAny_pyNext_wide_item st (c := x.cps[i]) (by simp [hi]) fun h' st' sb => ?_
    have I1 : Inv X pins σ H { s with heap := h', toks := s.toks + 1 } := I.turned (fun b o hb e => (sb.2 b hb).trans e) f0 f1 f3 f4 f5
    obtain ⟨o, e, c, d⟩ := id st'
    exact ⟨_, rfl, go_of (s := { s with heap := h', toks := s.toks + 1 }) e c d (by decide) ⟨.str (tx [x.cps[i]]), H, I1, ⟨_, rfl⟩, ⟨rfl, _, by simp [hi], rfl⟩, st', fun b hb => (hf b hb).1⟩⟩
  done := by
    intro X hP hw hK hc i pins s σ H E I hf st hg
    subst hP hw hK
    obtain ⟨f0, f1, f2, f3, f4, f5⟩ := hf it (by simp)
    have hi : x.cps.size ≤ i := hg
    exact wpAny_pyNext_wide_end (I.ok.hd hc) st (by simp; omega) fun h' eb => ⟨rfl, I.turned (t' := s.toks) (fun b o hb e => eb b o hb e) f0 f1 f3 f4 f5⟩
  self := fun _ _ _ _ _ st h => wpAny_pyIter_striter_wide st h
def iStr (tl : TE) : TI := fun σ H R => tl σ H fun x H1 => ∃ z, x = .str z ∧ R (Its z) H1
theorem pi_str {tg l : Expr} {tl : TE} (hl : PE X l tl) : PI X tg l (iStr tl) := by
  intro pins s σ H R I h
  refine thn (hl pins s σ H _ I h) fun v s1 ⟨x, H1, I1, r1, q1⟩ => ?_
  obtain ⟨z, e, q⟩ := q1
  subst e
  obtain ⟨t, rfl⟩ := r1
  have fp : ∀ b ∈ [s1.heap.objs.size], FpOk X pins H1 b := fun b hb => by
    have e : b = s1.heap.objs.size := by simpa using hb
    subst e
    exact I1.fpOk (Nat.le_refl _) (I1.hok.fresh (Nat.le_refl _))
  cases ha : z.cps.all (· < 128) with
  | true => exact wpAny_pyIter_ascii ha ⟨s1.heap.objs.size, [s1.heap.objs.size], _, _, H1, rfl, I1.kept (t' := s1.toks) fun b o e => Heap.get?_push_of_some _ e, turn_strA z t _, ⟨_, Heap.get?_push_size _ rfl, rfl, rfl⟩, fp, q⟩
  | false => exact wpAny_pyIter_wide ha ⟨s1.heap.objs.size, [s1.heap.objs.size], _, _, H1, rfl, I1.kept (t' := s1.toks) fun b o e => Heap.get?_push_of_some _ e, turn_strW z t _, ⟨_, Heap.get?_push_size _ rfl, rfl, rfl⟩, fp, q⟩
theorem for_str {l : List Nat} {g : TG} {tb : TS} {D : Ends} {σ : St} {H : Hp} (Pv : Nat → St → Hp → Prop) (h0 : Pv 0 σ H)
    (hs : ∀ i c σ H, l[i]? = some c → Pv i σ H → g (.str (tx [c])) σ H fun σ2 H2 => tb { D with nx := Pv (i + 1), ct := Pv (i + 1), bk := D.nx } σ2 H2) (hd : ∀ σ H, Pv l.length σ H → D.nx σ H) :
    ∃ W : Nat → Nat → St → Hp → Prop, (∃ m, W 0 m σ H) ∧ ∀ i m σ H, W i m σ H →
      ((Its (tx l)).stop i H ∧ D.nx σ H) ∨ ((Its (tx l)).go i H ∧ ∃ N : St → Hp → Prop, (∀ σ' H', N σ' H' → ∃ m', m' < m ∧ W (i + 1) m' σ' H') ∧ ∀ x H', (Its (tx l)).yld i H x H' → g x σ H' fun σ2 H2 => tb { D with nx := N, ct := N, bk := D.nx } σ2 H2) := by
  have hz : (tx l).cps.size = l.length := by simp [tx]
  refine ⟨fun i m σ H => m = l.length - i ∧ i ≤ l.length ∧ Pv i σ H, ⟨l.length, by simp, Nat.zero_le _, h0⟩, ?_⟩
  rintro i m σ H ⟨rfl, hi, p⟩
  by_cases hlt : i < l.length
  · refine .inr ⟨by show i < (tx l).cps.size; omega, Pv (i + 1), fun σ' H' p' => ⟨l.length - (i + 1), by omega, rfl, hlt, p'⟩, fun x H' y => ?_⟩
    obtain ⟨e, c, hc, y⟩ := y
    subst e y
    exact hs i c σ _ (by simpa [tx] using hc) p
  · have e : i = l.length := by omega
    subst e
    exact .inl ⟨by show (tx l).cps.size ≤ l.length; omega, hd σ H p⟩

/-! ### f-strings of plain fields -/
end
end L2

namespace L2
open PySem PySem.Spec PyProof.Rows
/-! ### isinstance of an exception of an own class -/
structure XK1 (K : PySem.W.Frag) (C : Addr) : Prop where
  ga : PySem.W.findIn K (.ref C) "__getattribute__" = some (some (.builtin "BaseException.__getattribute__"))
  gt : PySem.W.findIn K (.ref C) "__getattr__" = some none
  cl : PySem.W.findIn K (.ref C) "__class__" = some (some (.builtin "object.__class__"))
  ob : PySem.W.mroIn K C (.type "object") = some true
  sb : PySem.W.subIn K (.ref C) (.type "BaseException") = some true
  ic : PySem.W.isClsIn K C = true
  hd : PySem.W.hasDictIn K C = true
  gs : PySem.W.specialIn K (.builtin "object.__class__") "__get__" = some (some (.builtin "getset_descriptor.__get__"))
  tk : PySem.W.takesIn K (.builtin "object.__class__") = some true
theorem exc_find {K : PySem.W.Frag} {C : Addr} (Z : XK1 K C) (od : Option Obj) : PySem.W.findObj K C od "__class__" = some (.bind (.builtin "getset_descriptor.__get__") (.builtin "object.__class__")) := by
  obtain ⟨cd, hc⟩ := Option.isSome_iff_exists.mp (show (PySem.W.clsIn K C).isSome = true from Z.ic)
  unfold PySem.W.findObj
  rw [hc, Option.bind_some, Z.cl, Option.bind_some]
  simp [Z.gs, Z.tk]
section
variable {prog : Program} {w : World} {A : Around} {E : Value → Shared → Prop} {K : PySem.W.Frag} {x D : Addr} {ox : Obj} {od : Option Obj}
theorem exc_check {M : Model} {h : Heap} {g : Array GenState} {d : Drawn} {t : Nat} {os : OsState} {nameV : Value} {Q : Unit → Shared → Prop} (Z : XK1 K D) (X : K.In h) (I : PySem.W.InstAt h x ox D od) (hq : Q () ⟨h, g, d, t, os⟩) :
    wpAny M A (checkBuiltinCall "BaseException.__getattribute__" ⟨[.ref x, nameV], []⟩) Q E ⟨h, g, d, t, os⟩ := by
  have hk : builtinKind "BaseException.__getattribute__" = some .slot := by decide +kernel
  have hsplit : splitId "BaseException.__getattribute__" = some ("BaseException", "__getattribute__") := by decide +kernel
  have ha := F.args_bexc_ga (.ref x) nameV
  have L0 := I.type (M := M)
  have L1 := PySem.W.looks_subIn (M := M) X Z.sb
  simp only [checkBuiltinCall, hk, hsplit]
  refine wpAny_bind ?_
  unfold isInstance
  refine wpAny_bind (L0.at (L1.at ?_))
  repeat (first | exact hq | wp_step)
theorem exc_class {s : Shared} {Q : Option Value → Shared → Prop} (Z : XK1 K D) (X : K.In s.heap) (I : PySem.W.InstAt s.heap x ox D od) (h : Q (some (.ref D)) { s with toks := s.toks + 1 }) : wpAny (model prog w) A (getAttr? (.ref x) "__class__") Q E s := by
  obtain ⟨hh, g, d, t, os⟩ := s
  have L0 := I.type (M := model prog w)
  have L1 := PySem.W.looks_findIn (M := model prog w) X Z.ga
  have L2 := PySem.W.looks_findIn (M := model prog w) X Z.gt
  have L3 := PySem.W.looks_find (M := model prog w) X I (exc_find Z od)
  unfold getAttr?
  unfold getAttrBy?
  unfold getAttrBy
  refine wpAny_bind (wpAny_mkText (wpAny_bind (wpAny_attempt (wpAny_holding (wpAny_bind (L0.at (wpAny_bind (L1.at ?_))))))))
  show wpAny _ _ (getAttrByItsOwn _ _ _ _ _ _) _ _ _
  unfold getAttrByItsOwn
  unfold hookBefore
  refine wpAny_bind (L2.at ?_)
  refine wpAny_bind (wpAny_attempt (wpAny_holding ?_))
  show wpAny _ _ (boundAndCalled _ _ _) _ _ _
  unfold boundAndCalled
  refine wpAny_bind (wpAny_of_eq (F.excAttr_ValueError.ga.bind (.ref x)) ?_)
  refine wpAny_call (codeAny_call_builtin F.excAttr_ValueError.ga.plain F.entry_bexc_ga (exc_check Z X I ?_))
  unfold Builtin.«object.__getattribute__»
  refine wpAny_bind (wpAny_of_eq (a := (Value.ref x, [Value.str "__class__" t])) rfl ?_)
  refine wpAny_bind (wpAny_of_eq (a := ("__class__" : Str)) rfl ?_)
  refine wpAny_bind (L0.at (wpAny_bind (L3.at ?_)))
  show wpAny _ _ (holding [Value.builtin "object.__class__"] (call (.builtin "getset_descriptor.__get__") [.builtin "object.__class__", .ref x, .ref D]) >>= ret) _ _ _
  refine wpAny_bind (wpAny_holding (wpAny_call (PySem.W.class_get X I Z.ob ?_)))
  refine wpAny_pure ?_
  exact PySem.W.handed_on rfl (wpAny_pure h)
end
/-- what isinstance asks of an exception -/
theorem kitx_exc {K : PySem.W.Frag} {e D : Addr} (Z : XK1 K D) : PySem.W.KitX K (.ref e) (.ref D) (fun h => ∃ oe vs, h.get? e = some oe ∧ oe.cls = .ref D ∧ oe.dict = none ∧ oe.data = .fields vs) where
  ty := fun M h _ p => by
    obtain ⟨oe, vs, h1, h2, _⟩ := p
    exact looks_ty h1 h2
  it := fun M h X _ => by
    obtain ⟨cd, hc⟩ := Option.isSome_iff_exists.mp (show (PySem.W.clsIn K D).isSome = true from Z.ic)
    unfold PySem.W.clsIn at hc
    split at hc
    · rename_i lk
      intro A' Q' E' s' k q
      unfold isType
      unfold loadHead
      exact wpAny_bind (wpAny_loadPart (k _ _ (X _ _ lk)) (wpAny_pure q))
    · cases hc
  ne := fun h tp dd its n sl X htp => by
    obtain ⟨cd, hc⟩ := Option.isSome_iff_exists.mp (show (PySem.W.clsIn K D).isSome = true from Z.ic)
    refine Bool.eq_false_iff.mpr fun q => ?_
    have e : D = tp := Value.ref.inj (beq_iff_eq.mp q)
    subst e
    unfold PySem.W.clsIn at hc
    split at hc
    · rename_i lk
      have z := (X _ _ lk).symm.trans htp
      cases z
    · cases hc
  ca := fun {prog w A E Q s} X p k => by
    obtain ⟨oe, vs, h1, h2, h3, h4⟩ := p
    refine exc_class (od := none) (ox := oe) Z X ⟨h1, h2, ?_, ?_⟩ k
    · unfold PySem.W.notCls
      rw [h4]
    · rw [h3]
      trivial
/-- an own class by its name -/
theorem pe_cls {X : Cx} {x : Str} {C : Addr} {pos : Pos} (hg : Gl X x) (hm : X.mg x = some (.ref C)) (hd : (x == ("__debug__" : Str)) = false := by decide) : PE X (.Name x pos) (tC (.ref C)) := pe_glob (v := .ref C) hg hm rfl hd
/-! ### a class whose __init__ may raise -/
section
variable {X : Cx} {k : Nat} {f C : Addr} {fd : FuncData} {ps : List Str} {sp : Sp} {x : Str} {p pos : Pos} {e : Expr} {es : List Expr} {t : TA} {W : St → XK}
end
/-! ### == of two lists with the very same items -/
end L2

namespace L2
open PySem PySem.Spec PyProof.Rows
/-! ### exceptions of own classes as values: made by hand, kept, asked for what they keep -/
section
variable {X : Cx} {x : Str} {C f : Addr} {p pos : Pos} {e : Expr} {es : List Expr} {t : TA}
theorem Inv.no {pins : List (Addr × Obj)} {σ : St} {H : Hp} {s : Shared} {a : Addr} (I : Inv X pins σ H s) (h : s.heap.get? a = none) : H a = none := by
  cases z : H a with
  | none => rfl
  | some o =>
    obtain ⟨ob, eo⟩ := (I.hok a o z).is
    rw [h] at eo
    cases eo
end
/-! ### a class of the text whose __init__ is a def of its own -/
def ownInit (K : PySem.W.Frag) (C f : Addr) (bmB : List Value) (newId : String) : Bool := match K.lookup C with
  | some ⟨.type t, _, .cls cd, sl⟩ => (match sl.toList with
    | [_, _, _, _, some (.builtin n), _] => t == "type" && (n == newId && !cd.hasDel) && (PySem.W.nsOkIn K cd.ns && PySem.W.nsIn K cd.ns "__init__" == some (some (.ref f))) && (match cd.mro with | .ref c :: r => c == C && PySem.W.tailIn K bmB r | _ => false)
    | _ => false)
  | _ => false
theorem ns_some {K : PySem.W.Frag} {h : Heap} {N : Addr} {m : Str → Option Value} {x : Str} {v : Value} (X : K.In h) (G : h.Ns N m) (q : PySem.W.nsIn K N x = some (some v)) : m x = some v := by
  obtain ⟨o, es, ep, ho, hd, _, hf⟩ := G
  unfold PySem.W.nsIn at q
  split at q
  · rename_i lk
    have z := (X _ _ lk).symm.trans ho
    cases z
    cases hd
    split at q
    · rename_i en hen
      cases q
      rw [← hf]
      simp only [nsFind, findBy, ← Array.find?_toList, hen]
      rfl
    · split at q <;> cases q
  · cases q
theorem ownInit_obj {K : PySem.W.Frag} {h : Heap} {C f : Addr} {bmB : List Value} {newId : String} (X : K.In h) (q : ownInit K C f bmB newId = true) :
    ∃ bm N nm qn bs hdct sn sub ab col dd k0 k1 k2 k3 k5 mN, h.get? C = some (excClassObj nm qn C N bs bm hdct sn sub ab col dd k0 k1 k2 k3 k5 newId) ∧ h.Ns N mN ∧ mN "__init__" = some (.ref f) ∧ OwnTail h bmB bm := by
  unfold ownInit at q
  split at q
  · rename_i t dd cd sl lk
    split at q
    · rename_i k0 k1 k2 k3 n k5 hsl
      split at q
      · rename_i c r hm
        simp only [Bool.and_eq_true, beq_iff_eq, Bool.not_eq_true'] at q
        obtain ⟨⟨⟨e0, e1, hdel⟩, hns, hni⟩, e2, ht⟩ := q
        subst e0 e1 e2
        obtain ⟨nm, bs, mro, ns, qn, hd, sn, sub, ab, col, del⟩ := cd
        simp only at hm hdel hns hni
        subst hm hdel
        obtain ⟨l⟩ := sl
        simp only at hsl
        subst hsl
        exact ⟨r, ns, nm, qn, bs, hd, sn, sub, ab, col, dd, k0, k1, k2, k3, k5, _, X _ _ lk, .of_isNs (PySem.W.isNs_of_in X hns), ns_some X (.of_isNs (PySem.W.isNs_of_in X hns)) hni, PySem.W.tail_of_in X ht⟩
      · simp at q
    · cases q
  · cases q
section
variable {prog : Program} {w : World} {A : Around} {Ex : Value → Shared → Prop} {hp : Heap} {gs : Array GenState} {dr : Drawn} {tk : Nat} {os : OsState}
variable {nm q : Str} {C N fI : Addr} {bs bm bmB : List Value} {hdct : Bool} {sn : List Str} {sub : List Value} {ab : Bool} {col : Option Bool} {dd : Option Addr} {k0 k1 k2 k3 k5 : Option Value} {B newId initId : String} {mN : Str → Option Value} {us : List Value} {oI : Obj}
theorem exc_type_call {Q : Fin → Shared → Prop} (FB : ExcBaseFacts B newId initId bmB) (T : OwnTail hp bmB bm) (cO : hp.get? C = some (excClassObj nm q C N bs bm hdct sn sub ab col dd k0 k1 k2 k3 k5 newId)) (nN : hp.Ns N mN)
    (iN : mN "__init__" = some (.ref fI)) (fO : hp.get? fI = some oI) (fC : oI.cls = .type "function") (sz : us.length ≤ sizeLine)
    (k : ∀ h1 e, Heap.MadeExcOf hp h1 e (.ref C) us → wpAny (model prog w) A (call (.ref fI) (.ref e :: us)) (fun r s1 => r = .none ∧ Q (.done (.ret (.ref e))) s1) Ex ⟨h1, gs, dr, tk, os⟩) :
    wpAny (model prog w) A (Builtin.«type.__call__» ⟨.ref C :: us, []⟩) Q Ex ⟨hp, gs, dr, tk, os⟩ := by
  repeat (first | with_reducible refine wpAny_loadPart_at cO ?_ | with_reducible refine wpAny_madeBy_exc cO ?_ | wp_step)
  refine codeAny_call_builtin_code (Code.quiet_builtin _ FB.quiet) (wpAny_check_new_subT FB T cO (codeAny_exc_new_subT FB T cO ?_ sz))
  show wpAny _ _ _ _ _ _
  have keep : ∀ b o, hp.get? b = some o → ((hp.push { cls := .type "tuple", data := .seq us.toArray }).push { cls := .ref C, data := .fields #[.ref hp.objs.size, .none, .none, .none, .bool false, .none] }).get? b = some o :=
    fun b o z => Heap.get?_push_of_some _ (Heap.get?_push_of_some _ z)
  have cO1 := keep _ _ cO
  have new : ((hp.push { cls := .type "tuple", data := .seq us.toArray }).push { cls := .ref C, data := .fields #[.ref hp.objs.size, .none, .none, .none, .bool false, .none] }).get? (hp.objs.size + 1)
      = some { cls := .ref C, data := .fields #[.ref hp.objs.size, .none, .none, .none, .bool false, .none] } := by heap_get
  have inC : (Value.ref C :: bm).contains (.ref C) = true := by simp
  unfold isInstance
  repeat (first | with_reducible refine wpAny_loadPart_at new ?_ | (with_reducible refine wpAny_isSubtype_exc cO1 ?_; rw [inC]) | wp_step)
  show wpAny _ _ (typeLookup (.ref C) _) _ _ _
  refine wpAny_typeLookup_tail cO1 (nN.keeps keep) (T.keeps keep) FB.mroIs FB.init.lookup ?_
  rw [iN]
  refine wpAny_holding (wpAny_bind ?_)
  unfold bindSpecial
  refine wpAny_bind (wpAny_typeOf (T := "function") ⟨_, keep _ _ fO, fC⟩ ?_)
  rw [if_pos (by decide)]
  refine wpAny_pure (wpAny_bind (wpAny_mono (k _ (hp.objs.size + 1) ⟨keep, Heap.get?_none_of_le (Nat.le_succ _), hp.objs.size, new, Heap.get?_none_of_le (Nat.le_refl _), ?_⟩) (fun r s1 hr => ?_) fun _ _ z => z))
  · exact Heap.get?_push_of_some _ (Heap.get?_push_at rfl rfl)
  · obtain ⟨rfl, hQ⟩ := hr
    wp_walk
    exact hQ
theorem exc_call {Q : Value → Shared → Prop} (FB : ExcBaseFacts B newId initId bmB) (T : OwnTail hp bmB bm) (cO : hp.get? C = some (excClassObj nm q C N bs bm hdct sn sub ab col dd k0 k1 k2 k3 k5 newId)) (nN : hp.Ns N mN)
    (iN : mN "__init__" = some (.ref fI)) (fO : hp.get? fI = some oI) (fC : oI.cls = .type "function") (sz : us.length ≤ sizeLine)
    (k : ∀ h1 e, Heap.MadeExcOf hp h1 e (.ref C) us → wpAny (model prog w) (A.under (.builtin "type.__call__" ⟨.ref C :: us, []⟩)) (call (.ref fI) (.ref e :: us)) (fun r s1 => r = .none ∧ Q (.ref e) s1) Ex ⟨h1, gs, dr, tk, os⟩) :
    wpAny (model prog w) A (call (.ref C) us) Q Ex ⟨hp, gs, dr, tk, os⟩ := by
  have l1 := tc_lookup
  have l2 := tc_bind (.ref C)
  have isT : (⟨hp, gs, dr, tk, os⟩ : Shared).TypeIs (.ref C) "type" := ⟨_, cO, rfl⟩
  refine wpAny_call (codeAny_of_tree ?_)
  show wpAny _ _ (callAny (.ref C) _) _ _ _
  repeat (any_goals (first | assumption | with_reducible refine wpAny_loadPart_at cO ?_ | wp_step))
  refine ⟨rfl, codeAny_call_builtin_at (Code.quiet_builtin _ (by decide +kernel)) entry_typeCall (wpAny_check_type_call_sub cO (exc_type_call FB T cO nN iN fO fC sz fun h1 e m => ?_))⟩
  exact k h1 e m
end
section
variable {prog : Program} {w : World} {A : Around} {E : Value → Shared → Prop} {K : PySem.W.Frag} {x D : Addr} {ox : Obj} {od : Option Obj}
/-- what an exception keeps under a name -/
theorem exc_value {s : Shared} {f : Str} {v : Value} {ex : Bool} {Q : Value → Shared → Prop} (Z : XK1 K D) (X : K.In s.heap) (I : PySem.W.InstAt s.heap x ox D od) (hf : PySem.W.findObj K D od f = some (.value v)) (hv : PySem.W.handedIn v = true)
    (h : Q v { s with toks := s.toks + 1 }) : wpAny (model prog w) A (getAttr (.ref x) f ex) Q E s := by
  obtain ⟨hh, g, d, t, os⟩ := s
  have L0 := I.type (M := model prog w)
  have L1 := PySem.W.looks_findIn (M := model prog w) X Z.ga
  have L2 := PySem.W.looks_findIn (M := model prog w) X Z.gt
  have L3 := PySem.W.looks_find (M := model prog w) X I hf
  unfold getAttr
  unfold getAttrBy
  refine wpAny_bind (wpAny_mkText (wpAny_holding (wpAny_bind (L0.at (wpAny_bind (L1.at ?_))))))
  show wpAny _ _ (getAttrByItsOwn _ _ _ _ _ _) _ _ _
  unfold getAttrByItsOwn
  unfold hookBefore
  refine wpAny_bind (L2.at ?_)
  refine wpAny_bind (wpAny_attempt (wpAny_holding ?_))
  have nb : ∀ b : Bool, (b && onTheHeap (Value.builtin "BaseException.__getattribute__")) = false := fun b => by cases b <;> rfl
  unfold callGetattribute
  rw [nb, if_neg Bool.false_ne_true]
  unfold boundAndCalled
  refine wpAny_bind (wpAny_of_eq (F.excAttr_ValueError.ga.bind (.ref x)) ?_)
  refine wpAny_call (codeAny_call_builtin F.excAttr_ValueError.ga.plain F.entry_bexc_ga (exc_check Z X I ?_))
  unfold Builtin.«object.__getattribute__»
  refine wpAny_bind (wpAny_of_eq (a := (Value.ref x, [Value.str f t])) rfl ?_)
  refine wpAny_bind (wpAny_of_eq (a := f) rfl ?_)
  refine wpAny_bind (L0.at (wpAny_bind (L3.at (wpAny_pure ?_))))
  exact PySem.W.handed_on hv h
/-- the mro: classes of the text, then that of ValueError -/
def overVE : List Value → Bool
  | .ref _ :: r => overVE r
  | l => l == [.type "ValueError", .type "Exception", .type "BaseException", .type "object"]
theorem ve_pass (self : Value) : ∀ {l : List Value}, overVE l = true → refuseLoop self "__setattr__" l = pure ()
  | .ref c :: r, e => by rw [refuseLoop_ref]; exact ve_pass self (l := r) e
  | .type n :: r, e => by rw [beq_iff_eq.mp (show (Value.type n :: r == _) = true from e)]; exact F.store_ValueError.passes self
theorem ve_has : ∀ {l : List Value}, overVE l = true → l.contains (.type "object") = true
  | .ref c :: r, e => by rw [List.contains_cons, ve_has (l := r) e, Bool.or_true]
  | .type n :: r, e => by rw [beq_iff_eq.mp (show (Value.type n :: r == _) = true from e)]; decide
def excOver (K : PySem.W.Frag) (D : Addr) : Bool := (PySem.W.clsIn K D).any fun cd => overVE cd.mro
/-- what is asked of a class so that its exceptions may be given a value under a name -/
structure XSet (K : PySem.W.Frag) (D : Addr) (f : Str) : Prop where
  sa : PySem.W.findIn K (.ref D) "__setattr__" = some (some (.builtin "object.__setattr__"))
  ov : excOver K D = true
  tk : PySem.W.takerIn K D f = some none
  fi : PySem.W.findIn K (.ref D) f = some none
  hd : PySem.W.hasDictIn K D = true
theorem XSet.of {K : PySem.W.Frag} {D : Addr} {f : Str} (sa : PySem.W.findIn K (.ref D) "__setattr__" = some (some (.builtin "object.__setattr__"))) (ov : excOver K D = true) (fi : PySem.W.findIn K (.ref D) f = some none) (hd : PySem.W.hasDictIn K D = true) : XSet K D f :=
  ⟨sa, ov, (by unfold PySem.W.takerIn; rw [fi]; rfl), fi, hd⟩
theorem exc_set {s : Shared} {f : Str} {v : Value} {vs : Array Value} {Q : Unit → Shared → Prop} (Z : XSet K D f) (X : K.In s.heap) (hx : s.heap.get? x = some ox) (hc : ox.cls = .ref D) (hd : ox.dict = none) (hv : ox.data = .fields vs)
    (h : ∀ h1 t1, h1.get? x = some { ox with dict := some s.heap.objs.size } → h1.Ns1 s.heap.objs.size (fun y => if y = f then some v else none) → (∀ b o, b ≠ x → s.heap.get? b = some o → h1.get? b = some o) → Q () { s with heap := h1, toks := t1 }) :
    wpAny (model prog w) A (setAttr (.ref x) f v) Q E s := by
  have I : PySem.W.InstAt s.heap x ox D none := ⟨hx, hc, (by unfold PySem.W.notCls; rw [hv]), (by rw [hd]; trivial)⟩
  refine PySem.W.set_plain X I Z.sa ?_
  obtain ⟨cd, hcd, ho⟩ := PySem.W.any_some Z.ov
  have SF := F.store_object
  have ne : cd.mro.isEmpty = false := by
    cases z : cd.mro with
    | nil => rw [z] at ho; cases ho
    | cons _ _ => rfl
  have isO : PySem.W.Looks (model prog w) s.heap (isInstance (.ref x) (.type "object")) true := I.type.andThen (PySem.W.looks_mroIn X (by unfold PySem.W.mroIn; rw [hcd, Option.bind_some, if_neg (by rw [ne]; decide), ve_has ho]))
  refine codeAny_call_builtin SF.slot.plain SF.entry (@PySem.W.check_slot (model prog w) _ _ { s with toks := s.toks + 1 } "object.__setattr__" "object" "__setattr__" (.ref x) [.str f s.toks, v] [] _ SF.kind SF.split isO (SF.args _ _ _) ?_)
  have mr : PySem.W.Looks (model prog w) s.heap (mroOf (.ref D)) cd.mro := (PySem.W.looks_clsIn X hcd).andThen .now
  rw [PySem.W.osa_eq, refuse_eq]
  refine wpAny_bind (wpAny_bind (I.type.here (s := { s with toks := s.toks + 1 }) (wpAny_bind (mr.here (s := { s with toks := s.toks + 1 }) ?_))))
  rw [ve_pass _ ho]
  refine wpAny_pure (wpAny_bind (I.type.here (s := { s with toks := s.toks + 1 }) (wpAny_bind ((PySem.W.looks_findIn X Z.fi).here (s := { s with toks := s.toks + 1 }) (wpAny_bind (wpAny_pure ?_))))))
  obtain ⟨cd2, hc2, hd2⟩ := PySem.W.any_some Z.hd
  obtain ⟨oc, odi, oda, osl⟩ := ox
  dsimp only at hc hd hv
  subst hc hd hv
  refine wpAny_bind (wpAny_pure (wpAny_bind (wpAny_bind (wpAny_loadPart hx ?_))))
  refine wpAny_bind ((PySem.W.looks_clsIn X hc2).here (s := { s with toks := s.toks + 1 }) ?_)
  rw [hd2, if_neg (by decide)]
  have x1 : (s.heap.push { cls := .type "dict", data := .dict #[] }).get? x = some { cls := .ref D, data := .fields vs, slots := osl } := Heap.get?_push_of_some _ hx
  have nx : x ≠ s.heap.objs.size := Nat.ne_of_lt (Heap.lt_size hx)
  show wpAny _ _ (if (!true || !typeHasDict (Value.ref D)) = true then pure none else _) _ _ _
  rw [if_neg (by simp [typeHasDict])]
  refine wpAny_bind (wpAny_alloc' (wpAny_bind (wpAny_update' x1 (wpAny_pure ?_))))
  have gd : ((s.heap.push { cls := .type "dict", data := .dict #[] }).update x fun o => { cls := o.cls, dict := some s.heap.objs.size, data := o.data, slots := o.slots }).get? s.heap.objs.size = some { cls := .type "dict", data := .dict #[] } :=
    (Heap.get?_update_ne _ _ _ _ nx.symm).trans (Heap.get?_push_at rfl rfl)
  have nd : ((s.heap.push { cls := .type "dict", data := .dict #[] }).update x fun o => { cls := o.cls, dict := some s.heap.objs.size, data := o.data, slots := o.slots }).Ns s.heap.objs.size (fun _ => none) :=
    ⟨_, #[], _, gd, rfl, fun e he => absurd he (by simp), fun _ => rfl⟩
  show wpAny _ _ (Builtin.ObjectAttr.storeInDict s.heap.objs.size (.str f s.toks) f v) _ _ _
  unfold Builtin.ObjectAttr.storeInDict Builtin.ObjectAttr.newKeyGuard
  refine wpAny_bind (wpAny_pure (wpAny_bind (wpAny_nsSet1 (Heap.Ns1.of_empty nd) fun h1 n1 same => ?_)))
  obtain ⟨oD, esD, epD, hoD, hdD, hcD⟩ := n1.count (Within.cons f v Within.nil)
  refine wpAny_bind (wpAny_lookBehind hoD (by rw [hdD]; exact pastItsLine_dict (Nat.le_trans hcD (by show 1 ≤ _; rw [sizeLine_eq]; omega))) ?_)
  wp_walk
  refine h h1 _ ?_ n1 fun b o nb hb => ?_
  · exact (same.2 x nx).trans (Heap.get?_update_self _ x1 rfl)
  · exact (same.2 b (Nat.ne_of_lt (Heap.lt_size hb))).trans ((Heap.get?_update_ne _ _ _ _ nb).trans (Heap.get?_push_of_some _ hb))
end
end L2

namespace L2
open PySem PySem.Spec PyProof.Rows
/-! ### exceptions that keep values: the rules -/
/-- an exception of the class C, tracked, with a dict of its own or without -/
def ExAt (H : Hp) (e C : Addr) : Prop := H e = some (exO e (.ref C) none) ∨ ∃ d fs, H e = some (exO e (.ref C) (some d)) ∧ H d = some (.xd fs)
section
variable {X : Cx} {pins : List (Addr × Obj)} {σ : St} {H : Hp} {s : Shared} {e : Addr}
theorem Inv.trackO {a : Addr} {o : HO} (I : Inv X pins σ H s) (fe : FxOk X pins H a) (new : ObjOk X.prog X.w (upd H a o) s.heap a o) : Inv X pins σ (upd H a o) s := by
  have ne : ∀ b u, H b = some u → b ≠ a := fun b u q => ne_of_none q fe.1
  refine ⟨I.ok, I.os, I.bare, ⟨I.base.keep, I.base.slot, fun b o q n hx => ?_, I.base.there, fun b xs q => ?_, fun b o u q => ?_, fun b ps q => ?_⟩, I.loc, I.cell, ?_, fun x c q => ?_, fun p hp => ?_, fun b u q => ?_, I.len⟩
  · rw [upd_ne]
    · exact I.base.free b o q n hx
    · rintro rfl
      rcases fe.2.2.2.1 with z | z
      · exact hx z
      · rw [q] at z; cases z
  · have z := I.base.tups b xs q
    rw [upd_ne (ne _ _ z)]; exact z
  · have z := I.base.frzs b o u q
    rw [upd_ne (ne _ _ z)]; exact z
  · obtain ⟨m, z⟩ := I.base.tbls b ps q
    exact ⟨m, by rw [upd_ne (ne _ _ z)]; exact z⟩
  · rw [upd_ne (Ne.symm fe.2.1)]; exact I.free
  · rw [upd_ne (fe.2.2.2.2.1 x c q)]; exact I.freeC x c q
  · obtain ⟨a1, a2, a3, a4, a5⟩ := I.pin p hp
    exact ⟨a1, by rw [upd_ne (fe.2.2.2.2.2 p hp)]; exact a2, a3, a4, a5⟩
  · by_cases z : b = a
    · subst z
      rw [upd_same] at q
      cases q
      exact new
    · rw [upd_ne z] at q
      exact (I.hok b u q).stay (fun _ _ _ y => y) (fun c y => by rw [upd_ne (ne _ _ y)]; exact y) fun c xs y => by rw [upd_ne (ne _ _ y)]; exact y
/-- a tracked exception, as the heap has it -/
theorem Inv.exc {C : Addr} {d : Option Addr} (I : Inv X pins σ H s) (h : H e = some (exO e (.ref C) d)) : ∃ oe vs, s.heap.get? e = some oe ∧ oe.cls = .ref C ∧ oe.dict = d ∧ oe.data = .fields vs :=
  (show ObjOk X.prog X.w H s.heap e (exO e (.ref C) d) from I.hok e _ h).1
/-- (the names of its dict) -/
theorem Inv.xd {d : Addr} {fs : List (Str × V)} (I : Inv X pins σ H s) (h : H d = some (.xd fs)) : ∃ mA, s.heap.Ns1 d mA ∧ ∀ f, RelO (fs.lookup f) (mA f) := I.hok d _ h
theorem Inv.inst {C : Addr} (I : Inv X pins σ H s) (h : ExAt H e C) : ∃ oe od, PySem.W.InstAt s.heap e oe C od := by
  rcases h with h | ⟨d, fs, h, hd⟩
  · obtain ⟨oe, vs, h1, h2, h3, h4⟩ := I.exc h
    exact ⟨oe, none, h1, h2, (by unfold PySem.W.notCls; rw [h4]), (by rw [h3]; trivial)⟩
  · obtain ⟨oe, vs, h1, h2, h3, h4⟩ := I.exc h
    obtain ⟨mA, n, _⟩ := I.xd hd
    obtain ⟨od, ho, _⟩ := lookIn_ns n
    exact ⟨oe, some od, h1, h2, (by unfold PySem.W.notCls; rw [h4]), (by rw [h3]; exact ho)⟩
end
/-- what isinstance asks of an exception, whatever it keeps -/
theorem kitx_any {K : PySem.W.Frag} {e D : Addr} (Z : XK1 K D) : PySem.W.KitX K (.ref e) (.ref D) (fun h => ∃ oe od, PySem.W.InstAt h e oe D od) where
  ty := fun M h _ p => by
    obtain ⟨oe, od, I⟩ := p
    exact I.type
  it := fun M h X _ => by
    obtain ⟨cd, hc⟩ := Option.isSome_iff_exists.mp (show (PySem.W.clsIn K D).isSome = true from Z.ic)
    unfold PySem.W.clsIn at hc
    split at hc
    · rename_i lk
      intro A' Q' E' s' k q
      unfold isType
      unfold loadHead
      exact wpAny_bind (wpAny_loadPart (k _ _ (X _ _ lk)) (wpAny_pure q))
    · cases hc
  ne := (kitx_exc (e := e) Z).ne
  ca := fun {prog w A E Q s} X p k => by
    obtain ⟨oe, od, I⟩ := p
    exact exc_class Z X I k
theorem call_isinstE {X : Cx} {K : PySem.W.Frag} (hK : X.K = K := by rfl) : CallR X (.builtin "isinstance") (fun xs H Q => ∃ e C c cv b, xs = [.ref e, c] ∧ ExAt H e C ∧ XK1 K C ∧ (∀ u, RelV c u → u = cv) ∧ PySem.W.kitOne K (.ref C) cv = some b ∧ Q (.bl b) H) := by
  subst hK
  intro pins s σ H xs us Q I r h
  obtain ⟨e, C, c, cv, b, rfl, he, Z, hc, k, q⟩ := h
  obtain ⟨u, z, rfl, rx, rc⟩ := vals2 r
  cases rx
  cases hc z rc
  exact PySem.W.kia_one (kitx_any Z) I.kIn (I.inst he) k (fun z => nomatch z) fun tk => ⟨.bl b, H, I.tok tk, rfl, q⟩
section
variable {X : Cx} {x f : Str} {C g : Addr} {p pos apos : Pos} {e o value : Expr} {es : List Expr} {t : TA} {ta tv : TE}
/-- e.f, e an exception that keeps it -/
def tFldE (K : PySem.W.Frag) (ta : TE) (f : Str) : TE := fun σ H Q => ta σ H fun x H1 => ∃ a C d fs v, x = .ref a ∧ H1 a = some (exO a (.ref C) (some d)) ∧ H1 d = some (.xd fs) ∧ XK1 K C ∧ XSet K C f ∧ fs.lookup f = some v ∧ Q v H1
theorem pe_fldE (he : PE X e ta) (hb : attributeBase e f X.env (eval e X.env) = eval e X.env) : PE X (.Attribute e f pos) (tFldE X.K ta f) := by
  intro pins s σ H Q I h
  refine attr_of hb (thn (he pins s σ H _ I h) fun u s1 ⟨x, H1, I1, rx, a, C, d, fs, v, ex, ea, ed, Z, ZS, l, q⟩ => ?_)
  subst ex
  obtain rfl : u = Value.ref a := rx
  obtain ⟨oe, vs, h1, h2, h3, h4⟩ := I1.exc ea
  obtain ⟨mA, n, r⟩ := I1.xd ed
  obtain ⟨od, ho, hl⟩ := lookIn_ns n
  obtain ⟨w, hw, rw'⟩ := RelO.some_of (v := v) (o := mA f) (by rw [← l]; exact r f)
  exact exc_value Z I1.kIn ⟨h1, h2, (by unfold PySem.W.notCls; rw [h4]), (by rw [h3]; exact ho)⟩ (PySem.W.findObj_own ZS.hd ZS.fi rfl (by rw [hl, hw])) (handed_of rw') ⟨v, H1, I1.tok _, rw', q⟩
/-- C(e, ..), C a class of the text under a built-in error: its __init__ gets the new exception -/
structure EMk (K : PySem.W.Frag) (C g : Addr) : Prop where
  ow : ∃ bm newId initId B, ownInit K C g bm newId = true ∧ ExcBaseFacts B newId initId bm
  fn : PySem.W.isFn K (.ref g) = true
  kp : PySem.W.keepIn K (.ref C) = true
structure ECal (P : Program) (w : World) (K : PySem.W.Frag) (mg : Str → Option Value) (base : Heap) (k : Nat) (x : Str) (C : Addr) (ps : List Str) (sp : Sp) : Prop where
  ex : ∃ f fd, EMk K C f ∧ FnOk P w K mg base CX0 k f fd ps sp ∧ Binds K fd ps [] ∧ mg x = some (.ref C)
end
end L2

namespace L2
open PySem PySem.Spec PyProof.Rows
/-! ### more on texts and tuples -/
section
variable {X : Cx}
theorem strs_of : ∀ {ps : List Str} {its : List Value}, Vals (ps.map V.str) its → ∃ l : List (Str × Tok), its = strValues l ∧ l.map (·.1) = ps
  | [], its, h => by cases h; exact ⟨[], rfl, rfl⟩
  | p :: r, its, h => by
    cases h with
    | cons a b =>
      obtain ⟨t, rfl⟩ := a
      obtain ⟨l, rfl, e⟩ := strs_of b
      exact ⟨(p, t) :: l, rfl, by rw [List.map_cons, e]⟩
end
end L2

namespace L2
open PySem PySem.Spec PyProof.Rows
/-! ### things of things: == and != over lists and tuples of lists and tuples -/
inductive D where
  | at (v : V)
  | seq (t : Bool) (ds : List D)
mutual
def Rep (K : PySem.W.Frag) (H : Hp) : D → V → Prop
  | .at v, x => x = v ∧ flatV v = true
  | .seq t ds, x => ∃ a xs, x = .ref a ∧ (t = true → SqT K H a xs) ∧ (t = false → SqL K H a xs) ∧ Reps K H ds xs
def Reps (K : PySem.W.Frag) (H : Hp) : List D → List V → Prop
  | [], xs => xs = []
  | d :: ds, xs => ∃ y ys, xs = y :: ys ∧ Rep K H d y ∧ Reps K H ds ys
end
mutual
def eqD : D → D → Bool
  | .at v, .at u => eqV v u
  | .seq t ds, .seq u es => t == u && eqDs ds es
  | _, _ => false
def eqDs : List D → List D → Bool
  | [], [] => true
  | d :: ds, e :: es => eqD d e && eqDs ds es
  | _, _ => false
end
mutual
def dep : D → Nat
  | .at _ => 0
  | .seq _ ds => deps ds + 1
def deps : List D → Nat
  | [] => 0
  | d :: ds => max (dep d) (deps ds)
end
theorem Reps.len {K : PySem.W.Frag} {H : Hp} : ∀ {ds : List D} {xs : List V}, Reps K H ds xs → ds.length = xs.length
  | [], xs, h => by unfold Reps at h; subst h; rfl
  | d :: ds, xs, h => by
    unfold Reps at h
    obtain ⟨y, ys, rfl, _, h⟩ := h
    rw [List.length_cons, List.length_cons, Reps.len h]
def eAt (ds es : List D) (j : Nat) : Bool := match ds[j]?, es[j]? with
  | some d, some e => eqD d e
  | _, _ => true
theorem eqDs_len : ∀ {ds es : List D}, ds.length ≠ es.length → eqDs ds es = false
  | [], [], h => absurd rfl h
  | [], _ :: _, _ => by unfold eqDs; rfl
  | _ :: _, [], _ => by unfold eqDs; rfl
  | d :: ds, e :: es, h => by
    unfold eqDs
    rw [eqDs_len (ds := ds) (es := es) fun q => h (by rw [List.length_cons, List.length_cons, q]), Bool.and_false]
theorem eqDs_all : ∀ {ds es : List D}, ds.length = es.length → (List.range ds.length).all (eAt ds es) = eqDs ds es
  | [], [], _ => by unfold eqDs; rfl
  | [], _ :: _, h => by simp at h
  | _ :: _, [], h => by simp at h
  | d :: ds, e :: es, h => by
    have ih := eqDs_all (ds := ds) (es := es) (by simpa using h)
    unfold eqDs
    rw [List.length_cons, List.range_succ_eq_map, List.all_cons, List.all_map, ← ih]
    rfl
theorem eqV_refl {v : V} (h : flatV v = true) : eqV v v = true := by
  cases v <;> first | exact absurd (show false = true from h) Bool.false_ne_true | rfl | simp [eqV]
section
variable {X : Cx} {pins : List (Addr × Obj)} {σ : St} {H : Hp} {s : Shared}
theorem not_both {a : Addr} {xs ys : List V} (I : Inv X pins σ H s) (h1 : SqL X.K H a xs) (h2 : SqT X.K H a ys) : False := by
  obtain ⟨its, _, p, _⟩ := I.list h1
  obtain ⟨js, _, q, _⟩ := I.tuple h2
  exact SeqAt.ne_of_list_tuple p.isList q rfl
mutual
/-- the same thing told twice -/
theorem rep_same (I : Inv X pins σ H s) : ∀ (d e : D) (x : V), Rep X.K H d x → Rep X.K H e x → eqD d e = true
  | .at v, .at u, x, h1, h2 => by
    unfold Rep at h1 h2
    obtain ⟨rfl, f⟩ := h1
    obtain ⟨rfl, _⟩ := h2
    unfold eqD
    exact eqV_refl f
  | .at v, .seq t ds, x, h1, h2 => by
    unfold Rep at h1 h2
    obtain ⟨rfl, f⟩ := h1
    obtain ⟨a, xs, rfl, _⟩ := h2
    exact absurd (show false = true from f) Bool.false_ne_true
  | .seq t ds, .at u, x, h1, h2 => by
    unfold Rep at h1 h2
    obtain ⟨rfl, f⟩ := h2
    obtain ⟨a, xs, rfl, _⟩ := h1
    exact absurd (show false = true from f) Bool.false_ne_true
  | .seq t ds, .seq u es, x, h1, h2 => by
    unfold Rep at h1 h2
    obtain ⟨a, xs, rfl, t1, l1, r1⟩ := h1
    obtain ⟨b, ys, e, t2, l2, r2⟩ := h2
    cases e
    unfold eqD
    cases t with
    | true =>
      cases u with
      | true =>
        have e := I.tuple_inj (t1 rfl) (t2 rfl)
        subst e
        rw [reps_same I ds es xs r1 r2]
        rfl
      | false => exact (not_both I (l2 rfl) (t1 rfl)).elim
    | false =>
      cases u with
      | true => exact (not_both I (l1 rfl) (t2 rfl)).elim
      | false =>
        have e := I.list_inj (l1 rfl) (l2 rfl)
        subst e
        rw [reps_same I ds es xs r1 r2]
        rfl
theorem reps_same (I : Inv X pins σ H s) : ∀ (ds es : List D) (xs : List V), Reps X.K H ds xs → Reps X.K H es xs → eqDs ds es = true
  | [], [], _, _, _ => by unfold eqDs; rfl
  | [], e :: es, xs, h1, h2 => by
    unfold Reps at h1 h2
    subst h1
    obtain ⟨_, _, e, _⟩ := h2
    cases e
  | d :: ds, [], xs, h1, h2 => by
    unfold Reps at h1 h2
    subst h2
    obtain ⟨_, _, e, _⟩ := h1
    cases e
  | d :: ds, e :: es, xs, h1, h2 => by
    unfold Reps at h1 h2
    obtain ⟨y, ys, rfl, h1, r1⟩ := h1
    obtain ⟨z, zs, e, h2, r2⟩ := h2
    cases e
    unfold eqDs
    rw [rep_same I d _ y h1 h2, reps_same I ds es ys r1 r2]
    rfl
end
theorem flat_list {A : Around} {v : V} {u : Value} {a : Addr} {its : Array Value} (f : flatV v = true) (r : RelV v u) (p : s.heap.IsList a its) (hu : A.units < cLine) : SeqAt.EqAt A s u (.ref a) false := by
  cases v with
  | non => cases r; exact .none_list p hu
  | bl b => cases r; exact .bool_list b p hu
  | int i => obtain ⟨t, rfl⟩ := r; exact .int_list i t p hu
  | str i => obtain ⟨t, rfl⟩ := r; exact .str_list i t p hu
  | _ => exact absurd (show false = true from f) Bool.false_ne_true
theorem flat_tup {A : Around} {v : V} {u : Value} {a : Addr} {its : Array Value} (f : flatV v = true) (r : RelV v u) (p : s.heap.IsTuple a its) (hu : A.units < cLine) : SeqAt.EqAt A s u (.ref a) false := by
  cases v with
  | non => cases r; exact .none_tuple p hu
  | bl b => cases r; exact .bool_tuple b p hu
  | int i => obtain ⟨t, rfl⟩ := r; exact .int_tuple i t p hu
  | str i => obtain ⟨t, rfl⟩ := r; exact .str_tuple i t p hu
  | _ => exact absurd (show false = true from f) Bool.false_ne_true
theorem list_flat {A : Around} {v : V} {u : Value} {a : Addr} {its : Array Value} (f : flatV v = true) (r : RelV v u) (p : s.heap.IsList a its) (hu : A.units < cLine) : SeqAt.EqAt A s (.ref a) u false := by
  cases v with
  | non => cases r; exact .list_none p hu
  | bl b => cases r; exact .list_bool b p hu
  | int i => obtain ⟨t, rfl⟩ := r; exact .list_int i t p hu
  | str i => obtain ⟨t, rfl⟩ := r; exact .list_str i t p hu
  | _ => exact absurd (show false = true from f) Bool.false_ne_true
theorem tup_flat {A : Around} {v : V} {u : Value} {a : Addr} {its : Array Value} (f : flatV v = true) (r : RelV v u) (p : s.heap.IsTuple a its) (hu : A.units < cLine) : SeqAt.EqAt A s (.ref a) u false := by
  cases v with
  | non => cases r; exact .tuple_none p hu
  | bl b => cases r; exact .tuple_bool b p hu
  | int i => obtain ⟨t, rfl⟩ := r; exact .tuple_int i t p hu
  | str i => obtain ⟨t, rfl⟩ := r; exact .tuple_str i t p hu
  | _ => exact absurd (show false = true from f) Bool.false_ne_true
theorem at_of {A : Around} {its js : List Value} {e : Nat → Bool} (h : ∀ j u v, its[j]? = some u → js[j]? = some v → SeqAt.EqAt A s u v (e j)) : ∀ j (h1 : j < its.toArray.size) (h2 : j < js.toArray.size), SeqAt.EqAt A s its.toArray[j] js.toArray[j] (e j) := fun j h1 h2 => by
  rw [List.size_toArray] at h1 h2
  rw [List.getElem_toArray, List.getElem_toArray]
  exact h j _ _ (List.getElem?_eq_getElem h1) (List.getElem?_eq_getElem h2)
/-- two lists, two tuples, by their items -/
theorem rc_lists {A : Around} {a b : Addr} {xs ys : List V} {ds es : List D} (I : Inv X pins σ H s) (hu : A.units < cLine) (h1 : SqL X.K H a xs) (h2 : SqL X.K H b ys) (r1 : Reps X.K H ds xs) (r2 : Reps X.K H es ys)
    (h : ∀ its js, Vals xs its → Vals ys js → ∀ j u v, its[j]? = some u → js[j]? = some v → SeqAt.EqAt A.in1 s u v (eAt ds es j)) : SeqAt.RcAt A s (.ref a) (.ref b) (eqDs ds es) ∧ SeqAt.RcNeAt A s (.ref a) (.ref b) (!eqDs ds es) := by
  obtain ⟨its, q1, p1, z1⟩ := I.list h1
  obtain ⟨js, q2, p2, z2⟩ := I.list h2
  have l1 := q1.length
  have l2 := q2.length
  have m1 := r1.len
  have m2 := r2.len
  by_cases hl : ds.length = es.length
  · rw [← eqDs_all hl, show ds.length = its.toArray.size by rw [List.size_toArray]; omega]
    have hz : its.toArray.size = js.toArray.size := by rw [List.size_toArray, List.size_toArray]; omega
    exact ⟨SeqAt.RcAt.lists p1.isList p2.isList hz hu (at_of (h its js q1 q2)), SeqAt.RcNeAt.lists p1.isList p2.isList hz hu (at_of (h its js q1 q2))⟩
  · rw [eqDs_len hl]
    have hz : (its.toArray.size != js.toArray.size) = true := by simp only [List.size_toArray, bne_iff_ne, ne_eq]; omega
    exact ⟨SeqAt.RcAt.lists_lengths p1.isList p2.isList hz hu, SeqAt.RcNeAt.lists_lengths p1.isList p2.isList hz hu⟩
theorem rc_tups {A : Around} {a b : Addr} {xs ys : List V} {ds es : List D} (I : Inv X pins σ H s) (hu : A.units < cLine) (h1 : SqT X.K H a xs) (h2 : SqT X.K H b ys) (r1 : Reps X.K H ds xs) (r2 : Reps X.K H es ys)
    (h : ∀ its js, Vals xs its → Vals ys js → ∀ j u v, its[j]? = some u → js[j]? = some v → SeqAt.EqAt A.in1 s u v (eAt ds es j)) : SeqAt.RcAt A s (.ref a) (.ref b) (eqDs ds es) ∧ SeqAt.RcNeAt A s (.ref a) (.ref b) (!eqDs ds es) := by
  obtain ⟨its, q1, p1, z1⟩ := I.tuple h1
  obtain ⟨js, q2, p2, z2⟩ := I.tuple h2
  have l1 := q1.length
  have l2 := q2.length
  have m1 := r1.len
  have m2 := r2.len
  have e : ((List.range (min its.toArray.size js.toArray.size)).all (eAt ds es) && its.toArray.size == js.toArray.size) = eqDs ds es := by
    rw [List.size_toArray, List.size_toArray]
    by_cases hl : ds.length = es.length
    · rw [← eqDs_all hl, show min its.length js.length = ds.length by omega, show its.length = js.length by omega]
      simp
    · rw [eqDs_len hl]
      have : (its.length == js.length) = false := by simp; omega
      rw [this, Bool.and_false]
  rw [← e]
  exact ⟨SeqAt.RcAt.tuples p1 p2 hu (at_of (h its js q1 q2)), SeqAt.RcNeAt.tuples p1 p2 hu (at_of (h its js q1 q2))⟩
mutual
theorem rep_at (I : Inv X pins σ H s) : ∀ (d e : D) (A : Around) (x y : V) (u v : Value), A.units + dep d + dep e < cLine → Rep X.K H d x → Rep X.K H e y → RelV x u → RelV y v → SeqAt.EqAt A s u v (eqD d e)
  | .at a, .at b, A, x, y, u, v, hu, h1, h2, ru, rv => by
    unfold Rep at h1 h2
    obtain ⟨rfl, f⟩ := h1
    obtain ⟨rfl, g⟩ := h2
    unfold eqD
    exact eqAt_V ru rv f g
  | .at a, .seq t es, A, x, y, u, v, hu, h1, h2, ru, rv => by
    unfold Rep at h1 h2
    obtain ⟨rfl, f⟩ := h1
    obtain ⟨b, ys, rfl, t2, l2, _⟩ := h2
    cases rv
    unfold eqD
    cases t with
    | true => obtain ⟨_, _, p, _⟩ := I.tuple (t2 rfl); exact flat_tup f ru p (by omega)
    | false => obtain ⟨_, _, p, _⟩ := I.list (l2 rfl); exact flat_list f ru p.isList (by omega)
  | .seq t ds, .at b, A, x, y, u, v, hu, h1, h2, ru, rv => by
    unfold Rep at h1 h2
    obtain ⟨rfl, f⟩ := h2
    obtain ⟨a, xs, rfl, t1, l1, _⟩ := h1
    cases ru
    unfold eqD
    cases t with
    | true => obtain ⟨_, _, p, _⟩ := I.tuple (t1 rfl); exact tup_flat f rv p (by omega)
    | false => obtain ⟨_, _, p, _⟩ := I.list (l1 rfl); exact list_flat f rv p.isList (by omega)
  | .seq t ds, .seq t' es, A, x, y, u, v, hu, h1, h2, ru, rv => by
    have k1 := h1
    have k2 := h2
    unfold Rep at h1 h2
    obtain ⟨a, xs, rfl, t1, l1, r1⟩ := h1
    obtain ⟨b, ys, rfl, t2, l2, r2⟩ := h2
    cases ru
    cases rv
    unfold dep at hu
    have hu' : A.in1.units + deps ds + deps es < cLine := by rw [Around.in1_units]; omega
    have hu0 : A.units < cLine := by omega
    by_cases hab : a = b
    · subst hab
      rw [rep_same I _ _ _ k1 k2]
      exact .same _
    · unfold eqD
      cases t with
      | true =>
        cases t' with
        | true => exact .of_refs hab (rc_tups I hu0 (t1 rfl) (t2 rfl) r1 r2 (reps_at I ds es A.in1 xs ys hu' r1 r2)).1
        | false =>
          obtain ⟨_, _, p, _⟩ := I.tuple (t1 rfl)
          obtain ⟨_, _, q, _⟩ := I.list (l2 rfl)
          exact .tuple_list p q.isList hu0
      | false =>
        cases t' with
        | true =>
          obtain ⟨_, _, p, _⟩ := I.list (l1 rfl)
          obtain ⟨_, _, q, _⟩ := I.tuple (t2 rfl)
          exact .list_tuple p.isList q hu0
        | false => exact .of_refs hab (rc_lists I hu0 (l1 rfl) (l2 rfl) r1 r2 (reps_at I ds es A.in1 xs ys hu' r1 r2)).1
theorem reps_at (I : Inv X pins σ H s) : ∀ (ds es : List D) (A : Around) (xs ys : List V), A.units + deps ds + deps es < cLine → Reps X.K H ds xs → Reps X.K H es ys →
    ∀ its js, Vals xs its → Vals ys js → ∀ j u v, its[j]? = some u → js[j]? = some v → SeqAt.EqAt A s u v (eAt ds es j)
  | [], es, A, xs, ys, hu, h1, h2, its, js, q1, q2, j, u, v, e1, e2 => by
    unfold Reps at h1
    subst h1
    cases q1
    simp at e1
  | d :: ds, [], A, xs, ys, hu, h1, h2, its, js, q1, q2, j, u, v, e1, e2 => by
    unfold Reps at h2
    subst h2
    cases q2
    simp at e2
  | d :: ds, e :: es, A, xs, ys, hu, h1, h2, its, js, q1, q2, j, u, v, e1, e2 => by
    unfold Reps at h1 h2
    obtain ⟨y, ys', rfl, k1, r1⟩ := h1
    obtain ⟨z, zs', rfl, k2, r2⟩ := h2
    unfold deps at hu
    cases q1 with
    | cons ru t1 =>
      cases q2 with
      | cons rv t2 =>
        cases j with
        | zero =>
          simp only [List.getElem?_cons_zero, Option.some.injEq] at e1 e2
          subst e1 e2
          exact rep_at I d e A y z _ _ (by omega) k1 k2 ru rv
        | succ j =>
          simp only [List.getElem?_cons_succ] at e1 e2
          exact reps_at I ds es A ys' zs' (by omega) r1 r2 _ _ t1 t2 j u v e1 e2
end
end
section
variable {X : Cx}
/-- == and != of two lists or two tuples -/
def rEqD (K : PySem.W.Frag) (neg : Bool) : R2 := fun x y H Q => ∃ t ds es, Rep K H (.seq t ds) x ∧ Rep K H (.seq t es) y ∧ deps ds + deps es ≤ 40 ∧ Q (.bl (if neg then !eqDs ds es else eqDs ds es)) H
theorem op_D {X : Cx} (neg : Bool) (hu : X.A.units + 64 < cLine) : OpR X (compareOp (if neg then .NotEq else .Eq)) (rEqD X.K neg) := by
  intro pins s σ H x y v u Q I rx ry h
  obtain ⟨t, ds, es, h1, h2, hd, q⟩ := h
  unfold Rep at h1 h2
  obtain ⟨a, xs, rfl, t1, l1, r1⟩ := h1
  obtain ⟨b, ys, rfl, t2, l2, r2⟩ := h2
  cases rx
  cases ry
  have hu' : X.A.in1.units + deps ds + deps es < cLine := by rw [Around.in1_units]; omega
  have hu0 : X.A.units < cLine := by omega
  have z : SeqAt.RcAt X.A s (.ref a) (.ref b) (eqDs ds es) ∧ SeqAt.RcNeAt X.A s (.ref a) (.ref b) (!eqDs ds es) := by
    cases t with
    | true => exact rc_tups I hu0 (t1 rfl) (t2 rfl) r1 r2 (reps_at I ds es X.A.in1 xs ys hu' r1 r2)
    | false => exact rc_lists I hu0 (l1 rfl) (l2 rfl) r1 r2 (reps_at I ds es X.A.in1 xs ys hu' r1 r2)
  cases neg with
  | true => exact z.2 X.prog X.w _ _ ⟨.bl (!eqDs ds es), H, I, rfl, q⟩
  | false => exact z.1 X.prog X.w _ _ ⟨.bl (eqDs ds es), H, I, rfl, q⟩
theorem op_eqD {K : PySem.W.Frag} (hu : X.A.units + 64 < cLine) (hK : X.K = K := by rfl) : OpR X (compareOp .Eq) (rEqD K false) := hK ▸ op_D false hu
theorem room_64 {k : Nat} {A : Around} (hr : Room k A) : A.units + 64 < cLine := hr.units
/-! ### xs[lo::k]: some items of the list -/
end
end L2

namespace L2
open PySem PySem.Spec PyProof.Rows
/-! ### B.m(self, ..): a method called by its class; methods of objects of several classes -/
section
variable {X : Cx} {k : Nat} {m x : Str} {ps : List Str} {sp : Sp} {e : Expr} {es : List Expr} {p apos pos : Pos} {t : TA} {W : St → XK}
/-- o.m(..), o of one of several classes -/
def tMethD (Fam : Addr → Prop) (m : Str) (sp : Addr → Sp) (ta : TE) (t : TA) : TE := fun σ H Q => ta σ H fun x H1 => ∃ a C dx fs, x = .ref a ∧ H1 a = some (.ins C dx fs) ∧ Fam C ∧ fs.lookup m = none ∧ t σ H1 fun vs H2 => sp C (.ref a :: vs) H2 Q E0
structure MFam (P : Program) (w : World) (K : PySem.W.Frag) (mg : Str → Option Value) (base : Heap) (k : Nat) (Fam : Addr → Prop) (m : Str) (ps : List Str) (sp : Addr → Sp) : Prop where
  ex : ∀ C, Fam C → MCal P w K mg base k C m ps (sp C)
theorem pe_methD {Fam : Addr → Prop} {spC : Addr → Sp} {o : Expr} {ta : TE} {pl : Sem Bool} (M : MFam X.prog X.w X.K X.mg X.base k Fam m ps spC) (hr : Room k X.A) (he : PE X o ta) (ha : PA X (e :: es) t)
    (hst : starEach (e :: es) X.env = (false, eval e X.env) :: starEach es X.env := by rfl) (hpl : (backTo pos (starEach es X.env)).any (·.1) = false := by rfl)
    (ht : eval (.Call (.Attribute o m apos) (e :: es) [] pos) X.env = (do
      let ov ← eval o X.env
      standAt apos.atName
      let (f, first) ← holding [ov] (getMethod ov m pl)
      callWith pos f first (backTo pos (starEach (e :: es) X.env)) (backToKw pos (keywordEach [] X.env))) := by rfl) :
    PE X (.Call (.Attribute o m apos) (e :: es) [] pos) (tMethD Fam m spC ta t) := by
  intro pins s σ H Q I h
  refine PySem.W.methodCall_KW (pl := pl) (thn (he pins s σ H _ I h) fun u s1 ⟨x, H1, I1, rx, a, C, dx, fs, ex, ea, hF, l, q⟩ => ?_) ht
  subst ex
  obtain rfl : u = Value.ref a := rx
  obtain ⟨f, fd, F, b, hm⟩ := (M.ex C hF).ex
  refine getmeth_ok I1 ea (M.ex C hF).cl hm l ?_
  refine PySem.W.callWith_K (first := [.ref a]) (h₀ := X.base) I.ok.mod.kin hm.kp (thn (ha pos pins s1 σ H1 _ I1 q) fun us s2 ⟨vs, H2, I2, r, q2⟩ => ⟨I2.kIn, ?_⟩) hst hpl
  exact run_fn (us := .ref a :: us) (vs := .ref a :: vs) F hr b .nil pass0 I2 (.cons rfl r) (by rw [List.append_nil]; exact q2)
end
/-! ### a tuple of the module -/
/-! ### range(a, b, c), c above nought -/
/-! ### a op1 b op2 c op3 d -/
end L2

namespace L2
open PySem PySem.Spec PyProof.Rows
section
variable {X : Cx}
theorem join_le {z : Str} {B : Nat} : ∀ {ps : List Str}, (∀ y ∈ ps, y.length ≤ B) → (Str.join z ps).length ≤ ps.length * (B + z.length)
  | [], _ => by show 0 ≤ _; omega
  | [x], h => by
    have := h x List.mem_cons_self
    show x.length ≤ 1 * (B + z.length)
    omega
  | x :: y :: r, h => by
    have h1 := h x List.mem_cons_self
    have ih := join_le (z := z) (B := B) (ps := y :: r) fun q hq => h q (List.mem_cons_of_mem _ hq)
    show (x ++ z ++ Str.join z (y :: r)).length ≤ _
    have e0 : (x ++ z ++ Str.join z (y :: r)).length = x.length + z.length + (Str.join z (y :: r)).length := by
      show (x.cps ++ z.cps ++ (Str.join z (y :: r)).cps).size = _
      rw [Array.size_append, Array.size_append]
      rfl
    rw [e0]
    have e : (x :: y :: r).length * (B + z.length) = (y :: r).length * (B + z.length) + (B + z.length) := by rw [List.length_cons, Nat.succ_mul]
    omega
/-- z.join(list of texts), of one at least, few and short -/
theorem mt_joinA : MtM X "str.join" (fun x vs H Q => ∃ z p ps, x = .str z ∧ vs = [.ref p] ∧ SqL X.K H p (ps.map V.str) ∧ 1 ≤ ps.length ∧ ps.length ≤ 1000 ∧ z.length ≤ 100 ∧ (∀ y ∈ ps, y.length ≤ 1000) ∧ Q (.str (Str.join z ps)) H) := by
  intro pins s σ H x vs v us Q I rx rv h
  obtain ⟨z, p, ps, rfl, rfl, hl, h1, h2, hz, hb, q⟩ := h
  obtain ⟨t, rfl⟩ := rx
  obtain ⟨w, rfl, ru⟩ := rv.one
  cases ru
  obtain ⟨its, r, pl, _⟩ := I.list hl
  obtain ⟨l, rfl, e⟩ := strs_of r
  have z1 : ps.length * 1000 ≤ 1000 * 1000 := Nat.mul_le_mul_right _ h2
  have z2 : ps.length * z.length ≤ 1000 * 100 := Nat.mul_le_mul h2 hz
  have fit : Builtin.Str.tooLong (ps.toArray.foldl (· + ·.length + z.length) 0) = false := StrLaws.joinFits hb (by omega)
  have le : (Str.join z ps).length ≤ sizeLine := by
    refine Nat.le_trans (join_le hb) ?_
    rw [sizeLine_eq, Nat.mul_add]
    omega
  refine call_meets F.slot_str_join (typeIs_str _ _ _) F.entry_str_join (F.args_str_join_2 _ _) (meets_str_join_list z t p l (by rw [e]; exact fit)) ⟨pl.isList, ?_⟩
  have el : l.length = ps.length := by rw [← e, List.length_map]
  match l, el, e with
  | [], z, _ => simp at z; omega
  | [(y, u)], _, e =>
    have e' : ps = [y] := by rw [← e]; rfl
    subst e'
    exact ⟨.str y, H, I, ⟨u, rfl⟩, q⟩
  | a :: b :: c, _, e =>
    have em : joinMade z (a :: b :: c) = .str (Str.join z ps) := by show Made.str (Builtin.Str.glued _ _) = _; rw [StrLaws.glued_eq_join, e]
    rw [em]
    exact ⟨le, ⟨.str _, H, I.tok _, ⟨_, rfl⟩, q⟩⟩
end
end L2

namespace L2
open PySem PySem.Spec PyProof.Rows
/-! ### C() where there is no __init__ but object's -/
structure Mk0 (K : PySem.W.Frag) (mg : Str → Option Value) (x : Str) (C : Addr) : Prop where
  makes : PySem.W.makesIn K C = true
  init : PySem.W.findIn K (.ref C) "__init__" = some (some (.builtin "object.__init__"))
  kp : PySem.W.keepIn K (.ref C) = true
  at_ : mg x = some (.ref C)
def tNew (C : Addr) : TE := fun _ H Q => ∀ y dx, H y = none → H dx = none → dx ≠ y → Q (.ref y) (upd (upd H dx (.own y)) y (.ins C dx []))
theorem pe_new0 {X : Cx} {x : Str} {C : Addr} {p pos : Pos} (M : Mk0 X.K X.mg x C) (hg : Gl X x) (hdb : (x == ("__debug__" : Str)) = false := by decide) : PE X (.Call (.Name x p) [] [] pos) (tNew C) := by
  intro pins s σ H Q I h
  refine wpAny_Call_Name_kw (ld_glob I hg M.at_ ?_ hdb)
  refine PySem.W.callWith_K0 I.kIn M.kp (wpAny_call (make_map0 I.kIn M.makes M.init (fun self => PySem.W.Looks.of_pure (PySem.W.oi_bind self)) ?_))
  have hq := h (s.heap.objs.size + 1) s.heap.objs.size (I.hok.fresh (Nat.le_succ _)) (I.hok.fresh (Nat.le_refl _)) (Nat.ne_of_lt (Nat.lt_succ_self _))
  have I2 := Inv.made (C := C) I
  have Y := PySem.W.makes_of (M := model X.prog X.w) I.kIn M.makes
  have ob : ((s.heap.push PySem.W.emptyDict).push (PySem.W.instObj C s.heap.objs.size)).get? (s.heap.objs.size + 1) = some (PySem.W.instObj C s.heap.objs.size) := by
    have e : (s.heap.push PySem.W.emptyDict).objs.size = s.heap.objs.size + 1 := by rw [Heap.size_push]
    rw [← e]
    exact Heap.get?_push_size _ rfl
  have t1 : PySem.W.Looks (model X.prog X.w) ((s.heap.push PySem.W.emptyDict).push (PySem.W.instObj C s.heap.objs.size)) (typeOf (.ref (s.heap.objs.size + 1))) (.ref C) := (PySem.W.Looks.ld ob).andThen .now
  have t2 : PySem.W.Looks (model X.prog X.w) ((s.heap.push PySem.W.emptyDict).push (PySem.W.instObj C s.heap.objs.size)) (isInstance (.ref (s.heap.objs.size + 1)) (.type "object")) true := t1.andThen (Y.top.keeps fun b o e => Heap.get?_push_of_some _ (Heap.get?_push_of_some _ e))
  obtain ⟨hh, g, d, t, os⟩ := s
  refine codeAny_call_builtin PySem.W.oi_plain PySem.W.entry_oi (@PySem.W.check_slot (model X.prog X.w) _ _ _ "object.__init__" "object" "__init__" (.ref (hh.objs.size + 1)) [] [] _ PySem.W.oi_kind PySem.W.oi_split t2 (PySem.W.oi_args (.ref (hh.objs.size + 1))) ?_)
  rw [PySem.W.oi_run]
  exact wpAny_pure (And.intro rfl ⟨V.ref (hh.objs.size + 1), _, I2, rfl, hq⟩)
end L2

namespace L2
open PySem PySem.Spec PyProof.Rows
/-! ### x (not) in a tuple of texts, for x of any kind; z.upper() -/
theorem strs_flat : ∀ ss : List Str, (ss.map V.str).all flatV = true
  | [] => rfl
  | _ :: r => by show (true && (r.map V.str).all flatV) = true; rw [strs_flat r]; rfl
end L2

namespace L2
open PySem PySem.Spec PyProof.Rows

/-! ### for .. in reversed(xs), a list that stays -/
end L2

/-! Sorting by a tree of questions: what comes out is in order. -/
namespace CRS
open PySem PySem.W PyProof.Rows
section
variable {lt : Nat → Nat → Bool} {V : Nat → Prop}
end
section
variable {O : KeyOrd} {key : Nat → O.α} {N : Nat}
def kk (key : Nat → O.α) (p : Array Nat) (i : Nat) : O.α := key (p.getD i 0)
variable {β : Type}
/-- the last q + 1 of the first n are alike -/
def Tl (key : Nat → O.α) (p : Array Nat) (n q : Nat) : Prop := q + 1 ≤ n ∧ ∀ i, n - (q + 1) ≤ i → i < n → kk key p i = kk key p (n - 1)
theorem Tl.one {p : Array Nat} {n : Nat} : Tl key p (n + 1) 0 := ⟨by omega, fun i a b => by rw [show i = n + 1 - 1 by omega]⟩
end
end CRS

namespace L2
open PySem PySem.Spec PyProof.Rows PySem.W

/-! ### sorting lists of tuples of ints -/

section
variable {prog : Program} {w : World} {A : Around} {E : Value → Shared → Prop} {s : Shared}
/-! #### tuples of ints -/
end
section
variable {X : Cx}
end
section
variable {X : Cx}
/-! ### the truth of a list in a test -/
end
end L2

namespace L2
open PySem PySem.Spec PyProof.Rows
/-! ### a def with default arguments, all of its arguments given -/
section
variable {P : Program} {w : World} {K : PySem.W.Frag} {mg : Str → Option Value} {base : Heap}
end
end L2
namespace L2
open PySem PySem.Spec PyProof.Rows
end L2

namespace L2
open PySem PySem.Spec PyProof.Rows

/-! ### zip(xs, ys), its pairs unpacked by the target -/
def Itz (K : PySem.W.Frag) (a b : Addr) : It :=
  ⟨fun i H => ∃ xs ys x y, SqL K H a xs ∧ SqL K H b ys ∧ xs[i]? = some x ∧ ys[i]? = some y,
   fun i H v H' => ∃ t x y, v = .ref t ∧ H t = none ∧ (∀ xs, SqL K H a xs → xs[i]? = some x) ∧ (∀ ys, SqL K H b ys → ys[i]? = some y) ∧ H' = upd H t (.tup [x, y]),
   fun i H => ∃ xs ys, SqL K H a xs ∧ SqL K H b ys ∧ (xs.length ≤ i ∨ ys.length ≤ i)⟩
/-- the objects of a zip lie apart -/
structure Zp (z u o i j : Addr) : Prop where
  uz : u ≠ z
  oz : o ≠ z
  iz : i ≠ z
  jz : j ≠ z
  uo : u ≠ o
  ui : u ≠ i
  uj : u ≠ j
  oi : o ≠ i
  oj : o ≠ j
  ij : i ≠ j
def ZipSt (a b z u o i j : Addr) (k : Nat) (h : Heap) : Prop := IsZip h z u o .none ∧ IsPair h u (.ref i) (.ref j) ∧ (∃ x y, IsPair h o x y) ∧ h.IsListIter i a k ∧ h.IsListIter j b k
theorem zip_apart {a b z u o i j : Addr} {k : Nat} {h : Heap} {xs ys : Array Value} (D : Zp z u o i j) (st : ZipSt a b z u o i j k h) (ha : h.IsList a xs) (hb : h.IsList b ys) : ZipApart z u o i j a b := by
  obtain ⟨hz, hu, ⟨x, y, ho⟩, ⟨oi, ei, ci, _⟩, ⟨oj, ej, cj, _⟩⟩ := st
  have ne : ∀ {c d : Addr} {p q : Obj} {zs : Array Value}, h.IsList c zs → h.get? d = some q → q.cls ≠ .type "list" → c ≠ d := fun {c d p q zs} hl hd hn e => by
    obtain ⟨p', hp, hc, _⟩ := hl
    rw [e, hd] at hp
    cases hp
    exact hn hc
  have nz : (Value.type "zip") ≠ .type "list" := by decide +kernel
  have nt : (Value.type "tuple") ≠ .type "list" := by decide +kernel
  have ni : (Value.type "list_iterator") ≠ .type "list" := by decide +kernel
  have hci : oi.cls ≠ .type "list" := by rw [ci]; exact ni
  have hcj : oj.cls ≠ .type "list" := by rw [cj]; exact ni
  constructor <;> first
    | exact D.uz | exact D.oz | exact D.iz | exact D.jz | exact D.uo | exact D.ui | exact D.uj | exact D.oi | exact D.oj | exact D.ij
    | exact ne (p := oi) ha hz nz | exact ne (p := oi) hb hz nz | exact ne (p := oi) ha ho nt | exact ne (p := oi) hb ho nt | exact ne (p := oi) ha hu nt | exact ne (p := oi) hb hu nt
    | exact ne (p := oi) ha ei hci | exact ne (p := oi) hb ei hci | exact ne (p := oi) ha ej hcj | exact ne (p := oi) hb ej hcj
theorem turn_zip {P : Program} {w : World} {K : PySem.W.Frag} {elts : List Expr} {n : Nat} {tp : Pos} (a b z u o i j : Addr) (D : Zp z u o i j) :
    Turn P w K (.Tuple elts n tp) (Itz K a b) [z, u, o, i, j] z (ZipSt a b z u o i j) where
  mem := by simp
  obj := fun k h st c hc => by
    obtain ⟨hz, hu, ⟨x, y, ho⟩, ⟨oi, ei, ci, di⟩, ⟨oj, ej, cj, dj⟩⟩ := st
    simp only [List.mem_cons, List.not_mem_nil, or_false] at hc
    rcases hc with rfl | rfl | rfl | rfl | rfl
    · exact ⟨_, hz, fun v q => by
        have q' : Data.fields _ = Data.cell v := q
        cases q'⟩
    · exact ⟨_, hu, fun v q => by
        have q' : Data.seq _ _ = Data.cell v := q
        cases q'⟩
    · exact ⟨_, ho, fun v q => by
        have q' : Data.seq _ _ = Data.cell v := q
        cases q'⟩
    · exact ⟨oi, ei, fun v q => by rw [di] at q; cases q⟩
    · exact ⟨oj, ej, fun v q => by rw [dj] at q; cases q⟩
  keep := fun k h h' st kk => by
    obtain ⟨hz, hu, ⟨x, y, ho⟩, h1, h2⟩ := st
    exact ⟨kk z (by simp) _ hz, kk u (by simp) _ hu, ⟨x, y, kk o (by simp) _ ho⟩, h1.at fun ob e => kk i (by simp) ob e, h2.at fun ob e => kk j (by simp) ob e⟩
  item := by
    intro X hP hw hK hc k pins s σ H E I hf st hg
    subst hP hw hK
    obtain ⟨xs, ys, x, y, hq1, hq2, hx, hy⟩ := hg
    obtain ⟨its, rv, p, hz⟩ := I.list hq1
    obtain ⟨jts, rv', p', hz'⟩ := I.list hq2
    obtain ⟨v, hv, ru⟩ := rv.get hx
    obtain ⟨v', hv', ru'⟩ := rv'.get hy
    have DD := zip_apart D st p.isList p'.isList
    obtain ⟨sz, su, ⟨x0, y0, so⟩, s1, s2⟩ := id st
    have fz := hf z (by simp)
    have fu := hf u (by simp)
    have fo := hf o (by simp)
    have fi := hf i (by simp)
    have fj := hf j (by simp)
    refine wpAny_pyNext_zip_item DD sz su so s1 s2 p.isList p'.isList (x := v) (y := v') (by simpa using hv) (by simpa using hv') fun h1 a1 a2 a3 a4 a5 a6 hk => ⟨_, rfl, ?_⟩
    refine wpAny_letOwnedTupleGo_zip a1 fun h2 hz2 hs2 => ?_
    have hs2' : Heap.SameBut z h1 h2 := hs2
    have hzlt : z < s.heap.objs.size := Heap.lt_size sz
    have hnT : H s.heap.objs.size = none := I.hok.fresh (Nat.le_refl _)
    have up : ∀ c ob, c ≠ z → c ≠ o → c ≠ i → c ≠ j → s.heap.get? c = some ob → h2.get? c = some ob := fun c ob c1 c2 c3 c4 q => (hs2'.2 c c1).trans (hk c ob c1 c2 c3 c4 q)
    have nch : ∀ c, c ∉ [z, o, i, j] → c ≠ z ∧ c ≠ o ∧ c ≠ i ∧ c ≠ j := fun c hc => by
      simp only [List.mem_cons, List.not_mem_nil, or_false, not_or] at hc
      exact hc
    have ntr : ∀ c ob, H c = some ob → c ≠ z ∧ c ≠ o ∧ c ≠ i ∧ c ≠ j := fun c ob q =>
      ⟨fun e => by (rw [e, fz.1] at q; cases q), fun e => by (rw [e, fo.1] at q; cases q), fun e => by (rw [e, fi.1] at q; cases q), fun e => by (rw [e, fj.1] at q; cases q)⟩
    have up2 : ∀ c ob, c ∉ [z, o, i, j] → s.heap.get? c = some ob → h2.get? c = some ob := fun c ob hc q => up c ob (nch c hc).1 (nch c hc).2.1 (nch c hc).2.2.1 (nch c hc).2.2.2 q
    have up3 : ∀ c ob ob', H c = some ob' → s.heap.get? c = some ob → h2.get? c = some ob := fun c ob ob' hc q => up c ob (ntr c ob' hc).1 (ntr c ob' hc).2.1 (ntr c ob' hc).2.2.1 (ntr c ob' hc).2.2.2 q
    have htup : h2.get? s.heap.objs.size = some { cls := .type "tuple", data := .seq #[v, v'] } := (hs2'.2 _ (Nat.ne_of_gt hzlt)).trans a5
    have I1 : Inv X pins σ (upd H s.heap.objs.size (.tup [x, y])) { s with heap := h2, gens := s.gens, drawn := s.drawn, toks := s.toks } := by
      refine I.step (ch := [z, o, i, j]) (fun c hc => ?_) (fun c ob _ _ hc q _ => up2 c ob hc q) (fun c ob _ _ hc q _ => ⟨ob.slots, up2 c ob hc q⟩) (fun c ob _ q n => by rw [upd_ne (Nat.ne_of_lt (Heap.lt_size q))]; exact n)
        (fun c ob hc q => ⟨ob, up2 c ob hc q⟩) (fun c xs q => by rw [upd_ne (ne_of_none q hnT)]; exact q) (fun c ob u q => by rw [upd_ne (ne_of_none q hnT)]; exact q) (fun c ps q => ⟨#[], by rw [upd_ne (ne_of_none q hnT), q]; simp⟩)
        (fun m hm => ?_) (fun c ob q => ?_) I.bare
      · simp only [List.mem_cons, List.not_mem_nil, or_false] at hc
        rcases hc with rfl | rfl | rfl | rfl
        · exact ⟨fz.2.2.2.1, fz.2.1, fz.2.2.2.2.1, fz.2.2.2.2.2⟩
        · exact ⟨fo.2.2.2.1, fo.2.1, fo.2.2.2.2.1, fo.2.2.2.2.2⟩
        · exact ⟨fi.2.2.2.1, fi.2.1, fi.2.2.2.2.1, fi.2.2.2.2.2⟩
        · exact ⟨fj.2.2.2.1, fj.2.1, fj.2.2.2.2.1, fj.2.2.2.2.2⟩
      · obtain ⟨ob, es, ep, hoL, r⟩ := hm
        exact ⟨ob, es, ep, up _ ob (Ne.symm fz.2.1) (Ne.symm fo.2.1) (Ne.symm fi.2.1) (Ne.symm fj.2.1) hoL, r⟩
      · by_cases hb : c = s.heap.objs.size
        · subst hb
          rw [upd_same] at q
          cases q
          exact ⟨le_line (by show 2 ≤ 1000; decide), [v, v'], .cons ru (.cons ru' .nil), _, htup, rfl, _, rfl⟩
        · rw [upd_ne hb] at q
          refine (I.hok c ob q).stay (fun d w' hd q2 => ?_) (fun d q2 => by rw [upd_ne (ne_of_none q2 hnT)]; exact q2) (fun d zs q2 => by rw [upd_ne (ne_of_none q2 hnT)]; exact q2)
          rcases hd with rfl | hd
          · exact up3 _ w' _ q q2
          · exact up3 _ w' _ hd q2
    refine ⟨.ref s.heap.objs.size, _, I1, rfl, ⟨_, x, y, rfl, hnT, fun zs hy' => by rw [I.list_inj hy' hq1]; exact hx, fun zs hy' => by rw [I.list_inj hy' hq2]; exact hy, rfl⟩, ⟨hz2, ?_, ⟨v, v', ?_⟩, ?_, ?_⟩, fun c hc => ?_⟩
    · exact (hs2'.2 u D.uz).trans (hk u _ D.uz D.uo D.ui D.uj su)
    · exact (hs2'.2 o D.oz).trans a2
    · exact a3.at fun ob q => (hs2'.2 i D.iz).trans q
    · exact a4.at fun ob q => (hs2'.2 j D.jz).trans q
    · have hl : c < s.heap.objs.size := by
        simp only [List.mem_cons, List.not_mem_nil, or_false] at hc
        rcases hc with rfl | rfl | rfl | rfl | rfl
        · exact Heap.lt_size sz
        · exact Heap.lt_size su
        · exact Heap.lt_size so
        · obtain ⟨_, q, _⟩ := s1; exact Heap.lt_size q
        · obtain ⟨_, q, _⟩ := s2; exact Heap.lt_size q
      rw [upd_ne (Nat.ne_of_lt hl)]
      exact (hf c hc).1
  done := by
    intro X hP hw hK hc k pins s σ H E I hf st hg
    subst hP hw hK
    obtain ⟨xs, ys, hq1, hq2, hle⟩ := hg
    obtain ⟨its, rv, p, hz⟩ := I.list hq1
    obtain ⟨jts, rv', p', hz'⟩ := I.list hq2
    have DD := zip_apart D st p.isList p'.isList
    obtain ⟨sz, su, ⟨x0, y0, so⟩, s1, s2⟩ := id st
    have fz := hf z (by simp)
    have fo := hf o (by simp)
    have fi := hf i (by simp)
    have fj := hf j (by simp)
    have hl := rv.length
    have hl' := rv'.length
    refine wpAny_pyNext_zip_end (I.ok.hd hc) DD sz su so s1 s2 p.isList p'.isList ?_ fun h' hk => ⟨rfl, ?_⟩
    · rcases hle with e | e
      · exact .inl (by simp; omega)
      · exact .inr (by simp; omega)
    · have nch : ∀ c, c ∉ [z, o, i, j] → c ≠ z ∧ c ≠ o ∧ c ≠ i ∧ c ≠ j := fun c hc => by
        simp only [List.mem_cons, List.not_mem_nil, or_false, not_or] at hc
        exact hc
      have ntr : ∀ c ob, H c = some ob → c ≠ z ∧ c ≠ o ∧ c ≠ i ∧ c ≠ j := fun c ob q =>
        ⟨fun e => by (rw [e, fz.1] at q; cases q), fun e => by (rw [e, fo.1] at q; cases q), fun e => by (rw [e, fi.1] at q; cases q), fun e => by (rw [e, fj.1] at q; cases q)⟩
      have up2 : ∀ c ob, c ∉ [z, o, i, j] → s.heap.get? c = some ob → h'.get? c = some ob := fun c ob hc q => hk c ob (nch c hc).1 (nch c hc).2.1 (nch c hc).2.2.1 (nch c hc).2.2.2 q
      have up3 : ∀ c ob ob', H c = some ob' → s.heap.get? c = some ob → h'.get? c = some ob := fun c ob ob' hc q => hk c ob (ntr c ob' hc).1 (ntr c ob' hc).2.1 (ntr c ob' hc).2.2.1 (ntr c ob' hc).2.2.2 q
      refine I.step (H' := H) (ch := [z, o, i, j]) (fun c hc => ?_) (fun c ob _ _ hc q _ => up2 c ob hc q) (fun c ob _ _ hc q _ => ⟨ob.slots, up2 c ob hc q⟩) (fun c ob _ q n => n)
        (fun c ob hc q => ⟨ob, up2 c ob hc q⟩) (fun c xs q => q) (fun c ob u q => q) (fun c ps q => ⟨#[], by rw [q]; simp⟩)
        (fun m hm => ?_) (fun c ob q => ?_) I.bare
      · simp only [List.mem_cons, List.not_mem_nil, or_false] at hc
        rcases hc with rfl | rfl | rfl | rfl
        · exact ⟨fz.2.2.2.1, fz.2.1, fz.2.2.2.2.1, fz.2.2.2.2.2⟩
        · exact ⟨fo.2.2.2.1, fo.2.1, fo.2.2.2.2.1, fo.2.2.2.2.2⟩
        · exact ⟨fi.2.2.2.1, fi.2.1, fi.2.2.2.2.1, fi.2.2.2.2.2⟩
        · exact ⟨fj.2.2.2.1, fj.2.1, fj.2.2.2.2.1, fj.2.2.2.2.2⟩
      · obtain ⟨ob, es, ep, hoL, r⟩ := hm
        exact ⟨ob, es, ep, hk _ ob (Ne.symm fz.2.1) (Ne.symm fo.2.1) (Ne.symm fi.2.1) (Ne.symm fj.2.1) hoL, r⟩
      · refine (I.hok c ob q).stay (fun d w' hd q2 => ?_) (fun d q2 => q2) (fun d zs q2 => q2)
        rcases hd with rfl | hd
        · exact up3 _ w' _ q q2
        · exact up3 _ w' _ hd q2
  self := fun _ _ _ _ _ st h => wpAny_pyIter_zip st.1 h
end L2

namespace L2
open PySem PySem.Spec PyProof.Rows
/-! ### a text told several times -/
/-! ### a class whose __init__ has defaults, some of its arguments given -/
end L2

namespace L2
open PySem PySem.Spec PyProof.Rows
/-! ### raising while an exception is handled -/
section
variable {prog : Program} {w : World} {A : Around} {E : Value → Shared → Prop} {s : Shared}
end
/-! ### contexts in which something may be handled -/
section
variable {X : Cx} {pins : List (Addr × Obj)} {σ : St} {H : Hp} {s : Shared}
end
end L2

namespace L2
open PySem PySem.Spec PyProof.Rows
/-! ### defs that may be called whether or not an exception is handled; they may walk texts, and raise -/
section
variable {P : Program} {w : World} {K : PySem.W.Frag} {mg : Str → Option Value} {base : Heap} {N ps : List Str} {qual : Str} {scope : Scope} {f : Addr} {cd : Value} {A : Around} {outer : List Env} {s0 : Shared} {H0 : Hp} {E : XK} {k : Nat} {sp : Sp} {x : Str} {st : Stmt} {fd : FuncData}
end
section
variable {X : Cx} {k : Nat} {f : Addr} {fd : FuncData} {ps : List Str} {sp : Sp} {x : Str} {p pos : Pos} {e : Expr} {es : List Expr} {t : TA} {W : St → XK}
end
/-! ### raise C(..), whatever is handled -/
section
variable {prog : Program} {w : World} {A : Around} {E : Value → Shared → Prop} {env : Env}
variable {nm q : Str} {C N : Addr} {bs bm bmB : List Value} {hdct : Bool} {sn : List Str} {sub : List Value} {ab : Bool} {col : Option Bool} {dd : Option Addr} {k0 k1 k2 k3 k5 : Option Value} {B newId initId : String}
end
/-! ### try, one clause: the suite may call what raises -/
section
variable {X : Cx} {x n : Str} {Ch : Addr} {i : Nat} {body suite : List Stmt} {b₀ : Stmt} {tb : (St → XK) → TS} {ts : TS} {np hpos pos : Pos} {pins : List (Addr × Obj)} {σ : St} {H : Hp} {s : Shared} {e : Addr} {oe : Obj}
end
end L2

namespace L2
open PySem PySem.Spec PyProof.Rows PySem.W

/-! ### an untracked thing of ours is tracked -/
section
variable {X : Cx} {pins : List (Addr × Obj)} {σ : St} {H H' : Hp} {s : Shared}
end

/-! ### a call of a lambda -/

/-! ### a lambda is made -/
section
variable {X : Cx} {pins : List (Addr × Obj)} {σ : St} {H : Hp} {s : Shared}
end

/-! ### sorted with a key -/
section
variable {prog : Program} {w : World} {A : Around} {E : Value → Shared → Prop} {s : Shared}
end
section
variable {X : Cx} {pins : List (Addr × Obj)} {σ : St} {H : Hp} {s : Shared}
end
end L2

namespace L2
open PySem PySem.Spec PyProof.Rows PySem.W

/-! ### xs.insert(i, y) -/
section
variable {X : Cx}
end

/-! ### x not in a list of things of things -/

/-! ### the head, where a code's table may grow -/
end L2

namespace CRL
open PySem L2
/-! ### tuples stay -/
/-! ### rows that wait -/
abbrev Tr := Int × Int × Int
/-! ### their order -/
/-! ### triples -/
def dTr (p : Tr) : D := .seq true [.at (.int p.1), .at (.int p.2.1), .at (.int p.2.2)]
theorem dTr_dep : ∀ ps : List Tr, deps (ps.map dTr) ≤ 1
  | [] => by rw [List.map_nil]; unfold deps; omega
  | p :: ps => by
    rw [List.map_cons]
    unfold deps
    have := dTr_dep ps
    have e : dep (dTr p) = 1 := by
      unfold dTr dep deps deps deps deps dep
      rfl
    omega
/-! ### lists of one's own, apart from one another -/
/-! ### the lambda's code -/
/-! ### the rows' keeper -/
end CRL

namespace L2
open PySem PySem.Spec PyProof.Rows PySem.W
/-! ### promises put together -/
section
variable {P : Program} {w : World} {K : PySem.W.Frag} {mg : Str → Option Value} {base : Heap} {k : Nat} {f : Addr} {fd : FuncData} {ps : List Str} {sp sp1 sp2 : Sp}
/-- one that may raise, where it doesn't -/
theorem FnOk.ofX (F : FnOk P w K mg base (CX1 P w) k f fd ps sp) : FnOk P w K mg base CX0 k f fd ps (fun vs H Q _ => sp vs H Q E0) :=
  ⟨fun vs H Q _ h => F.len vs H Q E0 h, fun A outer s H args us vs Q E hr e b r h => codeAny_mono (F.run A outer s H args us vs Q E0 hr e b r h) fun q s' hq => by
    cases q with
    | error v =>
      obtain ⟨_, _, _, _, _, _, _, _, _, _, _, z⟩ := (show CX1 P w _ _ _ _ _ _ from hq)
      exact z
    | ok fl => cases fl <;> exact hq⟩
end
/-! ### a class whose __init__ has defaults and may raise -/
section
variable {X : Cx} {k : Nat} {f C : Addr} {fd : FuncData} {ps : List Str} {sp : Sp} {x : Str} {p pos : Pos} {e : Expr} {es : List Expr} {t : TA} {W : St → XK} {dvs : List V} {ds : List Value}
end
/-! ### xs.index(y), y is there -/
/-! ### != of two lists of lists, each with the very same items -/
end L2

/-! Sets of ints made from lists: their tables stay in order. -/
namespace CST
open PySem
/-! ### the set, by its members in their order -/
section
variable {prog : Program} {w : World} {K : Type} [DecidableEq K] (knd : KeyKind prog w K)
variable {knd}
variable {A : Around} {E : Value → Shared → Prop} {s : Shared}
end
end CST

namespace CST
open PySem
/-! ### the set's iterator: facts of the table -/
end CST

namespace CST
open PySem
/-! ### a set's iterator: its turns -/
section
variable {prog : Program} {w : World} {A : Around} {E : Value → Shared → Prop} {s : Shared} {I a : Addr} {i n ep slot nx : Nat} {x : Value} {o : Obj} {es : Array (Int × Value)} {t : SetTable} {Q : Option Value → Shared → Prop}
end
end CST

namespace CST
open PySem
/-! ### what the set's iterator tells next -/
end CST

namespace CST
open PySem
section
variable {prog : Program} {w : World} {A : Around} {E : Value → Shared → Prop} {s : Shared} {a : Addr} {o : Obj} {es : Array (Int × Value)} {ep : Nat} {t : SetTable}
/-! ### what setNext tells -/
/-! ### drawing an order -/
end
end CST

namespace CST
open PySem
section
variable {prog : Program} {w : World} {A : Around} {E : Value → Shared → Prop} {s : Shared} {I a T : Addr} {i n ep slot : Nat} {o : Obj} {es : Array (Int × Value)} {t : SetTable} {Q : Option Value → Shared → Prop}
/-! ### the set's iterator: the other turns, the end -/
/-! ### iter(set) -/
end
end CST

namespace CST
open PySem
section
variable {prog : Program} {w : World} {A : Around} {E : Value → Shared → Prop} {I a : Addr} {es : Array (Int × Value)} {ep : Nat} {t : SetTable}
/-! ### a set walked -/
end
end CST

namespace CST
open PySem
section
variable {prog : Program} {w : World} {A : Around} {E : Value → Shared → Prop} {s : Shared} {a : Addr} {o : Obj} {es : Array (Int × Value)} {ep : Nat} {t : SetTable}
/-! ### a set's values as a list -/
end
end CST

namespace CST
open PySem
section
variable {prog : Program} {w : World} {A : Around} {E : Value → Shared → Prop} {s : Shared}
/-! ### set(list of ints) -/
variable {R : Result → Shared → Prop} {I : Addr} {fp wr : List Addr} {G : Array GenState → Array GenState → Prop} {n : Nat} {P : Nat → Value → Prop} {St : Nat → Shared → Prop}
end
end CST

namespace CST
open PySem
section
variable {prog : Program} {w : World} {A : Around} {E : Value → Shared → Prop} {s : Shared}
end
end CST

namespace CST
open PySem PyProof.Rows
section
variable {prog : Program} {w : World} {A : Around} {E : Value → Shared → Prop} {s : Shared}
end
end CST
namespace L2
open PySem PySem.Spec PyProof.Rows PySem.W
/-! ### sorted(xs), xs a list of ints -/
section
variable {X : Cx}
/-! ### sorted(set(xs)), xs a list of ints -/
end
end L2

namespace L2
open PySem PySem.Spec PyProof.Rows PySem.W
/-! ### min(xs), max(xs) of ints: the least, the greatest -/
section
variable {X : Cx}
/-! ### xs.extend(tuple) -/
end
end L2

namespace L2
open PySem PySem.Spec PyProof.Rows
/-! ### xs != [], xs == [], whatever the items -/
/-! ### range(a, b, c), c below nought -/
end L2

namespace L2
open PySem PySem.Spec PyProof.Rows
/-! ### conditions with parts: trees, objects, tuples -/
inductive Co where
  | alw | cau (n : Str) | thi (n : Str) | day (a b : Int) | ovr (m : Int)
inductive Cnd where
  | at (c : Co) | no (t : Cnd) | al (ts : List Cnd) | so (ts : List Cnd)
/-- the eight classes' addresses -/
structure A8 where
  a0 : Addr
  a1 : Addr
  a2 : Addr
  a3 : Addr
  a4 : Addr
  a5 : Addr
  a6 : Addr
  a7 : Addr
def A8.l (κ : A8) : List Addr := [κ.a0, κ.a1, κ.a2, κ.a3, κ.a4, κ.a5, κ.a6, κ.a7]
def A8.cl (κ : A8) (i : Nat) : Addr := κ.l.getD i 0
theorem A8.inj {κ : A8} (nd : κ.l.Nodup) {i j : Nat} (hi : i < 8) (hj : j < 8) (h : κ.cl i = κ.cl j) : i = j := by
  have hl : κ.l.length = 8 := rfl
  unfold A8.cl at h
  rw [List.getD_eq_getElem?_getD, List.getD_eq_getElem?_getD, List.getElem?_eq_getElem (by omega), List.getElem?_eq_getElem (by omega)] at h
  have p := List.pairwise_iff_getElem.mp nd
  rcases Nat.lt_trichotomy i j with c | c | c
  · exact absurd h (p i j (by omega) (by omega) c)
  · exact c
  · exact absurd h.symm (p j i (by omega) (by omega) c)
def kd : Cnd → Nat
  | .at .alw => 0
  | .at (.cau _) => 1
  | .at (.thi _) => 2
  | .at (.day _ _) => 3
  | .at (.ovr _) => 4
  | .no _ => 5
  | .al _ => 6
  | .so _ => 7
theorem kd_lt (t : Cnd) : kd t < 8 := by
  cases t with
  | «at» c => cases c <;> simp [kd]
  | no t => exact (by decide : 5 < 8)
  | al ts => exact (by decide : 6 < 8)
  | so ts => exact (by decide : 7 < 8)
def A8.of (κ : A8) (t : Cnd) : Addr := κ.cl (kd t)
def A8.Fam (κ : A8) (C : Addr) : Prop := C = κ.a0 ∨ C = κ.a1 ∨ C = κ.a2 ∨ C = κ.a3 ∨ C = κ.a4 ∨ C = κ.a5 ∨ C = κ.a6 ∨ C = κ.a7
theorem A8.fam (κ : A8) (t : Cnd) : κ.Fam (κ.of t) := by
  cases t with
  | «at» c =>
    cases c with
    | alw => exact .inl rfl
    | cau _ => exact .inr (.inl rfl)
    | thi _ => exact .inr (.inr (.inl rfl))
    | day _ _ => exact .inr (.inr (.inr (.inl rfl)))
    | ovr _ => exact .inr (.inr (.inr (.inr (.inl rfl))))
  | no t => exact .inr (.inr (.inr (.inr (.inr (.inl rfl)))))
  | al ts => exact .inr (.inr (.inr (.inr (.inr (.inr (.inl rfl))))))
  | so ts => exact .inr (.inr (.inr (.inr (.inr (.inr (.inr rfl))))))
section
variable {κ : A8} {t : Cnd}
theorem kd0 (nd : κ.l.Nodup) (h : κ.of t = κ.a0) : t = .at .alw := by
  have e : kd t = 0 := A8.inj nd (kd_lt t) (by decide) h
  cases t with
  | «at» c => cases c <;> first | rfl | (simp [kd] at e)
  | _ => simp [kd] at e
theorem kd1 (nd : κ.l.Nodup) (h : κ.of t = κ.a1) : ∃ n, t = .at (.cau n) := by
  have e : kd t = 1 := A8.inj nd (kd_lt t) (by decide) h
  cases t with
  | «at» c => cases c <;> first | exact ⟨_, rfl⟩ | (simp [kd] at e)
  | _ => simp [kd] at e
theorem kd2 (nd : κ.l.Nodup) (h : κ.of t = κ.a2) : ∃ n, t = .at (.thi n) := by
  have e : kd t = 2 := A8.inj nd (kd_lt t) (by decide) h
  cases t with
  | «at» c => cases c <;> first | exact ⟨_, rfl⟩ | (simp [kd] at e)
  | _ => simp [kd] at e
theorem kd3 (nd : κ.l.Nodup) (h : κ.of t = κ.a3) : ∃ a b, t = .at (.day a b) := by
  have e : kd t = 3 := A8.inj nd (kd_lt t) (by decide) h
  cases t with
  | «at» c => cases c <;> first | exact ⟨_, _, rfl⟩ | (simp [kd] at e)
  | _ => simp [kd] at e
theorem kd4 (nd : κ.l.Nodup) (h : κ.of t = κ.a4) : ∃ n, t = .at (.ovr n) := by
  have e : kd t = 4 := A8.inj nd (kd_lt t) (by decide) h
  cases t with
  | «at» c => cases c <;> first | exact ⟨_, rfl⟩ | (simp [kd] at e)
  | _ => simp [kd] at e
theorem kd5 (nd : κ.l.Nodup) (h : κ.of t = κ.a5) : ∃ u, t = .no u := by
  have e : kd t = 5 := A8.inj nd (kd_lt t) (by decide) h
  cases t with
  | «at» c => cases c <;> simp [kd] at e
  | no u => exact ⟨_, rfl⟩
  | _ => simp [kd] at e
theorem kd6 (nd : κ.l.Nodup) (h : κ.of t = κ.a6) : ∃ u, t = .al u := by
  have e : kd t = 6 := A8.inj nd (kd_lt t) (by decide) h
  cases t with
  | «at» c => cases c <;> simp [kd] at e
  | al u => exact ⟨_, rfl⟩
  | _ => simp [kd] at e
theorem kd7 (nd : κ.l.Nodup) (h : κ.of t = κ.a7) : ∃ u, t = .so u := by
  have e : kd t = 7 := A8.inj nd (kd_lt t) (by decide) h
  cases t with
  | «at» c => cases c <;> simp [kd] at e
  | so u => exact ⟨_, rfl⟩
  | _ => simp [kd] at e
end
def fldC : Co → List (Str × V)
  | .alw => []
  | .cau n => putF "name" (.str n) []
  | .thi n => putF "name" (.str n) []
  | .day a b => putF "last" (.int b) (putF "first" (.int a) [])
  | .ovr m => putF "cents" (.int m) []
mutual
/-- a condition's object -/
def CdAt (κ : A8) (H : Hp) : V → Cnd → Prop
  | v, .at c => ∃ p dx, v = .ref p ∧ H p = some (.ins (κ.of (.at c)) dx (fldC c))
  | v, .no t => ∃ p dx w, v = .ref p ∧ H p = some (.ins κ.a5 dx (putF "part" w [])) ∧ CdAt κ H w t
  | v, .al ts => ∃ p dx l vs, v = .ref p ∧ H p = some (.ins κ.a6 dx (putF "several" (.ref l) [])) ∧ H l = some (.lst vs) ∧ CdsAt κ H vs ts
  | v, .so ts => ∃ p dx l vs, v = .ref p ∧ H p = some (.ins κ.a7 dx (putF "several" (.ref l) [])) ∧ H l = some (.lst vs) ∧ CdsAt κ H vs ts
def CdsAt (κ : A8) (H : Hp) : List V → List Cnd → Prop
  | [], [] => True
  | v :: vs, t :: ts => CdAt κ H v t ∧ CdsAt κ H vs ts
  | [], _ :: _ => False
  | _ :: _, [] => False
end
mutual
/-- how deep -/
def hgt : Cnd → Nat
  | .at _ => 0
  | .no t => hgt t + 1
  | .al ts => hgts ts + 1
  | .so ts => hgts ts + 1
def hgts : List Cnd → Nat
  | [] => 0
  | t :: ts => max (hgt t) (hgts ts)
end
/-- what of a loss a condition reads -/
structure LS where
  d : Int
  th : Str
  ca : Str
  ct : Int
def holdsC : Co → LS → Bool
  | .alw, _ => true
  | .cau n, x => decide (V.str x.ca = V.str n)
  | .thi n, x => decide (V.str x.th = V.str n)
  | .day a b, x => decide (a ≤ x.d) && decide (x.d ≤ b)
  | .ovr m, x => decide (m < x.ct)
mutual
def hT : Cnd → LS → Bool
  | .at c, x => holdsC c x
  | .no t, x => !hT t x
  | .al ts, x => hAll ts x
  | .so ts, x => hSom ts x
def hAll : List Cnd → LS → Bool
  | [], _ => true
  | t :: ts, x => hT t x && hAll ts x
def hSom : List Cnd → LS → Bool
  | [], _ => false
  | t :: ts, x => hT t x || hSom ts x
end
mutual
theorem CdAt.same {κ : A8} {H H' : Hp} (s : Same H H') : ∀ {v : V} (t : Cnd), CdAt κ H v t → CdAt κ H' v t
  | v, .at c, h => by
    unfold CdAt at h ⊢
    obtain ⟨p, dx, e, h⟩ := h
    exact ⟨p, dx, e, s _ _ h⟩
  | v, .no t, h => by
    unfold CdAt at h ⊢
    obtain ⟨p, dx, w, e, h, r⟩ := h
    exact ⟨p, dx, w, e, s _ _ h, CdAt.same s t r⟩
  | v, .al ts, h => by
    unfold CdAt at h ⊢
    obtain ⟨p, dx, l, vs, e, h, g, r⟩ := h
    exact ⟨p, dx, l, vs, e, s _ _ h, s _ _ g, CdsAt.same s ts r⟩
  | v, .so ts, h => by
    unfold CdAt at h ⊢
    obtain ⟨p, dx, l, vs, e, h, g, r⟩ := h
    exact ⟨p, dx, l, vs, e, s _ _ h, s _ _ g, CdsAt.same s ts r⟩
theorem CdsAt.same {κ : A8} {H H' : Hp} (s : Same H H') : ∀ {vs : List V} (ts : List Cnd), CdsAt κ H vs ts → CdsAt κ H' vs ts
  | [], [], _ => by unfold CdsAt; trivial
  | v :: vs, t :: ts, h => by
    unfold CdsAt at h ⊢
    exact ⟨CdAt.same s t h.1, CdsAt.same s ts h.2⟩
  | [], _ :: _, h => by unfold CdsAt at h; exact h.elim
  | _ :: _, [], h => by unfold CdsAt at h; exact h.elim
end
theorem CdsAt.len {κ : A8} {H : Hp} : ∀ {vs : List V} {ts : List Cnd}, CdsAt κ H vs ts → vs.length = ts.length
  | [], [], _ => rfl
  | v :: vs, t :: ts, h => by
    unfold CdsAt at h
    rw [List.length_cons, List.length_cons, CdsAt.len h.2]
  | [], _ :: _, h => by unfold CdsAt at h; exact h.elim
  | _ :: _, [], h => by unfold CdsAt at h; exact h.elim
theorem CdsAt.get {κ : A8} {H : Hp} : ∀ {vs : List V} {ts : List Cnd} {i : Nat} {v : V}, CdsAt κ H vs ts → vs[i]? = some v → ∃ t, ts[i]? = some t ∧ CdAt κ H v t
  | [], [], _, _, _, e => by simp at e
  | v :: vs, t :: ts, 0, u, h, e => by
    unfold CdsAt at h
    simp at e
    subst e
    exact ⟨t, rfl, h.1⟩
  | v :: vs, t :: ts, i + 1, u, h, e => by
    unfold CdsAt at h
    obtain ⟨t', e', r⟩ := CdsAt.get (i := i) h.2 (by simpa using e)
    exact ⟨t', by simpa using e', r⟩
  | [], _ :: _, _, _, h, _ => by unfold CdsAt at h; exact h.elim
  | _ :: _, [], _, _, h, _ => by unfold CdsAt at h; exact h.elim
theorem CdsAt.snoc {κ : A8} {H : Hp} : ∀ {vs : List V} {ts : List Cnd} {v : V} {t : Cnd}, CdsAt κ H vs ts → CdAt κ H v t → CdsAt κ H (vs ++ [v]) (ts ++ [t])
  | [], [], v, t, _, r => by
    show CdsAt κ H [v] [t]
    unfold CdsAt
    exact ⟨r, by unfold CdsAt; trivial⟩
  | v :: vs, t :: ts, v', t', h, r => by
    unfold CdsAt at h
    show CdsAt κ H (v :: (vs ++ [v'])) (t :: (ts ++ [t']))
    unfold CdsAt
    exact ⟨h.1, CdsAt.snoc h.2 r⟩
  | [], _ :: _, _, _, h, _ => by unfold CdsAt at h; exact h.elim
  | _ :: _, [], _, _, h, _ => by unfold CdsAt at h; exact h.elim
theorem hgts_le {ts : List Cnd} {t : Cnd} {m : Nat} (h : hgts ts < m) (i : Nat) (e : ts[i]? = some t) : hgt t < m := by
  induction ts generalizing i with
  | nil => simp at e
  | cons u us ih =>
    unfold hgts at h
    cases i with
    | zero => simp at e; subst e; omega
    | succ i => exact ih (by omega) i (by simpa using e)
theorem hAll_drop {ts : List Cnd} {t : Cnd} {x : LS} {i : Nat} (e : ts[i]? = some t) : hAll (ts.drop i) x = (hT t x && hAll (ts.drop (i + 1)) x) := by
  rw [List.drop_eq_getElem_cons (List.getElem?_eq_some_iff.mp e).1, (List.getElem?_eq_some_iff.mp e).2, hAll]
theorem hSom_drop {ts : List Cnd} {t : Cnd} {x : LS} {i : Nat} (e : ts[i]? = some t) : hSom (ts.drop i) x = (hT t x || hSom (ts.drop (i + 1)) x) := by
  rw [List.drop_eq_getElem_cons (List.getElem?_eq_some_iff.mp e).1, (List.getElem?_eq_some_iff.mp e).2, hSom]
theorem s_fl : ¬ (("first" : Str) = "last") := by decide +kernel
theorem lc_name1 (n : Str) : (fldC (.cau n)).lookup ("name" : Str) = some (.str n) := by unfold fldC; rw [lookup_putF, if_pos rfl]
theorem lc_name2 (n : Str) : (fldC (.thi n)).lookup ("name" : Str) = some (.str n) := by unfold fldC; rw [lookup_putF, if_pos rfl]
theorem lc_last (a b : Int) : (fldC (.day a b)).lookup ("last" : Str) = some (.int b) := by unfold fldC; rw [lookup_putF, if_pos rfl]
theorem lc_first (a b : Int) : (fldC (.day a b)).lookup ("first" : Str) = some (.int a) := by unfold fldC; rw [lookup_putF, if_neg s_fl, lookup_putF, if_pos rfl]
theorem lc_cents (m : Int) : (fldC (.ovr m)).lookup ("cents" : Str) = some (.int m) := by unfold fldC; rw [lookup_putF, if_pos rfl]
theorem lc_put (f : Str) (v : V) : (putF f v []).lookup f = some v := by rw [lookup_putF, if_pos rfl]
theorem lc_pno {f g : Str} (h : ¬ g = f) (v : V) : (putF f v []).lookup g = none := by rw [lookup_putF, if_neg h]; rfl
theorem lc_no (c : Co) {m : Str} (h1 : ¬ m = "name") (h2 : ¬ m = "first") (h3 : ¬ m = "last") (h4 : ¬ m = "cents") : (fldC c).lookup m = none := by
  cases c with
  | alw => rfl
  | cau n => unfold fldC; rw [lookup_putF, if_neg h1]; rfl
  | thi n => unfold fldC; rw [lookup_putF, if_neg h1]; rfl
  | day a b => unfold fldC; rw [lookup_putF, if_neg h3, lookup_putF, if_neg h2]; rfl
  | ovr m => unfold fldC; rw [lookup_putF, if_neg h4]; rfl
/-- a condition's object: its class, and that none of its values has a method's name -/
theorem CdAt.obj {κ : A8} {H : Hp} {v : V} {t : Cnd} (h : CdAt κ H v t) : ∃ p dx fs, v = .ref p ∧ H p = some (.ins (κ.of t) dx fs) ∧
    fs.lookup ("holds" : Str) = none ∧ fs.lookup ("rank" : Str) = none ∧ fs.lookup ("words" : Str) = none ∧ fs.lookup ("marks" : Str) = none := by
  cases t with
  | «at» c =>
    unfold CdAt at h
    obtain ⟨p, dx, e, h⟩ := h
    exact ⟨p, dx, _, e, h, lc_no c (by decide +kernel) (by decide +kernel) (by decide +kernel) (by decide +kernel), lc_no c (by decide +kernel) (by decide +kernel) (by decide +kernel) (by decide +kernel), lc_no c (by decide +kernel) (by decide +kernel) (by decide +kernel) (by decide +kernel), lc_no c (by decide +kernel) (by decide +kernel) (by decide +kernel) (by decide +kernel)⟩
  | no t =>
    unfold CdAt at h
    obtain ⟨p, dx, w, e, h, _⟩ := h
    exact ⟨p, dx, _, e, h, lc_pno (by decide +kernel) _, lc_pno (by decide +kernel) _, lc_pno (by decide +kernel) _, lc_pno (by decide +kernel) _⟩
  | al ts =>
    unfold CdAt at h
    obtain ⟨p, dx, l, vs, e, h, _⟩ := h
    exact ⟨p, dx, _, e, h, lc_pno (by decide +kernel) _, lc_pno (by decide +kernel) _, lc_pno (by decide +kernel) _, lc_pno (by decide +kernel) _⟩
  | so ts =>
    unfold CdAt at h
    obtain ⟨p, dx, l, vs, e, h, _⟩ := h
    exact ⟨p, dx, _, e, h, lc_pno (by decide +kernel) _, lc_pno (by decide +kernel) _, lc_pno (by decide +kernel) _, lc_pno (by decide +kernel) _⟩
/-! ### what is new of a heap -/
/-- the part of H' that H had not -/
def Nw (H H' : Hp) : Hp := fun b => match H b with
  | none => H' b
  | some _ => none
theorem Nw.of {H H' : Hp} {b : Addr} {o : HO} (h : H b = none) (e : H' b = some o) : Nw H H' b = some o := by
  unfold Nw
  rw [h]
  exact e
theorem Nw.at {H H' : Hp} {b : Addr} {o : HO} (e : Nw H H' b = some o) : H b = none ∧ H' b = some o := by
  unfold Nw at e
  cases h : H b with
  | none => rw [h] at e; exact ⟨rfl, e⟩
  | some o' => rw [h] at e; cases e
/-- new of a later heap is new of an earlier one -/
theorem Nw.later {H H1 H2 : Hp} (s : Same H H1) : Same (Nw H1 H2) (Nw H H2) := fun b o e => Nw.of (s.free (Nw.at e).1) (Nw.at e).2
theorem Nw.grow {H H1 H2 : Hp} (s : ∀ b o, H b = none → H1 b = some o → H2 b = some o) : Same (Nw H H1) (Nw H H2) := fun b o e => Nw.of (Nw.at e).1 (s b o (Nw.at e).1 (Nw.at e).2)
def LsAt (H : Hp) (t : Addr) (x : LS) : Prop := ∃ ev, ∃ n : Int, H t = some (.tup [.int n, .int x.d, .str ev, .str x.th, .str x.ca, .int x.ct])
/-! ### words, depth, well made -/
def prec : Cnd → Int
  | .al _ => 2
  | .so _ => 1
  | _ => 3
mutual
def sizeT : Cnd → Int
  | .at .alw => 1
  | .at (.cau _) => 2
  | .at (.thi _) => 2
  | .at (.day _ _) => 3
  | .at (.ovr _) => 2
  | .no t => (if prec t < 3 then sizeT t + 2 else sizeT t) + 1
  | .al ts => (ts.length : Int) - 1 + sizesT 3 ts
  | .so ts => (ts.length : Int) - 1 + sizesT 2 ts
def sizesT (m : Int) : List Cnd → Int
  | [] => 0
  | t :: ts => (if prec t < m then sizeT t + 2 else sizeT t) + sizesT m ts
end
mutual
def okT (φ : Co → Prop) : Cnd → Prop
  | .at c => φ c
  | .no t => okT φ t
  | .al ts => 2 ≤ ts.length ∧ ts.length ≤ 8 ∧ okTs φ ts
  | .so ts => 2 ≤ ts.length ∧ ts.length ≤ 8 ∧ okTs φ ts
def okTs (φ : Co → Prop) : List Cnd → Prop
  | [] => True
  | t :: ts => okT φ t ∧ okTs φ ts
end
section
variable {R R' : V → Cnd → Prop} {vs ws : List V} {ts us : List Cnd}
end
/-! ### slices from the end; ways that meet again -/
end L2

namespace L2
open PySem PySem.Spec PyProof.Rows
/-! ### x in a list of tuples -/

/-! ### marks -/
abbrev Mrk := Str × V
def marksC : Co → List Mrk
  | .alw => []
  | .cau n => [("cause", .str n)]
  | .thi n => [("thing", .str n)]
  | .day a b => [("day", .int a), ("day", .int (b + 1))]
  | .ovr m => [("cents", .int m)]
mutual
def marksT : Cnd → List Mrk
  | .at c => marksC c
  | .no t => marksT t
  | .al ts => marksTs ts
  | .so ts => marksTs ts
def marksTs : List Cnd → List Mrk
  | [] => []
  | t :: ts => marksT t ++ marksTs ts
end
def flatM (ms : List Mrk) : Prop := ∀ m ∈ ms, (∃ z, m.2 = .str z) ∨ ∃ i, m.2 = .int i
theorem flatM_C (c : Co) : flatM (marksC c) := by
  intro m hm
  cases c <;> simp [marksC] at hm
  · subst hm; exact .inl ⟨_, rfl⟩
  · subst hm; exact .inl ⟨_, rfl⟩
  · rcases hm with rfl | rfl <;> exact .inr ⟨_, rfl⟩
  · subst hm; exact .inr ⟨_, rfl⟩
mutual
theorem flatM_T : ∀ t : Cnd, flatM (marksT t)
  | .at c => by unfold marksT; exact flatM_C c
  | .no t => by unfold marksT; exact flatM_T t
  | .al ts => by unfold marksT; exact flatM_Ts ts
  | .so ts => by unfold marksT; exact flatM_Ts ts
theorem flatM_Ts : ∀ ts : List Cnd, flatM (marksTs ts)
  | [] => by unfold marksTs; intro m hm; cases hm
  | t :: ts => by
    unfold marksTs
    intro m hm
    rcases List.mem_append.mp hm with h | h
    · exact flatM_T t m h
    · exact flatM_Ts ts m h
end
mutual
theorem marks_size {φ : Co → Prop} : ∀ t : Cnd, okT φ t → ((marksT t).length : Int) ≤ sizeT t
  | .at c, _ => by cases c <;> (unfold marksT sizeT; simp [marksC])
  | .no t, h => by
    unfold okT at h
    have := marks_size t h
    unfold marksT
    rw [sizeT]
    split <;> omega
  | .al ts, h => by
    unfold okT at h
    have := marks_sizes 3 ts h.2.2
    unfold marksT
    rw [sizeT]
    omega
  | .so ts, h => by
    unfold okT at h
    have := marks_sizes 2 ts h.2.2
    unfold marksT
    rw [sizeT]
    omega
theorem marks_sizes {φ : Co → Prop} (m : Int) : ∀ ts : List Cnd, okTs φ ts → ((marksTs ts).length : Int) ≤ sizesT m ts
  | [], _ => by unfold marksTs sizesT; decide
  | t :: ts, h => by
    unfold okTs at h
    have h1 := marks_size t h.1
    have h2 := marks_sizes m ts h.2
    unfold marksTs
    rw [sizesT, List.length_append]
    split <;> omega
end
/-! ### marks as deep values -/
end L2

namespace L2
open PySem PySem.Spec PyProof.Rows
/-! ### rows of words -/
def tailL (b : Str) : List (List Str) → List Str
  | [] => []
  | w :: ws => b :: (w ++ tailL b ws)
def joinL (b : Str) : List (List Str) → List Str
  | [] => []
  | w :: ws => w ++ tailL b ws
theorem tailL_snoc (b : Str) (ws : List (List Str)) (w : List Str) : tailL b (ws ++ [w]) = tailL b ws ++ b :: w := by
  induction ws with
  | nil => show b :: (w ++ []) = b :: w; rw [List.append_nil]
  | cons v vs ih => rw [List.cons_append, tailL, ih, tailL, List.cons_append, List.append_assoc]
theorem joinL_snoc (b : Str) {ws : List (List Str)} (h : ws ≠ []) (w : List Str) : joinL b (ws ++ [w]) = joinL b ws ++ b :: w := by
  cases ws with
  | nil => exact absurd rfl h
  | cons v vs => rw [List.cons_append, joinL, tailL_snoc, joinL, List.append_assoc]
mutual
/-- how words spell a condition: 0 a piece, 1 a row of pieces, 2 rows; the last number: how many brackets and nots are open at most -/
inductive Spl (wc : Co → List Str) (φ : Co → Prop) : Nat → List Str → Cnd → Nat → Prop
  | leaf {c d} : φ c → Spl wc φ 0 (wc c) (.at c) d
  | no {ws t d} : Spl wc φ 0 ws t d → Spl wc φ 0 (Str.ofString "not" :: ws) (.no t) (d + 1)
  | br {ws t d} : Spl wc φ 2 ws t d → Spl wc φ 0 (Str.ofString "(" :: (ws ++ [Str.ofString ")"])) t (d + 1)
  | row1 {ws t d} : Spl wc φ 0 ws t d → Spl wc φ 1 ws t d
  | rowN {wss ts d} : Spls wc φ 0 wss ts d → 2 ≤ ts.length → ts.length ≤ 8 → Spl wc φ 1 (joinL (Str.ofString "and") wss) (.al ts) d
  | rows1 {ws t d} : Spl wc φ 1 ws t d → Spl wc φ 2 ws t d
  | rowsN {wss ts d} : Spls wc φ 1 wss ts d → 2 ≤ ts.length → ts.length ≤ 8 → Spl wc φ 2 (joinL (Str.ofString "or") wss) (.so ts) d
inductive Spls (wc : Co → List Str) (φ : Co → Prop) : Nat → List (List Str) → List Cnd → Nat → Prop
  | nil {k d} : Spls wc φ k [] [] d
  | cons {k ws t d' wss ts d} : Spl wc φ k ws t d' → d' ≤ d → Spls wc φ k wss ts d → Spls wc φ k (ws :: wss) (t :: ts) d
end
theorem Spls.len {wc : Co → List Str} {φ : Co → Prop} {k : Nat} : ∀ {wss : List (List Str)} {ts : List Cnd} {d : Nat}, Spls wc φ k wss ts d → wss.length = ts.length
  | _, _, _, .nil => rfl
  | _, _, _, .cons _ _ h => by rw [List.length_cons, List.length_cons, Spls.len h]
theorem Spls.get {wc : Co → List Str} {φ : Co → Prop} {k : Nat} : ∀ {wss : List (List Str)} {ts : List Cnd} {d : Nat}, Spls wc φ k wss ts d → ∀ {i : Nat} {t : Cnd}, ts[i]? = some t → ∃ ws d', wss[i]? = some ws ∧ d' ≤ d ∧ Spl wc φ k ws t d'
  | _, _, _, .nil, _, _, e => by simp at e
  | _, _, _, .cons (ws := ws) (d' := d') h hd _, 0, _, e => by
    simp at e
    subst e
    exact ⟨ws, d', rfl, hd, h⟩
  | _, _, _, .cons _ _ h, i + 1, _, e => by
    obtain ⟨ws, d', e1, e2, e3⟩ := Spls.get h (i := i) (by simpa using e)
    exact ⟨ws, d', by simpa using e1, e2, e3⟩
/-! ### the words of a condition -/
mutual
def wordsT (wc : Co → List Str) : Cnd → List Str
  | .at c => wc c
  | .no t => Str.ofString "not" :: (if prec t < 3 then Str.ofString "(" :: (wordsT wc t ++ [Str.ofString ")"]) else wordsT wc t)
  | .al ts => joinL (Str.ofString "and") (innerT wc 3 ts)
  | .so ts => joinL (Str.ofString "or") (innerT wc 2 ts)
def innerT (wc : Co → List Str) (m : Int) : List Cnd → List (List Str)
  | [] => []
  | t :: ts => (if prec t < m then Str.ofString "(" :: (wordsT wc t ++ [Str.ofString ")"]) else wordsT wc t) :: innerT wc m ts
end
section
variable {wc : Co → List Str} {φ : Co → Prop}
end
theorem tailL_all {ψ : Str → Prop} {b : Str} (hb : ψ b) : ∀ {wss : List (List Str)}, (∀ ws ∈ wss, ∀ w ∈ ws, ψ w) → ∀ w ∈ tailL b wss, ψ w
  | [], _ => by intro w hw; cases hw
  | ws :: wss, h => by
    intro w hw
    rw [tailL] at hw
    rcases List.mem_cons.mp hw with rfl | hw
    · exact hb
    · rcases List.mem_append.mp hw with hw | hw
      · exact h ws List.mem_cons_self w hw
      · exact tailL_all hb (fun v hv => h v (List.mem_cons_of_mem _ hv)) w hw
theorem joinL_all {ψ : Str → Prop} {b : Str} (hb : ψ b) {wss : List (List Str)} (h : ∀ ws ∈ wss, ∀ w ∈ ws, ψ w) : ∀ w ∈ joinL b wss, ψ w := by
  cases wss with
  | nil => intro w hw; cases hw
  | cons ws wss =>
    intro w hw
    rw [joinL] at hw
    rcases List.mem_append.mp hw with hw | hw
    · exact h ws List.mem_cons_self w hw
    · exact tailL_all hb (fun v hv => h v (List.mem_cons_of_mem _ hv)) w hw
mutual
theorem words_all {wc : Co → List Str} {φ : Co → Prop} {ψ : Str → Prop} (hw : ∀ c, φ c → ∀ w ∈ wc c, ψ w) (k1 : ψ (Str.ofString "not")) (k2 : ψ (Str.ofString "(")) (k3 : ψ (Str.ofString ")")) (k4 : ψ (Str.ofString "and")) (k5 : ψ (Str.ofString "or")) : ∀ t : Cnd, okT φ t → ∀ w ∈ wordsT wc t, ψ w
  | .at c, h => by unfold okT at h; rw [wordsT]; exact hw c h
  | .no t, h => by
    unfold okT at h
    have r := words_all hw k1 k2 k3 k4 k5 t h
    rw [wordsT]
    intro w hw'
    rcases List.mem_cons.mp hw' with rfl | hw'
    · exact k1
    · split at hw'
      · rcases List.mem_cons.mp hw' with rfl | hw'
        · exact k2
        · rcases List.mem_append.mp hw' with hw' | hw'
          · exact r w hw'
          · rw [List.mem_singleton.mp hw']; exact k3
      · exact r w hw'
  | .al ts, h => by
    unfold okT at h
    rw [wordsT]
    exact joinL_all k4 (inner_all hw k1 k2 k3 k4 k5 3 ts h.2.2)
  | .so ts, h => by
    unfold okT at h
    rw [wordsT]
    exact joinL_all k5 (inner_all hw k1 k2 k3 k4 k5 2 ts h.2.2)
theorem inner_all {wc : Co → List Str} {φ : Co → Prop} {ψ : Str → Prop} (hw : ∀ c, φ c → ∀ w ∈ wc c, ψ w) (k1 : ψ (Str.ofString "not")) (k2 : ψ (Str.ofString "(")) (k3 : ψ (Str.ofString ")")) (k4 : ψ (Str.ofString "and")) (k5 : ψ (Str.ofString "or")) (m : Int) : ∀ ts : List Cnd, okTs φ ts → ∀ ws ∈ innerT wc m ts, ∀ w ∈ ws, ψ w
  | [], _ => by unfold innerT; intro ws hws; cases hws
  | t :: ts, h => by
    unfold okTs at h
    have r := words_all hw k1 k2 k3 k4 k5 t h.1
    have rs := inner_all hw k1 k2 k3 k4 k5 m ts h.2
    rw [innerT]
    intro ws hws w hw'
    rcases List.mem_cons.mp hws with rfl | hws
    · split at hw'
      · rcases List.mem_cons.mp hw' with rfl | hw'
        · exact k2
        · rcases List.mem_append.mp hw' with hw' | hw'
          · exact r w hw'
          · rw [List.mem_singleton.mp hw']; exact k3
      · exact r w hw'
    · exact rs ws hws w hw'
end
end L2

namespace L2
open PySem PySem.Spec PyProof.Rows
/-! ### o.m(..) where the method may raise -/
structure MCalX (P : Program) (w : World) (K : PySem.W.Frag) (mg : Str → Option Value) (base : Heap) (k : Nat) (C : Addr) (m : Str) (ps : List Str) (sp : Sp) : Prop where
  ex : ∃ f fd, FnOk P w K mg base (CX1 P w) k f fd ps sp ∧ Binds K fd ps [] ∧ Meth K C m f
  cl : Cls K C
section
variable {X : Cx} {k : Nat} {C : Addr} {m : Str} {ps : List Str} {sp : Sp} {e o : Expr} {es : List Expr} {apos pos : Pos} {ta : TE} {t : TA} {W : St → XK}
def tMethX (C : Addr) (m : Str) (sp : Sp) (W : St → XK) (ta : TE) (t : TA) : TE := fun σ H Q => ta σ H fun x H1 => ∃ a dx fs, x = .ref a ∧ H1 a = some (.ins C dx fs) ∧ fs.lookup m = none ∧ t σ H1 fun vs H2 => sp (.ref a :: vs) H2 Q (W σ)
theorem pe_methX {pl : Sem Bool} (M : MCalX X.prog X.w X.K X.mg X.base k C m ps sp) (hr : Room k X.A) (hW : Wish X W) (he : PE X o ta) (ha : PA X (e :: es) t)
    (hst : starEach (e :: es) X.env = (false, eval e X.env) :: starEach es X.env := by rfl) (hpl : (backTo pos (starEach es X.env)).any (·.1) = false := by rfl)
    (ht : eval (.Call (.Attribute o m apos) (e :: es) [] pos) X.env = (do
      let ov ← eval o X.env
      standAt apos.atName
      let (f, first) ← holding [ov] (getMethod ov m pl)
      callWith pos f first (backTo pos (starEach (e :: es) X.env)) (backToKw pos (keywordEach [] X.env))) := by rfl) :
    PE X (.Call (.Attribute o m apos) (e :: es) [] pos) (tMethX C m sp W ta t) := by
  intro pins s σ H Q I h
  obtain ⟨f, fd, F, b, hm⟩ := M.ex
  refine PySem.W.methodCall_KW (pl := pl) (thn (he pins s σ H _ I h) fun u s1 ⟨x, H1, I1, rx, a, dx, fs, ex, ea, l, q⟩ => ?_) ht
  subst ex
  obtain rfl : u = Value.ref a := rx
  refine getmeth_ok I1 ea M.cl hm l ?_
  refine PySem.W.callWith_K (first := [.ref a]) (h₀ := X.base) I.ok.mod.kin hm.kp (thn (ha pos pins s1 σ H1 _ I1 q) fun us s2 ⟨vs, H2, I2, r, q2⟩ => ⟨I2.kIn, ?_⟩) hst hpl
  exact run_fnX (us := .ref a :: us) (vs := .ref a :: vs) F hr b hW I2 (.cons rfl r) q2
theorem pe_meth0X {pl : Sem Bool} (M : MCalX X.prog X.w X.K X.mg X.base k C m ps sp) (hr : Room k X.A) (hW : Wish X W) (he : PE X o ta)
    (ht : eval (.Call (.Attribute o m apos) [] [] pos) X.env = (do
      let ov ← eval o X.env
      standAt apos.atName
      let (f, first) ← holding [ov] (getMethod ov m pl)
      callWith pos f first (backTo pos (starEach [] X.env)) (backToKw pos (keywordEach [] X.env))) := by rfl) :
    PE X (.Call (.Attribute o m apos) [] [] pos) (tMethX C m sp W ta tNil) := by
  intro pins s σ H Q I h
  obtain ⟨f, fd, F, b, hm⟩ := M.ex
  refine PySem.W.methodCall_KW (pl := pl) (thn (he pins s σ H _ I h) fun u s1 ⟨x, H1, I1, rx, a, dx, fs, ex, ea, l, q⟩ => ?_) ht
  subst ex
  obtain rfl : u = Value.ref a := rx
  refine getmeth_ok I1 ea M.cl hm l ?_
  exact PySem.W.callWith_K0 (first := [.ref a]) I1.kIn hm.kp (run_fnX (us := [.ref a]) (vs := [.ref a]) F hr b hW I1 (.cons rfl .nil) q)
end
end L2

namespace L2
open PySem PySem.Spec PyProof.Rows
/-! ### how words that spell no condition are refused -/
/-- refused as no words, this many words on; or as too deep -/
inductive No where
  | at (n : Nat) | deep
def No.on (k : Nat) : No → No
  | .at n => .at (k + n)
  | .deep => .deep
theorem No.on_on (i j : Nat) (f : No) : (f.on j).on i = f.on (i + j) := by
  cases f with
  | «at» n => show No.at (i + (j + n)) = No.at (i + j + n); rw [Nat.add_assoc]
  | deep => rfl
/-- the words ws, all that are left, are refused where this many brackets and nots are open: 0 as a piece, 1 as a row of pieces, 2 as rows -/
inductive Fl (wc : Co → List Str) (φ : Co → Prop) (af : List Str → Nat → Prop) : Nat → Nat → List Str → No → Prop
  | atom {dp ws n} : af ws n → Fl wc φ af 0 dp ws (.at n)
  | deep {dp x ws} : 6 ≤ dp → x = Str.ofString "not" ∨ x = Str.ofString "(" → Fl wc φ af 0 dp (x :: ws) .deep
  | no {dp ws f} : dp < 6 → Fl wc φ af 0 (dp + 1) ws f → Fl wc φ af 0 dp (Str.ofString "not" :: ws) (f.on 1)
  | br {dp ws f} : dp < 6 → Fl wc φ af 2 (dp + 1) ws f → Fl wc φ af 0 dp (Str.ofString "(" :: ws) (f.on 1)
  | open {dp ws t d post} : Spl wc φ 2 ws t d → dp + 1 + d ≤ 6 → (∀ x, post.head? = some x → x ∉ [Str.ofString "and", Str.ofString "or", Str.ofString ")"]) → Fl wc φ af 0 dp (Str.ofString "(" :: (ws ++ post)) (.at (1 + ws.length))
  | row0 {dp ws f} : Fl wc φ af 0 dp ws f → Fl wc φ af 1 dp ws f
  | rowN {dp wss ts d ws f} : Spls wc φ 0 wss ts d → dp + d ≤ 6 → 1 ≤ ts.length → ts.length < 8 → Fl wc φ af 0 dp ws f → Fl wc φ af 1 dp (joinL (Str.ofString "and") wss ++ Str.ofString "and" :: ws) (f.on ((joinL (Str.ofString "and") wss).length + 1))
  | row9 {dp wss ts d ws} : Spls wc φ 0 wss ts d → dp + d ≤ 6 → ts.length = 8 → Fl wc φ af 1 dp (joinL (Str.ofString "and") wss ++ Str.ofString "and" :: ws) (.at ((joinL (Str.ofString "and") wss).length + 1))
  | rows0 {dp ws f} : Fl wc φ af 1 dp ws f → Fl wc φ af 2 dp ws f
  | rowsN {dp wss ts d ws f} : Spls wc φ 1 wss ts d → dp + d ≤ 6 → 1 ≤ ts.length → ts.length < 8 → Fl wc φ af 1 dp ws f → Fl wc φ af 2 dp (joinL (Str.ofString "or") wss ++ Str.ofString "or" :: ws) (f.on ((joinL (Str.ofString "or") wss).length + 1))
  | rows9 {dp wss ts d ws} : Spls wc φ 1 wss ts d → dp + d ≤ 6 → ts.length = 8 → Fl wc φ af 2 dp (joinL (Str.ofString "or") wss ++ Str.ofString "or" :: ws) (.at ((joinL (Str.ofString "or") wss).length + 1))
/-- all the words of a text are refused -/
inductive FlT (wc : Co → List Str) (φ : Co → Prop) (af : List Str → Nat → Prop) : List Str → No → Prop
  | long {ws} : 60 < ws.length → FlT wc φ af ws (.at 60)
  | read {ws f} : ws.length ≤ 60 → Fl wc φ af 2 0 ws f → FlT wc φ af ws f
  | more {ws t d x post} : (ws ++ x :: post).length ≤ 60 → Spl wc φ 2 ws t d → d ≤ 6 → x ≠ Str.ofString "and" → x ≠ Str.ofString "or" → FlT wc φ af (ws ++ x :: post) (.at ws.length)
section
variable {wc : Co → List Str} {φ : Co → Prop} {af : List Str → Nat → Prop}
/-- a refused piece, as a whole row of rows -/
theorem Fl.up {dp : Nat} {ws : List Str} {f : No} (h : Fl wc φ af 0 dp ws f) : Fl wc φ af 2 dp ws f := .rows0 (.row0 h)
/-- brackets and nots ahead of what is refused -/
theorem Fl.ahead : ∀ {os : List Str} {dp : Nat} {ws : List Str} {f : No}, (∀ o ∈ os, o = Str.ofString "not" ∨ o = Str.ofString "(") → dp + os.length ≤ 6 → Fl wc φ af 0 (dp + os.length) ws f → Fl wc φ af 0 dp (os ++ ws) (f.on os.length)
  | [], dp, ws, f, _, _, h => by
    have e : f.on ([] : List Str).length = f := by
      cases f with
      | «at» n => show No.at (0 + n) = No.at n; rw [Nat.zero_add]
      | deep => rfl
    rw [e]
    exact h
  | o :: os, dp, ws, f, ho, hd, h => by
    rw [List.length_cons] at hd h
    have g := Fl.ahead (os := os) (dp := dp + 1) (fun p hp => ho p (List.mem_cons_of_mem _ hp)) (by omega) (by rw [show dp + 1 + os.length = dp + (os.length + 1) by omega]; exact h)
    have e : f.on (o :: os).length = (f.on os.length).on 1 := by rw [No.on_on, List.length_cons, Nat.add_comm]
    rw [e, List.cons_append]
    rcases ho o (List.mem_cons_self ..) with rfl | rfl
    · exact .no (by omega) g
    · exact .br (by omega) g.up
/-- the seventh of brackets and nots -/
theorem Fl.seventh {os ws : List Str} (ho : ∀ o ∈ os, o = Str.ofString "not" ∨ o = Str.ofString "(") (hl : 7 ≤ os.length) : Fl wc φ af 0 0 (os ++ ws) .deep := by
  have e : os ++ ws = os.take 6 ++ (os.drop 6 ++ ws) := by rw [← List.append_assoc, List.take_append_drop]
  have l6 : (os.take 6).length = 6 := by rw [List.length_take]; omega
  rw [e]
  have g : Fl wc φ af 0 (0 + (os.take 6).length) (os.drop 6 ++ ws) .deep := by
    cases z : os.drop 6 with
    | nil =>
      have := congrArg List.length z
      rw [List.length_drop, List.length_nil] at this
      omega
    | cons x xs =>
      rw [l6]
      exact .deep (Nat.le_refl _) (ho x (List.mem_of_mem_drop (by rw [z]; exact List.mem_cons_self ..)))
  exact Fl.ahead (f := .deep) (fun o h => ho o (List.mem_of_mem_take h)) (by omega) g
end
end L2

namespace L2
open PySem PySem.Spec PyProof PyProof.Rows
/-! ### raise C(..), C a class of the text with an __init__ of its own -/
/-- an exception just made: nothing of it is set but its arguments, and perhaps a dict -/
def exN (e : Addr) (c : Value) (d : Option Addr) : HO := .ext fun h => ∃ oe t, h.get? e = some oe ∧ oe.cls = c ∧ oe.dict = d ∧ oe.data = .fields #[.ref t, .none, .none, .none, .bool false, .none]
/-- no longer followed -/
def unt (H : Hp) (e : Addr) : Hp := fun b => if b = e then none else H b
theorem unt_same {H : Hp} {e : Addr} : unt H e e = none := if_pos rfl
theorem unt_ne {H : Hp} {e b : Addr} (n : b ≠ e) : unt H e b = H b := if_neg n
section
variable {X : Cx} {pins : List (Addr × Obj)} {σ : St} {H : Hp} {s : Shared} {e : Addr}
theorem Inv.excN {c : Value} {d : Option Addr} (I : Inv X pins σ H s) (h : H e = some (exN e c d)) : ∃ oe t, s.heap.get? e = some oe ∧ oe.cls = c ∧ oe.dict = d ∧ oe.data = .fields #[.ref t, .none, .none, .none, .bool false, .none] :=
  (show ObjOk X.prog X.w H s.heap e (exN e c d) from I.hok e _ h).1
theorem ObjOk.unt {P : Program} {w : World} {H : Hp} {h : Heap} {a e : Addr} {φ : Heap → Prop} (he : H e = some (.ext φ)) : ∀ {o : HO}, ObjOk P w H h a o → ObjOk P w (L2.unt H e) h a o := by
  intro o
  have ne : ∀ {b : Addr} {o' : HO}, H b = some o' → (∀ ψ, o' ≠ .ext ψ) → L2.unt H e b = some o' := fun {b o'} q n => by
    rw [unt_ne]
    · exact q
    · intro z
      rw [z, he] at q
      exact n φ (Option.some.inj q).symm
  induction o with
  | dT kvs =>
    intro x
    obtain ⟨h1, h2, xs, p, r⟩ := x
    refine ⟨h1, h2, xs, ?_, r⟩
    exact Paired.mapP p fun a b q => ⟨q.1, ne q.2.1 (fun _ z => by cases z), q.2.2⟩
  | ins C dx fs =>
    intro x
    obtain ⟨h1, r⟩ := x
    exact ⟨ne h1 (fun _ z => by cases z), r⟩
  | frz o u ih =>
    intro x
    exact ⟨x.1, ih x.2⟩
  | _ => intro x; exact x
theorem Inv.unt {φ : Heap → Prop} (I : Inv X pins σ H s) (he : H e = some (.ext φ)) : Inv X pins σ (L2.unt H e) s := by
  have ne : ∀ {b : Addr} {o' : HO}, H b = some o' → (∀ ψ, o' ≠ .ext ψ) → L2.unt H e b = some o' := fun {b o'} q n => by
    rw [unt_ne]
    · exact q
    · intro z
      rw [z, he] at q
      exact n φ (Option.some.inj q).symm
  have no : ∀ {b : Addr}, H b = none → L2.unt H e b = none := fun {b} q => by
    by_cases z : b = e
    · rw [z, unt_same]
    · rw [unt_ne z, q]
  refine ⟨I.ok, I.os, I.bare, ⟨I.base.keep, I.base.slot, fun b o q n hx => no (I.base.free b o q n hx), I.base.there, fun b xs q => ne (I.base.tups b xs q) (fun _ z => by cases z), fun b o u q => ne (I.base.frzs b o u q) (fun _ z => by cases z), fun b ps q => ?_⟩, I.loc, I.cell, no I.free, fun x c q => no (I.freeC x c q), fun p hp => ?_, fun b u q => ?_, I.len⟩
  · obtain ⟨m, z⟩ := I.base.tbls b ps q
    exact ⟨m, ne z (fun _ z => by cases z)⟩
  · obtain ⟨h1, h2, h3⟩ := I.pin p hp
    exact ⟨h1, no h2, h3⟩
  · have n : b ≠ e := fun z => by rw [z, unt_same] at q; cases q
    rw [unt_ne n] at q
    exact (I.hok b u q).unt he
end
section
variable {M : Model} {A : Around} {E : Value → Shared → Prop} {env : Env}
variable {nm q : Str} {C N : Addr} {bs bm : List Value} {hdct : Bool} {sn : List Str} {sub : List Value} {ab : Bool} {col : Option Bool} {dd : Option Addr} {k0 k1 k2 k3 k5 : Option Value} {newId : String}
theorem raise_madeD {s : Shared} {x : Sem Value} {Q : Flow → Shared → Prop} (hbase : bm.contains (.type "BaseException") = true) (hh : A.handled = none)
    (h : wpAny M A x (fun v s₁ => ∃ e oe t, v = .ref e ∧ s₁.heap.get? C = some (excClassObj nm q C N bs bm hdct sn sub ab col dd k0 k1 k2 k3 k5 newId) ∧
      s₁.heap.get? e = some oe ∧ oe.cls = .ref C ∧ oe.data = .fields #[.ref t, .none, .none, .none, .bool false, .none] ∧ E (.ref e) s₁) E s) :
    wpAny M A (raiseStmt env (some x) none) Q E s := by
  have hcB : (Value.ref C :: bm).contains (.type "BaseException") = true := by rw [List.contains_cons, hbase, Bool.or_true]
  unfold raiseStmt
  refine wpAny_bind (wpAny_mono h (fun v s₁ h₁ => ?_) fun _ _ x => x)
  obtain ⟨e, oe, t, rfl, hC, he, hcl, hdt, hE⟩ := h₁
  obtain ⟨hp, g, d, tk, os⟩ := s₁
  cases oe
  simp only at hcl hdt
  subst hcl hdt
  repeat (first | with_reducible refine wpAny_loadPart_at he ?_ | with_reducible refine wpAny_loadPart_at hC ?_ | (with_reducible refine wpAny_isSubtype_exc hC ?_; rw [hcB]) | wp_step)
  exact wpAny_raiseNew_none hh hE
end
section
variable {X : Cx} {x f : Str} {C : Addr} {np cpos pos apos : Pos} {e o value : Expr} {es : List Expr} {t : TA} {ta tv : TE} {W : St → XK}
/-- e.f = value, e an exception just made -/
def sFldN (K : PySem.W.Frag) (ta tv : TE) (f : Str) : TS := fun D σ H => tv σ H fun y H1 => ta σ H1 fun x H2 => ∃ a C, x = .ref a ∧ H2 a = some (exN a (.ref C) none) ∧ XSet K C f ∧
  ∀ d, H2 d = none → d ≠ a → D.nx σ (upd (upd H2 a (exN a (.ref C) (some d))) d (.xd [(f, y)]))
theorem ps_fldN (ha : PE X o ta) (hv : PE X value tv) (hs : swapsWith value (some (.Attribute o f apos)) pos.line X.env = pure false) : PS X (.Assign [.Attribute o f apos] value pos) (sFldN X.K ta tv f) := by
  intro pins s σ H D I h
  refine plainObj_wpAny_Assign_Attribute (thn (hv pins s σ H _ I h) fun u s1 ⟨y, H1, I1, ry, q⟩ => thn (ha pins s1 σ H1 _ I1 q) fun ov s2 ⟨x, H2, I2, rx, a, C, ex, ea, Z, q2⟩ => ?_) hs
  subst ex
  obtain rfl : ov = Value.ref a := rx
  obtain ⟨oe, t0, h1, h2, h3, h4⟩ := I2.excN ea
  refine exc_set Z I2.kIn h1 h2 h3 h4 fun hp tk he n k => ?_
  have nd : s2.heap.get? s2.heap.objs.size = none := Heap.get?_none_of_le (Nat.le_refl _)
  have nH := I2.no nd
  have ne : s2.heap.objs.size ≠ a := (Nat.ne_of_lt (Heap.lt_size h1)).symm
  have I3 : Inv X pins σ (upd H2 a (exN a (.ref C) (some s2.heap.objs.size))) { s2 with heap := hp, toks := tk } := by
    refine I2.write (x := a) (e := a) (by rw [ea]; exact True.intro) (.inl rfl) k ⟨_, he⟩ ?_
    refine ⟨⟨_, t0, he, h2, rfl, h4⟩, ⟨_, he⟩, fun p1 p2 pp kk => ?_⟩
    obtain ⟨o1, v1, y1, y2⟩ := pp
    exact ⟨o1, v1, kk _ y1, y2⟩
  refine ⟨σ, _, I3.trackO (o := .xd [(f, y)]) (I2.fxOk nd (by rw [upd_ne ne]; exact nH)) ⟨_, n, fun g => ?_⟩, q2 _ nH ne⟩
  by_cases z : g = f
  · subst z
    rw [if_pos rfl]
    simp only [List.lookup, beq_self_eq_true]
    exact ry
  · rw [if_neg z]
    have : (g == f) = false := beq_eq_false_iff_ne.mpr z
    simp only [List.lookup, this]
    trivial
/-- raise C(e, ..): its __init__ gets the new exception and gives it a dict -/
def tRaiseI (C : Addr) (sp : Sp) (W : St → XK) (t : TA) : TS := fun _ σ H => t σ H fun vs H1 => vs.length ≤ sizeLine ∧ ∀ a, H1 a = none → sp (.ref a :: vs) (upd H1 a (exN a (.ref C) none)) (fun v H2 => v = .non ∧ ∃ d, H2 a = some (exN a (.ref C) (some d)) ∧ W σ (.ref C) (some d) (unt H2 a)) E0
theorem ps_raiseI {k : Nat} {ps : List Str} {sp : Sp} (hW : Wish X W) (hc : X.calm = true) (M : ECal X.prog X.w X.K X.mg X.base k x C ps sp) (hr : Room (k + 1) X.A) (hg : Gl X x) (ha : PA X (e :: es) t)
    (hdb : (x == ("__debug__" : Str)) = false := by decide) (he : starEach (e :: es) X.env = (false, eval e X.env) :: starEach es X.env := by rfl) (hpl : (backTo cpos (starEach es X.env)).any (·.1) = false := by rfl) :
    PS X (.Raise (some (.Call (.Name x np) (e :: es) [] cpos)) none pos) (tRaiseI C sp W t) := by
  intro pins s σ H D I h
  obtain ⟨f, fd, ⟨⟨bmB, newId, initId, B, q, FB⟩, fn, kp⟩, F, hb, hm⟩ := M.ex
  obtain ⟨bm, N, nm, qn, bs, hdct, sn, sub, ab, col, dd, k0, k1, k2, k3, k5, mN, hC, hN, hni, T⟩ := ownInit_obj I.mod.kin q
  have inner : wpAny (model X.prog X.w) X.A (eval (.Call (.Name x np) (e :: es) [] cpos) X.env) (fun v s₁ => ∃ a oe t, v = .ref a ∧ s₁.heap.get? C = some (excClassObj nm qn C N bs bm hdct sn sub ab col dd k0 k1 k2 k3 k5 newId) ∧
      s₁.heap.get? a = some oe ∧ oe.cls = .ref C ∧ oe.data = .fields #[.ref t, .none, .none, .none, .bool false, .none] ∧ X.xe (.ref a) s₁) X.xe s := by
    refine wpAny_Call_Name_kw (ld_glob I hg hm ?_ hdb)
    refine PySem.W.callWith_K (h₀ := X.base) I.ok.mod.kin kp (thn (ha cpos pins s σ H _ I h) fun us s1 ⟨vs, H1, I1, r, hl, q1⟩ => ⟨I1.kIn, ?_⟩) he hpl
    obtain ⟨of, lf, cf⟩ := Option.map_eq_some_iff.mp (show (X.K.lookup f).map (·.cls) = some (.type "function") from beq_iff_eq.mp fn)
    have hC1 := I1.bk _ _ hC
    have hN1 := hN.keeps I1.bk
    have T1 := T.keeps I1.bk
    obtain ⟨hh, gg, d, tk, os⟩ := s1
    refine exc_call FB T1 hC1 hN1 hni (I1.kIn _ _ lf) cf (by show us.length ≤ _; rw [← r.length]; exact hl) fun h' ex hm => ?_
    obtain ⟨t0, ht, htn, _⟩ := hm.there
    have nH := I1.no hm.new
    have fx : FxOk X pins H1 ex := I1.fxOk hm.new nH
    have I2 := (I1.kept (t' := tk) hm.keeps).trackO (o := exN ex (.ref C) none) fx ⟨⟨_, t0, ht, rfl, rfl, rfl⟩, ⟨_, ht⟩, fun p1 p2 pp kk => by
      obtain ⟨o1, v1, y1, y2⟩ := pp
      exact ⟨o1, v1, kk _ y1, y2⟩⟩
    have hq := q1 ex nH
    have r2 : Vals (V.ref ex :: vs) (Value.ref ex :: us) := .cons rfl r
    have e2 : (Value.ref ex :: us) ++ [] = Value.ref ex :: us := List.append_nil _
    have hl2 : ((Value.ref ex :: us) ++ []).length = ps.length := by
      have z := r2.length
      rw [F.len _ _ _ _ hq] at z
      rw [e2]
      exact z.symm
    have bd := hb _ (Value.ref ex :: us) I2.kIn hl2
    rw [e2] at bd
    refine wpAny_call (codeAny_mono (F.run _ X.stack _ _ ⟨Value.ref ex :: us, []⟩ (Value.ref ex :: us) _ _ E0 (hr.make C us []) (I2.env0.make C us []) bd r2 hq) fun r s' hq' => ?_)
    cases r with
    | error e => exact pass0 pins σ _ _ e s' I2 hq'
    | ok fl =>
      cases fl with
      | ret u =>
        obtain ⟨v, H', I3, rv, ev, d', eH, hw⟩ := I2.after hq'
        subst ev
        obtain ⟨oe, t1, h1, h2, h3, h4⟩ := I3.excN eH
        exact ⟨rv, ex, oe, t1, rfl, I3.bk _ _ hC, h1, h2, h4, hW pins σ (unt H' ex) s' ex (.ref C) (some d') .none (I3.unt eH) ⟨oe, _, h1, h2, h3, h4, by show 1 < 6; decide, rfl, ⟨unt_same, fx.2⟩, .inl rfl⟩ hw⟩
      | next => exact False.elim hq'
      | brk => exact False.elim hq'
      | cont => exact False.elim hq'
  have hB := T.hasType FB.hasBase
  have hd := I.ok.hd hc
  rw [arm_exec_Raise]
  first
    | exact wpAny_bind (wpAny_standAt (raise_madeD hB hd (wpAny_bind (wpAny_mono inner (fun v s₃ h₃ => wpAny_bind (wpAny_standAt (wpAny_pure h₃))) fun _ _ z => z))))
    | (simp only [evalOpt, Option.map]; exact wpAny_bind (wpAny_standAt (raise_madeD hB hd (wpAny_bind (wpAny_mono inner (fun v s₃ h₃ => wpAny_bind (wpAny_standAt (wpAny_pure h₃))) fun _ _ z => z)))))
end
theorem pe_fldEK {X : Cx} {K : PySem.W.Frag} {f : Str} {pos : Pos} {e : Expr} {ta : TE} (he : PE X e ta) (hb : attributeBase e f X.env (eval e X.env) = eval e X.env) (hK : X.K = K := by rfl) : PE X (.Attribute e f pos) (tFldE K ta f) := hK ▸ pe_fldE he hb
end L2

namespace CRL
open PySem L2
def top (i : Nat) : Stmt := PySem.Challenge.pw_coverroll_k28_bounds_of_words.main.body.getD i (.Pass ⟨0, 0, 0, 0⟩)
abbrev s_NoWords___init__ : Stmt := inClass (top 4) 0
abbrev s_is_whole : Stmt := top 10
abbrev s_has_figures_alone : Stmt := top 11
abbrev s_writes_whole : Stmt := top 12
abbrev s_is_cents_part : Stmt := top 13
abbrev s_read_cents : Stmt := top 14
abbrev s_has_letters_alone : Stmt := top 24
abbrev s_is_name : Stmt := top 25
abbrev s_is_day : Stmt := top 26
abbrev s_Condition_holds : Stmt := inClass (top 33) 0
abbrev s_CauseIs___init__ : Stmt := inClass (top 34) 0
abbrev s_CauseIs_holds : Stmt := inClass (top 34) 1
abbrev s_ThingIs___init__ : Stmt := inClass (top 35) 0
abbrev s_ThingIs_holds : Stmt := inClass (top 35) 1
abbrev s_DaysIn___init__ : Stmt := inClass (top 36) 0
abbrev s_DaysIn_holds : Stmt := inClass (top 36) 1
abbrev s_Over___init__ : Stmt := inClass (top 37) 0
abbrev s_Over_holds : Stmt := inClass (top 37) 1
abbrev s_Not___init__ : Stmt := inClass (top 38) 0
abbrev s_Not_holds : Stmt := inClass (top 38) 1
abbrev s_All___init__ : Stmt := inClass (top 39) 0
abbrev s_All_holds : Stmt := inClass (top 39) 1
abbrev s_Some___init__ : Stmt := inClass (top 40) 0
abbrev s_Some_holds : Stmt := inClass (top 40) 1
abbrev s_day_of : Stmt := top 46
abbrev s_Reader___init__ : Stmt := inClass (top 47) 0
abbrev s_Reader_ahead : Stmt := inClass (top 47) 1
abbrev s_Reader_step : Stmt := inClass (top 47) 2
abbrev s_Reader_read_rows : Stmt := inClass (top 47) 3
abbrev s_Reader_read_row : Stmt := inClass (top 47) 4
abbrev s_Reader_goes_on : Stmt := inClass (top 47) 5
abbrev s_Reader_read_piece : Stmt := inClass (top 47) 6
abbrev s_Reader_read_deeper : Stmt := inClass (top 47) 7
abbrev s_Reader_read_bracket : Stmt := inClass (top 47) 8
abbrev s_Reader_read_name : Stmt := inClass (top 47) 9
abbrev s_Reader_read_days : Stmt := inClass (top 47) 10
abbrev s_Reader_read_day : Stmt := inClass (top 47) 11
abbrev s_Reader_read_amount : Stmt := inClass (top 47) 12
abbrev s_read_condition : Stmt := top 48
abbrev s__law_cell : Stmt := top 50
abbrev s__law_mix : Stmt := top 51
abbrev s__law_whole : Stmt := top 52
abbrev s__law_refused : Stmt := top 55
abbrev s__law_refused_at : Stmt := top 56
abbrev s__law_truth : Stmt := top 57
abbrev s__law_atom : Stmt := top 58
abbrev s__law_opened : Stmt := top 59
abbrev s__law_holds : Stmt := top 60
abbrev s__law_nested : Stmt := top 61
abbrev s__law_row : Stmt := top 62
abbrev s__law_long : Stmt := top 63
abbrev s_law : Stmt := top 64
/-- what the text's own names stand for -/
structure Txt (K : PySem.W.Frag) (mg : Str → Option Value) : Prop where
  g_CAUSE : GInt mg "CAUSE" 4
  g_CENTS : GInt mg "CENTS" 5
  g_DAY : GInt mg "DAY" 1
  g_FIGURES : GStr mg "FIGURES" "0123456789"
  g_LAST_DAY : GInt mg "LAST_DAY" 1000000
  g_LETTERS : GStr mg "LETTERS" "abcdefghijklmnopqrstuvwxyz"
  g_LONGEST_NAME : GInt mg "LONGEST_NAME" 8
  g_MOST_DAY_FIGURES : GInt mg "MOST_DAY_FIGURES" 7
  g_MOST_IN_ROW : GInt mg "MOST_IN_ROW" 8
  g_MOST_OPEN : GInt mg "MOST_OPEN" 6
  g_MOST_WHOLE_FIGURES : GInt mg "MOST_WHOLE_FIGURES" 10
  g_MOST_WORDS : GInt mg "MOST_WORDS" 60
  g_THING : GInt mg "THING" 3
  n_ValueError : mg "ValueError" = none
  n_bool : mg "bool" = none
  n_int : mg "int" = none
  n_isinstance : mg "isinstance" = none
  n_len : mg "len" = none
  n_list : mg "list" = none
  n_range : mg "range" = none
  n_str : mg "str" = none
/-- the text's own error classes -/
structure Xc (K : PySem.W.Frag) (mg : Str → Option Value) (C_CoverError C_NoAmount C_NoWords C_TooDeep C_NoText : Addr) : Prop where
  a_CoverError : mg "CoverError" = some (.ref C_CoverError)
  a_NoAmount : mg "NoAmount" = some (.ref C_NoAmount)
  a_NoWords : mg "NoWords" = some (.ref C_NoWords)
  a_TooDeep : mg "TooDeep" = some (.ref C_TooDeep)
  a_NoText : mg "NoText" = some (.ref C_NoText)
  s_NoWords : XSet K C_NoWords "at"
  e_NoWords : XK1 K C_NoWords
  v_NoWords : PySem.W.kitOne K (.ref C_NoWords) (.type "ValueError") = some true
  k_NoWords_NoWords : PySem.W.kitOne K (.ref C_NoWords) (.ref C_NoWords) = some true
  k_NoWords_TooDeep : PySem.W.kitOne K (.ref C_NoWords) (.ref C_TooDeep) = some false
  k_NoWords_NoText : PySem.W.kitOne K (.ref C_NoWords) (.ref C_NoText) = some false
  k_NoWords_NoAmount : PySem.W.kitOne K (.ref C_NoWords) (.ref C_NoAmount) = some false
  h_NoWords_CoverError : PySem.W.exmOne K (.ref C_NoWords) (.ref C_CoverError) = some true
  x_TooDeep : XCls K "TooDeep" mg C_TooDeep
  e_TooDeep : XK1 K C_TooDeep
  v_TooDeep : PySem.W.kitOne K (.ref C_TooDeep) (.type "ValueError") = some true
  k_TooDeep_NoWords : PySem.W.kitOne K (.ref C_TooDeep) (.ref C_NoWords) = some false
  k_TooDeep_TooDeep : PySem.W.kitOne K (.ref C_TooDeep) (.ref C_TooDeep) = some true
  k_TooDeep_NoText : PySem.W.kitOne K (.ref C_TooDeep) (.ref C_NoText) = some false
  k_TooDeep_NoAmount : PySem.W.kitOne K (.ref C_TooDeep) (.ref C_NoAmount) = some false
  h_TooDeep_CoverError : PySem.W.exmOne K (.ref C_TooDeep) (.ref C_CoverError) = some true
/-- the text's own classes -/
structure Kl (K : PySem.W.Frag) (mg : Str → Option Value) (C_Condition C_CauseIs C_ThingIs C_DaysIn C_Over C_Not C_All C_Some C_Reader : Addr) : Prop where
  mg_Condition : mg "Condition" = some (.ref C_Condition)
  cl_Condition : Cls K C_Condition
  mg_CauseIs : mg "CauseIs" = some (.ref C_CauseIs)
  cl_CauseIs : Cls K C_CauseIs
  na_CauseIs_name : NoAttr K C_CauseIs "name"
  mg_ThingIs : mg "ThingIs" = some (.ref C_ThingIs)
  cl_ThingIs : Cls K C_ThingIs
  na_ThingIs_name : NoAttr K C_ThingIs "name"
  mg_DaysIn : mg "DaysIn" = some (.ref C_DaysIn)
  cl_DaysIn : Cls K C_DaysIn
  na_DaysIn_first : NoAttr K C_DaysIn "first"
  na_DaysIn_last : NoAttr K C_DaysIn "last"
  mg_Over : mg "Over" = some (.ref C_Over)
  cl_Over : Cls K C_Over
  na_Over_cents : NoAttr K C_Over "cents"
  mg_Not : mg "Not" = some (.ref C_Not)
  cl_Not : Cls K C_Not
  na_Not_part : NoAttr K C_Not "part"
  mg_All : mg "All" = some (.ref C_All)
  cl_All : Cls K C_All
  na_All_several : NoAttr K C_All "several"
  mg_Some : mg "Some" = some (.ref C_Some)
  cl_Some : Cls K C_Some
  na_Some_several : NoAttr K C_Some "several"
  mg_Reader : mg "Reader" = some (.ref C_Reader)
  cl_Reader : Cls K C_Reader
  na_Reader_row : NoAttr K C_Reader "row"
  na_Reader_place : NoAttr K C_Reader "place"
  na_Reader_depth : NoAttr K C_Reader "depth"
  nd : ([C_Condition, C_CauseIs, C_ThingIs, C_DaysIn, C_Over, C_Not, C_All, C_Some, C_Reader] : List Addr).Nodup
/-! ### tests that are known -/
theorem dT {c A B : Prop} [Decidable c] (h : c) (q : A) : if decide c = true then A else B := by rw [decide_eq_true h, if_pos rfl]; exact q
theorem dF {c A B : Prop} [Decidable c] (h : ¬ c) (q : B) : if decide c = true then A else B := by rw [decide_eq_false h, if_neg Bool.false_ne_true]; exact q
theorem nT {c A B : Prop} [Decidable c] (h : ¬ c) (q : A) : if (!decide c) = true then A else B := by rw [decide_eq_false h]; exact q
theorem nF {c A B : Prop} [Decidable c] (h : c) (q : B) : if (!decide c) = true then A else B := by rw [decide_eq_true h]; exact q
theorem bT {c : Bool} {A B : Prop} (h : c = true) (q : A) : if c = true then A else B := by rw [if_pos h]; exact q
theorem bF {c : Bool} {A B : Prop} (h : c = false) (q : B) : if c = true then A else B := by rw [if_neg (by rw [h]; exact Bool.false_ne_true)]; exact q
/-- an int and no bool -/
def wholeV : V → Bool
  | .int _ => true
  | _ => false
theorem whole_kit {K : PySem.W.Frag} {H : Hp} {x : V} {T : String} (h : TyOf K H x (.type T)) : ∃ b1 b2, PySem.W.kitOne K (.type T) (.type "int") = some b1 ∧ PySem.W.kitOne K (.type T) (.type "bool") = some b2 ∧ wholeV x = (b1 && !b2) := by
  cases h with
  | non => exact ⟨false, false, by kernel_rfl, by kernel_rfl, rfl⟩
  | bl b => exact ⟨true, true, by kernel_rfl, by kernel_rfl, rfl⟩
  | int i => exact ⟨true, false, by kernel_rfl, by kernel_rfl, rfl⟩
  | str i => exact ⟨false, false, by kernel_rfl, by kernel_rfl, rfl⟩
  | flt i => exact ⟨false, false, by kernel_rfl, by kernel_rfl, rfl⟩
  | lst e => exact ⟨false, false, by kernel_rfl, by kernel_rfl, rfl⟩
  | frz e => exact ⟨false, false, by kernel_rfl, by kernel_rfl, rfl⟩
  | tup e => exact ⟨false, false, by kernel_rfl, by kernel_rfl, rfl⟩
  | dK e => exact ⟨false, false, by kernel_rfl, by kernel_rfl, rfl⟩
  | dT e => exact ⟨false, false, by kernel_rfl, by kernel_rfl, rfl⟩
/-! ### promises -/
def spWhole (K : PySem.W.Frag) : Sp := fun vs H Q _ => ∃ x T, vs = [x] ∧ TyOf K H x (.type T) ∧ Q (.bl (wholeV x)) H


section
variable {P : Program} {w : World} {K : PySem.W.Frag} {mg : Str → Option Value} {base : Heap}
theorem sc_is_whole : FnScope ["thing"] ["thing"] (defScope s_is_whole) := ⟨rfl, rfl, rfl, by decide +kernel, rfl, by decide +kernel, by decide +kernel⟩
theorem ok_is_whole {f : Addr} {fd : FuncData} (F : Fun K "is_whole" "is_whole" s_is_whole f fd) (T : Txt K mg) : FnOk P w K mg base CX0 1 f fd ["thing"] (spWhole K) := by
  have sc := sc_is_whole
  refine F.ok sc (fun vs H Q E h => ?_) (fun cdv A outer s H vs Q E hr h => ?_)
  · obtain ⟨x, T, rfl, _⟩ := h
    rfl
  obtain ⟨x, ty, rfl, hty, q⟩ := h
  refine ⟨_, (pss_one (ps_ret (pe_and (pe_callB call_isinst rfl T.n_isinstance (show bootBuiltins _ = some (.builtin "isinstance") from rfl) (pa_cons (pv 0) (pa_cons (pe_ty "int" rfl T.n_int rfl) pa_nil))) (pe_one (pe_not (pe_callB call_isinst rfl T.n_isinstance (show bootBuiltins _ = some (.builtin "isinstance") from rfl) (pa_cons (pv 0) (pa_cons (pe_ty "bool" rfl T.n_bool rfl) pa_nil)))))))), ?_⟩
  obtain ⟨b1, b2, k1, k2, e⟩ := whole_kit hty
  rw [e] at q
  refine ⟨_, rfl, _, _, _, _, _, rfl, ty_is, hty, k1, _, rfl, ?_⟩
  cases b1 with
  | false => exact q
  | true => exact ⟨_, rfl, _, _, _, _, _, rfl, ty_is, hty, k2, _, rfl, q⟩
end


/-! ### names -/
def letter (c : Nat) : Prop := 97 ≤ c ∧ c ≤ 122
instance : DecidablePred letter := fun c => by unfold letter; exact inferInstance
def AllLet (l : List Nat) : Prop := ∀ c ∈ l, letter c
instance (l : List Nat) : Decidable (AllLet l) := by unfold AllLet; exact inferInstance
def NameL (l : List Nat) : Prop := (1 ≤ l.length ∧ l.length ≤ 8) ∧ AllLet l
instance (l : List Nat) : Decidable (NameL l) := by unfold NameL; exact inferInstance
theorem let_in {c : Nat} : (c ∈ (Str.ofString "abcdefghijklmnopqrstuvwxyz").cps.toList) ↔ letter c := by
  have e : (Str.ofString "abcdefghijklmnopqrstuvwxyz").cps.toList = (List.range 26).map (97 + ·) := by decide +kernel
  rw [e, List.mem_map]
  unfold letter
  constructor
  · rintro ⟨k, hk, rfl⟩
    have := List.mem_range.mp hk
    omega
  · intro h
    exact ⟨c - 97, List.mem_range.mpr (by omega), by omega⟩
def isStrV : V → Bool
  | .str _ => true
  | _ => false
def nameV : V → Bool
  | .str z => decide (NameL z.cps.toList)
  | _ => false
def okX (x : V) : Prop := ∀ z, x = .str z → z.length ≤ 900
theorem str_kit {K : PySem.W.Frag} {H : Hp} {x : V} {T : String} (h : TyOf K H x (.type T)) : PySem.W.kitOne K (.type T) (.type "str") = some (isStrV x) := by
  cases h with
  | non => kernel_rfl
  | bl b => kernel_rfl
  | int i => kernel_rfl
  | str i => kernel_rfl
  | flt i => kernel_rfl
  | lst e => kernel_rfl
  | frz e => kernel_rfl
  | tup e => kernel_rfl
  | dK e => kernel_rfl
  | dT e => kernel_rfl
def spLet : Sp := fun vs H Q _ => ∃ l, vs = [.str (tx l)] ∧ Q (.bl (decide (AllLet l))) H
def spName (K : PySem.W.Frag) : Sp := fun vs H Q _ => ∃ x T, vs = [x] ∧ TyOf K H x (.type T) ∧ okX x ∧ Q (.bl (nameV x)) H
theorem okX_of {l : List Nat} (h : l.length ≤ 900) : okX (.str (tx l)) := fun z e => by cases e; rw [tx_len]; exact h
section
seal L2.PS L2.PSs L2.PE
variable {P : Program} {w : World} {K : PySem.W.Frag} {mg : Str → Option Value} {base : Heap}
theorem sc_has_letters_alone : FnScope ["text", "sign"] ["text"] (defScope s_has_letters_alone) := ⟨rfl, rfl, rfl, by decide +kernel, rfl, by decide +kernel, by decide +kernel⟩
theorem ok_has_letters_alone {f : Addr} {fd : FuncData} (F : Fun K "has_letters_alone" "has_letters_alone" s_has_letters_alone f fd) (T : Txt K mg) : FnOk P w K mg base CX0 1 f fd ["text"] spLet := by
  have sc := sc_has_letters_alone
  refine F.ok sc (fun vs H Q E h => ?_) (fun cdv A outer s H vs Q E hr h => ?_)
  · obtain ⟨_, rfl, _⟩ := h
    rfl
  obtain ⟨l, rfl, q⟩ := h
  refine ⟨_, (pss_cons (ps_for PassesOwn.never rfl (pi_str (pv 0)) (pg_name (i := 1) sc.nd rfl (Or.inl rfl))
        (pss_one (ps_if (pt_cmpR op_notIn1 (pv 1) (pe_gstr T.g_LETTERS rfl) rfl)
        (pss_one (ps_ret pe_bl))
        pss_nil)))
      (pss_one (ps_ret pe_bl))), ?_⟩
  refine ⟨_, rfl, _, rfl, for_str (l := l) (fun i σ H2 => ((∃ o, σ = [some (.str (tx l)), o]) ∧ H2 = H) ∧ ∀ j c, j < i → l[j]? = some c → letter c) ⟨⟨⟨none, rfl⟩, rfl⟩, fun _ _ z => absurd z (Nat.not_lt_zero _)⟩ ?_ ?_⟩
  · rintro i c σ H2 hi ⟨⟨⟨o, rfl⟩, rfl⟩, good⟩
    refine ⟨_, rfl, c, _, rfl, rfl, _, rfl, ?_⟩
    by_cases hc : letter c
    · refine nF (let_in.mpr hc) ⟨⟨⟨_, rfl⟩, rfl⟩, fun j d hj hd => ?_⟩
      by_cases e : j = i
      · subst e
        rw [hi] at hd
        cases hd
        exact hc
      · exact good j d (by omega) hd
    · refine nT (fun z => hc (let_in.mp z)) ?_
      have n : ¬ AllLet l := fun z => hc (z c (List.mem_of_getElem? hi))
      rw [decide_eq_false n] at q
      exact q
  · rintro σ H2 ⟨⟨⟨o, rfl⟩, rfl⟩, good⟩
    have all : AllLet l := fun c hc => by
      obtain ⟨j, hj, e⟩ := List.getElem_of_mem hc
      exact good j c hj (by rw [List.getElem?_eq_getElem hj, e])
    rw [decide_eq_true all] at q
    exact q
theorem sc_is_name : FnScope ["thing"] ["thing"] (defScope s_is_name) := ⟨rfl, rfl, rfl, by decide +kernel, rfl, by decide +kernel, by decide +kernel⟩
theorem ok_is_name {f : Addr} {fd : FuncData} (F : Fun K "is_name" "is_name" s_is_name f fd) (T : Txt K mg) (Chas_letters_alone : Cal P w K mg base 1 "has_letters_alone" ["text"] spLet) : FnOk P w K mg base CX0 2 f fd ["thing"] (spName K) := by
  have sc := sc_is_name
  refine F.ok sc (fun vs H Q E h => ?_) (fun cdv A outer s H vs Q E hr h => ?_)
  · obtain ⟨_, _, rfl, _⟩ := h
    rfl
  obtain ⟨x, ty, rfl, hty, ok, q⟩ := h
  refine ⟨_, (pss_cons (ps_if (pt_not (pt_val (pe_callB call_isinst rfl T.n_isinstance (show bootBuiltins _ = some (.builtin "isinstance") from rfl) (pa_cons (pv 0) (pa_cons (pe_ty "str" rfl T.n_str rfl) pa_nil)))))
        (pss_one (ps_ret pe_bl))
        pss_nil)
      (pss_one (ps_ret (pe_and (pe_chain op_le op_le pe_int (pe_callB call_len_str rfl T.n_len (show bootBuiltins _ = some (.builtin "len") from rfl) (pa_cons (pv 0) pa_nil)) (pe_gint T.g_LONGEST_NAME rfl)) (pe_one (pe_callC Chas_letters_alone (hr.mono (by decide)) rfl (pa_cons (pv 0) pa_nil))))))), ?_⟩
  refine ⟨_, rfl, _, _, _, _, _, rfl, ty_is, hty, str_kit hty, _, rfl, ?_⟩
  cases x with
  | str z =>
    have hz := ok z rfl
    have ez : tx z.cps.toList = z := tx_of z
    refine iteF ⟨_, rfl, _, rfl, le_line (by omega), ?_⟩
    have lz : (z.length : Int) = (z.cps.toList.length : Int) := by rw [← tx_len, ez]
    refine ⟨_, _, rfl, rfl, _, rfl, ?_⟩
    by_cases c1 : 1 ≤ (z.length : Int)
    · refine dT c1 ⟨_, _, rfl, rfl, _, rfl, ?_⟩
      by_cases c2 : (z.length : Int) ≤ 8
      · refine dT c2 ⟨_, rfl, z.cps.toList, by rw [ez]; rfl, ?_⟩
        have e : decide (NameL z.cps.toList) = decide (AllLet z.cps.toList) := by
          by_cases a : AllLet z.cps.toList
          · rw [decide_eq_true a, decide_eq_true (show NameL _ from ⟨⟨by omega, by omega⟩, a⟩)]
          · rw [decide_eq_false a, decide_eq_false (fun y => a y.2)]
        rw [← e]
        exact q
      · refine dF c2 ?_
        rw [show nameV (.str z) = false from decide_eq_false (fun y => c2 (by have := y.1.2; omega))] at q
        exact q
    · refine dF c1 ⟨_, rfl, iteF ?_⟩
      rw [show nameV (.str z) = false from decide_eq_false (fun y => c1 (by have := y.1.1; omega))] at q
      exact q
  | _ => exact iteT q
end


def spCellN (K : PySem.W.Frag) : Sp := fun vs H Q _ => ∃ a ns, ∃ k : Int, vs = [.ref a, .int k] ∧ SqL K H a (List.map V.int ns) ∧ 0 ≤ k ∧ k ≤ 1000 ∧ ns.length ≤ 63 ∧ ∀ v : Int, 0 ≤ v → v < 10 ^ 18 → Q (.int v) H
def spMix : Sp := fun vs H Q _ => ∃ n k : Int, vs = [.int n, .int k] ∧ 0 ≤ n ∧ n < 2 ^ 63 ∧ 0 ≤ k ∧ k ≤ 1000 ∧ ∀ v : Int, 0 ≤ v → v < 2147483629 → Q (.int v) H
theorem vne {i j : Int} (h : i ≠ j) : ¬ V.int i = V.int j := fun z => h (V.int.inj z)
section
seal L2.PS L2.PSs L2.PE
variable {P : Program} {w : World} {K : PySem.W.Frag} {mg : Str → Option Value} {base : Heap}
theorem sc__law_cell : FnScope ["_law_script", "_law_k"] ["_law_script", "_law_k"] (defScope s__law_cell) := ⟨rfl, rfl, rfl, by decide +kernel, rfl, by decide +kernel, by decide +kernel⟩
theorem ok__law_cell {f : Addr} {fd : FuncData} (F : Fun K "_law_cell" "_law_cell" s__law_cell f fd) (T : Txt K mg) : FnOk P w K mg base CX0 1 f fd ["_law_script", "_law_k"] (spCellN K) := by
  have sc := sc__law_cell
  refine F.ok sc (fun vs H Q E h => ?_) (fun cdv A outer s H vs Q E hr h => ?_)
  · obtain ⟨_, _, _, rfl, _⟩ := h
    rfl
  obtain ⟨a, ns, k, rfl, ha, k0, k1, h63, q⟩ := h
  refine ⟨_, (pss_cons (ps_if (pt_cmpR op_lt (pv 1) (pe_callB call_len_seq rfl T.n_len (show bootBuiltins _ = some (.builtin "len") from rfl) (pa_cons (pv 0) pa_nil)) (nomark _))
        (pss_one (ps_ret (pe_op op_mod (pe_ix ix_list (pv 0) (pv 1) (fun _ _ => rfl)) (pe_op op_pow pe_int pe_int))))
        pss_nil)
      (pss_one (ps_ret (pe_op op_mod (pe_op op_add (pe_op op_add (pe_op op_mul (pe_op op_mul (pv 1) (pv 1)) pe_int) (pe_op op_mul pe_int (pe_callB call_len_seq rfl T.n_len (show bootBuiltins _ = some (.builtin "len") from rfl) (pa_cons (pv 0) pa_nil)))) pe_int) pe_int)))), ?_⟩
  refine ⟨_, rfl, _, rfl, a, _, rfl, .inl ha, _, _, rfl, rfl, _, rfl, ?_⟩
  by_cases c : k < ((List.map V.int ns).length : Int)
  · refine dT c ⟨_, rfl, _, rfl, a, _, _, _, rfl, rfl, ha, at_intI k0 (by rw [List.length_map] at c; exact c), _, _, rfl, rfl, ⟨by decide, by decide, by decide⟩, _, _, rfl, rfl, (by show (0 : Int) < 10 ^ (18 : Int).toNat; decide), ?_⟩
    exact q _ (Int.emod_nonneg _ (by decide)) (Int.emod_lt_of_pos _ (by decide))
  · refine dF c ⟨_, rfl, _, rfl, _, _, rfl, rfl, .inl ⟨by omega, by omega⟩, _, _, rfl, rfl, .inr ⟨by decide, by decide⟩, _, rfl, a, _, rfl, .inl ha, _, _, rfl, rfl, .inl ⟨by decide, by decide⟩, _, _, rfl, rfl, _, _, rfl, rfl, _, _, rfl, rfl, (by show (0 : Int) < 2147483647; decide), ?_⟩
    exact q _ (Int.emod_nonneg _ (by decide)) (Int.lt_trans (Int.emod_lt_of_pos _ (by decide)) (by decide))
theorem sc__law_mix : FnScope ["_law_number", "_law_k"] ["_law_number", "_law_k"] (defScope s__law_mix) := ⟨rfl, rfl, rfl, by decide +kernel, rfl, by decide +kernel, by decide +kernel⟩
theorem ok__law_mix {f : Addr} {fd : FuncData} (F : Fun K "_law_mix" "_law_mix" s__law_mix f fd) (T : Txt K mg) : FnOk P w K mg base CX0 1 f fd ["_law_number", "_law_k"] spMix := by
  have sc := sc__law_mix
  refine F.ok sc (fun vs H Q E h => ?_) (fun cdv A outer s H vs Q E hr h => ?_)
  · obtain ⟨_, _, rfl, _⟩ := h
    rfl
  obtain ⟨n, k, rfl, n0, n1, k0, k1, q⟩ := h
  refine ⟨_, (pss_cons (ps_set (i := 0) sc.nd rfl (Or.inl rfl) (pe_op op_mod (pe_op op_add (pe_op op_add (pe_op op_mul (pv 0) pe_int) (pe_op op_mul (pe_op op_mul (pv 1) (pv 1)) pe_int)) pe_int) pe_int))
      (pss_one (ps_ret (pe_op op_mod (pe_op op_mul (pv 0) (pv 0)) pe_int)))), ?_⟩
  refine ⟨_, rfl, _, _, rfl, rfl, .inr ⟨by decide, by decide⟩, _, rfl, _, rfl, _, _, rfl, rfl, .inl ⟨by omega, by omega⟩, _, _, rfl, rfl, .inr ⟨by decide, by decide⟩, _, _, rfl, rfl, _, _, rfl, rfl, _, _, rfl, rfl, (by show (0 : Int) < 2147483647; decide), ?_⟩
  have v0 : 0 ≤ (n * 48271 + k * k * 69621 + 4099) % 2147483647 := Int.emod_nonneg _ (by decide)
  have v1 : (n * 48271 + k * k * 69621 + 4099) % 2147483647 < 2147483647 := Int.emod_lt_of_pos _ (by decide)
  refine ⟨_, rfl, _, rfl, _, _, rfl, rfl, .inl ⟨by omega, by omega⟩, _, _, rfl, rfl, (by show (0 : Int) < 2147483629; decide), ?_⟩
  exact q _ (Int.emod_nonneg _ (by decide)) (Int.emod_lt_of_pos _ (by decide))
end


def spTruth : Sp := fun vs H Q _ => ∃ a b, vs = [.bl a, .bl b] ∧ Q (.bl (a == b)) H
section
seal L2.PS L2.PSs L2.PE
variable {P : Program} {w : World} {K : PySem.W.Frag} {mg : Str → Option Value} {base : Heap}
theorem sc__law_truth : FnScope ["_law_found", "_law_due"] ["_law_found", "_law_due"] (defScope s__law_truth) := ⟨rfl, rfl, rfl, by decide +kernel, rfl, by decide +kernel, by decide +kernel⟩
theorem ok__law_truth {f : Addr} {fd : FuncData} (F : Fun K "_law_truth" "_law_truth" s__law_truth f fd) (T : Txt K mg) : FnOk P w K mg base CX0 1 f fd ["_law_found", "_law_due"] spTruth := by
  have sc := sc__law_truth
  refine F.ok sc (fun vs H Q E h => ?_) (fun cdv A outer s H vs Q E hr h => ?_)
  · obtain ⟨_, _, rfl, _⟩ := h
    rfl
  obtain ⟨a, b, rfl, q⟩ := h
  refine ⟨_, (pss_one (ps_ret (pe_and (pe_callB call_isinst rfl T.n_isinstance (show bootBuiltins _ = some (.builtin "isinstance") from rfl) (pa_cons (pv 0) (pa_cons (pe_ty "bool" rfl T.n_bool rfl) pa_nil))) (pe_one (pe_cmpR op_eq (pv 0) (pv 1) (nomark _)))))), ?_⟩
  refine ⟨_, rfl, _, _, _, _, _, rfl, ty_is, .bl _, (by kernel_rfl : PySem.W.kitOne K (.type "bool") (.type "bool") = some true), _, rfl, iteT ⟨_, rfl, _, rfl, rfl, ?_⟩⟩
  have e : decide (V.bl a = V.bl b) = (a == b) := by cases a <;> cases b <;> rfl
  rw [e]
  exact q
end


/-! ### amounts as texts -/
/-- how cents are written -/
def shown (n : Nat) : List Nat := figs (n / 100) ++ [46, 48 + n / 10 % 10, 48 + n % 10]
theorem str_small {d : Nat} (h : d < 10) : ((toString (d : Int) : String) : Str) = tx [48 + d] := by rw [str_nat, figs_small h]
theorem len_shown (n : Nat) : (shown n).length = (figs (n / 100)).length + 3 := by unfold shown; rw [List.length_append]; rfl
theorem point_free (n : Nat) : 46 ∉ figs n := fun h => by have := figs_dig n 46 h; omega
theorem cut_shown (n : Nat) : cutAt 46 (shown n) = [figs (n / 100), [48 + n / 10 % 10, 48 + n % 10]] := by
  unfold shown
  rw [cutAt_app _ (point_free _), cutAt_free]
  intro h
  have h1 : 46 = 48 + n / 10 % 10 ∨ 46 = 48 + n % 10 := by simpa using h
  omega
theorem val_two (a b : Nat) (ha : a < 10) (hb : b < 10) : NumText.digitsVal [48 + a, 48 + b] = 10 * a + b := by
  show (0 * 10 + (48 + a - 48)) * 10 + (48 + b - 48) = 10 * a + b
  omega
theorem figs10 {n : Nat} (h : n < 10 ^ 10) : (figs n).length ≤ 10 := figs_len (by decide) h
theorem dig_in {c : Nat} : (c ∈ (Str.ofString "0123456789").cps.toList) ↔ (48 ≤ c ∧ c ≤ 57) := by
  have e : (Str.ofString "0123456789").cps.toList = [48, 49, 50, 51, 52, 53, 54, 55, 56, 57] := by decide +kernel
  rw [e]
  simp
  omega
theorem int_of {l : List Nat} (h : NumText.AllDigits l) (h1 : l ≠ []) (h2 : l.length ≤ 640) : intText? (tx l) = some ((NumText.digitsVal l : Nat) : Int) := intText_digits (x := tx l) h h1 (by rw [tx_len]; omega)
instance (l : List Nat) : Decidable (NumText.AllDigits l) := by unfold NumText.AllDigits; exact inferInstance
def spFigs : Sp := fun vs H Q _ => ∃ l, vs = [.str (tx l)] ∧ Q (.bl (decide (NumText.AllDigits l))) H
section
variable {P : Program} {w : World} {K : PySem.W.Frag} {mg : Str → Option Value} {base : Heap}
theorem sc_has_figures_alone : FnScope ["text", "sign"] ["text"] (defScope s_has_figures_alone) := ⟨rfl, rfl, rfl, by decide +kernel, rfl, by decide +kernel, by decide +kernel⟩
theorem ok_has_figures_alone {f : Addr} {fd : FuncData} (F : Fun K "has_figures_alone" "has_figures_alone" s_has_figures_alone f fd) (T : Txt K mg) : FnOk P w K mg base CX0 1 f fd ["text"] spFigs := by
  have sc := sc_has_figures_alone
  refine F.ok sc (fun vs H Q E h => ?_) (fun cdv A outer s H vs Q E hr h => ?_)
  · obtain ⟨_, rfl, _⟩ := h
    rfl
  obtain ⟨l, rfl, q⟩ := h
  refine ⟨_, (pss_cons (ps_for PassesOwn.never rfl (pi_str (pv 0)) (pg_name (i := 1) sc.nd rfl (Or.inl rfl))
        (pss_one (ps_if (pt_cmpR op_notIn1 (pv 1) (pe_gstr T.g_FIGURES rfl) rfl)
        (pss_one (ps_ret pe_bl))
        pss_nil)))
      (pss_one (ps_ret pe_bl))), ?_⟩
  refine ⟨_, rfl, _, rfl, for_str (l := l) (fun i σ H2 => ((∃ o, σ = [some (.str (tx l)), o]) ∧ H2 = H) ∧ ∀ j c, j < i → l[j]? = some c → 48 ≤ c ∧ c ≤ 57) ⟨⟨⟨none, rfl⟩, rfl⟩, fun _ _ z => absurd z (Nat.not_lt_zero _)⟩ ?_ ?_⟩
  · rintro i c σ H2 hi ⟨⟨⟨o, rfl⟩, rfl⟩, good⟩
    refine ⟨_, rfl, c, _, rfl, rfl, _, rfl, ?_⟩
    by_cases hc : 48 ≤ c ∧ c ≤ 57
    · refine nF (dig_in.mpr hc) ⟨⟨⟨_, rfl⟩, rfl⟩, fun j d hj hd => ?_⟩
      by_cases e : j = i
      · subst e
        rw [hi] at hd
        cases hd
        exact hc
      · exact good j d (by omega) hd
    · refine nT (fun z => hc (dig_in.mp z)) ?_
      have n : ¬ NumText.AllDigits l := fun z => hc (z c (List.mem_of_getElem? hi))
      rw [decide_eq_false n] at q
      exact q
  · rintro σ H2 ⟨⟨⟨o, rfl⟩, rfl⟩, good⟩
    have all : NumText.AllDigits l := fun c hc => by
      obtain ⟨j, hj, e⟩ := List.getElem_of_mem hc
      exact good j c hj (by rw [List.getElem?_eq_getElem hj, e])
    rw [decide_eq_true all] at q
    exact q
end


def spWholePart : Sp := fun vs H Q _ => ∃ n k : Nat, vs = [.str (tx (figs n)), .int k] ∧ n < 10 ^ k ∧ 1 ≤ k ∧ k ≤ 10 ∧ Q (.bl true) H
def spCentsPart : Sp := fun vs H Q _ => ∃ a b : Nat, vs = [.str (tx [48 + a, 48 + b])] ∧ a < 10 ∧ b < 10 ∧ Q (.bl true) H
def spRead : Sp := fun vs H Q _ => ∃ n : Nat, vs = [.str (tx (shown n))] ∧ n < 10 ^ 12 ∧ ∀ H', Same H H' → Q (.int n) H'
theorem cat_shown (n : Nat) : ((toString ((n : Int) / 100) : String) : Str) ++ (Str.ofString ".") ++ ((toString ((n : Int) / 10 % 10) : String) : Str) ++ ((toString ((n : Int) % 10) : String) : Str) = tx (shown n) := by
  have e1 : (n : Int) / 100 = ((n / 100 : Nat) : Int) := by omega
  have e2 : (n : Int) / 10 % 10 = ((n / 10 % 10 : Nat) : Int) := by omega
  have e3 : (n : Int) % 10 = ((n % 10 : Nat) : Int) := by omega
  have e4 : (Str.ofString ".") = tx [46] := by decide +kernel
  rw [e1, e2, e3, e4, str_nat, str_small (Nat.mod_lt _ (by decide)), str_small (Nat.mod_lt _ (by decide)), tx_app, tx_app, tx_app]
  unfold shown
  simp
section
variable {P : Program} {w : World} {K : PySem.W.Frag} {mg : Str → Option Value} {base : Heap}
theorem sc_writes_whole : FnScope ["text", "most_figures"] ["text", "most_figures"] (defScope s_writes_whole) := ⟨rfl, rfl, rfl, by decide +kernel, rfl, by decide +kernel, by decide +kernel⟩
theorem ok_writes_whole {f : Addr} {fd : FuncData} (F : Fun K "writes_whole" "writes_whole" s_writes_whole f fd) (T : Txt K mg) (Chas_figures_alone : Cal P w K mg base 1 "has_figures_alone" ["text"] spFigs) : FnOk P w K mg base CX0 2 f fd ["text", "most_figures"] spWholePart := by
  have sc := sc_writes_whole
  refine F.ok sc (fun vs H Q E h => ?_) (fun cdv A outer s H vs Q E hr h => ?_)
  · obtain ⟨_, _, rfl, _⟩ := h
    rfl
  obtain ⟨n, k, rfl, hn, k1, k10, q⟩ := h
  refine ⟨_, (pss_cons (ps_if (PW.pt (pw_or (pt_cmpR op_lt (pe_callB call_len_str rfl T.n_len (show bootBuiltins _ = some (.builtin "len") from rfl) (pa_cons (pv 0) pa_nil)) pe_int (nomark _)) (pw_or1 (pt_cmpR op_gt (pe_callB call_len_str rfl T.n_len (show bootBuiltins _ = some (.builtin "len") from rfl) (pa_cons (pv 0) pa_nil)) (pv 1) (nomark _)))))
        (pss_one (ps_ret pe_bl))
        pss_nil)
      (pss_cons (ps_if (PW.pt (pw_and (pt_cmpR op_eq (pe_ix ix_str (pv 0) pe_int (fun _ _ => rfl)) pe_str (nomark _)) (pw_and1 (pt_cmpR op_gt (pe_callB call_len_str rfl T.n_len (show bootBuiltins _ = some (.builtin "len") from rfl) (pa_cons (pv 0) pa_nil)) pe_int (nomark _)))))
        (pss_one (ps_ret pe_bl))
        pss_nil)
      (pss_one (ps_ret (pe_callC Chas_figures_alone (hr.mono (by decide)) rfl (pa_cons (pv 0) pa_nil)))))), ?_⟩
  have hl : (tx (figs n)).length = (figs n).length := tx_len _
  have l1 : (figs n).length ≤ k := figs_len (by omega) hn
  have l0 : 1 ≤ (figs n).length := by
    cases z : figs n with
    | nil => exact absurd z (figs_ne n)
    | cons a r => simp
  have lz : (tx (figs n)).length ≤ sizeLine := by rw [hl]; exact le_line (by omega)
  refine ⟨_, rfl, _, rfl, lz, _, _, rfl, rfl, _, rfl, ?_⟩
  refine dF (by rw [hl]; omega) ?_
  refine ⟨_, rfl, _, rfl, lz, _, rfl, _, _, rfl, rfl, _, rfl, ?_⟩
  refine dF (by rw [hl]; omega) ?_
  cases z : figs n with
  | nil => exact absurd z (figs_ne n)
  | cons a r =>
    rw [z] at lz hl l1
    have ha : atI (tx (a :: r)).cps.toList 0 = some a := atI_nat (j := 0) rfl
    refine ⟨_, rfl, _, _, a, rfl, rfl, lz, ha, rfl, _, rfl, ?_⟩
    refine ite2 (fun c => ?_) (fun c => ?_)
    · have ea : a = 48 := by
        have c' : V.str (tx [a]) = V.str (Str.ofString "0") := of_decide_eq_true c
        have e0 : Str.ofString "0" = tx [48] := by decide +kernel
        rw [e0] at c'
        have := tx_inj (V.str.inj c')
        simpa using this
      have e1 := figs_head n (by rw [z, ea]; rfl)
      rw [z] at e1
      have er : r = [] := by simpa [ea] using e1
      subst er
      refine ⟨_, rfl, _, rfl, lz, _, _, rfl, rfl, _, rfl, dF (by rw [hl]; simp) ?_⟩
      refine ⟨_, rfl, [a], rfl, ?_⟩
      rw [decide_eq_true (by rw [← z]; exact figs_dig n)]
      exact q
    · refine iteF ⟨_, rfl, a :: r, rfl, ?_⟩
      rw [decide_eq_true (by rw [← z]; exact figs_dig n)]
      exact q
theorem sc_is_cents_part : FnScope ["text"] ["text"] (defScope s_is_cents_part) := ⟨rfl, rfl, rfl, by decide +kernel, rfl, by decide +kernel, by decide +kernel⟩
theorem ok_is_cents_part {f : Addr} {fd : FuncData} (F : Fun K "is_cents_part" "is_cents_part" s_is_cents_part f fd) (T : Txt K mg) (Chas_figures_alone : Cal P w K mg base 1 "has_figures_alone" ["text"] spFigs) : FnOk P w K mg base CX0 2 f fd ["text"] spCentsPart := by
  have sc := sc_is_cents_part
  refine F.ok sc (fun vs H Q E h => ?_) (fun cdv A outer s H vs Q E hr h => ?_)
  · obtain ⟨_, _, rfl, _⟩ := h
    rfl
  obtain ⟨a, b, rfl, ha, hb, q⟩ := h
  refine ⟨_, (pss_one (ps_ret (pe_and (pe_cmpR op_eq (pe_callB call_len_str rfl T.n_len (show bootBuiltins _ = some (.builtin "len") from rfl) (pa_cons (pv 0) pa_nil)) pe_int (nomark _)) (pe_one (pe_callC Chas_figures_alone (hr.mono (by decide)) rfl (pa_cons (pv 0) pa_nil)))))), ?_⟩
  refine ⟨_, rfl, _, rfl, by rw [tx_len]; exact le_line (by show 2 ≤ 1000; decide), rfl, _, rfl, dT (by rw [tx_len]; rfl) ⟨_, rfl, _, rfl, ?_⟩⟩
  rw [decide_eq_true]
  · exact q
  · intro c hc
    have h1 : c = 48 + a ∨ c = 48 + b := by simpa using hc
    omega
theorem sc_read_cents : FnScope ["text", "pieces"] ["text"] (defScope s_read_cents) := ⟨rfl, rfl, rfl, by decide +kernel, rfl, by decide +kernel, by decide +kernel⟩
theorem ok_read_cents {f : Addr} {fd : FuncData} (F : Fun K "read_cents" "read_cents" s_read_cents f fd) (T : Txt K mg) (Cwrites_whole : Cal P w K mg base 2 "writes_whole" ["text", "most_figures"] spWholePart) (Cis_cents_part : Cal P w K mg base 2 "is_cents_part" ["text"] spCentsPart) : FnOk P w K mg base CX0 3 f fd ["text"] spRead := by
  have sc := sc_read_cents
  refine F.ok sc (fun vs H Q E h => ?_) (fun cdv A outer s H vs Q E hr h => ?_)
  · obtain ⟨_, rfl, _⟩ := h
    rfl
  obtain ⟨n, rfl, hn, q⟩ := h
  refine ⟨_, (pss_cons (ps_if (pt_not (pt_val (pe_callB call_isinst rfl T.n_isinstance (show bootBuiltins _ = some (.builtin "isinstance") from rfl) (pa_cons (pv 0) (pa_cons (pe_ty "str" rfl T.n_str rfl) pa_nil)))))
        (pss_one ps_never)
        pss_nil)
      (pss_cons (ps_set (i := 1) sc.nd rfl (Or.inl rfl) (pe_bm PySem.F.plainAttrs_str PySem.F.slot_str_split PySem.F.type_str_split mt_split (pv 0) (pa_cons pe_str pa_nil)))
      (pss_cons (ps_if (PW.pt (pw_or (pt_cmpR op_ne (pe_callB call_len_seq rfl T.n_len (show bootBuiltins _ = some (.builtin "len") from rfl) (pa_cons (pv 1) pa_nil)) pe_int (nomark _)) (pw_or (pt_not (pt_val (pe_callC Cis_cents_part (hr.mono (by decide)) rfl (pa_cons (pe_ix ix_list (pv 1) pe_int (fun _ _ => rfl)) pa_nil)))) (pw_or1 (pt_not (pt_val (pe_callC Cwrites_whole (hr.mono (by decide)) rfl (pa_cons (pe_ix ix_list (pv 1) pe_int (fun _ _ => rfl)) (pa_cons (pe_gint T.g_MOST_WHOLE_FIGURES rfl) pa_nil)))))))))
        (pss_one ps_never)
        pss_nil)
      (pss_one (ps_ret (pe_op op_add (pe_op op_mul (pe_callTy call_int_text rfl T.n_int (show bootBuiltins _ = some (.type "int") from rfl) (pa_cons (pe_ix ix_list (pv 1) pe_int (fun _ _ => rfl)) pa_nil)) pe_int) (pe_callTy call_int_text rfl T.n_int (show bootBuiltins _ = some (.type "int") from rfl) (pa_cons (pe_ix ix_list (pv 1) pe_int (fun _ _ => rfl)) pa_nil)))))))), ?_⟩
  have hw : n / 100 < 10 ^ 10 := by omega
  have l1 := figs10 hw
  refine ⟨_, rfl, _, _, _, _, _, rfl, ty_is, .str _, (by kernel_rfl : PySem.W.kitOne K (.type "str") (.type "str") = some true), _, rfl, iteF ?_⟩
  refine ⟨_, rfl, rfl, _, _, rfl, rfl, rfl, ?_, fun p hp => ?_⟩
  · rw [tx_len, len_shown, sizeLine_eq]
    omega
  have ed : (Str.ofString ".") = tx [46] := by decide +kernel
  have es : Txt.split (tx (shown n)) (Str.ofString ".") = [tx (figs (n / 100)), tx [48 + n / 10 % 10, 48 + n % 10]] := by rw [ed, split_cut, cut_shown]; rfl
  rw [es]
  have s1 := same_new hp (.lst (List.map V.str [tx (figs (n / 100)), tx [48 + n / 10 % 10, 48 + n % 10]]))
  have h1 : upd H p (.lst (List.map V.str [tx (figs (n / 100)), tx [48 + n / 10 % 10, 48 + n % 10]])) p = some (.lst [V.str (tx (figs (n / 100))), V.str (tx [48 + n / 10 % 10, 48 + n % 10])]) := upd_same
  generalize upd H p (.lst (List.map V.str [tx (figs (n / 100)), tx [48 + n / 10 % 10, 48 + n % 10]])) = H1 at s1 h1
  refine ⟨_, rfl, p, _, rfl, .inl (SqL.of h1), rfl, _, rfl, nF rfl ?_⟩
  refine ⟨_, rfl, p, _, _, _, rfl, rfl, SqL.of h1, rfl, n / 10 % 10, n % 10, rfl, Nat.mod_lt _ (by decide), Nat.mod_lt _ (by decide), _, rfl, iteF ?_⟩
  refine ⟨_, rfl, p, _, _, _, rfl, rfl, SqL.of h1, rfl, n / 100, 10, rfl, hw, by decide, by decide, _, rfl, iteF ?_⟩
  refine ⟨_, rfl, p, _, _, _, rfl, rfl, SqL.of h1, rfl, _, _, rfl, int_of (figs_dig _) (figs_ne _) (by omega), by rw [tx_len]; omega, ?_⟩
  rw [figs_val]
  refine ⟨_, _, rfl, rfl, .inr ⟨by decide, by decide⟩, ?_⟩
  refine ⟨_, rfl, p, _, _, _, rfl, rfl, SqL.of h1, rfl, _, _, rfl, int_of ?_ (by simp) (by show 2 ≤ 640; decide), by rw [tx_len]; show 2 ≤ 640; decide, ?_⟩
  · intro c hc
    have h1 : c = 48 + n / 10 % 10 ∨ c = 48 + n % 10 := by simpa using hc
    omega
  rw [val_two _ _ (Nat.mod_lt _ (by decide)) (Nat.mod_lt _ (by decide))]
  refine ⟨_, _, rfl, rfl, ?_⟩
  have en : ((n / 100 : Nat) : Int) * 100 + ((10 * (n / 10 % 10) + n % 10 : Nat) : Int) = n := by omega
  show Q (.int (((n / 100 : Nat) : Int) * 100 + ((10 * (n / 10 % 10) + n % 10 : Nat) : Int))) H1
  rw [en]
  exact q _ s1
end


/-! ### conditions with parts: their classes -/
def spMk1 (C : Addr) (f : Str) : Sp := fun vs H Q _ => ∃ p dx v, vs = [.ref p, v] ∧ H p = some (.ins C dx []) ∧ Q .non (upd H p (.ins C dx (putF f v [])))
def spMkD (C : Addr) : Sp := fun vs H Q _ => ∃ p dx v w, vs = [.ref p, v, w] ∧ H p = some (.ins C dx []) ∧ ∀ H', (∀ b, b ≠ p → H' b = H b) → H' p = some (.ins C dx (putF "last" w (putF "first" v []))) → Q .non H'
def spMkA (C : Addr) : Sp := fun vs H Q _ => ∃ p dx a xs, vs = [.ref p, .ref a] ∧ H p = some (.ins C dx []) ∧ H a = some (.lst xs) ∧ ∀ l H', H l = none → (∀ b, b ≠ p → b ≠ l → H' b = H b) → H' p = some (.ins C dx (putF "several" (.ref l) [])) → H' l = some (.lst xs) → Q .non H'
def spHolds (κ : A8) (m : Nat) (C : Addr) : Sp := fun vs H Q _ => ∃ p t l x, vs = [.ref p, .ref l] ∧ CdAt κ H (.ref p) t ∧ κ.of t = C ∧ hgt t < m ∧ LsAt H l x ∧ Q (.bl (hT t x)) H
section
variable {P : Program} {w : World} {K : PySem.W.Frag} {mg : Str → Option Value} {base : Heap} {C_Condition C_CauseIs C_ThingIs C_DaysIn C_Over C_Not C_All C_Some C_Reader : Addr}
theorem nd8 (L : Kl K mg C_Condition C_CauseIs C_ThingIs C_DaysIn C_Over C_Not C_All C_Some C_Reader) : (A8.mk C_Condition C_CauseIs C_ThingIs C_DaysIn C_Over C_Not C_All C_Some).l.Nodup := by
  first
    | exact L.nd
    | exact List.Nodup.sublist (List.sublist_append_left (A8.mk C_Condition C_CauseIs C_ThingIs C_DaysIn C_Over C_Not C_All C_Some).l _) L.nd
theorem spHolds0 {κ : A8} {C : Addr} {vs : List V} {H : Hp} {Q : VK} {E : XK} (h : spHolds κ 0 C vs H Q E) : False := by
  obtain ⟨_, _, _, _, _, _, _, h, _⟩ := h
  exact absurd h (Nat.not_lt_zero _)
theorem sc_CauseIs___init__ : FnScope ["self", "name"] ["self", "name"] (defScope s_CauseIs___init__) := ⟨rfl, rfl, rfl, by decide +kernel, rfl, by decide +kernel, by decide +kernel⟩
theorem ok_CauseIs___init__ {f : Addr} {fd : FuncData} (F : Fun K "__init__" "CauseIs.__init__" s_CauseIs___init__ f fd) (L : Kl K mg C_Condition C_CauseIs C_ThingIs C_DaysIn C_Over C_Not C_All C_Some C_Reader) : FnOk P w K mg base CX0 1 f fd ["self", "name"] (spMk1 C_CauseIs "name") := by
  have sc := sc_CauseIs___init__
  refine F.ok sc (fun vs H Q E h => ?_) (fun cdv A outer s H vs Q E hr h => ?_)
  · obtain ⟨_, _, _, rfl, _⟩ := h
    rfl
  obtain ⟨p, dx, n, rfl, hp, q⟩ := h
  refine ⟨_, (pss_one (ps_fld (pv 0) (pv 1) rfl)), ?_⟩
  exact ⟨_, rfl, _, rfl, p, _, dx, _, rfl, hp, L.cl_CauseIs, L.na_CauseIs_name, (by show 0 < 1000; decide), q⟩
theorem sc_ThingIs___init__ : FnScope ["self", "name"] ["self", "name"] (defScope s_ThingIs___init__) := ⟨rfl, rfl, rfl, by decide +kernel, rfl, by decide +kernel, by decide +kernel⟩
theorem ok_ThingIs___init__ {f : Addr} {fd : FuncData} (F : Fun K "__init__" "ThingIs.__init__" s_ThingIs___init__ f fd) (L : Kl K mg C_Condition C_CauseIs C_ThingIs C_DaysIn C_Over C_Not C_All C_Some C_Reader) : FnOk P w K mg base CX0 1 f fd ["self", "name"] (spMk1 C_ThingIs "name") := by
  have sc := sc_ThingIs___init__
  refine F.ok sc (fun vs H Q E h => ?_) (fun cdv A outer s H vs Q E hr h => ?_)
  · obtain ⟨_, _, _, rfl, _⟩ := h
    rfl
  obtain ⟨p, dx, n, rfl, hp, q⟩ := h
  refine ⟨_, (pss_one (ps_fld (pv 0) (pv 1) rfl)), ?_⟩
  exact ⟨_, rfl, _, rfl, p, _, dx, _, rfl, hp, L.cl_ThingIs, L.na_ThingIs_name, (by show 0 < 1000; decide), q⟩
theorem sc_Over___init__ : FnScope ["self", "cents"] ["self", "cents"] (defScope s_Over___init__) := ⟨rfl, rfl, rfl, by decide +kernel, rfl, by decide +kernel, by decide +kernel⟩
theorem ok_Over___init__ {f : Addr} {fd : FuncData} (F : Fun K "__init__" "Over.__init__" s_Over___init__ f fd) (L : Kl K mg C_Condition C_CauseIs C_ThingIs C_DaysIn C_Over C_Not C_All C_Some C_Reader) : FnOk P w K mg base CX0 1 f fd ["self", "cents"] (spMk1 C_Over "cents") := by
  have sc := sc_Over___init__
  refine F.ok sc (fun vs H Q E h => ?_) (fun cdv A outer s H vs Q E hr h => ?_)
  · obtain ⟨_, _, _, rfl, _⟩ := h
    rfl
  obtain ⟨p, dx, n, rfl, hp, q⟩ := h
  refine ⟨_, (pss_one (ps_fld (pv 0) (pv 1) rfl)), ?_⟩
  exact ⟨_, rfl, _, rfl, p, _, dx, _, rfl, hp, L.cl_Over, L.na_Over_cents, (by show 0 < 1000; decide), q⟩
theorem sc_Not___init__ : FnScope ["self", "part"] ["self", "part"] (defScope s_Not___init__) := ⟨rfl, rfl, rfl, by decide +kernel, rfl, by decide +kernel, by decide +kernel⟩
theorem ok_Not___init__ {f : Addr} {fd : FuncData} (F : Fun K "__init__" "Not.__init__" s_Not___init__ f fd) (L : Kl K mg C_Condition C_CauseIs C_ThingIs C_DaysIn C_Over C_Not C_All C_Some C_Reader) : FnOk P w K mg base CX0 1 f fd ["self", "part"] (spMk1 C_Not "part") := by
  have sc := sc_Not___init__
  refine F.ok sc (fun vs H Q E h => ?_) (fun cdv A outer s H vs Q E hr h => ?_)
  · obtain ⟨_, _, _, rfl, _⟩ := h
    rfl
  obtain ⟨p, dx, n, rfl, hp, q⟩ := h
  refine ⟨_, (pss_one (ps_fld (pv 0) (pv 1) rfl)), ?_⟩
  exact ⟨_, rfl, _, rfl, p, _, dx, _, rfl, hp, L.cl_Not, L.na_Not_part, (by show 0 < 1000; decide), q⟩
theorem sc_DaysIn___init__ : FnScope ["self", "first", "last"] ["self", "first", "last"] (defScope s_DaysIn___init__) := ⟨rfl, rfl, rfl, by decide +kernel, rfl, by decide +kernel, by decide +kernel⟩
theorem ok_DaysIn___init__ {f : Addr} {fd : FuncData} (F : Fun K "__init__" "DaysIn.__init__" s_DaysIn___init__ f fd) (L : Kl K mg C_Condition C_CauseIs C_ThingIs C_DaysIn C_Over C_Not C_All C_Some C_Reader) : FnOk P w K mg base CX0 1 f fd ["self", "first", "last"] (spMkD C_DaysIn) := by
  have sc := sc_DaysIn___init__
  refine F.ok sc (fun vs H Q E h => ?_) (fun cdv A outer s H vs Q E hr h => ?_)
  · obtain ⟨_, _, _, _, rfl, _⟩ := h
    rfl
  obtain ⟨p, dx, a, b, rfl, hp, q⟩ := h
  refine ⟨_, (pss_cons (ps_fld (pv 0) (pv 1) rfl)
      (pss_one (ps_fld (pv 0) (pv 2) rfl))), ?_⟩
  refine ⟨_, rfl, _, rfl, p, _, dx, _, rfl, hp, L.cl_DaysIn, L.na_DaysIn_first, (by show 0 < 1000; decide), ?_⟩
  exact ⟨_, rfl, _, rfl, p, _, dx, _, rfl, upd_same, L.cl_DaysIn, L.na_DaysIn_last, (by show 1 < 1000; decide), q _ (fun b n => by rw [upd_ne n, upd_ne n]) upd_same⟩
theorem sc_All___init__ : FnScope ["self", "several"] ["self", "several"] (defScope s_All___init__) := ⟨rfl, rfl, rfl, by decide +kernel, rfl, by decide +kernel, by decide +kernel⟩
theorem ok_All___init__ {f : Addr} {fd : FuncData} (F : Fun K "__init__" "All.__init__" s_All___init__ f fd) (T : Txt K mg) (L : Kl K mg C_Condition C_CauseIs C_ThingIs C_DaysIn C_Over C_Not C_All C_Some C_Reader) : FnOk P w K mg base CX0 1 f fd ["self", "several"] (spMkA C_All) := by
  have sc := sc_All___init__
  refine F.ok sc (fun vs H Q E h => ?_) (fun cdv A outer s H vs Q E hr h => ?_)
  · obtain ⟨_, _, _, _, rfl, _⟩ := h
    rfl
  obtain ⟨p, dx, a, xs, rfl, hp, ha, q⟩ := h
  refine ⟨_, (pss_one (ps_fld (pv 0) (pe_callTy call_list_of rfl T.n_list (show bootBuiltins _ = some (.type "list") from rfl) (pa_cons (pv 1) pa_nil)) rfl)), ?_⟩
  refine ⟨_, rfl, a, _, rfl, .inl (SqL.of ha), fun l hl => ?_⟩
  have hpl : p ≠ l := ne_of_none hp hl
  exact ⟨_, rfl, p, _, dx, _, rfl, (by rw [upd_ne hpl]; exact hp), L.cl_All, L.na_All_several, (by show 0 < 1000; decide), q l _ hl (fun b n1 n2 => by rw [upd_ne n1, upd_ne n2]) upd_same (by rw [upd_ne hpl.symm, upd_same])⟩
theorem sc_Some___init__ : FnScope ["self", "several"] ["self", "several"] (defScope s_Some___init__) := ⟨rfl, rfl, rfl, by decide +kernel, rfl, by decide +kernel, by decide +kernel⟩
theorem ok_Some___init__ {f : Addr} {fd : FuncData} (F : Fun K "__init__" "Some.__init__" s_Some___init__ f fd) (T : Txt K mg) (L : Kl K mg C_Condition C_CauseIs C_ThingIs C_DaysIn C_Over C_Not C_All C_Some C_Reader) : FnOk P w K mg base CX0 1 f fd ["self", "several"] (spMkA C_Some) := by
  have sc := sc_Some___init__
  refine F.ok sc (fun vs H Q E h => ?_) (fun cdv A outer s H vs Q E hr h => ?_)
  · obtain ⟨_, _, _, _, rfl, _⟩ := h
    rfl
  obtain ⟨p, dx, a, xs, rfl, hp, ha, q⟩ := h
  refine ⟨_, (pss_one (ps_fld (pv 0) (pe_callTy call_list_of rfl T.n_list (show bootBuiltins _ = some (.type "list") from rfl) (pa_cons (pv 1) pa_nil)) rfl)), ?_⟩
  refine ⟨_, rfl, a, _, rfl, .inl (SqL.of ha), fun l hl => ?_⟩
  have hpl : p ≠ l := ne_of_none hp hl
  exact ⟨_, rfl, p, _, dx, _, rfl, (by rw [upd_ne hpl]; exact hp), L.cl_Some, L.na_Some_several, (by show 0 < 1000; decide), q l _ hl (fun b n1 n2 => by rw [upd_ne n1, upd_ne n2]) upd_same (by rw [upd_ne hpl.symm, upd_same])⟩
theorem sc_Condition_holds : FnScope ["self", "loss"] ["self", "loss"] (defScope s_Condition_holds) := ⟨rfl, rfl, rfl, by decide +kernel, rfl, by decide +kernel, by decide +kernel⟩
theorem ok_Condition_holds {f : Addr} {fd : FuncData} (F : Fun K "holds" "Condition.holds" s_Condition_holds f fd) (L : Kl K mg C_Condition C_CauseIs C_ThingIs C_DaysIn C_Over C_Not C_All C_Some C_Reader) {m : Nat} : FnOk P w K mg base CX0 1 f fd ["self", "loss"] (spHolds (A8.mk C_Condition C_CauseIs C_ThingIs C_DaysIn C_Over C_Not C_All C_Some) m C_Condition) := by
  have sc := sc_Condition_holds
  refine F.ok sc (fun vs H Q E h => ?_) (fun cdv A outer s H vs Q E hr h => ?_)
  · obtain ⟨_, _, _, _, rfl, _⟩ := h
    rfl
  obtain ⟨p, t, l, x, rfl, hp, hc, hg, hl, q⟩ := h
  obtain rfl := kd0 (κ := A8.mk C_Condition C_CauseIs C_ThingIs C_DaysIn C_Over C_Not C_All C_Some) (nd8 L) hc
  unfold hT at q
  exact ⟨_, (pss_one (ps_ret pe_bl)), q⟩
theorem sc_CauseIs_holds : FnScope ["self", "loss"] ["self", "loss"] (defScope s_CauseIs_holds) := ⟨rfl, rfl, rfl, by decide +kernel, rfl, by decide +kernel, by decide +kernel⟩
theorem ok_CauseIs_holds {f : Addr} {fd : FuncData} (F : Fun K "holds" "CauseIs.holds" s_CauseIs_holds f fd) (T : Txt K mg) (L : Kl K mg C_Condition C_CauseIs C_ThingIs C_DaysIn C_Over C_Not C_All C_Some C_Reader) {m : Nat} : FnOk P w K mg base CX0 1 f fd ["self", "loss"] (spHolds (A8.mk C_Condition C_CauseIs C_ThingIs C_DaysIn C_Over C_Not C_All C_Some) m C_CauseIs) := by
  have sc := sc_CauseIs_holds
  refine F.ok sc (fun vs H Q E h => ?_) (fun cdv A outer s H vs Q E hr h => ?_)
  · obtain ⟨_, _, _, _, rfl, _⟩ := h
    rfl
  obtain ⟨p, t, l, x, rfl, hp, hc, hg, ⟨ev, n, ht⟩, q⟩ := h
  obtain ⟨nm, rfl⟩ := kd1 (κ := A8.mk C_Condition C_CauseIs C_ThingIs C_DaysIn C_Over C_Not C_All C_Some) (nd8 L) hc
  unfold hT at q
  unfold CdAt at hp
  obtain ⟨_, dx, e, hp⟩ := hp
  cases e
  refine ⟨_, (pss_one (ps_ret (pe_cmpR op_eq (pe_ix ix_tup (pv 1) (pe_gint T.g_CAUSE rfl) (fun _ _ => rfl)) (pe_fld (pv 0) rfl) (nomark _)))), ?_⟩
  exact ⟨_, rfl, l, _, _, _, rfl, rfl, SqT.of ht, rfl, _, rfl, p, _, dx, _, _, rfl, hp, L.cl_CauseIs, L.na_CauseIs_name, lc_name1 nm, rfl, q⟩
theorem sc_ThingIs_holds : FnScope ["self", "loss"] ["self", "loss"] (defScope s_ThingIs_holds) := ⟨rfl, rfl, rfl, by decide +kernel, rfl, by decide +kernel, by decide +kernel⟩
theorem ok_ThingIs_holds {f : Addr} {fd : FuncData} (F : Fun K "holds" "ThingIs.holds" s_ThingIs_holds f fd) (T : Txt K mg) (L : Kl K mg C_Condition C_CauseIs C_ThingIs C_DaysIn C_Over C_Not C_All C_Some C_Reader) {m : Nat} : FnOk P w K mg base CX0 1 f fd ["self", "loss"] (spHolds (A8.mk C_Condition C_CauseIs C_ThingIs C_DaysIn C_Over C_Not C_All C_Some) m C_ThingIs) := by
  have sc := sc_ThingIs_holds
  refine F.ok sc (fun vs H Q E h => ?_) (fun cdv A outer s H vs Q E hr h => ?_)
  · obtain ⟨_, _, _, _, rfl, _⟩ := h
    rfl
  obtain ⟨p, t, l, x, rfl, hp, hc, hg, ⟨ev, n, ht⟩, q⟩ := h
  obtain ⟨nm, rfl⟩ := kd2 (κ := A8.mk C_Condition C_CauseIs C_ThingIs C_DaysIn C_Over C_Not C_All C_Some) (nd8 L) hc
  unfold hT at q
  unfold CdAt at hp
  obtain ⟨_, dx, e, hp⟩ := hp
  cases e
  refine ⟨_, (pss_one (ps_ret (pe_cmpR op_eq (pe_ix ix_tup (pv 1) (pe_gint T.g_THING rfl) (fun _ _ => rfl)) (pe_fld (pv 0) rfl) (nomark _)))), ?_⟩
  exact ⟨_, rfl, l, _, _, _, rfl, rfl, SqT.of ht, rfl, _, rfl, p, _, dx, _, _, rfl, hp, L.cl_ThingIs, L.na_ThingIs_name, lc_name2 nm, rfl, q⟩
theorem sc_DaysIn_holds : FnScope ["self", "loss"] ["self", "loss"] (defScope s_DaysIn_holds) := ⟨rfl, rfl, rfl, by decide +kernel, rfl, by decide +kernel, by decide +kernel⟩
theorem ok_DaysIn_holds {f : Addr} {fd : FuncData} (F : Fun K "holds" "DaysIn.holds" s_DaysIn_holds f fd) (T : Txt K mg) (L : Kl K mg C_Condition C_CauseIs C_ThingIs C_DaysIn C_Over C_Not C_All C_Some C_Reader) {m : Nat} : FnOk P w K mg base CX0 1 f fd ["self", "loss"] (spHolds (A8.mk C_Condition C_CauseIs C_ThingIs C_DaysIn C_Over C_Not C_All C_Some) m C_DaysIn) := by
  have sc := sc_DaysIn_holds
  refine F.ok sc (fun vs H Q E h => ?_) (fun cdv A outer s H vs Q E hr h => ?_)
  · obtain ⟨_, _, _, _, rfl, _⟩ := h
    rfl
  obtain ⟨p, t, l, x, rfl, hp, hc, hg, ⟨ev, n, ht⟩, q⟩ := h
  obtain ⟨a, b, rfl⟩ := kd3 (κ := A8.mk C_Condition C_CauseIs C_ThingIs C_DaysIn C_Over C_Not C_All C_Some) (nd8 L) hc
  unfold hT at q
  unfold CdAt at hp
  obtain ⟨_, dx, e, hp⟩ := hp
  cases e
  refine ⟨_, (pss_one (ps_ret (pe_chain op_le op_le (pe_fld (pv 0) rfl) (pe_ix ix_tup (pv 1) (pe_gint T.g_DAY rfl) (fun _ _ => rfl)) (pe_fld (pv 0) rfl)))), ?_⟩
  have q' : Q (.bl (decide (a ≤ x.d) && decide (x.d ≤ b))) H := q
  refine ⟨_, rfl, p, _, dx, _, _, rfl, hp, L.cl_DaysIn, L.na_DaysIn_first, lc_first a b, _, rfl, l, _, _, _, rfl, rfl, SqT.of ht, rfl, _, _, rfl, rfl, _, rfl, ite2 (fun e => ?_) (fun e => ?_)⟩
  · rw [e, Bool.true_and] at q'
    exact ⟨_, rfl, p, _, dx, _, _, rfl, hp, L.cl_DaysIn, L.na_DaysIn_last, lc_last a b, _, _, rfl, rfl, q'⟩
  · rw [Bool.eq_false_iff.mpr e, Bool.false_and] at q'
    exact q'
theorem sc_Over_holds : FnScope ["self", "loss"] ["self", "loss"] (defScope s_Over_holds) := ⟨rfl, rfl, rfl, by decide +kernel, rfl, by decide +kernel, by decide +kernel⟩
theorem ok_Over_holds {f : Addr} {fd : FuncData} (F : Fun K "holds" "Over.holds" s_Over_holds f fd) (T : Txt K mg) (L : Kl K mg C_Condition C_CauseIs C_ThingIs C_DaysIn C_Over C_Not C_All C_Some C_Reader) {m : Nat} : FnOk P w K mg base CX0 1 f fd ["self", "loss"] (spHolds (A8.mk C_Condition C_CauseIs C_ThingIs C_DaysIn C_Over C_Not C_All C_Some) m C_Over) := by
  have sc := sc_Over_holds
  refine F.ok sc (fun vs H Q E h => ?_) (fun cdv A outer s H vs Q E hr h => ?_)
  · obtain ⟨_, _, _, _, rfl, _⟩ := h
    rfl
  obtain ⟨p, t, l, x, rfl, hp, hc, hg, ⟨ev, n, ht⟩, q⟩ := h
  obtain ⟨c, rfl⟩ := kd4 (κ := A8.mk C_Condition C_CauseIs C_ThingIs C_DaysIn C_Over C_Not C_All C_Some) (nd8 L) hc
  unfold hT at q
  unfold CdAt at hp
  obtain ⟨_, dx, e, hp⟩ := hp
  cases e
  refine ⟨_, (pss_one (ps_ret (pe_cmpR op_gt (pe_ix ix_tup (pv 1) (pe_gint T.g_CENTS rfl) (fun _ _ => rfl)) (pe_fld (pv 0) rfl) (nomark _)))), ?_⟩
  exact ⟨_, rfl, l, _, _, _, rfl, rfl, SqT.of ht, rfl, _, rfl, p, _, dx, _, _, rfl, hp, L.cl_Over, L.na_Over_cents, lc_cents c, _, _, rfl, rfl, q⟩
theorem sc_Not_holds : FnScope ["self", "loss"] ["self", "loss"] (defScope s_Not_holds) := ⟨rfl, rfl, rfl, by decide +kernel, rfl, by decide +kernel, by decide +kernel⟩
theorem ok_Not_holds {f : Addr} {fd : FuncData} (F : Fun K "holds" "Not.holds" s_Not_holds f fd) (L : Kl K mg C_Condition C_CauseIs C_ThingIs C_DaysIn C_Over C_Not C_All C_Some C_Reader) {m : Nat} (Mholds : MFam P w K mg base m (A8.Fam (A8.mk C_Condition C_CauseIs C_ThingIs C_DaysIn C_Over C_Not C_All C_Some)) "holds" ["self", "loss"] (spHolds (A8.mk C_Condition C_CauseIs C_ThingIs C_DaysIn C_Over C_Not C_All C_Some) m)) : FnOk P w K mg base CX0 (m + 1) f fd ["self", "loss"] (spHolds (A8.mk C_Condition C_CauseIs C_ThingIs C_DaysIn C_Over C_Not C_All C_Some) (m + 1) C_Not) := by
  have sc := sc_Not_holds
  refine F.ok sc (fun vs H Q E h => ?_) (fun cdv A outer s H vs Q E hr h => ?_)
  · obtain ⟨_, _, _, _, rfl, _⟩ := h
    rfl
  obtain ⟨p, t, l, x, rfl, hp, hc, hg, hl, q⟩ := h
  obtain ⟨u, rfl⟩ := kd5 (κ := A8.mk C_Condition C_CauseIs C_ThingIs C_DaysIn C_Over C_Not C_All C_Some) (nd8 L) hc
  unfold hT at q
  unfold hgt at hg
  unfold CdAt at hp
  obtain ⟨_, dx, v, e, hp, hu⟩ := hp
  cases e
  obtain ⟨pu, du, fu, rfl, eu, n1, _⟩ := hu.obj
  refine ⟨_, (pss_one (ps_ret (pe_not (pe_methD Mholds (hr.mono (by omega)) (pe_fld (pv 0) rfl) (pa_cons (pv 1) pa_nil))))), ?_⟩
  refine ⟨_, rfl, p, _, dx, _, _, rfl, hp, L.cl_Not, L.na_Not_part, lc_put _ _, pu, _, du, fu, rfl, eu, A8.fam _ u, n1, _, rfl, pu, u, l, x, rfl, hu, rfl, by omega, hl, ?_⟩
  exact ⟨_, rfl, q⟩
theorem sc_All_holds : FnScope ["self", "loss", "part"] ["self", "loss"] (defScope s_All_holds) := ⟨rfl, rfl, rfl, by decide +kernel, rfl, by decide +kernel, by decide +kernel⟩
theorem ok_All_holds {f : Addr} {fd : FuncData} (F : Fun K "holds" "All.holds" s_All_holds f fd) (L : Kl K mg C_Condition C_CauseIs C_ThingIs C_DaysIn C_Over C_Not C_All C_Some C_Reader) {m : Nat} (Mholds : MFam P w K mg base m (A8.Fam (A8.mk C_Condition C_CauseIs C_ThingIs C_DaysIn C_Over C_Not C_All C_Some)) "holds" ["self", "loss"] (spHolds (A8.mk C_Condition C_CauseIs C_ThingIs C_DaysIn C_Over C_Not C_All C_Some) m)) : FnOk P w K mg base CX0 (m + 1) f fd ["self", "loss"] (spHolds (A8.mk C_Condition C_CauseIs C_ThingIs C_DaysIn C_Over C_Not C_All C_Some) (m + 1) C_All) := by
  have sc := sc_All_holds
  refine F.ok sc (fun vs H Q E h => ?_) (fun cdv A outer s H vs Q E hr h => ?_)
  · obtain ⟨_, _, _, _, rfl, _⟩ := h
    rfl
  obtain ⟨p, t, l, x, rfl, hp, hc, hg, hl, q⟩ := h
  obtain ⟨ts, rfl⟩ := kd6 (κ := A8.mk C_Condition C_CauseIs C_ThingIs C_DaysIn C_Over C_Not C_All C_Some) (nd8 L) hc
  unfold hT at q
  unfold hgt at hg
  unfold CdAt at hp
  obtain ⟨_, dx, a, vs, e, hp, ha, hv⟩ := hp
  cases e
  refine ⟨_, (pss_cons (ps_for PassesOwn.never rfl (pi_list (pe_fld (pv 0) rfl)) (pg_name (i := 2) sc.nd rfl (Or.inl rfl))
        (pss_one (ps_if (pt_not (pt_val (pe_methD Mholds (hr.mono (by omega)) (pv 2) (pa_cons (pv 1) pa_nil))))
        (pss_one (ps_ret pe_bl))
        pss_nil)))
      (pss_one (ps_ret pe_bl))), ?_⟩
  have hlen := hv.len
  refine ⟨_, rfl, p, _, dx, _, _, rfl, hp, L.cl_All, L.na_All_several, lc_put _ _, a, rfl, ⟨_, SqL.of ha⟩, ?_⟩
  refine for_list (K := K) (a := a) (xs := vs) (fun i σ H2 => (∃ o, σ = [some (.ref p), some (.ref l), o]) ∧ H2 = H ∧ hAll ts x = hAll (ts.drop i) x) ⟨⟨none, rfl⟩, rfl, rfl⟩ (fun i σ H2 _ ⟨_, e, _⟩ => by rw [e]; exact SqL.of ha) ?_ ?_
  · rintro i v σ H2 hi ⟨⟨o, rfl⟩, rfl, e⟩
    obtain ⟨u, eu, hu⟩ := hv.get hi
    rw [hAll_drop eu] at e
    obtain ⟨pu, du, fu, rfl, ob, n1, _⟩ := hu.obj
    refine ⟨_, rfl, pu, _, du, fu, rfl, ob, A8.fam _ u, n1, _, rfl, pu, u, l, x, rfl, hu, rfl, hgts_le (by omega) i eu, hl, ?_⟩
    cases hb : hT u x with
    | true =>
      rw [hb, Bool.true_and] at e
      exact ⟨_, rfl, iteF ⟨⟨_, rfl⟩, rfl, e⟩⟩
    | false =>
      rw [hb, Bool.false_and] at e
      rw [e] at q
      exact ⟨_, rfl, iteT q⟩
  · rintro σ H2 ⟨⟨o, rfl⟩, rfl, e⟩
    rw [hlen, List.drop_length] at e
    rw [e] at q
    unfold hAll at q
    exact q
theorem sc_Some_holds : FnScope ["self", "loss", "part"] ["self", "loss"] (defScope s_Some_holds) := ⟨rfl, rfl, rfl, by decide +kernel, rfl, by decide +kernel, by decide +kernel⟩
theorem ok_Some_holds {f : Addr} {fd : FuncData} (F : Fun K "holds" "Some.holds" s_Some_holds f fd) (L : Kl K mg C_Condition C_CauseIs C_ThingIs C_DaysIn C_Over C_Not C_All C_Some C_Reader) {m : Nat} (Mholds : MFam P w K mg base m (A8.Fam (A8.mk C_Condition C_CauseIs C_ThingIs C_DaysIn C_Over C_Not C_All C_Some)) "holds" ["self", "loss"] (spHolds (A8.mk C_Condition C_CauseIs C_ThingIs C_DaysIn C_Over C_Not C_All C_Some) m)) : FnOk P w K mg base CX0 (m + 1) f fd ["self", "loss"] (spHolds (A8.mk C_Condition C_CauseIs C_ThingIs C_DaysIn C_Over C_Not C_All C_Some) (m + 1) C_Some) := by
  have sc := sc_Some_holds
  refine F.ok sc (fun vs H Q E h => ?_) (fun cdv A outer s H vs Q E hr h => ?_)
  · obtain ⟨_, _, _, _, rfl, _⟩ := h
    rfl
  obtain ⟨p, t, l, x, rfl, hp, hc, hg, hl, q⟩ := h
  obtain ⟨ts, rfl⟩ := kd7 (κ := A8.mk C_Condition C_CauseIs C_ThingIs C_DaysIn C_Over C_Not C_All C_Some) (nd8 L) hc
  unfold hT at q
  unfold hgt at hg
  unfold CdAt at hp
  obtain ⟨_, dx, a, vs, e, hp, ha, hv⟩ := hp
  cases e
  refine ⟨_, (pss_cons (ps_for PassesOwn.never rfl (pi_list (pe_fld (pv 0) rfl)) (pg_name (i := 2) sc.nd rfl (Or.inl rfl))
        (pss_one (ps_if (pt_val (pe_methD Mholds (hr.mono (by omega)) (pv 2) (pa_cons (pv 1) pa_nil)))
        (pss_one (ps_ret pe_bl))
        pss_nil)))
      (pss_one (ps_ret pe_bl))), ?_⟩
  have hlen := hv.len
  refine ⟨_, rfl, p, _, dx, _, _, rfl, hp, L.cl_Some, L.na_Some_several, lc_put _ _, a, rfl, ⟨_, SqL.of ha⟩, ?_⟩
  refine for_list (K := K) (a := a) (xs := vs) (fun i σ H2 => (∃ o, σ = [some (.ref p), some (.ref l), o]) ∧ H2 = H ∧ hSom ts x = hSom (ts.drop i) x) ⟨⟨none, rfl⟩, rfl, rfl⟩ (fun i σ H2 _ ⟨_, e, _⟩ => by rw [e]; exact SqL.of ha) ?_ ?_
  · rintro i v σ H2 hi ⟨⟨o, rfl⟩, rfl, e⟩
    obtain ⟨u, eu, hu⟩ := hv.get hi
    rw [hSom_drop eu] at e
    obtain ⟨pu, du, fu, rfl, ob, n1, _⟩ := hu.obj
    refine ⟨_, rfl, pu, _, du, fu, rfl, ob, A8.fam _ u, n1, _, rfl, pu, u, l, x, rfl, hu, rfl, hgts_le (by omega) i eu, hl, ?_⟩
    cases hb : hT u x with
    | false =>
      rw [hb, Bool.false_or] at e
      exact ⟨_, rfl, iteF ⟨⟨_, rfl⟩, rfl, e⟩⟩
    | true =>
      rw [hb, Bool.true_or] at e
      rw [e] at q
      exact ⟨_, rfl, iteT q⟩
  · rintro σ H2 ⟨⟨o, rfl⟩, rfl, e⟩
    rw [hlen, List.drop_length] at e
    rw [e] at q
    unfold hSom at q
    exact q
end


/-! ### the law's trees -/
def nmOk (n : Str) : Prop := ∃ l, n = tx l ∧ NameL l
def okCo : Co → Prop
  | .alw => True
  | .cau n => nmOk n
  | .thi n => nmOk n
  | .day a b => 0 ≤ a ∧ a ≤ b ∧ b ≤ 1000000
  | .ovr m => 0 ≤ m ∧ m ≤ 999999999999
theorem atG {i : Nat} {v : V} {nx : St → Hp → Prop} {σ : St} {H : Hp} (σ' : St) (e : σ.set i (some v) = σ') (h : nx σ' H) : gName i v σ H nx := by
  unfold gName
  rw [e]
  exact h
def joinT (b : Bool) (ts : List Cnd) : Cnd := if b then .al ts else .so ts
theorem seqC {i : Nat} {v : V} {t2 : TS} {D : Ends} {σ : St} {H : Hp} (σ' : St) (e : σ.set i (some v) = σ') (h : t2 D σ' H) : tSeq (tAsg (tC v) (gName i)) t2 D σ H := by
  show t2 D (σ.set i (some v)) H
  rw [e]
  exact h
theorem same_upd {H H' : Hp} {p : Addr} {o : HO} (h : H p = none) (s : Same H H') : Same H (upd H' p o) := fun b u e => by rw [upd_ne (ne_of_none e h)]; exact s _ _ e
theorem take_snoc {α : Type} {l : List α} {i : Nat} {x : α} (h : l[i]? = some x) : l.take (i + 1) = l.take i ++ [x] := by
  rw [List.take_add_one, h]
  rfl
theorem same_two {H : Hp} {y d : Addr} {o1 o2 : HO} (hy : H y = none) (hd : H d = none) : Same H (upd (upd H d o1) y o2) := fun b o e => by rw [upd_ne (ne_of_none e hy), upd_ne (ne_of_none e hd)]; exact e
theorem same_three {H : Hp} {y d : Addr} {o1 o2 o3 : HO} (hy : H y = none) (hd : H d = none) : Same H (upd (upd (upd H d o1) y o2) y o3) := fun b o e => by rw [upd_ne (ne_of_none e hy), upd_ne (ne_of_none e hy), upd_ne (ne_of_none e hd)]; exact e
def Off (p : Addr) (H : Hp) : Hp := fun b => if b = p then none else H b
theorem Off.at {p b : Addr} {H : Hp} {o : HO} (h : Off p H b = some o) : b ≠ p ∧ H b = some o := by
  unfold Off at h
  by_cases e : b = p
  · rw [if_pos e] at h; cases h
  · rw [if_neg e] at h; exact ⟨e, h⟩
theorem Off.of {p b : Addr} {H : Hp} {o : HO} (n : b ≠ p) (h : H b = some o) : Off p H b = some o := by
  unfold Off
  rw [if_neg n]; exact h


def wordsC : Co → List Str
  | .alw => [Str.ofString "always"]
  | .cau n => [Str.ofString "cause", n]
  | .thi n => [Str.ofString "thing", n]
  | .day a b => [Str.ofString "days", tx (figs a.toNat), tx (figs b.toNat)]
  | .ovr m => [Str.ofString "over", tx (shown m.toNat)]
theorem figs_small10 {n : Nat} (h : n ≤ 1000000) : n < 10 ^ 7 := by omega
theorem kit_ss {K : PySem.W.Frag} : PySem.W.kitOne K (.type "str") (.type "str") = some true := by kernel_rfl


/-! ### the reader of conditions, where the words are well said -/
theorem pe_meth0C {X : Cx} {k : Nat} {C : Addr} {m : Str} {ps : List Str} {sp : Sp} {o : Expr} {apos pos : Pos} {ta : TE} {pl : Sem Bool} (M : MCal X.prog X.w X.K X.mg X.base k C m ps sp) (hr : Room k X.A) (he : PE X o ta)
    (ht : eval (.Call (.Attribute o m apos) [] [] pos) X.env = (do
      let ov ← eval o X.env
      standAt apos.atName
      let (f, first) ← holding [ov] (getMethod ov m pl)
      callWith pos f first (backTo pos (starEach [] X.env)) (backToKw pos (keywordEach [] X.env))) := by rfl) :
    PE X (.Call (.Attribute o m apos) [] [] pos) (tMeth C m sp [] E0 ta tNil) := by
  obtain ⟨f, fd, F, b, hm⟩ := M.ex
  exact pe_meth0 he M.cl hm F hr b .nil pass0 ht
def fldR (rw : Addr) (pl dp : Int) : List (Str × V) := [(Str.ofString "row", .ref rw), (Str.ofString "place", .int pl), (Str.ofString "depth", .int dp)]
theorem lr_row (rw : Addr) (pl dp : Int) : (fldR rw pl dp).lookup (Str.ofString "row") = some (.ref rw) := rfl
theorem lr_place (rw : Addr) (pl dp : Int) : (fldR rw pl dp).lookup (Str.ofString "place") = some (.int pl) := rfl
theorem lr_depth (rw : Addr) (pl dp : Int) : (fldR rw pl dp).lookup (Str.ofString "depth") = some (.int dp) := rfl
def RdAt (C : Addr) (H : Hp) (r rw : Addr) (pl : Nat) (dp : Int) (row : List Str) : Prop := (∃ dx, H r = some (.ins C dx (fldR rw pl dp))) ∧ H rw = some (.lst (row.map V.str)) ∧ pl ≤ row.length ∧ row.length ≤ 60
/-- all stays but r -/
def Kb (r : Addr) (H H' : Hp) : Prop := ∀ b o, H b = some o → b ≠ r → H' b = some o
theorem Kb.refl (r : Addr) (H : Hp) : Kb r H H := fun _ _ e _ => e
theorem Kb.trans {r : Addr} {H H1 H2 : Hp} (a : Kb r H H1) (b : Kb r H1 H2) : Kb r H H2 := fun c o e n => b c o (a c o e n) n
theorem Kb.of {r : Addr} {H H' : Hp} (s : Same H H') : Kb r H H' := fun b o e _ => s b o e
theorem Kb.nw {r : Addr} {H H1 H2 : Hp} {o : HO} (h : H r = some o) (k : Kb r H1 H2) : Same (Nw H H1) (Nw H H2) := Nw.grow fun b o' e0 e => k b o' e fun z => by rw [z, h] at e0; cases e0
theorem Kb.later {r : Addr} {H H1 H2 : Hp} {o1 : HO} (k : Kb r H H1) (h1 : H1 r = some o1) : Same (Nw H1 H2) (Nw H H2) := fun b o e => by
  obtain ⟨e0, e⟩ := Nw.at e
  refine Nw.of ?_ e
  cases z : H b with
  | none => rfl
  | some o' =>
    by_cases c : b = r
    · rw [c, h1] at e0; cases e0
    · rw [k b o' z c] at e0; cases e0
theorem Kb.free {r : Addr} {H H1 : Hp} {o1 : HO} (k : Kb r H H1) (h1 : H1 r = some o1) {b : Addr} (e : H1 b = none) : H b = none := by
  cases z : H b with
  | none => rfl
  | some o' =>
    by_cases c : b = r
    · rw [c, h1] at e; cases e
    · rw [k b o' z c] at e; cases e
theorem drop_head {row xs : List Str} {pl : Nat} (h : row.drop pl = xs) : row[pl]? = xs.head? := by rw [← h, List.head?_drop]
theorem drop_more {row xs ys : List Str} {pl : Nat} (h : row.drop pl = xs ++ ys) : row.drop (pl + xs.length) = ys := by
  rw [← List.drop_drop, h, List.drop_left]
theorem drop_le {row : List Str} {x : Str} {xs : List Str} {pl : Nat} (h : row.drop pl = x :: xs) : pl + 1 ≤ row.length := by
  have := congrArg List.length h
  rw [List.length_drop, List.length_cons] at this
  omega
def aheadS (row : List Str) (pl : Nat) : Str := (row[pl]?).getD (Str.ofString "")
def spAhead (C : Addr) : Sp := fun vs H Q _ => ∃ r rw pl dp row, vs = [.ref r] ∧ RdAt C H r rw pl dp row ∧ Q (.str (aheadS row pl)) H
def spStep1 (C : Addr) : Sp := fun vs H Q _ => ∃ r rw pl dp row, vs = [.ref r] ∧ RdAt C H r rw pl dp row ∧ pl + 1 ≤ row.length ∧ ∀ H', Kb r H H' → RdAt C H' r rw (pl + 1) dp row → Q .non H'
def spRdName (C : Addr) : Sp := fun vs H Q _ => ∃ r rw pl dp row nm, vs = [.ref r] ∧ RdAt C H r rw pl dp row ∧ row[pl]? = some nm ∧ nmOk nm ∧ ∀ H', Kb r H H' → RdAt C H' r rw (pl + 1) dp row → Q (.str nm) H'
def spDayOf : Sp := fun vs H Q _ => ∃ n : Nat, vs = [.str (tx (figs n))] ∧ n ≤ 1000000 ∧ Q (.int n) H
def spIsDay : Sp := fun vs H Q _ => ∃ n : Int, vs = [.int n] ∧ 0 ≤ n ∧ n ≤ 1000000 ∧ Q (.bl true) H
def spRdDay (C : Addr) : Sp := fun vs H Q _ => ∃ r rw pl dp row, ∃ n : Nat, ∃ le : Int, vs = [.ref r, .int le] ∧ RdAt C H r rw pl dp row ∧ row[pl]? = some (tx (figs n)) ∧ n ≤ 1000000 ∧ le ≤ n ∧ ∀ H', Kb r H H' → RdAt C H' r rw (pl + 1) dp row → Q (.int n) H'
def spRdDays (κ : A8) (C : Addr) : Sp := fun vs H Q _ => ∃ r rw pl dp row, ∃ n m : Nat, vs = [.ref r] ∧ RdAt C H r rw pl dp row ∧ row[pl]? = some (tx (figs n)) ∧ row[pl + 1]? = some (tx (figs m)) ∧ n ≤ m ∧ m ≤ 1000000 ∧ ∀ u H', Kb r H H' → RdAt C H' r rw (pl + 2) dp row → CdAt κ (Nw H H') u (.at (.day n m)) → Q u H'
def spRdAmt (C : Addr) : Sp := fun vs H Q _ => ∃ r rw pl dp row, ∃ n : Nat, vs = [.ref r] ∧ RdAt C H r rw pl dp row ∧ row[pl]? = some (tx (shown n)) ∧ n < 10 ^ 12 ∧ ∀ H', Kb r H H' → RdAt C H' r rw (pl + 1) dp row → Q (.int n) H'
/-- a piece, a row of pieces, rows of them are read -/
def spRP (κ : A8) (C : Addr) (m : Nat) : Sp := fun vs H Q _ => ∃ r rw pl, ∃ dp : Nat, ∃ row ws post t d, vs = [.ref r] ∧ RdAt C H r rw pl dp row ∧ row.drop pl = ws ++ post ∧ Spl wordsC okCo 0 ws t d ∧ d ≤ m ∧ dp + d ≤ 6 ∧ ∀ u H', Kb r H H' → RdAt C H' r rw (pl + ws.length) dp row → CdAt κ (Nw H H') u t → Q u H'
def spRR (κ : A8) (C : Addr) (m : Nat) : Sp := fun vs H Q _ => ∃ r rw pl, ∃ dp : Nat, ∃ row ws post t d, vs = [.ref r] ∧ RdAt C H r rw pl dp row ∧ row.drop pl = ws ++ post ∧ Spl wordsC okCo 1 ws t d ∧ d ≤ m ∧ dp + d ≤ 6 ∧ post.head? ≠ some (Str.ofString "and") ∧ ∀ u H', Kb r H H' → RdAt C H' r rw (pl + ws.length) dp row → CdAt κ (Nw H H') u t → Q u H'
def spRRs (κ : A8) (C : Addr) (m : Nat) : Sp := fun vs H Q _ => ∃ r rw pl, ∃ dp : Nat, ∃ row ws post t d, vs = [.ref r] ∧ RdAt C H r rw pl dp row ∧ row.drop pl = ws ++ post ∧ Spl wordsC okCo 2 ws t d ∧ d ≤ m ∧ dp + d ≤ 6 ∧ post.head? ≠ some (Str.ofString "and") ∧ post.head? ≠ some (Str.ofString "or") ∧ ∀ u H', Kb r H H' → RdAt C H' r rw (pl + ws.length) dp row → CdAt κ (Nw H H') u t → Q u H'
def spRB (κ : A8) (C : Addr) (m : Nat) : Sp := fun vs H Q _ => ∃ r rw pl, ∃ dp : Nat, ∃ row ws post t d, vs = [.ref r] ∧ RdAt C H r rw pl dp row ∧ row.drop pl = ws ++ Str.ofString ")" :: post ∧ Spl wordsC okCo 2 ws t d ∧ d ≤ m ∧ dp + d ≤ 6 ∧ ∀ u H', Kb r H H' → RdAt C H' r rw (pl + ws.length + 1) dp row → CdAt κ (Nw H H') u t → Q u H'
def spRD (κ : A8) (C : Addr) (m : Nat) : Sp := fun vs H Q _ => ∃ r rw pl, ∃ dp : Nat, ∃ row ws post t d wd, vs = [.ref r, .str wd] ∧ RdAt C H r rw pl dp row ∧ row.drop pl = wd :: ws ++ post ∧ d < m ∧ dp + d + 1 ≤ 6 ∧
  ((wd = Str.ofString "not" ∧ ∃ t', t = .no t' ∧ Spl wordsC okCo 0 ws t' d) ∨ (wd = Str.ofString "(" ∧ ∃ ws', ws = ws' ++ [Str.ofString ")"] ∧ Spl wordsC okCo 2 ws' t d)) ∧ ∀ u H', Kb r H H' → RdAt C H' r rw (pl + 1 + ws.length) dp row → CdAt κ (Nw H H') u t → Q u H'
theorem ahead_at {row : List Str} {pl : Nat} {x : Str} (h : row[pl]? = some x) : aheadS row pl = x := by unfold aheadS; rw [h]; rfl
theorem ahead_ne {row post : List Str} {pl : Nat} {b : Str} (h : row.drop pl = post) (n : post.head? ≠ some b) (hb : b ≠ Str.ofString "") : aheadS row pl ≠ b := by
  unfold aheadS
  rw [drop_head h]
  cases e : post.head? with
  | none => exact fun z => hb z.symm
  | some x => exact fun z => n (by rw [e]; exact congrArg some z)
theorem RdAt.step {C : Addr} {H : Hp} {r rw : Addr} {pl : Nat} {dp q : Int} {row : List Str} {dx : Addr} {p : Nat} (h : RdAt C H r rw pl dp row) (hp : p ≤ row.length) : RdAt C (upd H r (.ins C dx (fldR rw p q))) r rw p q row := by
  obtain ⟨⟨dx', h1⟩, h2, _, h4⟩ := h
  exact ⟨⟨dx, upd_same⟩, by rw [upd_ne (ne_of h2 h1 (by intro z; cases z))]; exact h2, hp, h4⟩
theorem Kb.upd {r : Addr} {H : Hp} {o : HO} : Kb r H (L2.upd H r o) := fun b o' e n => by rw [upd_ne n]; exact e
section
seal L2.PS L2.PSs L2.PE L2.PA
variable {P : Program} {w : World} {K : PySem.W.Frag} {mg : Str → Option Value} {base : Heap} {C_Condition C_CauseIs C_ThingIs C_DaysIn C_Over C_Not C_All C_Some C_Reader : Addr}
theorem sc_Reader_ahead : FnScope ["self"] ["self"] (defScope s_Reader_ahead) := ⟨rfl, rfl, rfl, by decide +kernel, rfl, by decide +kernel, by decide +kernel⟩
theorem ok_Reader_ahead {f : Addr} {fd : FuncData} (F : Fun K "ahead" "Reader.ahead" s_Reader_ahead f fd) (T : Txt K mg) (L : Kl K mg C_Condition C_CauseIs C_ThingIs C_DaysIn C_Over C_Not C_All C_Some C_Reader) : FnOk P w K mg base CX0 1 f fd ["self"] (spAhead C_Reader) := by
  have sc := sc_Reader_ahead
  refine F.ok sc (fun vs H Q E h => ?_) (fun cdv A outer s H vs Q E hr h => ?_)
  · obtain ⟨_, _, _, _, _, rfl, _⟩ := h
    rfl
  obtain ⟨r, rw, pl, dp, row, rfl, rd, q⟩ := h
  refine ⟨_, (pss_cons (ps_if (pt_cmpR op_eq (pe_fld (pv 0) rfl) (pe_callB call_len_seq rfl T.n_len (show bootBuiltins _ = some (.builtin "len") from rfl) (pa_cons (pe_fld (pv 0) rfl) pa_nil)) (nomark _))
        (pss_one (ps_ret pe_str))
        pss_nil)
      (pss_one (ps_ret (pe_ix ix_list (pe_fld (pv 0) rfl) (pe_fld (pv 0) rfl) (fun _ _ => rfl))))), ?_⟩
  obtain ⟨⟨dx, hr'⟩, hw, hpl, h60⟩ := rd
  have hl : (row.map V.str).length = row.length := List.length_map _
  refine ⟨_, rfl, r, _, dx, _, _, rfl, hr', L.cl_Reader, L.na_Reader_place, lr_place _ _ _, _, rfl, r, _, dx, _, _, rfl, hr', L.cl_Reader, L.na_Reader_row, lr_row _ _ _, rw, _, rfl, .inl (SqL.of hw), rfl, _, rfl, ite2 (fun c => ?_) (fun c => ?_)⟩
  · have c : (pl : Int) = ((row.map V.str).length : Int) := V.int.inj (of_decide_eq_true c)
    have e : row[pl]? = none := List.getElem?_eq_none (by omega)
    unfold aheadS at q
    rw [e] at q
    exact q
  · have c : ¬ (pl : Int) = ((row.map V.str).length : Int) := fun z => c (decide_eq_true (by rw [z]))
    have lt : pl < row.length := by omega
    have e : row[pl]? = some row[pl] := List.getElem?_eq_getElem lt
    unfold aheadS at q
    rw [e] at q
    exact ⟨_, rfl, r, _, dx, _, _, rfl, hr', L.cl_Reader, L.na_Reader_row, lr_row _ _ _, _, rfl, r, _, dx, _, _, rfl, hr', L.cl_Reader, L.na_Reader_place, lr_place _ _ _, rw, _, _, _, rfl, rfl, SqL.of hw, atI_nat (by rw [List.getElem?_map, e]; rfl), q⟩
theorem sc_Reader_step : FnScope ["self"] ["self"] (defScope s_Reader_step) := ⟨rfl, rfl, rfl, by decide +kernel, rfl, by decide +kernel, by decide +kernel⟩
theorem ok_Reader_step {f : Addr} {fd : FuncData} (F : Fun K "step" "Reader.step" s_Reader_step f fd) (T : Txt K mg) (L : Kl K mg C_Condition C_CauseIs C_ThingIs C_DaysIn C_Over C_Not C_All C_Some C_Reader) : FnOk P w K mg base CX0 1 f fd ["self"] (spStep1 C_Reader) := by
  have sc := sc_Reader_step
  refine F.ok sc (fun vs H Q E h => ?_) (fun cdv A outer s H vs Q E hr h => ?_)
  · obtain ⟨_, _, _, _, _, rfl, _⟩ := h
    rfl
  obtain ⟨r, rw, pl, dp, row, rfl, rd, lt, q⟩ := h
  refine ⟨_, (pss_one (ps_fld (pv 0) (pe_op op_add (pe_fld (pv 0) rfl) pe_int) rfl)), ?_⟩
  have rd' := rd
  obtain ⟨⟨dx, hr'⟩, hw, hpl, h60⟩ := rd
  refine ⟨_, rfl, r, _, dx, _, _, rfl, hr', L.cl_Reader, L.na_Reader_place, lr_place _ _ _, _, _, rfl, rfl, _, rfl, r, _, dx, _, rfl, hr', L.cl_Reader, L.na_Reader_place, (by show 3 < 1000; decide), ?_⟩
  exact q _ Kb.upd (RdAt.step (p := pl + 1) rd' lt)
end


/-! ### the reader of conditions, where words are refused -/
def spInitN (C : Addr) (f : Str) : Sp := fun vs H Q _ => ∃ a v, vs = [.ref a, v] ∧ H a = some (exN a (.ref C) none) ∧ ∀ d, H d = none → d ≠ a → Q .non (upd (upd H a (exN a (.ref C) (some d))) d (.xd [(f, v)]))
/-- NoWords with this number is raised; all stays but r -/
def NoAt (CN : Addr) (r : Addr) (H : Hp) (E : XK) (n : Int) : Prop := ∀ d H', Kb r H H' → H' d = some (.xd [(Str.ofString "at", .int n)]) → E (.ref CN) (some d) H'
def spGoX (CN C : Addr) : Sp := fun vs H Q E => ∃ r rw pl dp row b, ∃ n : Int, vs = [.ref r, .str b, .int n] ∧ RdAt C H r rw pl dp row ∧ ((aheadS row pl ≠ b ∧ Q (.bl false) H) ∨ (row[pl]? = some b ∧ n ≠ 8 ∧ ∀ H', Kb r H H' → RdAt C H' r rw (pl + 1) dp row → Q (.bl true) H') ∨ (row[pl]? = some b ∧ n = 8 ∧ NoAt CN r H E (pl + 1)))
theorem kb_raise {r : Addr} {H H1 : Hp} {a d : Addr} {o0 o1 o2 : HO} (k : Kb r H H1) (ha : H1 a = none) (hd : upd H1 a o0 d = none) : Kb r H (unt (upd (upd (upd H1 a o0) a o1) d o2) a) := fun b o e n => by
  have e1 := k b o e n
  have n1 : b ≠ a := fun z => by rw [z, ha] at e1; cases e1
  have n2 : b ≠ d := fun z => by rw [← z, upd_ne n1, e1] at hd; cases hd
  rw [unt_ne n1, upd_ne n2, upd_ne n1, upd_ne n1, e1]
section
seal L2.PS L2.PSs L2.PE L2.PA
variable {P : Program} {w : World} {K : PySem.W.Frag} {mg : Str → Option Value} {base : Heap} {C_Condition C_CauseIs C_ThingIs C_DaysIn C_Over C_Not C_All C_Some C_Reader : Addr} {C_CoverError C_NoAmount C_NoWords C_TooDeep C_NoText : Addr}
theorem sc_NoWords___init__ : FnScope ["self", "at"] ["self", "at"] (defScope s_NoWords___init__) := ⟨rfl, rfl, rfl, by decide +kernel, rfl, by decide +kernel, by decide +kernel⟩
theorem ok_NoWords___init__ {f : Addr} {fd : FuncData} (F : Fun K "__init__" "NoWords.__init__" s_NoWords___init__ f fd) (T : Txt K mg) (Z : Xc K mg C_CoverError C_NoAmount C_NoWords C_TooDeep C_NoText) : FnOk P w K mg base CX0 1 f fd ["self", "at"] (spInitN C_NoWords "at") := by
  have sc := sc_NoWords___init__
  refine F.ok sc (fun vs H Q E h => ?_) (fun cdv A outer s H vs Q E hr h => ?_)
  · obtain ⟨_, _, rfl, _⟩ := h
    rfl
  obtain ⟨e, n, rfl, he, q⟩ := h
  refine ⟨_, (pss_one (ps_fldN (pv 0) (pv 1) rfl)), ?_⟩
  exact ⟨_, rfl, _, rfl, e, C_NoWords, rfl, he, Z.s_NoWords, fun d hd ne => q d hd ne⟩
theorem sc_Reader_goes_on : FnScope ["self", "between", "so_far"] ["self", "between", "so_far"] (defScope s_Reader_goes_on) := ⟨rfl, rfl, rfl, by decide +kernel, rfl, by decide +kernel, by decide +kernel⟩
theorem ok_Reader_goes_on {f : Addr} {fd : FuncData} (F : Fun K "goes_on" "Reader.goes_on" s_Reader_goes_on f fd) (T : Txt K mg) (L : Kl K mg C_Condition C_CauseIs C_ThingIs C_DaysIn C_Over C_Not C_All C_Some C_Reader) (Mahead : MCal P w K mg base 1 C_Reader "ahead" ["self"] (spAhead C_Reader)) (Mstep : MCal P w K mg base 1 C_Reader "step" ["self"] (spStep1 C_Reader)) (KNoWords : ECal P w K mg base 1 "NoWords" C_NoWords ["self", "at"] (spInitN C_NoWords "at")) : FnOk P w K mg base (CX1 P w) 3 f fd ["self", "between", "so_far"] (spGoX C_NoWords C_Reader) := by
  have sc := sc_Reader_goes_on
  refine F.okX sc (fun vs H Q E h => ?_) (fun cdv A outer s H vs Q E hr h => ?_)
  · obtain ⟨_, _, _, _, _, _, _, rfl, _⟩ := h
    rfl
  obtain ⟨r, rw, pl, dp, row, b, n, rfl, rd, alt⟩ := h
  refine ⟨_, (pss_cons (ps_if (pt_cmpR op_ne (pe_meth0C Mahead (hr.mono (by omega)) (pv 0)) (pv 1) (nomark _))
        (pss_one (ps_ret pe_bl))
        pss_nil)
      (pss_cons (ps_expr (pe_meth0C Mstep (hr.mono (by omega)) (pv 0)))
      (pss_cons (ps_if (pt_cmpR op_eq (pv 2) (pe_gint T.g_MOST_IN_ROW rfl) (nomark _))
        (pss_one (ps_raiseI wish_fn rfl KNoWords (hr.mono (by omega)) rfl (pa_cons (pe_fld (pv 0) rfl) pa_nil)))
        pss_nil)
      (pss_one (ps_ret pe_bl))))), ?_⟩
  have rd' := rd
  obtain ⟨⟨dx, hr'⟩, hw, hpl, h60⟩ := rd
  refine ⟨_, rfl, r, dx, _, rfl, hr', rfl, r, rw, pl, dp, row, rfl, rd', _, rfl, rfl, _, rfl, ?_⟩
  rcases alt with ⟨ne, q⟩ | ⟨e, n8, q⟩ | ⟨e, n8, q⟩
  · exact nT (fun z => ne (V.str.inj z)) q
  · refine nF (by rw [ahead_at e]) ?_
    have lt : pl + 1 ≤ row.length := (List.getElem?_eq_some_iff.mp e).1
    refine ⟨_, rfl, r, dx, _, rfl, hr', rfl, r, rw, pl, dp, row, rfl, rd', lt, fun H' k' rd2 => ?_⟩
    exact ⟨_, rfl, rfl, _, rfl, dF (fun z => n8 (V.int.inj z)) (q H' k' rd2)⟩
  · refine nF (by rw [ahead_at e]) ?_
    have lt : pl + 1 ≤ row.length := (List.getElem?_eq_some_iff.mp e).1
    refine ⟨_, rfl, r, dx, _, rfl, hr', rfl, r, rw, pl, dp, row, rfl, rd', lt, fun H' k' rd2 => ?_⟩
    obtain ⟨⟨dx2, hr2⟩, _⟩ := rd2
    refine ⟨_, rfl, rfl, _, rfl, dT (by rw [n8]) ?_⟩
    refine ⟨_, rfl, r, _, dx2, _, _, rfl, hr2, L.cl_Reader, L.na_Reader_place, lr_place _ _ _, le_line (by show 1 ≤ 1000; decide), fun a ha => ?_⟩
    refine ⟨a, _, rfl, upd_same, fun d hd ne => ⟨rfl, d, by rw [upd_ne ne.symm, upd_same], ?_⟩⟩
    exact q d _ (kb_raise k' ha hd) (by rw [unt_ne ne, upd_same]; rfl)
/-- the way on of a refusal -/
def NoE (CN CD r : Addr) (H : Hp) (E : XK) (pl : Nat) : No → Prop
  | .at n => NoAt CN r H E ((pl + n : Nat) : Int)
  | .deep => ∀ H', Kb r H H' → E (.ref CD) none H'
theorem NoAt.kb {CN r : Addr} {H H1 : Hp} {E : XK} {n : Int} (k : Kb r H H1) (h : NoAt CN r H E n) : NoAt CN r H1 E n := fun d H' k' e => h d H' (k.trans k') e
theorem NoE.kb {CN CD r : Addr} {H H1 : Hp} {E : XK} {pl : Nat} (k : Kb r H H1) : ∀ {f : No}, NoE CN CD r H E pl f → NoE CN CD r H1 E pl f
  | .at _, h => NoAt.kb k h
  | .deep, h => fun H' k' => h H' (k.trans k')
theorem NoE.on {CN CD r : Addr} {H : Hp} {E : XK} {pl i : Nat} : ∀ {f : No}, NoE CN CD r H E pl (f.on i) → NoE CN CD r H E (pl + i) f
  | .at n, h => by
    show NoAt CN r H E ((pl + i + n : Nat) : Int)
    rw [Nat.add_assoc]
    exact h
  | .deep, h => h
/-- no atom stands here (the atoms' own words are good) -/
def af28 (ws : List Str) (n : Nat) : Prop := n = 0 ∧ ∀ x, ws.head? = some x → x ∉ [Str.ofString "not", Str.ofString "(", Str.ofString "always", Str.ofString "cause", Str.ofString "thing", Str.ofString "days", Str.ofString "over"]
def spF (k : Nat) (CN CD C : Addr) (m : Nat) : Sp := fun vs H _ E => ∃ r rw pl, ∃ dp : Nat, ∃ row f, vs = [.ref r] ∧ RdAt C H r rw pl dp row ∧ dp ≤ 6 ∧ 6 ≤ dp + m ∧ Fl wordsC okCo af28 k dp (row.drop pl) f ∧ NoE CN CD r H E pl f
def spRPX (κ : A8) (CN CD C : Addr) (m : Nat) : Sp := fun vs H Q E => spRP κ C m vs H Q E ∨ spF 0 CN CD C m vs H Q E
def spRRX (κ : A8) (CN CD C : Addr) (m : Nat) : Sp := fun vs H Q E => spRR κ C m vs H Q E ∨ spF 1 CN CD C m vs H Q E
def spRRsX (κ : A8) (CN CD C : Addr) (m : Nat) : Sp := fun vs H Q E => spRRs κ C m vs H Q E ∨ spF 2 CN CD C m vs H Q E
def spFB (CN CD C : Addr) (m : Nat) : Sp := fun vs H _ E => ∃ r rw pl, ∃ dp : Nat, ∃ row, vs = [.ref r] ∧ RdAt C H r rw pl dp row ∧ dp ≤ 6 ∧ 6 ≤ dp + m ∧ ((∃ f, Fl wordsC okCo af28 2 dp (row.drop pl) f ∧ NoE CN CD r H E pl f) ∨
  ∃ ws post t d, row.drop pl = ws ++ post ∧ Spl wordsC okCo 2 ws t d ∧ dp + d ≤ 6 ∧ (∀ x, post.head? = some x → x ∉ [Str.ofString "and", Str.ofString "or", Str.ofString ")"]) ∧ NoAt CN r H E ((pl + ws.length : Nat) : Int))
def spRBX (κ : A8) (CN CD C : Addr) (m : Nat) : Sp := fun vs H Q E => spRB κ C m vs H Q E ∨ spFB CN CD C m vs H Q E
theorem sc_Reader_read_bracket : FnScope ["self", "condition"] ["self"] (defScope s_Reader_read_bracket) := ⟨rfl, rfl, rfl, by decide +kernel, rfl, by decide +kernel, by decide +kernel⟩
theorem ok_Reader_read_bracket {f : Addr} {fd : FuncData} (F : Fun K "read_bracket" "Reader.read_bracket" s_Reader_read_bracket f fd) (T : Txt K mg) (L : Kl K mg C_Condition C_CauseIs C_ThingIs C_DaysIn C_Over C_Not C_All C_Some C_Reader) {m : Nat} (Mahead : MCal P w K mg base 1 C_Reader "ahead" ["self"] (spAhead C_Reader)) (Mstep : MCal P w K mg base 1 C_Reader "step" ["self"] (spStep1 C_Reader)) (Mread_rows : MCalX P w K mg base (5 * m + 8) C_Reader "read_rows" ["self"] (spRRsX (A8.mk C_Condition C_CauseIs C_ThingIs C_DaysIn C_Over C_Not C_All C_Some) C_NoWords C_TooDeep C_Reader m)) (KNoWords : ECal P w K mg base 1 "NoWords" C_NoWords ["self", "at"] (spInitN C_NoWords "at")) : FnOk P w K mg base (CX1 P w) (5 * m + 9) f fd ["self"] (spRBX (A8.mk C_Condition C_CauseIs C_ThingIs C_DaysIn C_Over C_Not C_All C_Some) C_NoWords C_TooDeep C_Reader m) := by
  have sc := sc_Reader_read_bracket
  refine F.okX sc (fun vs H Q E h => ?_) (fun cdv A outer s H vs Q E hr h => ?_)
  · rcases h with h | h
    · obtain ⟨_, _, _, _, _, _, _, _, _, rfl, _⟩ := h
      rfl
    · obtain ⟨_, _, _, _, _, rfl, _⟩ := h
      rfl
  refine ⟨_, (pss_cons (ps_set (i := 1) sc.nd rfl (Or.inl rfl) (pe_meth0X Mread_rows (hr.mono (by omega)) wish_fn (pv 0)))
      (pss_cons (ps_if (pt_cmpR op_ne (pe_meth0C Mahead (hr.mono (by omega)) (pv 0)) pe_str (nomark _))
        (pss_one (ps_raiseI wish_fn rfl KNoWords (hr.mono (by omega)) rfl (pa_cons (pe_fld (pv 0) rfl) pa_nil)))
        pss_nil)
      (pss_cons (ps_expr (pe_meth0C Mstep (hr.mono (by omega)) (pv 0)))
      (pss_one (ps_ret (pv 1)))))), ?_⟩
  rcases h with h | h
  · obtain ⟨r, rw, pl, dp, row, ws, post, t, d, rfl, rd, dr, sp, dm, d6, q⟩ := h
    have rd' := rd
    obtain ⟨⟨dx, hr'⟩, hw, hpl, h60⟩ := rd
    refine ⟨_, rfl, r, dx, _, rfl, hr', rfl, .inl ⟨r, rw, pl, dp, row, ws, Str.ofString ")" :: post, t, d, rfl, rd', dr, sp, dm, d6, (by intro z; exact absurd (Option.some.inj z) (by decide +kernel)), (by intro z; exact absurd (Option.some.inj z) (by decide +kernel)), fun u H1 k1 rd1 cd => ?_⟩⟩
    refine atG [some (.ref r), some u] rfl ?_
    have dr1 := drop_more dr
    have e1 : row[pl + ws.length]? = some (Str.ofString ")") := drop_head dr1
    have rd1' := rd1
    obtain ⟨⟨dx1, hr1⟩, hw1, hpl1, _⟩ := rd1
    refine ⟨_, rfl, r, dx1, _, rfl, hr1, rfl, r, rw, _, dp, row, rfl, rd1', rfl, _, rfl, nF (by rw [ahead_at e1]) ?_⟩
    refine ⟨_, rfl, r, dx1, _, rfl, hr1, rfl, r, rw, _, dp, row, rfl, rd1', drop_le dr1, fun H2 k2 rd2 => ?_⟩
    exact ⟨_, rfl, q u H2 (k1.trans k2) rd2 (cd.same (k2.nw hr'))⟩
  · obtain ⟨r, rw, pl, dp, row, rfl, rd, d6, dm, alt⟩ := h
    have rd' := rd
    obtain ⟨⟨dx, hr'⟩, hw, hpl, h60⟩ := rd
    rcases alt with ⟨f, fl, q⟩ | ⟨ws, post, t, d, dr, sp, dd, hp, q⟩
    · exact ⟨_, rfl, r, dx, _, rfl, hr', rfl, .inr ⟨r, rw, pl, dp, row, f, rfl, rd', d6, dm, fl, q⟩⟩
    · refine ⟨_, rfl, r, dx, _, rfl, hr', rfl, .inl ⟨r, rw, pl, dp, row, ws, post, t, d, rfl, rd', dr, sp, by omega, dd, (fun z => hp _ z (by simp)), (fun z => hp _ z (by simp)), fun u H1 k1 rd1 cd => ?_⟩⟩
      refine atG [some (.ref r), some u] rfl ?_
      have dr1 := drop_more dr
      have rd1' := rd1
      obtain ⟨⟨dx1, hr1⟩, hw1, hpl1, _⟩ := rd1
      refine ⟨_, rfl, r, dx1, _, rfl, hr1, rfl, r, rw, _, dp, row, rfl, rd1', rfl, _, rfl, nT (fun z => ahead_ne dr1 (fun z => hp _ z (by simp)) (by decide +kernel) (V.str.inj z)) ?_⟩
      refine ⟨_, rfl, r, _, dx1, _, _, rfl, hr1, L.cl_Reader, L.na_Reader_place, lr_place _ _ _, le_line (by show 1 ≤ 1000; decide), fun a ha => ?_⟩
      refine ⟨a, _, rfl, upd_same, fun d hd ne => ⟨rfl, d, by rw [upd_ne ne.symm, upd_same], ?_⟩⟩
      exact q d _ (kb_raise k1 ha hd) (by rw [unt_ne ne, upd_same])
end


def spFD (CN CD C : Addr) (m : Nat) : Sp := fun vs H _ E => ∃ r rw pl, ∃ dp : Nat, ∃ row wd rest, vs = [.ref r, .str wd] ∧ RdAt C H r rw pl dp row ∧ row.drop pl = wd :: rest ∧ dp ≤ 6 ∧ 6 ≤ dp + m ∧
  ((dp = 6 ∧ NoE CN CD r H E pl .deep) ∨ (dp < 6 ∧ wd = Str.ofString "not" ∧ ∃ f, Fl wordsC okCo af28 0 (dp + 1) rest f ∧ NoE CN CD r H E (pl + 1) f) ∨ (dp < 6 ∧ wd = Str.ofString "(" ∧ ((∃ f, Fl wordsC okCo af28 2 (dp + 1) rest f ∧ NoE CN CD r H E (pl + 1) f) ∨
    ∃ ws post t d, rest = ws ++ post ∧ Spl wordsC okCo 2 ws t d ∧ dp + 1 + d ≤ 6 ∧ (∀ x, post.head? = some x → x ∉ [Str.ofString "and", Str.ofString "or", Str.ofString ")"]) ∧ NoAt CN r H E ((pl + 1 + ws.length : Nat) : Int))))
def spRDX (κ : A8) (CN CD C : Addr) (m : Nat) : Sp := fun vs H Q E => spRD κ C m vs H Q E ∨ spFD CN CD C m vs H Q E
section
seal L2.PS L2.PSs L2.PE L2.PA
variable {P : Program} {w : World} {K : PySem.W.Frag} {mg : Str → Option Value} {base : Heap} {C_Condition C_CauseIs C_ThingIs C_DaysIn C_Over C_Not C_All C_Some C_Reader : Addr} {C_CoverError C_NoAmount C_NoWords C_TooDeep C_NoText : Addr}
theorem sc_Reader_read_deeper : FnScope ["self", "word", "condition"] ["self", "word"] (defScope s_Reader_read_deeper) := ⟨rfl, rfl, rfl, by decide +kernel, rfl, by decide +kernel, by decide +kernel⟩
theorem ok_Reader_read_deeper {f : Addr} {fd : FuncData} (F : Fun K "read_deeper" "Reader.read_deeper" s_Reader_read_deeper f fd) (T : Txt K mg) (L : Kl K mg C_Condition C_CauseIs C_ThingIs C_DaysIn C_Over C_Not C_All C_Some C_Reader) (Z : Xc K mg C_CoverError C_NoAmount C_NoWords C_TooDeep C_NoText) {m : Nat} (Mstep : MCal P w K mg base 1 C_Reader "step" ["self"] (spStep1 C_Reader)) (Mread_piece : MCalX P w K mg base (5 * m + 6) C_Reader "read_piece" ["self"] (spRPX (A8.mk C_Condition C_CauseIs C_ThingIs C_DaysIn C_Over C_Not C_All C_Some) C_NoWords C_TooDeep C_Reader m)) (Mread_bracket : MCalX P w K mg base (5 * m + 9) C_Reader "read_bracket" ["self"] (spRBX (A8.mk C_Condition C_CauseIs C_ThingIs C_DaysIn C_Over C_Not C_All C_Some) C_NoWords C_TooDeep C_Reader m)) (KNot : KCal P w K mg base 1 "Not" C_Not ["self", "part"] (spMk1 C_Not "part")) : FnOk P w K mg base (CX1 P w) (5 * m + 10) f fd ["self", "word"] (spRDX (A8.mk C_Condition C_CauseIs C_ThingIs C_DaysIn C_Over C_Not C_All C_Some) C_NoWords C_TooDeep C_Reader (m + 1)) := by
  have sc := sc_Reader_read_deeper
  refine F.okX sc (fun vs H Q E h => ?_) (fun cdv A outer s H vs Q E hr h => ?_)
  · rcases h with h | h
    · obtain ⟨_, _, _, _, _, _, _, _, _, _, rfl, _⟩ := h
      rfl
    · obtain ⟨_, _, _, _, _, _, _, rfl, _⟩ := h
      rfl
  refine ⟨_, (pss_cons (ps_if (pt_cmpR op_eq (pe_fld (pv 0) rfl) (pe_gint T.g_MOST_OPEN rfl) (nomark _))
        (pss_one (ps_raise wish_fn rfl Z.x_TooDeep rfl (pa_cons pe_str pa_nil)))
        pss_nil)
      (pss_cons (ps_fld (pv 0) (pe_op op_add (pe_fld (pv 0) rfl) pe_int) rfl)
      (pss_cons (ps_expr (pe_meth0C Mstep (hr.mono (by omega)) (pv 0)))
      (pss_cons (ps_set (i := 2) sc.nd rfl (Or.inl rfl) (pe_ifExp (pt_cmpR op_eq (pv 1) pe_str (nomark _)) (pe_makeC KNot (hr.mono (by omega)) rfl (pa_cons (pe_meth0X Mread_piece (hr.mono (by omega)) wish_fn (pv 0)) pa_nil)) (pe_meth0X Mread_bracket (hr.mono (by omega)) wish_fn (pv 0))))
      (pss_cons (ps_fld (pv 0) (pe_op op_sub (pe_fld (pv 0) rfl) pe_int) rfl)
      (pss_one (ps_ret (pv 2)))))))), ?_⟩
  rcases h with h | h
  · obtain ⟨r, rw, pl, dp, row, ws, post, t, d, wd, rfl, rd, dr, dm, d6, alt, q⟩ := h
    have rd' := rd
    obtain ⟨⟨dx, hr'⟩, hw, hpl, h60⟩ := rd
    refine ⟨_, rfl, r, _, dx, _, _, rfl, hr', L.cl_Reader, L.na_Reader_depth, lr_depth _ _ _, rfl, _, rfl, dF (fun z => by have := V.int.inj z; omega) ?_⟩
    refine ⟨_, rfl, r, _, dx, _, _, rfl, hr', L.cl_Reader, L.na_Reader_depth, lr_depth _ _ _, _, _, rfl, rfl, _, rfl, r, _, dx, _, rfl, hr', L.cl_Reader, L.na_Reader_depth, (by show 3 < 1000; decide), ?_⟩
    have rd1 : RdAt C_Reader (upd H r (.ins C_Reader dx (fldR rw pl ((dp : Int) + 1)))) r rw pl ((dp : Int) + 1) row := RdAt.step (p := pl) rd' hpl
    have k1 : Kb r H (upd H r (.ins C_Reader dx (fldR rw pl ((dp : Int) + 1)))) := Kb.upd
    have lt := drop_le dr
    refine ⟨_, rfl, r, dx, _, rfl, upd_same, rfl, r, rw, pl, _, row, rfl, rd1, lt, fun H2 k2 rd2 => ?_⟩
    have k12 := k1.trans k2
    have dr2 : row.drop (pl + 1) = ws ++ post := by
      rw [← List.drop_drop, dr]; rfl
    have rd2' : RdAt C_Reader H2 r rw (pl + 1) ((dp + 1 : Nat) : Int) row := rd2
    have rd2'' := rd2'
    obtain ⟨⟨dx2, hr2⟩, hw2, hpl2, _⟩ := rd2''
    rcases alt with ⟨rfl, t', rfl, sp⟩ | ⟨rfl, ws', rfl, sp⟩
    · refine ⟨_, rfl, rfl, _, rfl, dT rfl ⟨_, rfl, r, dx2, _, rfl, hr2, rfl, .inl ⟨r, rw, pl + 1, dp + 1, row, ws, post, t', d, rfl, rd2', dr2, sp, by omega, by omega, fun u H3 k3 rd3 cd y dy ny nd ne => ⟨y, dy, u, rfl, upd_same, rfl, ?_⟩⟩⟩⟩
      have s4 : Same H3 (upd (upd (upd H3 dy (.own y)) y (.ins C_Not dy [])) y (.ins C_Not dy (putF "part" u []))) := same_three ny nd
      have hy : upd (upd (upd H3 dy (.own y)) y (.ins C_Not dy [])) y (.ins C_Not dy (putF "part" u [])) y = some (.ins C_Not dy (putF "part" u [])) := upd_same
      generalize upd (upd (upd H3 dy (.own y)) y (.ins C_Not dy [])) y (.ins C_Not dy (putF "part" u [])) = H4 at s4 hy
      refine atG [some (.ref r), some (.str (Str.ofString "not")), some (.ref y)] rfl ?_
      obtain ⟨⟨dx3, hr3⟩, hw3, hpl3, _⟩ := rd3
      have hr4 := s4 _ _ hr3
      have rd4 : RdAt C_Reader H4 r rw (pl + 1 + ws.length) ((dp + 1 : Nat) : Int) row := ⟨⟨dx3, hr4⟩, s4 _ _ hw3, hpl3, h60⟩
      refine ⟨_, rfl, r, _, dx3, _, _, rfl, hr4, L.cl_Reader, L.na_Reader_depth, lr_depth _ _ _, _, _, rfl, rfl, _, rfl, r, _, dx3, _, rfl, hr4, L.cl_Reader, L.na_Reader_depth, (by show 3 < 1000; decide), _, rfl, ?_⟩
      have ed : (((dp + 1 : Nat) : Int) - 1) = (dp : Int) := by omega
      have k4 : Kb r H (upd H4 r (.ins C_Reader dx3 (fldR rw ((pl + 1 + ws.length : Nat) : Int) (((dp + 1 : Nat) : Int) - 1)))) := k12.trans (k3.trans ((Kb.of s4).trans Kb.upd))
      have rd5 : RdAt C_Reader (upd H4 r (.ins C_Reader dx3 (fldR rw ((pl + 1 + ws.length : Nat) : Int) (((dp + 1 : Nat) : Int) - 1)))) r rw (pl + 1 + ws.length) (dp : Int) row := by
        have := RdAt.step (p := pl + 1 + ws.length) (q := (((dp + 1 : Nat) : Int) - 1)) (dx := dx3) rd4 hpl3
        rw [ed] at this ⊢
        exact this
      refine q _ _ k4 rd5 ?_
      unfold CdAt
      have nyr : y ≠ r := fun z => by rw [z, hr3] at ny; cases ny
      refine ⟨y, dy, u, rfl, Nw.of ((k12.trans k3).free hr3 ny) (by rw [upd_ne nyr]; exact hy), cd.same fun b o e => ?_⟩
      have e1 := k12.later hr2 (H2 := H3) b o e
      exact ((Kb.of s4).trans Kb.upd).nw hr' b o e1
    · have dr3 : row.drop (pl + 1) = ws' ++ Str.ofString ")" :: post := by rw [dr2, List.append_assoc]; rfl
      refine ⟨_, rfl, rfl, _, rfl, dF (fun z => absurd (V.str.inj z) (by decide +kernel)) ⟨_, rfl, r, dx2, _, rfl, hr2, rfl, .inl ⟨r, rw, pl + 1, dp + 1, row, ws', post, t, d, rfl, rd2', dr3, sp, by omega, by omega, fun u H3 k3 rd3 cd => ?_⟩⟩⟩
      refine atG [some (.ref r), some (.str (Str.ofString "(")), some u] rfl ?_
      have el : pl + 1 + (ws' ++ [Str.ofString ")"]).length = pl + 1 + ws'.length + 1 := by rw [List.length_append]; rfl
      rw [el] at q
      have rd3' := rd3
      obtain ⟨⟨dx3, hr3⟩, hw3, hpl3, _⟩ := rd3
      refine ⟨_, rfl, r, _, dx3, _, _, rfl, hr3, L.cl_Reader, L.na_Reader_depth, lr_depth _ _ _, _, _, rfl, rfl, _, rfl, r, _, dx3, _, rfl, hr3, L.cl_Reader, L.na_Reader_depth, (by show 3 < 1000; decide), _, rfl, ?_⟩
      have ed : (((dp + 1 : Nat) : Int) - 1) = (dp : Int) := by omega
      have rd5 : RdAt C_Reader (upd H3 r (.ins C_Reader dx3 (fldR rw ((pl + 1 + ws'.length + 1 : Nat) : Int) (((dp + 1 : Nat) : Int) - 1)))) r rw (pl + 1 + ws'.length + 1) (dp : Int) row := by
        have := RdAt.step (p := pl + 1 + ws'.length + 1) (q := (((dp + 1 : Nat) : Int) - 1)) (dx := dx3) rd3' hpl3
        rw [ed] at this ⊢
        exact this
      refine q _ _ (k12.trans (k3.trans Kb.upd)) rd5 (cd.same fun b o e => ?_)
      have e1 := k12.later hr2 (H2 := H3) b o e
      exact (Kb.upd).nw hr' b o e1
  · obtain ⟨r, rw, pl, dp, row, wd, rest, rfl, rd, dr, d6, dm, alt⟩ := h
    have rd' := rd
    obtain ⟨⟨dx, hr'⟩, hw, hpl, h60⟩ := rd
    refine ⟨_, rfl, r, _, dx, _, _, rfl, hr', L.cl_Reader, L.na_Reader_depth, lr_depth _ _ _, rfl, _, rfl, ?_⟩
    rcases alt with ⟨rfl, q⟩ | alt
    · exact dT rfl ⟨le_line (by show 1 ≤ 1000; decide), q _ (Kb.refl _ _)⟩
    have lt6 : dp < 6 := by rcases alt with h | h <;> exact h.1
    refine dF (fun z => by have := V.int.inj z; omega) ?_
    refine ⟨_, rfl, r, _, dx, _, _, rfl, hr', L.cl_Reader, L.na_Reader_depth, lr_depth _ _ _, _, _, rfl, rfl, _, rfl, r, _, dx, _, rfl, hr', L.cl_Reader, L.na_Reader_depth, (by show 3 < 1000; decide), ?_⟩
    have rd1 : RdAt C_Reader (upd H r (.ins C_Reader dx (fldR rw pl ((dp : Int) + 1)))) r rw pl ((dp : Int) + 1) row := RdAt.step (p := pl) rd' hpl
    have k1 : Kb r H (upd H r (.ins C_Reader dx (fldR rw pl ((dp : Int) + 1)))) := Kb.upd
    have lt := drop_le dr
    refine ⟨_, rfl, r, dx, _, rfl, upd_same, rfl, r, rw, pl, _, row, rfl, rd1, lt, fun H2 k2 rd2 => ?_⟩
    have k12 := k1.trans k2
    have dr2 : row.drop (pl + 1) = rest := by
      rw [← List.drop_drop, dr]; rfl
    have rd2' : RdAt C_Reader H2 r rw (pl + 1) ((dp + 1 : Nat) : Int) row := rd2
    have rd2'' := rd2'
    obtain ⟨⟨dx2, hr2⟩, hw2, hpl2, _⟩ := rd2''
    rcases alt with ⟨_, rfl, f, fl, q⟩ | ⟨_, rfl, alt⟩
    · exact ⟨_, rfl, rfl, _, rfl, dT rfl ⟨_, rfl, r, dx2, _, rfl, hr2, rfl, .inr ⟨r, rw, pl + 1, dp + 1, row, f, rfl, rd2', by omega, by omega, by rw [dr2]; exact fl, q.kb k12⟩⟩⟩
    · refine ⟨_, rfl, rfl, _, rfl, dF (fun z => absurd (V.str.inj z) (by decide +kernel)) ⟨_, rfl, r, dx2, _, rfl, hr2, rfl, .inr ⟨r, rw, pl + 1, dp + 1, row, rfl, rd2', by omega, by omega, ?_⟩⟩⟩
      rcases alt with ⟨f, fl, q⟩ | ⟨ws, post, t, d, e, sp, dd, hp, q⟩
      · exact .inl ⟨f, by rw [dr2]; exact fl, q.kb k12⟩
      · exact .inr ⟨ws, post, t, d, by rw [dr2]; exact e, sp, by omega, hp, q.kb k12⟩
end


section
seal L2.PS L2.PSs L2.PE L2.PA
variable {P : Program} {w : World} {K : PySem.W.Frag} {mg : Str → Option Value} {base : Heap} {C_Condition C_CauseIs C_ThingIs C_DaysIn C_Over C_Not C_All C_Some C_Reader : Addr} {C_CoverError C_NoAmount C_NoWords C_TooDeep C_NoText : Addr}
theorem sc_Reader_read_piece : FnScope ["self", "word"] ["self"] (defScope s_Reader_read_piece) := ⟨rfl, rfl, rfl, by decide +kernel, rfl, by decide +kernel, by decide +kernel⟩
theorem ok_Reader_read_piece {f : Addr} {fd : FuncData} (F : Fun K "read_piece" "Reader.read_piece" s_Reader_read_piece f fd) (T : Txt K mg) (L : Kl K mg C_Condition C_CauseIs C_ThingIs C_DaysIn C_Over C_Not C_All C_Some C_Reader) {m : Nat} (Mahead : MCal P w K mg base 1 C_Reader "ahead" ["self"] (spAhead C_Reader)) (Mstep : MCal P w K mg base 1 C_Reader "step" ["self"] (spStep1 C_Reader)) (Mread_deeper : MCalX P w K mg base (5 * m + 5) C_Reader "read_deeper" ["self", "word"] (spRDX (A8.mk C_Condition C_CauseIs C_ThingIs C_DaysIn C_Over C_Not C_All C_Some) C_NoWords C_TooDeep C_Reader m)) (KNoWords : ECal P w K mg base 1 "NoWords" C_NoWords ["self", "at"] (spInitN C_NoWords "at")) (Mread_name : MCal P w K mg base 3 C_Reader "read_name" ["self"] (spRdName C_Reader)) (Mread_days : MCal P w K mg base 5 C_Reader "read_days" ["self"] (spRdDays (A8.mk C_Condition C_CauseIs C_ThingIs C_DaysIn C_Over C_Not C_All C_Some) C_Reader)) (Mread_amount : MCal P w K mg base 4 C_Reader "read_amount" ["self"] (spRdAmt C_Reader)) (NCondition : Mk0 K mg "Condition" C_Condition) (KCauseIs : KCal P w K mg base 1 "CauseIs" C_CauseIs ["self", "name"] (spMk1 C_CauseIs "name")) (KThingIs : KCal P w K mg base 1 "ThingIs" C_ThingIs ["self", "name"] (spMk1 C_ThingIs "name")) (KOver : KCal P w K mg base 1 "Over" C_Over ["self", "cents"] (spMk1 C_Over "cents")) : FnOk P w K mg base (CX1 P w) (5 * m + 6) f fd ["self"] (spRPX (A8.mk C_Condition C_CauseIs C_ThingIs C_DaysIn C_Over C_Not C_All C_Some) C_NoWords C_TooDeep C_Reader m) := by
  have sc := sc_Reader_read_piece
  refine F.okX sc (fun vs H Q E h => ?_) (fun cdv A outer s H vs Q E hr h => ?_)
  · rcases h with h | h
    · obtain ⟨_, _, _, _, _, _, _, _, _, rfl, _⟩ := h
      rfl
    · obtain ⟨_, _, _, _, _, _, rfl, _⟩ := h
      rfl
  refine ⟨_, (pss_cons (ps_set (i := 1) sc.nd rfl (Or.inl rfl) (pe_meth0C Mahead (hr.mono (by omega)) (pv 0)))
      (pss_cons (ps_if (PW.pt (pw_or (pt_cmpR op_eq (pv 1) pe_str (nomark _)) (pw_or1 (pt_cmpR op_eq (pv 1) pe_str (nomark _)))))
        (pss_one (ps_ret (pe_methX Mread_deeper (hr.mono (by omega)) wish_fn (pv 0) (pa_cons (pv 1) pa_nil))))
        pss_nil)
      (pss_cons (ps_if (pt_cmpR op_notIn_seq (pv 1) (pe_tup (pa_cons pe_str (pa_cons pe_str (pa_cons pe_str (pa_cons pe_str (pa_cons pe_str pa_nil)))))) rfl)
        (pss_one (ps_raiseI wish_fn rfl KNoWords (hr.mono (by omega)) rfl (pa_cons (pe_fld (pv 0) rfl) pa_nil)))
        pss_nil)
      (pss_cons (ps_expr (pe_meth0C Mstep (hr.mono (by omega)) (pv 0)))
      (pss_cons (ps_if (pt_cmpR op_eq (pv 1) pe_str (nomark _))
        (pss_one (ps_ret (pe_makeC KCauseIs (hr.mono (by omega)) rfl (pa_cons (pe_meth0C Mread_name (hr.mono (by omega)) (pv 0)) pa_nil))))
        pss_nil)
      (pss_cons (ps_if (pt_cmpR op_eq (pv 1) pe_str (nomark _))
        (pss_one (ps_ret (pe_makeC KThingIs (hr.mono (by omega)) rfl (pa_cons (pe_meth0C Mread_name (hr.mono (by omega)) (pv 0)) pa_nil))))
        pss_nil)
      (pss_cons (ps_if (pt_cmpR op_eq (pv 1) pe_str (nomark _))
        (pss_one (ps_ret (pe_meth0C Mread_days (hr.mono (by omega)) (pv 0))))
        pss_nil)
      (pss_cons (ps_if (pt_cmpR op_eq (pv 1) pe_str (nomark _))
        (pss_one (ps_ret (pe_makeC KOver (hr.mono (by omega)) rfl (pa_cons (pe_meth0C Mread_amount (hr.mono (by omega)) (pv 0)) pa_nil))))
        pss_nil)
      (pss_one (ps_ret (pe_new0 NCondition rfl))))))))))), ?_⟩
  rcases h with h | h
  · obtain ⟨r, rw, pl, dp, row, ws, post, t, d, rfl, rd, dr, sp, dm, d6, q⟩ := h
    have rd' := rd
    obtain ⟨⟨dx, hr'⟩, hw, hpl, h60⟩ := rd
    have sne : ∀ {y z : Str}, y ≠ z → ¬ V.str y = V.str z := fun h e => h (V.str.inj e)
    have five : 5 ≤ sizeLine := by rw [sizeLine_eq]; decide
    refine ⟨_, rfl, r, dx, _, rfl, hr', rfl, r, rw, pl, dp, row, rfl, rd', ?_⟩
    cases sp with
    | no sp =>
      rename_i ws t d
      have e0 : row[pl]? = some (Str.ofString "not") := drop_head dr
      rw [ahead_at e0]
      refine atG [some (.ref r), some (.str (Str.ofString "not"))] rfl ?_
      refine ⟨_, rfl, rfl, _, rfl, dT rfl (iteT ⟨_, rfl, r, dx, _, rfl, hr', rfl, _, rfl, .inl ⟨r, rw, pl, dp, row, ws, post, .no t, d, _, rfl, rd', dr, by omega, by omega, .inl ⟨rfl, t, rfl, sp⟩, fun u H' k' rd2 cd => q u H' k' ?_ cd⟩⟩)⟩
      rw [List.length_cons, show pl + (ws.length + 1) = pl + 1 + ws.length by omega]
      exact rd2
    | br sp =>
      rename_i ws d
      have e0 : row[pl]? = some (Str.ofString "(") := drop_head dr
      rw [ahead_at e0]
      refine atG [some (.ref r), some (.str (Str.ofString "("))] rfl ?_
      refine ⟨_, rfl, rfl, _, rfl, dF (sne (by decide +kernel)) ⟨_, rfl, rfl, _, rfl, dT rfl ⟨_, rfl, r, dx, _, rfl, hr', rfl, _, rfl, .inl ⟨r, rw, pl, dp, row, ws ++ [Str.ofString ")"], post, t, d, _, rfl, rd', dr, by omega, by omega, .inr ⟨rfl, ws, rfl, sp⟩, fun u H' k' rd2 cd => q u H' k' ?_ cd⟩⟩⟩⟩
      rw [List.length_cons, show pl + ((ws ++ [Str.ofString ")"]).length + 1) = pl + 1 + (ws ++ [Str.ofString ")"]).length by omega]
      exact rd2
    | leaf ok =>
      rename_i c
      cases c with
      | alw =>
        have e0 : row[pl]? = some (Str.ofString "always") := drop_head dr
        have lt : pl + 1 ≤ row.length := drop_le dr
        rw [ahead_at e0]
        refine atG [some (.ref r), some (.str (Str.ofString "always"))] rfl ?_
        refine ⟨_, rfl, rfl, _, rfl, dF (sne (by decide +kernel)) ⟨_, rfl, rfl, _, rfl, dF (sne (by decide +kernel)) ?_⟩⟩
        refine ⟨_, rfl, five, fun tt ntt => ⟨tt, _, rfl, .inr (SqT.of upd_same), rfl, rfl, _, rfl, bF (by decide +kernel) ?_⟩⟩
        have s0 := same_new ntt (.tup [.str (Str.ofString "always"), .str (Str.ofString "cause"), .str (Str.ofString "thing"), .str (Str.ofString "days"), .str (Str.ofString "over")])
        have rd0 : RdAt C_Reader (upd H tt (.tup [.str (Str.ofString "always"), .str (Str.ofString "cause"), .str (Str.ofString "thing"), .str (Str.ofString "days"), .str (Str.ofString "over")])) r rw pl dp row := ⟨⟨dx, s0 _ _ hr'⟩, s0 _ _ hw, hpl, h60⟩
        refine ⟨_, rfl, r, dx, _, rfl, s0 _ _ hr', rfl, r, rw, pl, _, row, rfl, rd0, lt, fun H1 k01 rd1 => ?_⟩
        have k1 := (Kb.of s0).trans k01
        have rd1' := rd1
        obtain ⟨⟨dx1, hr1⟩, hw1, hpl1, _⟩ := rd1
        refine ⟨_, rfl, rfl, _, rfl, dF (sne (by decide +kernel)) ?_⟩
        refine ⟨_, rfl, rfl, _, rfl, dF (sne (by decide +kernel)) ?_⟩
        refine ⟨_, rfl, rfl, _, rfl, dF (sne (by decide +kernel)) ?_⟩
        refine ⟨_, rfl, rfl, _, rfl, dF (sne (by decide +kernel)) ?_⟩
        intro y dy ny nd ne
        have s2 : Same H1 (upd (upd H1 dy (.own y)) y (.ins C_Condition dy [])) := same_two ny nd
        refine q _ _ (k1.trans (Kb.of s2)) ⟨⟨dx1, s2 _ _ hr1⟩, s2 _ _ hw1, hpl1, h60⟩ ?_
        unfold CdAt
        exact ⟨y, dy, rfl, Nw.of (k1.free hr1 ny) upd_same⟩
      | cau nm =>
        have e0 : row[pl]? = some (Str.ofString "cause") := drop_head dr
        have lt : pl + 1 ≤ row.length := drop_le dr
        rw [ahead_at e0]
        refine atG [some (.ref r), some (.str (Str.ofString "cause"))] rfl ?_
        refine ⟨_, rfl, rfl, _, rfl, dF (sne (by decide +kernel)) ⟨_, rfl, rfl, _, rfl, dF (sne (by decide +kernel)) ?_⟩⟩
        refine ⟨_, rfl, five, fun tt ntt => ⟨tt, _, rfl, .inr (SqT.of upd_same), rfl, rfl, _, rfl, bF (by decide +kernel) ?_⟩⟩
        have s0 := same_new ntt (.tup [.str (Str.ofString "always"), .str (Str.ofString "cause"), .str (Str.ofString "thing"), .str (Str.ofString "days"), .str (Str.ofString "over")])
        have rd0 : RdAt C_Reader (upd H tt (.tup [.str (Str.ofString "always"), .str (Str.ofString "cause"), .str (Str.ofString "thing"), .str (Str.ofString "days"), .str (Str.ofString "over")])) r rw pl dp row := ⟨⟨dx, s0 _ _ hr'⟩, s0 _ _ hw, hpl, h60⟩
        refine ⟨_, rfl, r, dx, _, rfl, s0 _ _ hr', rfl, r, rw, pl, _, row, rfl, rd0, lt, fun H1 k01 rd1 => ?_⟩
        have k1 := (Kb.of s0).trans k01
        have rd1' := rd1
        obtain ⟨⟨dx1, hr1⟩, hw1, hpl1, _⟩ := rd1
        have e1 : row[pl + 1]? = some nm := drop_head (xs := nm :: post) (by rw [← List.drop_drop, dr]; rfl)
        refine ⟨_, rfl, rfl, _, rfl, dT rfl ⟨_, rfl, r, dx1, _, rfl, hr1, rfl, r, rw, pl + 1, dp, row, nm, rfl, rd1', e1, ok, fun H2 k2 rd2 y dy ny nd ne => ⟨y, dy, _, rfl, upd_same, rfl, ?_⟩⟩⟩
        obtain ⟨⟨dx2, hr2⟩, hw2, hpl2, _⟩ := rd2
        have s3 : Same H2 (upd (upd (upd H2 dy (.own y)) y (.ins C_CauseIs dy [])) y (.ins C_CauseIs dy (putF "name" (.str nm) []))) := same_three ny nd
        refine q _ _ (k1.trans (k2.trans (Kb.of s3))) ⟨⟨dx2, s3 _ _ hr2⟩, s3 _ _ hw2, hpl2, h60⟩ ?_
        unfold CdAt
        exact ⟨y, dy, rfl, Nw.of ((k1.trans k2).free hr2 ny) upd_same⟩
      | thi nm =>
        have e0 : row[pl]? = some (Str.ofString "thing") := drop_head dr
        have lt : pl + 1 ≤ row.length := drop_le dr
        rw [ahead_at e0]
        refine atG [some (.ref r), some (.str (Str.ofString "thing"))] rfl ?_
        refine ⟨_, rfl, rfl, _, rfl, dF (sne (by decide +kernel)) ⟨_, rfl, rfl, _, rfl, dF (sne (by decide +kernel)) ?_⟩⟩
        refine ⟨_, rfl, five, fun tt ntt => ⟨tt, _, rfl, .inr (SqT.of upd_same), rfl, rfl, _, rfl, bF (by decide +kernel) ?_⟩⟩
        have s0 := same_new ntt (.tup [.str (Str.ofString "always"), .str (Str.ofString "cause"), .str (Str.ofString "thing"), .str (Str.ofString "days"), .str (Str.ofString "over")])
        have rd0 : RdAt C_Reader (upd H tt (.tup [.str (Str.ofString "always"), .str (Str.ofString "cause"), .str (Str.ofString "thing"), .str (Str.ofString "days"), .str (Str.ofString "over")])) r rw pl dp row := ⟨⟨dx, s0 _ _ hr'⟩, s0 _ _ hw, hpl, h60⟩
        refine ⟨_, rfl, r, dx, _, rfl, s0 _ _ hr', rfl, r, rw, pl, _, row, rfl, rd0, lt, fun H1 k01 rd1 => ?_⟩
        have k1 := (Kb.of s0).trans k01
        have rd1' := rd1
        obtain ⟨⟨dx1, hr1⟩, hw1, hpl1, _⟩ := rd1
        refine ⟨_, rfl, rfl, _, rfl, dF (sne (by decide +kernel)) ?_⟩
        have e1 : row[pl + 1]? = some nm := drop_head (xs := nm :: post) (by rw [← List.drop_drop, dr]; rfl)
        refine ⟨_, rfl, rfl, _, rfl, dT rfl ⟨_, rfl, r, dx1, _, rfl, hr1, rfl, r, rw, pl + 1, dp, row, nm, rfl, rd1', e1, ok, fun H2 k2 rd2 y dy ny nd ne => ⟨y, dy, _, rfl, upd_same, rfl, ?_⟩⟩⟩
        obtain ⟨⟨dx2, hr2⟩, hw2, hpl2, _⟩ := rd2
        have s3 : Same H2 (upd (upd (upd H2 dy (.own y)) y (.ins C_ThingIs dy [])) y (.ins C_ThingIs dy (putF "name" (.str nm) []))) := same_three ny nd
        refine q _ _ (k1.trans (k2.trans (Kb.of s3))) ⟨⟨dx2, s3 _ _ hr2⟩, s3 _ _ hw2, hpl2, h60⟩ ?_
        unfold CdAt
        exact ⟨y, dy, rfl, Nw.of ((k1.trans k2).free hr2 ny) upd_same⟩
      | day a b =>
        have e0 : row[pl]? = some (Str.ofString "days") := drop_head dr
        have lt : pl + 1 ≤ row.length := drop_le dr
        rw [ahead_at e0]
        refine atG [some (.ref r), some (.str (Str.ofString "days"))] rfl ?_
        refine ⟨_, rfl, rfl, _, rfl, dF (sne (by decide +kernel)) ⟨_, rfl, rfl, _, rfl, dF (sne (by decide +kernel)) ?_⟩⟩
        refine ⟨_, rfl, five, fun tt ntt => ⟨tt, _, rfl, .inr (SqT.of upd_same), rfl, rfl, _, rfl, bF (by decide +kernel) ?_⟩⟩
        have s0 := same_new ntt (.tup [.str (Str.ofString "always"), .str (Str.ofString "cause"), .str (Str.ofString "thing"), .str (Str.ofString "days"), .str (Str.ofString "over")])
        have rd0 : RdAt C_Reader (upd H tt (.tup [.str (Str.ofString "always"), .str (Str.ofString "cause"), .str (Str.ofString "thing"), .str (Str.ofString "days"), .str (Str.ofString "over")])) r rw pl dp row := ⟨⟨dx, s0 _ _ hr'⟩, s0 _ _ hw, hpl, h60⟩
        refine ⟨_, rfl, r, dx, _, rfl, s0 _ _ hr', rfl, r, rw, pl, _, row, rfl, rd0, lt, fun H1 k01 rd1 => ?_⟩
        have k1 := (Kb.of s0).trans k01
        have rd1' := rd1
        obtain ⟨⟨dx1, hr1⟩, hw1, hpl1, _⟩ := rd1
        refine ⟨_, rfl, rfl, _, rfl, dF (sne (by decide +kernel)) ?_⟩
        refine ⟨_, rfl, rfl, _, rfl, dF (sne (by decide +kernel)) ?_⟩
        obtain ⟨a0, ab, b1⟩ := ok
        have e1 : row[pl + 1]? = some (tx (figs a.toNat)) := drop_head (xs := tx (figs a.toNat) :: tx (figs b.toNat) :: post) (by rw [← List.drop_drop, dr]; rfl)
        have e2 : row[pl + 1 + 1]? = some (tx (figs b.toNat)) := drop_head (xs := tx (figs b.toNat) :: post) (by rw [← List.drop_drop, ← List.drop_drop, dr]; rfl)
        refine ⟨_, rfl, rfl, _, rfl, dT rfl ⟨_, rfl, r, dx1, _, rfl, hr1, rfl, r, rw, pl + 1, dp, row, a.toNat, b.toNat, rfl, rd1', e1, e2, by omega, by omega, fun u H2 k2 rd2 cd => ?_⟩⟩
        rw [show ((a.toNat : Nat) : Int) = a by omega, show ((b.toNat : Nat) : Int) = b by omega] at cd
        exact q u H2 (k1.trans k2) rd2 (cd.same (k1.later hr1))
      | ovr c =>
        have e0 : row[pl]? = some (Str.ofString "over") := drop_head dr
        have lt : pl + 1 ≤ row.length := drop_le dr
        rw [ahead_at e0]
        refine atG [some (.ref r), some (.str (Str.ofString "over"))] rfl ?_
        refine ⟨_, rfl, rfl, _, rfl, dF (sne (by decide +kernel)) ⟨_, rfl, rfl, _, rfl, dF (sne (by decide +kernel)) ?_⟩⟩
        refine ⟨_, rfl, five, fun tt ntt => ⟨tt, _, rfl, .inr (SqT.of upd_same), rfl, rfl, _, rfl, bF (by decide +kernel) ?_⟩⟩
        have s0 := same_new ntt (.tup [.str (Str.ofString "always"), .str (Str.ofString "cause"), .str (Str.ofString "thing"), .str (Str.ofString "days"), .str (Str.ofString "over")])
        have rd0 : RdAt C_Reader (upd H tt (.tup [.str (Str.ofString "always"), .str (Str.ofString "cause"), .str (Str.ofString "thing"), .str (Str.ofString "days"), .str (Str.ofString "over")])) r rw pl dp row := ⟨⟨dx, s0 _ _ hr'⟩, s0 _ _ hw, hpl, h60⟩
        refine ⟨_, rfl, r, dx, _, rfl, s0 _ _ hr', rfl, r, rw, pl, _, row, rfl, rd0, lt, fun H1 k01 rd1 => ?_⟩
        have k1 := (Kb.of s0).trans k01
        have rd1' := rd1
        obtain ⟨⟨dx1, hr1⟩, hw1, hpl1, _⟩ := rd1
        refine ⟨_, rfl, rfl, _, rfl, dF (sne (by decide +kernel)) ?_⟩
        refine ⟨_, rfl, rfl, _, rfl, dF (sne (by decide +kernel)) ?_⟩
        refine ⟨_, rfl, rfl, _, rfl, dF (sne (by decide +kernel)) ?_⟩
        obtain ⟨c0, c1⟩ := ok
        have e1 : row[pl + 1]? = some (tx (shown c.toNat)) := drop_head (xs := tx (shown c.toNat) :: post) (by rw [← List.drop_drop, dr]; rfl)
        refine ⟨_, rfl, rfl, _, rfl, dT rfl ⟨_, rfl, r, dx1, _, rfl, hr1, rfl, r, rw, pl + 1, dp, row, c.toNat, rfl, rd1', e1, by omega, fun H2 k2 rd2 y dy ny nd ne => ⟨y, dy, _, rfl, upd_same, rfl, ?_⟩⟩⟩
        rw [show ((c.toNat : Nat) : Int) = c by omega]
        obtain ⟨⟨dx2, hr2⟩, hw2, hpl2, _⟩ := rd2
        have s3 : Same H2 (upd (upd (upd H2 dy (.own y)) y (.ins C_Over dy [])) y (.ins C_Over dy (putF "cents" (.int c) []))) := same_three ny nd
        refine q _ _ (k1.trans (k2.trans (Kb.of s3))) ⟨⟨dx2, s3 _ _ hr2⟩, s3 _ _ hw2, hpl2, h60⟩ ?_
        unfold CdAt
        exact ⟨y, dy, rfl, Nw.of ((k1.trans k2).free hr2 ny) upd_same⟩
  · obtain ⟨r, rw, pl, dp, row, fl', rfl, rd, d6, dm, fl, q⟩ := h
    have rd' := rd
    obtain ⟨⟨dx, hr'⟩, hw, hpl, h60⟩ := rd
    have sne : ∀ {y z : Str}, y ≠ z → ¬ V.str y = V.str z := fun h e => h (V.str.inj e)
    have five : 5 ≤ sizeLine := by rw [sizeLine_eq]; decide
    refine ⟨_, rfl, r, dx, _, rfl, hr', rfl, r, rw, pl, dp, row, rfl, rd', ?_⟩
    generalize dr : row.drop pl = rst at fl
    cases fl with
    | atom a =>
      obtain ⟨rfl, hx⟩ := a
      have hn : aheadS row pl ∉ [Str.ofString "not", Str.ofString "(", Str.ofString "always", Str.ofString "cause", Str.ofString "thing", Str.ofString "days", Str.ofString "over"] := by
        unfold aheadS
        rw [drop_head dr]
        cases e : rst.head? with
        | none => show Str.ofString "" ∉ _; decide +kernel
        | some x => exact hx x e
      generalize aheadS row pl = wd at hn
      refine atG [some (.ref r), some (.str wd)] rfl ?_
      refine ⟨_, rfl, rfl, _, rfl, dF (sne fun z => hn (by rw [z]; simp)) ⟨_, rfl, rfl, _, rfl, dF (sne fun z => hn (by rw [z]; simp)) ?_⟩⟩
      refine ⟨_, rfl, five, fun tt ntt => ⟨tt, _, rfl, .inr (SqT.of upd_same), rfl, rfl, _, rfl, bT ?_ ?_⟩⟩
      · rw [if_pos rfl]
        have no : inV (V.str wd) [V.str (Str.ofString "always"), V.str (Str.ofString "cause"), V.str (Str.ofString "thing"), V.str (Str.ofString "days"), V.str (Str.ofString "over")] = false := by
          unfold inV
          simp only [List.mem_cons, List.not_mem_nil, or_false, not_or] at hn
          obtain ⟨_, _, h1, h2, h3, h4, h5⟩ := hn
          have ev : ∀ {a : Str}, wd ≠ a → eqV (V.str a) (V.str wd) = false := fun n => beq_eq_false_iff_ne.mpr (fun z => n z.symm)
          rw [List.any_cons, List.any_cons, List.any_cons, List.any_cons, List.any_cons, List.any_nil, ev h1, ev h2, ev h3, ev h4, ev h5]
          rfl
        rw [no]
        rfl
      have s0 := same_new ntt (.tup [.str (Str.ofString "always"), .str (Str.ofString "cause"), .str (Str.ofString "thing"), .str (Str.ofString "days"), .str (Str.ofString "over")])
      refine ⟨_, rfl, r, _, dx, _, _, rfl, s0 _ _ hr', L.cl_Reader, L.na_Reader_place, lr_place _ _ _, le_line (by show 1 ≤ 1000; decide), fun a ha => ?_⟩
      refine ⟨a, _, rfl, upd_same, fun d hd ne => ⟨rfl, d, by rw [upd_ne ne.symm, upd_same], ?_⟩⟩
      exact q d _ (kb_raise (Kb.of s0) ha hd) (by rw [unt_ne ne, upd_same]; rfl)
    | deep h hx =>
      rename_i x ws
      have e0 : row[pl]? = some x := drop_head dr
      rw [ahead_at e0]
      refine atG [some (.ref r), some (.str x)] rfl ?_
      rcases hx with rfl | rfl
      · exact ⟨_, rfl, rfl, _, rfl, dT rfl (iteT ⟨_, rfl, r, dx, _, rfl, hr', rfl, _, rfl, .inr ⟨r, rw, pl, dp, row, _, _, rfl, rd', dr, d6, dm, .inl ⟨by omega, q⟩⟩⟩)⟩
      · exact ⟨_, rfl, rfl, _, rfl, dF (sne (by decide +kernel)) ⟨_, rfl, rfl, _, rfl, dT rfl ⟨_, rfl, r, dx, _, rfl, hr', rfl, _, rfl, .inr ⟨r, rw, pl, dp, row, _, _, rfl, rd', dr, d6, dm, .inl ⟨by omega, q⟩⟩⟩⟩⟩
    | no h fl =>
      rename_i ws f
      have e0 : row[pl]? = some (Str.ofString "not") := drop_head dr
      rw [ahead_at e0]
      refine atG [some (.ref r), some (.str (Str.ofString "not"))] rfl ?_
      exact ⟨_, rfl, rfl, _, rfl, dT rfl (iteT ⟨_, rfl, r, dx, _, rfl, hr', rfl, _, rfl, .inr ⟨r, rw, pl, dp, row, _, _, rfl, rd', dr, d6, dm, .inr (.inl ⟨h, rfl, f, fl, q.on⟩)⟩⟩)⟩
    | br h fl =>
      rename_i ws f
      have e0 : row[pl]? = some (Str.ofString "(") := drop_head dr
      rw [ahead_at e0]
      refine atG [some (.ref r), some (.str (Str.ofString "("))] rfl ?_
      exact ⟨_, rfl, rfl, _, rfl, dF (sne (by decide +kernel)) ⟨_, rfl, rfl, _, rfl, dT rfl ⟨_, rfl, r, dx, _, rfl, hr', rfl, _, rfl, .inr ⟨r, rw, pl, dp, row, _, _, rfl, rd', dr, d6, dm, .inr (.inr ⟨h, rfl, .inl ⟨f, fl, q.on⟩⟩)⟩⟩⟩⟩
    | «open» sp dd hp =>
      rename_i ws t d post
      have e0 : row[pl]? = some (Str.ofString "(") := drop_head dr
      rw [ahead_at e0]
      refine atG [some (.ref r), some (.str (Str.ofString "("))] rfl ?_
      have q' : NoAt C_NoWords r H E ((pl + 1 + ws.length : Nat) : Int) := by rw [Nat.add_assoc]; exact q
      exact ⟨_, rfl, rfl, _, rfl, dF (sne (by decide +kernel)) ⟨_, rfl, rfl, _, rfl, dT rfl ⟨_, rfl, r, dx, _, rfl, hr', rfl, _, rfl, .inr ⟨r, rw, pl, dp, row, _, _, rfl, rd', dr, d6, dm, .inr (.inr ⟨by omega, rfl, .inr ⟨ws, post, t, d, rfl, sp, dd, hp, q'⟩⟩)⟩⟩⟩⟩
end


section
seal L2.PS L2.PSs L2.PE L2.PA
variable {P : Program} {w : World} {K : PySem.W.Frag} {mg : Str → Option Value} {base : Heap} {C_Condition C_CauseIs C_ThingIs C_DaysIn C_Over C_Not C_All C_Some C_Reader : Addr} {C_CoverError C_NoAmount C_NoWords C_TooDeep C_NoText : Addr}
theorem sc_Reader_read_row : FnScope ["self", "pieces"] ["self"] (defScope s_Reader_read_row) := ⟨rfl, rfl, rfl, by decide +kernel, rfl, by decide +kernel, by decide +kernel⟩
theorem ok_Reader_read_row {f : Addr} {fd : FuncData} (F : Fun K "read_row" "Reader.read_row" s_Reader_read_row f fd) (T : Txt K mg) (L : Kl K mg C_Condition C_CauseIs C_ThingIs C_DaysIn C_Over C_Not C_All C_Some C_Reader) {m : Nat} (Mgoes_on : MCalX P w K mg base 3 C_Reader "goes_on" ["self", "between", "so_far"] (spGoX C_NoWords C_Reader)) (Mread_piece : MCalX P w K mg base (5 * m + 6) C_Reader "read_piece" ["self"] (spRPX (A8.mk C_Condition C_CauseIs C_ThingIs C_DaysIn C_Over C_Not C_All C_Some) C_NoWords C_TooDeep C_Reader m)) (KAll : KCal P w K mg base 1 "All" C_All ["self", "several"] (spMkA C_All)) : FnOk P w K mg base (CX1 P w) (5 * m + 7) f fd ["self"] (spRRX (A8.mk C_Condition C_CauseIs C_ThingIs C_DaysIn C_Over C_Not C_All C_Some) C_NoWords C_TooDeep C_Reader m) := by
  have sc := sc_Reader_read_row
  refine F.okX sc (fun vs H Q E h => ?_) (fun cdv A outer s H vs Q E hr h => ?_)
  · rcases h with h | h
    · obtain ⟨_, _, _, _, _, _, _, _, _, rfl, _⟩ := h
      rfl
    · obtain ⟨_, _, _, _, _, _, rfl, _⟩ := h
      rfl
  refine ⟨_, (pss_cons (ps_set (i := 1) sc.nd rfl (Or.inl rfl) (pe_lst (pa_cons (pe_meth0X Mread_piece (hr.mono (by omega)) wish_fn (pv 0)) pa_nil)))
      (pss_cons (ps_while PassesOwn.leaving (pt_val (pe_methX Mgoes_on (hr.mono (by omega)) wish_fn (pv 0) (pa_cons pe_str (pa_cons (pe_callB call_len_seq rfl T.n_len (show bootBuiltins _ = some (.builtin "len") from rfl) (pa_cons (pv 1) pa_nil)) pa_nil))))
        (pss_one (ps_expr (pe_bm PySem.F.plainAttrs_list PySem.F.slot_list_append PySem.F.type_list_append mt_append (pv 1) (pa_cons (pe_meth0X Mread_piece (hr.mono (by omega)) wish_fn (pv 0)) pa_nil)))))
      (pss_one (ps_ret (pe_ifExp (pt_cmpR op_eq (pe_callB call_len_seq rfl T.n_len (show bootBuiltins _ = some (.builtin "len") from rfl) (pa_cons (pv 1) pa_nil)) pe_int (nomark _)) (pe_ix ix_list (pv 1) pe_int (fun _ _ => rfl)) (pe_makeC KAll (hr.mono (by omega)) rfl (pa_cons (pv 1) pa_nil))))))), ?_⟩
  have key : (∃ r rw pl, ∃ dp : Nat, ∃ row g, vs = [.ref r] ∧ RdAt C_Reader H r rw pl dp row ∧ dp ≤ 6 ∧ 6 ≤ dp + m ∧ Fl wordsC okCo af28 0 dp (row.drop pl) g ∧ NoE C_NoWords C_TooDeep r H E pl g) ∨
      ∃ r rw pl, ∃ dp : Nat, ∃ row wss ts post d, vs = [.ref r] ∧ RdAt C_Reader H r rw pl dp row ∧ row.drop pl = joinL (Str.ofString "and") wss ++ post ∧ Spls wordsC okCo 0 wss ts d ∧ d ≤ m ∧ dp + d ≤ 6 ∧ 1 ≤ ts.length ∧ ts.length ≤ 8 ∧
        ((post.head? ≠ some (Str.ofString "and") ∧ ∃ t, ((ts.length = 1 ∧ ts[0]? = some t) ∨ (2 ≤ ts.length ∧ t = .al ts)) ∧ ∀ u H', Kb r H H' → RdAt C_Reader H' r rw (pl + (joinL (Str.ofString "and") wss).length) dp row → CdAt (A8.mk C_Condition C_CauseIs C_ThingIs C_DaysIn C_Over C_Not C_All C_Some) (Nw H H') u t → Q u H') ∨
          (∃ ws g, post = Str.ofString "and" :: ws ∧ ts.length < 8 ∧ dp ≤ 6 ∧ 6 ≤ dp + m ∧ Fl wordsC okCo af28 0 dp ws g ∧ NoE C_NoWords C_TooDeep r H E (pl + (joinL (Str.ofString "and") wss).length + 1) g) ∨
          (∃ ws, post = Str.ofString "and" :: ws ∧ ts.length = 8 ∧ NoAt C_NoWords r H E ((pl + (joinL (Str.ofString "and") wss).length : Nat) + 1))) := by
    rcases h with h | h
    · obtain ⟨r, rw, pl, dp, row, ws, post, t, d, rfl, rd, dr, sp, dm, d6, hq, q⟩ := h
      refine .inr ⟨r, rw, pl, dp, row, ?_⟩
      cases sp with
      | row1 h => exact ⟨[ws], [t], post, d, rfl, rd, by rw [dr]; show _ = (ws ++ []) ++ post; rw [List.append_nil], .cons h (Nat.le_refl _) .nil, dm, d6, Nat.le_refl _, (by show 1 ≤ 8; decide), .inl ⟨hq, t, .inl ⟨rfl, rfl⟩, by rw [show joinL (Str.ofString "and") [ws] = ws from List.append_nil _]; exact q⟩⟩
      | rowN h h2 h8 => exact ⟨_, _, post, d, rfl, rd, dr, h, dm, d6, by omega, h8, .inl ⟨hq, _, .inr ⟨h2, rfl⟩, q⟩⟩
    · obtain ⟨r, rw, pl, dp, row, g, rfl, rd, d6, dm, fl, q⟩ := h
      generalize dr : row.drop pl = rst at fl
      cases fl with
      | row0 fl => exact .inl ⟨r, rw, pl, dp, row, g, rfl, rd, d6, dm, by rw [dr]; exact fl, q⟩
      | rowN h hd l1 l8 fl => exact .inr ⟨r, rw, pl, dp, row, _, _, _, _, rfl, rd, dr, h, by omega, hd, l1, by omega, .inr (.inl ⟨_, _, rfl, l8, d6, dm, fl, q.on⟩)⟩
      | row9 h hd l9 => exact .inr ⟨r, rw, pl, dp, row, _, _, _, _, rfl, rd, dr, h, by omega, hd, by omega, by omega, .inr (.inr ⟨_, rfl, l9, q⟩)⟩
  rcases key with ⟨r, rw, pl, dp, row, g, rfl, rd, d6, dm, fl, q⟩ | ⟨r, rw, pl, dp, row, wss, ts, post, d, rfl, rd, dr, spl, dm, d6, l1, l8, fin⟩
  · have rd' := rd
    obtain ⟨⟨dx, hr'⟩, hw, hpl, h60⟩ := rd
    exact ⟨_, rfl, r, dx, _, rfl, hr', rfl, .inr ⟨r, rw, pl, dp, row, g, rfl, rd', d6, dm, fl, q⟩⟩
  have rd' := rd
  obtain ⟨⟨dx, hr'⟩, hw, hpl, h60⟩ := rd
  have one : 1 ≤ sizeLine := by rw [sizeLine_eq]; decide
  have lw := spl.len
  -- the words from the i-th piece on
  have at0' : ts[0]? = some (ts[0]'(by omega)) := List.getElem?_eq_getElem _
  obtain ⟨w0, d0, ew0, hd0, sp0⟩ := spl.get at0'
  generalize ts[0]'(by omega) = t0 at at0' sp0
  have ws0 : ∃ rest, wss = w0 :: rest := by
    cases wss with
    | nil => simp at ew0
    | cons v vs => exact ⟨vs, by simp at ew0; rw [ew0]⟩
  obtain ⟨rest, rfl⟩ := ws0
  have ts0 : ∃ trest, ts = t0 :: trest := by
    cases ts with
    | nil => simp at at0'
    | cons v vs => exact ⟨vs, by simp at at0'; rw [at0']⟩
  obtain ⟨trest, rfl⟩ := ts0
  rw [joinL, List.append_assoc] at dr
  have hdp : ∀ (xs : List (List Str)), (tailL (Str.ofString "and") xs ++ post).head? ≠ some (Str.ofString "and") ∨ 0 = 0 := fun xs => by
    exact .inr rfl
  refine ⟨_, rfl, r, dx, _, rfl, hr', rfl, .inl ⟨r, rw, pl, dp, row, w0, tailL (Str.ofString "and") rest ++ post, t0, d0, rfl, rd', dr, sp0, by omega, by omega, fun u0 H1 k1 rd1 cd1 => ⟨one, fun pc npc => ?_⟩⟩⟩
  obtain ⟨⟨dx1, hr1⟩, hw1, hpl1, _⟩ := rd1
  have s2 := same_new npc (.lst [u0])
  refine atG [some (.ref r), some (.ref pc)] rfl ?_
  have pcH : H pc = none := k1.free hr1 npc
  have npr : pc ≠ r := fun z => by rw [z, hr'] at pcH; cases pcH
  -- the loop
  let W : Nat → St → Hp → Prop := fun m σ H2 => ∃ i ys, m = rest.length - i ∧ i ≤ rest.length ∧ σ = [some (.ref r), some (.ref pc)] ∧ Kb r H H2 ∧ RdAt C_Reader H2 r rw (pl + (w0 ++ tailL (Str.ofString "and") (rest.take i)).length) dp row ∧
    row.drop (pl + (w0 ++ tailL (Str.ofString "and") (rest.take i)).length) = tailL (Str.ofString "and") (rest.drop i) ++ post ∧ H2 pc = some (.lst ys) ∧ ys.length = i + 1 ∧ CdsAt (A8.mk C_Condition C_CauseIs C_ThingIs C_DaysIn C_Over C_Not C_All C_Some) (Off pc (Nw H H2)) ys (t0 :: trest.take i)
  have lt : rest.length = trest.length := by rw [List.length_cons, List.length_cons] at lw; omega
  refine ⟨W, ⟨_, 0, [u0], rfl, Nat.zero_le _, rfl, k1.trans (Kb.of s2), ?_, ?_, upd_same, rfl, ?_⟩, ?_⟩
  · rw [List.take_zero]
    show RdAt C_Reader _ r rw (pl + (w0 ++ []).length) dp row
    rw [List.append_nil]
    exact ⟨⟨dx1, s2 _ _ hr1⟩, s2 _ _ hw1, hpl1, h60⟩
  · rw [List.take_zero, List.drop_zero]
    show row.drop (pl + (w0 ++ []).length) = _
    rw [List.append_nil]
    exact drop_more dr
  · rw [List.take_zero]
    unfold CdsAt
    refine ⟨cd1.same fun b o e => ?_, by unfold CdsAt; trivial⟩
    obtain ⟨e0, e⟩ := Nw.at e
    have n : b ≠ pc := ne_of_none e npc
    exact Off.of n (Nw.of e0 (s2 _ _ e))
  rintro m' σ H2 ⟨i, ys, rfl, il, rfl, k2, rd2, dr2, hpc, ly, cds⟩
  have rd2' := rd2
  obtain ⟨⟨dx2, hr2⟩, hw2, hpl2, _⟩ := rd2
  have lys : ((ys.length : Nat) : Int) = (i : Int) + 1 := by omega
  refine ⟨_, rfl, r, dx2, _, rfl, hr2, rfl, _, rfl, pc, _, rfl, .inl (SqL.of hpc), r, rw, _, dp, row, _, _, rfl, rd2', ?_⟩
  by_cases c : i < rest.length
  · -- one more
    have ew : rest.drop i = rest[i] :: rest.drop (i + 1) := List.drop_eq_getElem_cons c
    have eti : trest[i]? = some (trest[i]'(by omega)) := List.getElem?_eq_getElem _
    have ewi : rest[i]? = some rest[i] := List.getElem?_eq_getElem c
    obtain ⟨wi, di, ewi', hdi, spi⟩ := spl.get (i := i + 1) (t := trest[i]'(by omega)) (by simpa using eti)
    have ewi'' : rest[i] = wi := by
      have : rest[i]? = some wi := by simpa using ewi'
      rw [ewi] at this
      exact Option.some.inj this
    generalize trest[i]'(by omega) = ti at eti spi
    rw [ewi''] at ew ewi
    rw [ew, tailL, List.cons_append] at dr2
    have e0 : row[pl + (w0 ++ tailL (Str.ofString "and") (rest.take i)).length]? = some (Str.ofString "and") := drop_head dr2
    refine .inr (.inl ⟨e0, by rw [List.length_cons] at l8; omega, fun H3 k3 rd3 => ⟨_, rfl, ?_⟩⟩)
    refine iteT ⟨fun σ' H' => W (rest.length - (i + 1)) σ' H', fun σ' H' h => ⟨_, by omega, h⟩, ?_⟩
    have k23 := k2.trans k3
    have hpc3 := k3 _ _ hpc npr
    have rd3' := rd3
    obtain ⟨⟨dx3, hr3⟩, hw3, hpl3, _⟩ := rd3
    have dr3 : row.drop (pl + (w0 ++ tailL (Str.ofString "and") (rest.take i)).length + 1) = wi ++ (tailL (Str.ofString "and") (rest.drop (i + 1)) ++ post) := by
      rw [← List.drop_drop, dr2, List.append_assoc]; rfl
    refine ⟨_, rfl, .inl ⟨rfl, _, SqL.of hpc3⟩, _, rfl, r, dx3, _, rfl, hr3, rfl, .inl ⟨r, rw, _, dp, row, wi, tailL (Str.ofString "and") (rest.drop (i + 1)) ++ post, ti, di, rfl, rd3', dr3, spi, by omega, by omega, fun u H4 k4 rd4 cd4 => ?_⟩⟩
    have hpc4 := k4 _ _ hpc3 npr
    obtain ⟨⟨dx4, hr4⟩, hw4, hpl4, _⟩ := rd4
    refine ⟨pc, _, _, rfl, rfl, hpc4, by rw [sizeLine_eq, ly]; rw [List.length_cons] at l8; omega, i + 1, ys ++ [u], rfl, c, rfl, ?_, ?_, ?_, upd_same, by rw [List.length_append, ly]; rfl, ?_⟩
    · exact fun b o e n => by
        rw [upd_ne (ne_of_none e pcH)]
        exact (k23.trans k4) b o e n
    · have en : pl + (w0 ++ tailL (Str.ofString "and") (rest.take (i + 1))).length = pl + (w0 ++ tailL (Str.ofString "and") (rest.take i)).length + 1 + wi.length := by
        rw [take_snoc ewi, tailL_snoc, List.length_append, List.length_append, List.length_append, List.length_cons]; omega
      rw [en]
      have nrw : rw ≠ pc := ne_of_none hw pcH
      exact ⟨⟨dx4, by rw [upd_ne npr.symm]; exact hr4⟩, by rw [upd_ne nrw]; exact hw4, hpl4, h60⟩
    · have en : pl + (w0 ++ tailL (Str.ofString "and") (rest.take (i + 1))).length = pl + (w0 ++ tailL (Str.ofString "and") (rest.take i)).length + 1 + wi.length := by
        rw [take_snoc ewi, tailL_snoc, List.length_append, List.length_append, List.length_append, List.length_cons]; omega
      rw [en]
      exact drop_more dr3
    · rw [take_snoc eti, ← List.cons_append]
      refine CdsAt.snoc (cds.same fun b o e => ?_) (cd4.same fun b o e => ?_)
      · obtain ⟨n, e⟩ := Off.at e
        obtain ⟨e0', e⟩ := Nw.at e
        refine Off.of n (Nw.of e0' ?_)
        rw [upd_ne n]
        have nr : b ≠ r := fun z => by rw [z, hr'] at e0'; cases e0'
        exact (k3.trans k4) b o e nr
      · have e1 := k23.later hr3 (H2 := H4) b o e
        obtain ⟨e0', e2⟩ := Nw.at e1
        have n : b ≠ pc := fun z => by
          obtain ⟨e3, _⟩ := Nw.at e
          rw [z, hpc3] at e3; cases e3
        exact Off.of n (Nw.of e0' (by rw [upd_ne n]; exact e2))
  · -- the end
    have ei : i = rest.length := by omega
    subst ei
    rw [List.drop_length, List.take_length] at *
    have ew : joinL (Str.ofString "and") (w0 :: rest) = w0 ++ tailL (Str.ofString "and") rest := rfl
    rw [ew] at fin
    rcases fin with ⟨hq, t, et, q⟩ | ⟨ws, g, rfl, l7, d6', dm', fl, q⟩ | ⟨ws, rfl, l9, q⟩
    · refine .inl ⟨ahead_ne dr2 hq (by decide +kernel), _, rfl, iteF ?_⟩
      rw [show trest.take rest.length = trest by rw [lt, List.take_length]] at cds
      have cds2 : CdsAt (A8.mk C_Condition C_CauseIs C_ThingIs C_DaysIn C_Over C_Not C_All C_Some) (Nw H H2) ys (t0 :: trest) := cds.same fun b o e => (Off.at e).2
      rcases et with ⟨n1, et⟩ | ⟨n2, rfl⟩
      · have y1 : ys.length = 1 := by rw [List.length_cons] at n1; omega
        refine ⟨_, rfl, pc, _, rfl, .inl (SqL.of hpc), rfl, _, rfl, dT (by rw [y1]; rfl) ?_⟩
        have ey : ys[0]? = some (ys[0]'(by omega)) := List.getElem?_eq_getElem _
        obtain ⟨t', et', cdt⟩ := cds2.get ey
        rw [et] at et'
        cases et'
        exact ⟨_, rfl, pc, _, _, _, rfl, rfl, SqL.of hpc, atI_nat (j := 0) ey, q _ _ k2 rd2' cdt⟩
      · have y2 : ys.length ≠ 1 := by rw [List.length_cons] at n2; omega
        refine ⟨_, rfl, pc, _, rfl, .inl (SqL.of hpc), rfl, _, rfl, dF (fun z => y2 (by have := V.int.inj z; omega)) ⟨_, rfl, fun y dy ny nd ne => ?_⟩⟩
        have s3 : Same H2 (upd (upd H2 dy (.own y)) y (.ins C_All dy [])) := same_two ny nd
        refine ⟨y, dy, pc, ys, rfl, upd_same, s3 _ _ hpc, fun l H4 nl kp hy hl => ⟨rfl, ?_⟩⟩
        have k4 : Same H2 H4 := fun b o e => by rw [kp b (ne_of_none e ny) (ne_of_none (s3 _ _ e) nl)]; exact s3 _ _ e
        refine q _ _ (k2.trans (Kb.of k4)) ⟨⟨dx2, k4 _ _ hr2⟩, k4 _ _ hw2, hpl2, h60⟩ ?_
        unfold CdAt
        exact ⟨y, dy, l, ys, rfl, Nw.of (k2.free hr2 ny) hy, Nw.of (k2.free hr2 (s3.free nl)) hl, cds2.same (Nw.grow fun b o _ e => k4 _ _ e)⟩
    · have e0 : row[pl + (w0 ++ tailL (Str.ofString "and") rest).length]? = some (Str.ofString "and") := drop_head dr2
      refine .inr (.inl ⟨e0, by rw [List.length_cons] at l7; omega, fun H3 k3 rd3 => ⟨_, rfl, ?_⟩⟩)
      refine iteT ⟨fun _ _ => False, fun _ _ h => h.elim, ?_⟩
      have hpc3 := k3 _ _ hpc npr
      have rd3' := rd3
      obtain ⟨⟨dx3, hr3⟩, hw3, hpl3, _⟩ := rd3
      have dr3 : row.drop (pl + (w0 ++ tailL (Str.ofString "and") rest).length + 1) = ws := by
        rw [← List.drop_drop, dr2]; rfl
      exact ⟨_, rfl, .inl ⟨rfl, _, SqL.of hpc3⟩, _, rfl, r, dx3, _, rfl, hr3, rfl, .inr ⟨r, rw, _, dp, row, g, rfl, rd3', d6', dm', by rw [dr3]; exact fl, q.kb (k2.trans k3)⟩⟩
    · have e0 : row[pl + (w0 ++ tailL (Str.ofString "and") rest).length]? = some (Str.ofString "and") := drop_head dr2
      exact .inr (.inr ⟨e0, by rw [List.length_cons] at l9; omega, q.kb k2⟩)
end


section
seal L2.PS L2.PSs L2.PE L2.PA
variable {P : Program} {w : World} {K : PySem.W.Frag} {mg : Str → Option Value} {base : Heap} {C_Condition C_CauseIs C_ThingIs C_DaysIn C_Over C_Not C_All C_Some C_Reader : Addr} {C_CoverError C_NoAmount C_NoWords C_TooDeep C_NoText : Addr}
theorem sc_Reader_read_rows : FnScope ["self", "rows"] ["self"] (defScope s_Reader_read_rows) := ⟨rfl, rfl, rfl, by decide +kernel, rfl, by decide +kernel, by decide +kernel⟩
theorem ok_Reader_read_rows {f : Addr} {fd : FuncData} (F : Fun K "read_rows" "Reader.read_rows" s_Reader_read_rows f fd) (T : Txt K mg) (L : Kl K mg C_Condition C_CauseIs C_ThingIs C_DaysIn C_Over C_Not C_All C_Some C_Reader) {m : Nat} (Mgoes_on : MCalX P w K mg base 3 C_Reader "goes_on" ["self", "between", "so_far"] (spGoX C_NoWords C_Reader)) (Mread_row : MCalX P w K mg base (5 * m + 7) C_Reader "read_row" ["self"] (spRRX (A8.mk C_Condition C_CauseIs C_ThingIs C_DaysIn C_Over C_Not C_All C_Some) C_NoWords C_TooDeep C_Reader m)) (KSome : KCal P w K mg base 1 "Some" C_Some ["self", "several"] (spMkA C_Some)) : FnOk P w K mg base (CX1 P w) (5 * m + 8) f fd ["self"] (spRRsX (A8.mk C_Condition C_CauseIs C_ThingIs C_DaysIn C_Over C_Not C_All C_Some) C_NoWords C_TooDeep C_Reader m) := by
  have sc := sc_Reader_read_rows
  refine F.okX sc (fun vs H Q E h => ?_) (fun cdv A outer s H vs Q E hr h => ?_)
  · rcases h with h | h
    · obtain ⟨_, _, _, _, _, _, _, _, _, rfl, _⟩ := h
      rfl
    · obtain ⟨_, _, _, _, _, _, rfl, _⟩ := h
      rfl
  refine ⟨_, (pss_cons (ps_set (i := 1) sc.nd rfl (Or.inl rfl) (pe_lst (pa_cons (pe_meth0X Mread_row (hr.mono (by omega)) wish_fn (pv 0)) pa_nil)))
      (pss_cons (ps_while PassesOwn.leaving (pt_val (pe_methX Mgoes_on (hr.mono (by omega)) wish_fn (pv 0) (pa_cons pe_str (pa_cons (pe_callB call_len_seq rfl T.n_len (show bootBuiltins _ = some (.builtin "len") from rfl) (pa_cons (pv 1) pa_nil)) pa_nil))))
        (pss_one (ps_expr (pe_bm PySem.F.plainAttrs_list PySem.F.slot_list_append PySem.F.type_list_append mt_append (pv 1) (pa_cons (pe_meth0X Mread_row (hr.mono (by omega)) wish_fn (pv 0)) pa_nil)))))
      (pss_one (ps_ret (pe_ifExp (pt_cmpR op_eq (pe_callB call_len_seq rfl T.n_len (show bootBuiltins _ = some (.builtin "len") from rfl) (pa_cons (pv 1) pa_nil)) pe_int (nomark _)) (pe_ix ix_list (pv 1) pe_int (fun _ _ => rfl)) (pe_makeC KSome (hr.mono (by omega)) rfl (pa_cons (pv 1) pa_nil))))))), ?_⟩
  have key : (∃ r rw pl, ∃ dp : Nat, ∃ row g, vs = [.ref r] ∧ RdAt C_Reader H r rw pl dp row ∧ dp ≤ 6 ∧ 6 ≤ dp + m ∧ Fl wordsC okCo af28 1 dp (row.drop pl) g ∧ NoE C_NoWords C_TooDeep r H E pl g) ∨
      ∃ r rw pl, ∃ dp : Nat, ∃ row wss ts post d, vs = [.ref r] ∧ RdAt C_Reader H r rw pl dp row ∧ row.drop pl = joinL (Str.ofString "or") wss ++ post ∧ Spls wordsC okCo 1 wss ts d ∧ d ≤ m ∧ dp + d ≤ 6 ∧ post.head? ≠ some (Str.ofString "and") ∧ 1 ≤ ts.length ∧ ts.length ≤ 8 ∧
        ((post.head? ≠ some (Str.ofString "or") ∧ ∃ t, ((ts.length = 1 ∧ ts[0]? = some t) ∨ (2 ≤ ts.length ∧ t = .so ts)) ∧ ∀ u H', Kb r H H' → RdAt C_Reader H' r rw (pl + (joinL (Str.ofString "or") wss).length) dp row → CdAt (A8.mk C_Condition C_CauseIs C_ThingIs C_DaysIn C_Over C_Not C_All C_Some) (Nw H H') u t → Q u H') ∨
          (∃ ws g, post = Str.ofString "or" :: ws ∧ ts.length < 8 ∧ dp ≤ 6 ∧ 6 ≤ dp + m ∧ Fl wordsC okCo af28 1 dp ws g ∧ NoE C_NoWords C_TooDeep r H E (pl + (joinL (Str.ofString "or") wss).length + 1) g) ∨
          (∃ ws, post = Str.ofString "or" :: ws ∧ ts.length = 8 ∧ NoAt C_NoWords r H E ((pl + (joinL (Str.ofString "or") wss).length : Nat) + 1))) := by
    rcases h with h | h
    · obtain ⟨r, rw, pl, dp, row, ws, post, t, d, rfl, rd, dr, sp, dm, d6, ha, hq, q⟩ := h
      refine .inr ⟨r, rw, pl, dp, row, ?_⟩
      cases sp with
      | rows1 h => exact ⟨[ws], [t], post, d, rfl, rd, by rw [dr]; show _ = (ws ++ []) ++ post; rw [List.append_nil], .cons h (Nat.le_refl _) .nil, dm, d6, ha, Nat.le_refl _, (by show 1 ≤ 8; decide), .inl ⟨hq, t, .inl ⟨rfl, rfl⟩, by rw [show joinL (Str.ofString "or") [ws] = ws from List.append_nil _]; exact q⟩⟩
      | rowsN h h2 h8 => exact ⟨_, _, post, d, rfl, rd, dr, h, dm, d6, ha, by omega, h8, .inl ⟨hq, _, .inr ⟨h2, rfl⟩, q⟩⟩
    · obtain ⟨r, rw, pl, dp, row, g, rfl, rd, d6, dm, fl, q⟩ := h
      generalize dr : row.drop pl = rst at fl
      cases fl with
      | rows0 fl => exact .inl ⟨r, rw, pl, dp, row, g, rfl, rd, d6, dm, by rw [dr]; exact fl, q⟩
      | rowsN h hd l1 l8 fl => exact .inr ⟨r, rw, pl, dp, row, _, _, _, _, rfl, rd, dr, h, by omega, hd, (fun z => absurd (Option.some.inj z) (by decide +kernel)), l1, by omega, .inr (.inl ⟨_, _, rfl, l8, d6, dm, fl, q.on⟩)⟩
      | rows9 h hd l9 => exact .inr ⟨r, rw, pl, dp, row, _, _, _, _, rfl, rd, dr, h, by omega, hd, (fun z => absurd (Option.some.inj z) (by decide +kernel)), by omega, by omega, .inr (.inr ⟨_, rfl, l9, q⟩)⟩
  rcases key with ⟨r, rw, pl, dp, row, g, rfl, rd, d6, dm, fl, q⟩ | ⟨r, rw, pl, dp, row, wss, ts, post, d, rfl, rd, dr, spl, dm, d6, ha, l1, l8, fin⟩
  · have rd' := rd
    obtain ⟨⟨dx, hr'⟩, hw, hpl, h60⟩ := rd
    exact ⟨_, rfl, r, dx, _, rfl, hr', rfl, .inr ⟨r, rw, pl, dp, row, g, rfl, rd', d6, dm, fl, q⟩⟩
  have rd' := rd
  obtain ⟨⟨dx, hr'⟩, hw, hpl, h60⟩ := rd
  have one : 1 ≤ sizeLine := by rw [sizeLine_eq]; decide
  have lw := spl.len
  -- the words from the i-th piece on
  have at0' : ts[0]? = some (ts[0]'(by omega)) := List.getElem?_eq_getElem _
  obtain ⟨w0, d0, ew0, hd0, sp0⟩ := spl.get at0'
  generalize ts[0]'(by omega) = t0 at at0' sp0
  have ws0 : ∃ rest, wss = w0 :: rest := by
    cases wss with
    | nil => simp at ew0
    | cons v vs => exact ⟨vs, by simp at ew0; rw [ew0]⟩
  obtain ⟨rest, rfl⟩ := ws0
  have ts0 : ∃ trest, ts = t0 :: trest := by
    cases ts with
    | nil => simp at at0'
    | cons v vs => exact ⟨vs, by simp at at0'; rw [at0']⟩
  obtain ⟨trest, rfl⟩ := ts0
  rw [joinL, List.append_assoc] at dr
  have hdp : ∀ (xs : List (List Str)), (tailL (Str.ofString "or") xs ++ post).head? ≠ some (Str.ofString "and") := fun xs => by
    cases xs with
    | nil => exact ha
    | cons x xs => exact fun z => absurd (Option.some.inj z) (by decide +kernel)
  refine ⟨_, rfl, r, dx, _, rfl, hr', rfl, .inl ⟨r, rw, pl, dp, row, w0, tailL (Str.ofString "or") rest ++ post, t0, d0, rfl, rd', dr, sp0, by omega, by omega, hdp rest, fun u0 H1 k1 rd1 cd1 => ⟨one, fun pc npc => ?_⟩⟩⟩
  obtain ⟨⟨dx1, hr1⟩, hw1, hpl1, _⟩ := rd1
  have s2 := same_new npc (.lst [u0])
  refine atG [some (.ref r), some (.ref pc)] rfl ?_
  have pcH : H pc = none := k1.free hr1 npc
  have npr : pc ≠ r := fun z => by rw [z, hr'] at pcH; cases pcH
  -- the loop
  let W : Nat → St → Hp → Prop := fun m σ H2 => ∃ i ys, m = rest.length - i ∧ i ≤ rest.length ∧ σ = [some (.ref r), some (.ref pc)] ∧ Kb r H H2 ∧ RdAt C_Reader H2 r rw (pl + (w0 ++ tailL (Str.ofString "or") (rest.take i)).length) dp row ∧
    row.drop (pl + (w0 ++ tailL (Str.ofString "or") (rest.take i)).length) = tailL (Str.ofString "or") (rest.drop i) ++ post ∧ H2 pc = some (.lst ys) ∧ ys.length = i + 1 ∧ CdsAt (A8.mk C_Condition C_CauseIs C_ThingIs C_DaysIn C_Over C_Not C_All C_Some) (Off pc (Nw H H2)) ys (t0 :: trest.take i)
  have lt : rest.length = trest.length := by rw [List.length_cons, List.length_cons] at lw; omega
  refine ⟨W, ⟨_, 0, [u0], rfl, Nat.zero_le _, rfl, k1.trans (Kb.of s2), ?_, ?_, upd_same, rfl, ?_⟩, ?_⟩
  · rw [List.take_zero]
    show RdAt C_Reader _ r rw (pl + (w0 ++ []).length) dp row
    rw [List.append_nil]
    exact ⟨⟨dx1, s2 _ _ hr1⟩, s2 _ _ hw1, hpl1, h60⟩
  · rw [List.take_zero, List.drop_zero]
    show row.drop (pl + (w0 ++ []).length) = _
    rw [List.append_nil]
    exact drop_more dr
  · rw [List.take_zero]
    unfold CdsAt
    refine ⟨cd1.same fun b o e => ?_, by unfold CdsAt; trivial⟩
    obtain ⟨e0, e⟩ := Nw.at e
    have n : b ≠ pc := ne_of_none e npc
    exact Off.of n (Nw.of e0 (s2 _ _ e))
  rintro m' σ H2 ⟨i, ys, rfl, il, rfl, k2, rd2, dr2, hpc, ly, cds⟩
  have rd2' := rd2
  obtain ⟨⟨dx2, hr2⟩, hw2, hpl2, _⟩ := rd2
  have lys : ((ys.length : Nat) : Int) = (i : Int) + 1 := by omega
  refine ⟨_, rfl, r, dx2, _, rfl, hr2, rfl, _, rfl, pc, _, rfl, .inl (SqL.of hpc), r, rw, _, dp, row, _, _, rfl, rd2', ?_⟩
  by_cases c : i < rest.length
  · -- one more
    have ew : rest.drop i = rest[i] :: rest.drop (i + 1) := List.drop_eq_getElem_cons c
    have eti : trest[i]? = some (trest[i]'(by omega)) := List.getElem?_eq_getElem _
    have ewi : rest[i]? = some rest[i] := List.getElem?_eq_getElem c
    obtain ⟨wi, di, ewi', hdi, spi⟩ := spl.get (i := i + 1) (t := trest[i]'(by omega)) (by simpa using eti)
    have ewi'' : rest[i] = wi := by
      have : rest[i]? = some wi := by simpa using ewi'
      rw [ewi] at this
      exact Option.some.inj this
    generalize trest[i]'(by omega) = ti at eti spi
    rw [ewi''] at ew ewi
    rw [ew, tailL, List.cons_append] at dr2
    have e0 : row[pl + (w0 ++ tailL (Str.ofString "or") (rest.take i)).length]? = some (Str.ofString "or") := drop_head dr2
    refine .inr (.inl ⟨e0, by rw [List.length_cons] at l8; omega, fun H3 k3 rd3 => ⟨_, rfl, ?_⟩⟩)
    refine iteT ⟨fun σ' H' => W (rest.length - (i + 1)) σ' H', fun σ' H' h => ⟨_, by omega, h⟩, ?_⟩
    have k23 := k2.trans k3
    have hpc3 := k3 _ _ hpc npr
    have rd3' := rd3
    obtain ⟨⟨dx3, hr3⟩, hw3, hpl3, _⟩ := rd3
    have dr3 : row.drop (pl + (w0 ++ tailL (Str.ofString "or") (rest.take i)).length + 1) = wi ++ (tailL (Str.ofString "or") (rest.drop (i + 1)) ++ post) := by
      rw [← List.drop_drop, dr2, List.append_assoc]; rfl
    refine ⟨_, rfl, .inl ⟨rfl, _, SqL.of hpc3⟩, _, rfl, r, dx3, _, rfl, hr3, rfl, .inl ⟨r, rw, _, dp, row, wi, tailL (Str.ofString "or") (rest.drop (i + 1)) ++ post, ti, di, rfl, rd3', dr3, spi, by omega, by omega, hdp (rest.drop (i + 1)), fun u H4 k4 rd4 cd4 => ?_⟩⟩
    have hpc4 := k4 _ _ hpc3 npr
    obtain ⟨⟨dx4, hr4⟩, hw4, hpl4, _⟩ := rd4
    refine ⟨pc, _, _, rfl, rfl, hpc4, by rw [sizeLine_eq, ly]; rw [List.length_cons] at l8; omega, i + 1, ys ++ [u], rfl, c, rfl, ?_, ?_, ?_, upd_same, by rw [List.length_append, ly]; rfl, ?_⟩
    · exact fun b o e n => by
        rw [upd_ne (ne_of_none e pcH)]
        exact (k23.trans k4) b o e n
    · have en : pl + (w0 ++ tailL (Str.ofString "or") (rest.take (i + 1))).length = pl + (w0 ++ tailL (Str.ofString "or") (rest.take i)).length + 1 + wi.length := by
        rw [take_snoc ewi, tailL_snoc, List.length_append, List.length_append, List.length_append, List.length_cons]; omega
      rw [en]
      have nrw : rw ≠ pc := ne_of_none hw pcH
      exact ⟨⟨dx4, by rw [upd_ne npr.symm]; exact hr4⟩, by rw [upd_ne nrw]; exact hw4, hpl4, h60⟩
    · have en : pl + (w0 ++ tailL (Str.ofString "or") (rest.take (i + 1))).length = pl + (w0 ++ tailL (Str.ofString "or") (rest.take i)).length + 1 + wi.length := by
        rw [take_snoc ewi, tailL_snoc, List.length_append, List.length_append, List.length_append, List.length_cons]; omega
      rw [en]
      exact drop_more dr3
    · rw [take_snoc eti, ← List.cons_append]
      refine CdsAt.snoc (cds.same fun b o e => ?_) (cd4.same fun b o e => ?_)
      · obtain ⟨n, e⟩ := Off.at e
        obtain ⟨e0', e⟩ := Nw.at e
        refine Off.of n (Nw.of e0' ?_)
        rw [upd_ne n]
        have nr : b ≠ r := fun z => by rw [z, hr'] at e0'; cases e0'
        exact (k3.trans k4) b o e nr
      · have e1 := k23.later hr3 (H2 := H4) b o e
        obtain ⟨e0', e2⟩ := Nw.at e1
        have n : b ≠ pc := fun z => by
          obtain ⟨e3, _⟩ := Nw.at e
          rw [z, hpc3] at e3; cases e3
        exact Off.of n (Nw.of e0' (by rw [upd_ne n]; exact e2))
  · -- the end
    have ei : i = rest.length := by omega
    subst ei
    rw [List.drop_length, List.take_length] at *
    have ew : joinL (Str.ofString "or") (w0 :: rest) = w0 ++ tailL (Str.ofString "or") rest := rfl
    rw [ew] at fin
    rcases fin with ⟨hq, t, et, q⟩ | ⟨ws, g, rfl, l7, d6', dm', fl, q⟩ | ⟨ws, rfl, l9, q⟩
    · refine .inl ⟨ahead_ne dr2 hq (by decide +kernel), _, rfl, iteF ?_⟩
      rw [show trest.take rest.length = trest by rw [lt, List.take_length]] at cds
      have cds2 : CdsAt (A8.mk C_Condition C_CauseIs C_ThingIs C_DaysIn C_Over C_Not C_All C_Some) (Nw H H2) ys (t0 :: trest) := cds.same fun b o e => (Off.at e).2
      rcases et with ⟨n1, et⟩ | ⟨n2, rfl⟩
      · have y1 : ys.length = 1 := by rw [List.length_cons] at n1; omega
        refine ⟨_, rfl, pc, _, rfl, .inl (SqL.of hpc), rfl, _, rfl, dT (by rw [y1]; rfl) ?_⟩
        have ey : ys[0]? = some (ys[0]'(by omega)) := List.getElem?_eq_getElem _
        obtain ⟨t', et', cdt⟩ := cds2.get ey
        rw [et] at et'
        cases et'
        exact ⟨_, rfl, pc, _, _, _, rfl, rfl, SqL.of hpc, atI_nat (j := 0) ey, q _ _ k2 rd2' cdt⟩
      · have y2 : ys.length ≠ 1 := by rw [List.length_cons] at n2; omega
        refine ⟨_, rfl, pc, _, rfl, .inl (SqL.of hpc), rfl, _, rfl, dF (fun z => y2 (by have := V.int.inj z; omega)) ⟨_, rfl, fun y dy ny nd ne => ?_⟩⟩
        have s3 : Same H2 (upd (upd H2 dy (.own y)) y (.ins C_Some dy [])) := same_two ny nd
        refine ⟨y, dy, pc, ys, rfl, upd_same, s3 _ _ hpc, fun l H4 nl kp hy hl => ⟨rfl, ?_⟩⟩
        have k4 : Same H2 H4 := fun b o e => by rw [kp b (ne_of_none e ny) (ne_of_none (s3 _ _ e) nl)]; exact s3 _ _ e
        refine q _ _ (k2.trans (Kb.of k4)) ⟨⟨dx2, k4 _ _ hr2⟩, k4 _ _ hw2, hpl2, h60⟩ ?_
        unfold CdAt
        exact ⟨y, dy, l, ys, rfl, Nw.of (k2.free hr2 ny) hy, Nw.of (k2.free hr2 (s3.free nl)) hl, cds2.same (Nw.grow fun b o _ e => k4 _ _ e)⟩
    · have e0 : row[pl + (w0 ++ tailL (Str.ofString "or") rest).length]? = some (Str.ofString "or") := drop_head dr2
      refine .inr (.inl ⟨e0, by rw [List.length_cons] at l7; omega, fun H3 k3 rd3 => ⟨_, rfl, ?_⟩⟩)
      refine iteT ⟨fun _ _ => False, fun _ _ h => h.elim, ?_⟩
      have hpc3 := k3 _ _ hpc npr
      have rd3' := rd3
      obtain ⟨⟨dx3, hr3⟩, hw3, hpl3, _⟩ := rd3
      have dr3 : row.drop (pl + (w0 ++ tailL (Str.ofString "or") rest).length + 1) = ws := by
        rw [← List.drop_drop, dr2]; rfl
      exact ⟨_, rfl, .inl ⟨rfl, _, SqL.of hpc3⟩, _, rfl, r, dx3, _, rfl, hr3, rfl, .inr ⟨r, rw, _, dp, row, g, rfl, rd3', d6', dm', by rw [dr3]; exact fl, q.kb (k2.trans k3)⟩⟩
    · have e0 : row[pl + (w0 ++ tailL (Str.ofString "or") rest).length]? = some (Str.ofString "or") := drop_head dr2
      exact .inr (.inr ⟨e0, by rw [List.length_cons] at l9; omega, q.kb k2⟩)
end


section
seal L2.PS L2.PSs L2.PE L2.PA
variable {P : Program} {w : World} {K : PySem.W.Frag} {mg : Str → Option Value} {base : Heap} {C_Condition C_CauseIs C_ThingIs C_DaysIn C_Over C_Not C_All C_Some C_Reader : Addr} {C_CoverError C_NoAmount C_NoWords C_TooDeep C_NoText : Addr}
/-- the seventh, where no way leads deeper -/
theorem ok_deeper0 {f : Addr} {fd : FuncData} (F : Fun K "read_deeper" "Reader.read_deeper" s_Reader_read_deeper f fd) (T : Txt K mg) (L : Kl K mg C_Condition C_CauseIs C_ThingIs C_DaysIn C_Over C_Not C_All C_Some C_Reader) (Z : Xc K mg C_CoverError C_NoAmount C_NoWords C_TooDeep C_NoText) (Mstep : MCal P w K mg base 1 C_Reader "step" ["self"] (spStep1 C_Reader)) (Mread_piece : MCalX P w K mg base 1 C_Reader "read_piece" ["self"] (fun _ _ _ _ => False)) (Mread_bracket : MCalX P w K mg base 1 C_Reader "read_bracket" ["self"] (fun _ _ _ _ => False)) (KNot : KCal P w K mg base 1 "Not" C_Not ["self", "part"] (spMk1 C_Not "part")) : FnOk P w K mg base (CX1 P w) 5 f fd ["self", "word"] (spRDX (A8.mk C_Condition C_CauseIs C_ThingIs C_DaysIn C_Over C_Not C_All C_Some) C_NoWords C_TooDeep C_Reader 0) := by
  have sc := sc_Reader_read_deeper
  refine F.okX sc (fun vs H Q E h => ?_) (fun cdv A outer s H vs Q E hr h => ?_)
  · rcases h with h | h
    · obtain ⟨_, _, _, _, _, _, _, _, _, _, rfl, _⟩ := h
      rfl
    · obtain ⟨_, _, _, _, _, _, _, rfl, _⟩ := h
      rfl
  refine ⟨_, (pss_cons (ps_if (pt_cmpR op_eq (pe_fld (pv 0) rfl) (pe_gint T.g_MOST_OPEN rfl) (nomark _))
        (pss_one (ps_raise wish_fn rfl Z.x_TooDeep rfl (pa_cons pe_str pa_nil)))
        pss_nil)
      (pss_cons (ps_fld (pv 0) (pe_op op_add (pe_fld (pv 0) rfl) pe_int) rfl)
      (pss_cons (ps_expr (pe_meth0C Mstep (hr.mono (by omega)) (pv 0)))
      (pss_cons (ps_set (i := 2) sc.nd rfl (Or.inl rfl) (pe_ifExp (pt_cmpR op_eq (pv 1) pe_str (nomark _)) (pe_makeC KNot (hr.mono (by omega)) rfl (pa_cons (pe_meth0X Mread_piece (hr.mono (by omega)) wish_fn (pv 0)) pa_nil)) (pe_meth0X Mread_bracket (hr.mono (by omega)) wish_fn (pv 0))))
      (pss_cons (ps_fld (pv 0) (pe_op op_sub (pe_fld (pv 0) rfl) pe_int) rfl)
      (pss_one (ps_ret (pv 2)))))))), ?_⟩
  rcases h with h | h
  · obtain ⟨r, rw, pl, dp, row, ws, post, t, d, wd, rfl, rd, dr, dm, d6, alt, q⟩ := h
    omega
  · obtain ⟨r, rw, pl, dp, row, wd, rest, rfl, rd, dr, d6, dm, alt⟩ := h
    have rd' := rd
    obtain ⟨⟨dx, hr'⟩, hw, hpl, h60⟩ := rd
    refine ⟨_, rfl, r, _, dx, _, _, rfl, hr', L.cl_Reader, L.na_Reader_depth, lr_depth _ _ _, rfl, _, rfl, ?_⟩
    rcases alt with ⟨rfl, q⟩ | ⟨z, _⟩ | ⟨z, _⟩
    · exact dT rfl ⟨le_line (by show 1 ≤ 1000; decide), q _ (Kb.refl _ _)⟩
    · omega
    · omega
end


section
seal L2.PS L2.PSs L2.PE L2.PA
variable {P : Program} {w : World} {K : PySem.W.Frag} {mg : Str → Option Value} {base : Heap} {C_Condition C_CauseIs C_ThingIs C_DaysIn C_Over C_Not C_All C_Some C_Reader : Addr}
theorem sc_Reader_read_name : FnScope ["self", "name"] ["self"] (defScope s_Reader_read_name) := ⟨rfl, rfl, rfl, by decide +kernel, rfl, by decide +kernel, by decide +kernel⟩
theorem ok_Reader_read_name {f : Addr} {fd : FuncData} (F : Fun K "read_name" "Reader.read_name" s_Reader_read_name f fd) (T : Txt K mg) (L : Kl K mg C_Condition C_CauseIs C_ThingIs C_DaysIn C_Over C_Not C_All C_Some C_Reader) (Mahead : MCal P w K mg base 1 C_Reader "ahead" ["self"] (spAhead C_Reader)) (Mstep : MCal P w K mg base 1 C_Reader "step" ["self"] (spStep1 C_Reader)) (Cis_name : Cal P w K mg base 2 "is_name" ["thing"] (spName K)) : FnOk P w K mg base CX0 3 f fd ["self"] (spRdName C_Reader) := by
  have sc := sc_Reader_read_name
  refine F.ok sc (fun vs H Q E h => ?_) (fun cdv A outer s H vs Q E hr h => ?_)
  · obtain ⟨_, _, _, _, _, _, rfl, _⟩ := h
    rfl
  obtain ⟨r, rw, pl, dp, row, nm, rfl, rd, e, ⟨l, rfl, hn⟩, q⟩ := h
  refine ⟨_, (pss_cons (ps_set (i := 1) sc.nd rfl (Or.inl rfl) (pe_meth0C Mahead (hr.mono (by omega)) (pv 0)))
      (pss_cons (ps_if (pt_not (pt_val (pe_callC Cis_name (hr.mono (by omega)) rfl (pa_cons (pv 1) pa_nil))))
        (pss_one ps_never)
        pss_nil)
      (pss_cons (ps_expr (pe_meth0C Mstep (hr.mono (by omega)) (pv 0)))
      (pss_one (ps_ret (pv 1)))))), ?_⟩
  have rd' := rd
  obtain ⟨⟨dx, hr'⟩, hw, hpl, h60⟩ := rd
  have lt : pl + 1 ≤ row.length := (List.getElem?_eq_some_iff.mp e).1
  have nv : nameV (.str (tx l)) = true := decide_eq_true hn
  refine ⟨_, rfl, r, dx, _, rfl, hr', rfl, r, rw, pl, dp, row, rfl, rd', ?_⟩
  rw [ahead_at e]
  refine atG [some (.ref r), some (.str (tx l))] rfl ?_
  refine ⟨_, rfl, _, _, rfl, .str _, okX_of (by have := hn.1.2; omega), _, rfl, bF (by rw [nv]; rfl) ?_⟩
  exact ⟨_, rfl, r, dx, _, rfl, hr', rfl, r, rw, pl, dp, row, rfl, rd', lt, fun H' k' rd2 => ⟨_, rfl, q H' k' rd2⟩⟩
theorem sc_is_day : FnScope ["thing"] ["thing"] (defScope s_is_day) := ⟨rfl, rfl, rfl, by decide +kernel, rfl, by decide +kernel, by decide +kernel⟩
theorem ok_is_day {f : Addr} {fd : FuncData} (F : Fun K "is_day" "is_day" s_is_day f fd) (T : Txt K mg) (Cis_whole : Cal P w K mg base 1 "is_whole" ["thing"] (spWhole K)) : FnOk P w K mg base CX0 2 f fd ["thing"] spIsDay := by
  have sc := sc_is_day
  refine F.ok sc (fun vs H Q E h => ?_) (fun cdv A outer s H vs Q E hr h => ?_)
  · obtain ⟨_, rfl, _⟩ := h
    rfl
  obtain ⟨n, rfl, n0, n1, q⟩ := h
  refine ⟨_, (pss_one (ps_ret (pe_and (pe_callC Cis_whole (hr.mono (by decide)) rfl (pa_cons (pv 0) pa_nil)) (pe_one (pe_chain op_le op_le pe_int (pv 0) (pe_gint T.g_LAST_DAY rfl)))))), ?_⟩
  refine ⟨_, rfl, _, _, rfl, .int _, _, rfl, iteT ⟨_, rfl, _, _, rfl, rfl, _, rfl, dT n0 ⟨_, _, rfl, rfl, ?_⟩⟩⟩
  show Q (.bl (decide (n ≤ 1000000))) H
  rw [decide_eq_true n1]
  exact q
theorem sc_day_of : FnScope ["word", "day"] ["word"] (defScope s_day_of) := ⟨rfl, rfl, rfl, by decide +kernel, rfl, by decide +kernel, by decide +kernel⟩
theorem ok_day_of {f : Addr} {fd : FuncData} (F : Fun K "day_of" "day_of" s_day_of f fd) (T : Txt K mg) (Cwrites_whole : Cal P w K mg base 2 "writes_whole" ["text", "most_figures"] spWholePart) (Cis_day : Cal P w K mg base 2 "is_day" ["thing"] spIsDay) : FnOk P w K mg base CX0 3 f fd ["word"] spDayOf := by
  have sc := sc_day_of
  refine F.ok sc (fun vs H Q E h => ?_) (fun cdv A outer s H vs Q E hr h => ?_)
  · obtain ⟨_, rfl, _⟩ := h
    rfl
  obtain ⟨n, rfl, n1, q⟩ := h
  refine ⟨_, (pss_cons (ps_if (pt_not (pt_val (pe_callC Cwrites_whole (hr.mono (by decide)) rfl (pa_cons (pv 0) (pa_cons (pe_gint T.g_MOST_DAY_FIGURES rfl) pa_nil)))))
        (pss_one (ps_ret pe_non))
        pss_nil)
      (pss_cons (ps_set (i := 1) sc.nd rfl (Or.inl rfl) (pe_callTy call_int_text rfl T.n_int (show bootBuiltins _ = some (.type "int") from rfl) (pa_cons (pv 0) pa_nil)))
      (pss_one (ps_ret (pe_ifExp (pt_val (pe_callC Cis_day (hr.mono (by decide)) rfl (pa_cons (pv 1) pa_nil))) (pv 1) pe_non))))), ?_⟩
  have l7 : (figs n).length ≤ 7 := figs_len (by decide) (figs_small10 n1)
  refine ⟨_, rfl, n, 7, rfl, figs_small10 n1, by decide, by decide, _, rfl, iteF ?_⟩
  refine ⟨_, rfl, _, _, rfl, int_of (figs_dig _) (figs_ne _) (by omega), by rw [tx_len]; omega, ?_⟩
  rw [figs_val]
  refine atG [some (.str (tx (figs n))), some (.int (n : Int))] rfl ?_
  exact ⟨_, rfl, _, rfl, by omega, by omega, _, rfl, iteT ⟨_, rfl, q⟩⟩
theorem sc_Reader_read_day : FnScope ["self", "least", "day"] ["self", "least"] (defScope s_Reader_read_day) := ⟨rfl, rfl, rfl, by decide +kernel, rfl, by decide +kernel, by decide +kernel⟩
theorem ok_Reader_read_day {f : Addr} {fd : FuncData} (F : Fun K "read_day" "Reader.read_day" s_Reader_read_day f fd) (T : Txt K mg) (L : Kl K mg C_Condition C_CauseIs C_ThingIs C_DaysIn C_Over C_Not C_All C_Some C_Reader) (Mahead : MCal P w K mg base 1 C_Reader "ahead" ["self"] (spAhead C_Reader)) (Mstep : MCal P w K mg base 1 C_Reader "step" ["self"] (spStep1 C_Reader)) (Cday_of : Cal P w K mg base 3 "day_of" ["word"] spDayOf) : FnOk P w K mg base CX0 4 f fd ["self", "least"] (spRdDay C_Reader) := by
  have sc := sc_Reader_read_day
  refine F.ok sc (fun vs H Q E h => ?_) (fun cdv A outer s H vs Q E hr h => ?_)
  · obtain ⟨_, _, _, _, _, _, _, rfl, _⟩ := h
    rfl
  obtain ⟨r, rw, pl, dp, row, n, le, rfl, rd, e, n1, len, q⟩ := h
  refine ⟨_, (pss_cons (ps_set (i := 2) sc.nd rfl (Or.inl rfl) (pe_callC Cday_of (hr.mono (by omega)) rfl (pa_cons (pe_meth0C Mahead (hr.mono (by omega)) (pv 0)) pa_nil)))
      (pss_cons (ps_if (PW.pt (pw_or (pt_cmpR op_isN (pv 2) pe_non (nomark _)) (pw_or1 (pt_cmpR op_lt (pv 2) (pv 1) (nomark _)))))
        (pss_one ps_never)
        pss_nil)
      (pss_cons (ps_expr (pe_meth0C Mstep (hr.mono (by omega)) (pv 0)))
      (pss_one (ps_ret (pv 2)))))), ?_⟩
  have rd' := rd
  obtain ⟨⟨dx, hr'⟩, hw, hpl, h60⟩ := rd
  have lt : pl + 1 ≤ row.length := (List.getElem?_eq_some_iff.mp e).1
  refine ⟨_, rfl, r, dx, _, rfl, hr', rfl, r, rw, pl, dp, row, rfl, rd', ?_⟩
  rw [ahead_at e]
  refine ⟨n, rfl, n1, ?_⟩
  refine atG [some (.ref r), some (.int le), some (.int (n : Int))] rfl ?_
  refine ⟨_, rfl, rfl, _, rfl, dF (by intro z; cases z) ⟨_, rfl, _, rfl, _, _, rfl, rfl, _, rfl, dF (by omega) ?_⟩⟩
  exact ⟨_, rfl, r, dx, _, rfl, hr', rfl, r, rw, pl, dp, row, rfl, rd', lt, fun H' k' rd2 => ⟨_, rfl, q H' k' rd2⟩⟩
theorem sc_Reader_read_days : FnScope ["self", "first"] ["self"] (defScope s_Reader_read_days) := ⟨rfl, rfl, rfl, by decide +kernel, rfl, by decide +kernel, by decide +kernel⟩
theorem ok_Reader_read_days {f : Addr} {fd : FuncData} (F : Fun K "read_days" "Reader.read_days" s_Reader_read_days f fd) (T : Txt K mg) (L : Kl K mg C_Condition C_CauseIs C_ThingIs C_DaysIn C_Over C_Not C_All C_Some C_Reader) (Mread_day : MCal P w K mg base 4 C_Reader "read_day" ["self", "least"] (spRdDay C_Reader)) (KDaysIn : KCal P w K mg base 1 "DaysIn" C_DaysIn ["self", "first", "last"] (spMkD C_DaysIn)) : FnOk P w K mg base CX0 5 f fd ["self"] (spRdDays (A8.mk C_Condition C_CauseIs C_ThingIs C_DaysIn C_Over C_Not C_All C_Some) C_Reader) := by
  have sc := sc_Reader_read_days
  refine F.ok sc (fun vs H Q E h => ?_) (fun cdv A outer s H vs Q E hr h => ?_)
  · obtain ⟨_, _, _, _, _, _, _, rfl, _⟩ := h
    rfl
  obtain ⟨r, rw, pl, dp, row, n, m, rfl, rd, e1, e2, nm, m1, q⟩ := h
  refine ⟨_, (pss_cons (ps_set (i := 1) sc.nd rfl (Or.inl rfl) (pe_methC Mread_day (hr.mono (by omega)) (pv 0) (pa_cons pe_int pa_nil)))
      (pss_one (ps_ret (pe_makeC KDaysIn (hr.mono (by omega)) rfl (pa_cons (pv 1) (pa_cons (pe_methC Mread_day (hr.mono (by omega)) (pv 0) (pa_cons (pv 1) pa_nil)) pa_nil)))))), ?_⟩
  have rd' := rd
  obtain ⟨⟨dx, hr'⟩, hw, hpl, h60⟩ := rd
  refine ⟨_, rfl, r, dx, _, rfl, hr', rfl, r, rw, pl, dp, row, n, 0, rfl, rd', e1, by omega, by omega, fun H1 k1 rd1 => ?_⟩
  refine atG [some (.ref r), some (.int (n : Int))] rfl ?_
  have rd1' := rd1
  obtain ⟨⟨dx1, hr1⟩, hw1, hpl1, _⟩ := rd1
  refine ⟨_, rfl, _, rfl, r, dx1, _, rfl, hr1, rfl, _, rfl, r, rw, pl + 1, dp, row, m, _, rfl, rd1', e2, m1, by omega, fun H2 k2 rd2 y dy ny nd ne => ?_⟩
  refine ⟨y, dy, _, _, rfl, upd_same, fun H3 kp hy => ⟨rfl, ?_⟩⟩
  have s3 : Same H2 H3 := fun b o z => by
    have n1 := ne_of_none z ny
    rw [kp b n1, upd_ne n1, upd_ne (ne_of_none z nd)]; exact z
  have k3 := k1.trans (k2.trans (Kb.of s3))
  obtain ⟨⟨dx2, hr2⟩, hw2, hpl2, _⟩ := rd2
  refine q _ _ k3 ⟨⟨dx2, s3 _ _ hr2⟩, s3 _ _ hw2, hpl2, h60⟩ ?_
  unfold CdAt
  exact ⟨y, dy, rfl, Nw.of ((k1.trans k2).free hr2 ny) hy⟩
theorem sc_Reader_read_amount : FnScope ["self", "cents"] ["self"] (defScope s_Reader_read_amount) := ⟨rfl, rfl, rfl, by decide +kernel, rfl, by decide +kernel, by decide +kernel⟩
theorem ok_Reader_read_amount {C_CoverError C_NoAmount C_NoWords C_TooDeep C_NoText : Addr} {f : Addr} {fd : FuncData} (F : Fun K "read_amount" "Reader.read_amount" s_Reader_read_amount f fd) (T : Txt K mg) (L : Kl K mg C_Condition C_CauseIs C_ThingIs C_DaysIn C_Over C_Not C_All C_Some C_Reader) (Mahead : MCal P w K mg base 1 C_Reader "ahead" ["self"] (spAhead C_Reader)) (Mstep : MCal P w K mg base 1 C_Reader "step" ["self"] (spStep1 C_Reader)) (Z : Xc K mg C_CoverError C_NoAmount C_NoWords C_TooDeep C_NoText) (Cread_cents : Cal P w K mg base 3 "read_cents" ["text"] spRead) : FnOk P w K mg base CX0 4 f fd ["self"] (spRdAmt C_Reader) := by
  have sc := sc_Reader_read_amount
  refine F.ok sc (fun vs H Q E h => ?_) (fun cdv A outer s H vs Q E hr h => ?_)
  · obtain ⟨_, _, _, _, _, _, rfl, _⟩ := h
    rfl
  obtain ⟨r, rw, pl, dp, row, n, rfl, rd, e, n1, q⟩ := h
  refine ⟨_, (pss_cons (ps_try rfl rfl rfl Z.a_NoAmount (fun pn E W hW hp =>
        (pss_one (ps_set (i := 1) sc.nd rfl (Or.inl rfl) (pe_callC Cread_cents (hr.mono (by omega)) rfl (pa_cons (pe_meth0C Mahead (hr.mono (by omega)) (pv 0)) pa_nil))))) (fun e =>
        (pss_one ps_never)))
      (pss_cons (ps_expr (pe_meth0C Mstep (hr.mono (by omega)) (pv 0)))
      (pss_one (ps_ret (pv 1))))), ?_⟩
  have rd' := rd
  obtain ⟨⟨dx, hr'⟩, hw, hpl, h60⟩ := rd
  have lt : pl + 1 ≤ row.length := (List.getElem?_eq_some_iff.mp e).1
  refine ⟨_, rfl, r, dx, _, rfl, hr', rfl, r, rw, pl, dp, row, rfl, rd', ?_⟩
  rw [ahead_at e]
  refine ⟨n, rfl, n1, fun H1 s1 => ?_⟩
  refine atG [some (.ref r), some (.int (n : Int))] rfl ?_
  refine ⟨_, rfl, r, dx, _, rfl, s1 _ _ hr', rfl, r, rw, pl, dp, row, rfl, ⟨⟨dx, s1 _ _ hr'⟩, s1 _ _ hw, hpl, h60⟩, lt, fun H' k' rd2 => ⟨_, rfl, q H' ((Kb.of s1).trans k') rd2⟩⟩
end


/-! ### texts of words -/
def okW (w : Str) : Prop := 32 ∉ w.cps.toList ∧ w.length ≤ 100
theorem okW_C (c : Co) (h : okCo c) : ∀ w ∈ wordsC c, okW w := by
  intro w hw
  have nm : ∀ {n : Str}, nmOk n → okW n := fun {n} ⟨l, e, hl⟩ => by
    subst e
    exact ⟨fun z => by have := hl.2 32 z; unfold letter at this; omega, by rw [tx_len]; have := hl.1.2; omega⟩
  have fg : ∀ {n : Nat}, n ≤ 1000000 → okW (tx (figs n)) := fun {n} hn => ⟨fun z => by have := figs_dig n 32 z; omega, by rw [tx_len]; have : (figs n).length ≤ 7 := figs_len (by decide) (figs_small10 hn); omega⟩
  cases c with
  | alw => simp [wordsC] at hw; subst hw; exact ⟨by decide +kernel, by decide +kernel⟩
  | cau n =>
    simp [wordsC] at hw
    rcases hw with rfl | rfl
    · exact ⟨by decide +kernel, by decide +kernel⟩
    · exact nm h
  | thi n =>
    simp [wordsC] at hw
    rcases hw with rfl | rfl
    · exact ⟨by decide +kernel, by decide +kernel⟩
    · exact nm h
  | day a b =>
    simp [wordsC] at hw
    obtain ⟨a0, ab, b1⟩ := h
    rcases hw with rfl | rfl | rfl
    · exact ⟨by decide +kernel, by decide +kernel⟩
    · exact fg (by omega)
    · exact fg (by omega)
  | ovr m =>
    simp [wordsC] at hw
    obtain ⟨m0, m1⟩ := h
    rcases hw with rfl | rfl
    · exact ⟨by decide +kernel, by decide +kernel⟩
    · refine ⟨fun z => ?_, ?_⟩
      · have z : 32 ∈ shown m.toNat := z
        unfold shown at z
        rcases List.mem_append.mp z with z | z
        · have := figs_dig _ 32 z; omega
        · simp at z; omega
      · rw [tx_len, len_shown]
        have : (figs (m.toNat / 100)).length ≤ 10 := figs_len (by decide) (by omega)
        omega
theorem okW_T {t : Cnd} (h : okT okCo t) : ∀ w ∈ wordsT wordsC t, okW w := words_all okW_C ⟨by decide +kernel, by decide +kernel⟩ ⟨by decide +kernel, by decide +kernel⟩ ⟨by decide +kernel, by decide +kernel⟩ ⟨by decide +kernel, by decide +kernel⟩ ⟨by decide +kernel, by decide +kernel⟩ t h
theorem join_cut : ∀ {ws : List Str}, ws ≠ [] → (∀ w ∈ ws, 32 ∉ w.cps.toList) → cutAt 32 (Str.join (Str.ofString " ") ws).cps.toList = ws.map fun w => w.cps.toList
  | [], h, _ => absurd rfl h
  | [w], _, h => by
    show cutAt 32 w.cps.toList = [w.cps.toList]
    exact cutAt_free (h w List.mem_cons_self)
  | w :: v :: ws, _, h => by
    have ih := join_cut (ws := v :: ws) (by simp) fun x hx => h x (List.mem_cons_of_mem _ hx)
    have e : (Str.join (Str.ofString " ") (w :: v :: ws)).cps.toList = w.cps.toList ++ 32 :: (Str.join (Str.ofString " ") (v :: ws)).cps.toList := by
      show (w.cps ++ (Str.ofString " ").cps ++ (Str.join (Str.ofString " ") (v :: ws)).cps).toList = _
      have eb : (Str.ofString " ").cps.toList = [32] := by decide +kernel
      rw [Array.toList_append, Array.toList_append, eb, List.append_assoc]
      rfl
    rw [e, cutAt_app _ (h w List.mem_cons_self), ih]
    rfl
theorem split_join {ws : List Str} (h0 : ws ≠ []) (h : ∀ w ∈ ws, okW w) : Txt.split (Str.join (Str.ofString " ") ws) (Str.ofString " ") = ws := by
  have eb : Str.ofString " " = tx [32] := by decide +kernel
  have e := split_cut (Str.join (Str.ofString " ") ws).cps.toList 32
  rw [tx_of, ← eb, join_cut h0 fun w hw => (h w hw).1, List.map_map] at e
  rw [e]
  have : (tx ∘ fun w : Str => w.cps.toList) = id := by funext w; exact tx_of w
  rw [this, List.map_id]


/-- the way on of a text that is refused -/
def NoT (CN CD : Addr) (H : Hp) (E : XK) : No → Prop
  | .at n => ∀ d H', Same H H' → H' d = some (.xd [(Str.ofString "at", .int (n : Int))]) → E (.ref CN) (some d) H'
  | .deep => ∀ H', Same H H' → E (.ref CD) none H'
theorem NoT.noE {CN CD r : Addr} {H H2 : Hp} {E : XK} (S : ∀ H', Kb r H2 H' → Same H H') : ∀ {f : No}, NoT CN CD H E f → NoE CN CD r H2 E 0 f
  | .at n, h => fun d H' k e => h d H' (S H' k) (by rw [e, Nat.zero_add])
  | .deep, h => fun H' k => h H' (S H' k)
def spRInit (C : Addr) : Sp := fun vs H Q _ => ∃ p dx rw, vs = [.ref p, .ref rw] ∧ H p = some (.ins C dx []) ∧ ∀ H', (∀ b, b ≠ p → H' b = H b) → H' p = some (.ins C dx (fldR rw 0 0)) → Q .non H'
def spRCX (κ : A8) (CN CD : Addr) : Sp := fun vs H Q E => ∃ ws, vs = [.str (Str.join (Str.ofString " ") ws)] ∧ ws ≠ [] ∧ (∀ w ∈ ws, okW w) ∧ ws.length ≤ 100 ∧
  ((∃ t d, ws.length ≤ 60 ∧ Spl wordsC okCo 2 ws t d ∧ d ≤ 6 ∧ ∀ u H', Same H H' → CdAt κ (Nw H H') u t → Q u H') ∨ ∃ f, FlT wordsC okCo af28 ws f ∧ NoT CN CD H E f)
section
seal L2.PS L2.PSs L2.PE L2.PA
variable {P : Program} {w : World} {K : PySem.W.Frag} {mg : Str → Option Value} {base : Heap} {C_Condition C_CauseIs C_ThingIs C_DaysIn C_Over C_Not C_All C_Some C_Reader : Addr} {C_CoverError C_NoAmount C_NoWords C_TooDeep C_NoText : Addr}
theorem sc_Reader___init__ : FnScope ["self", "row"] ["self", "row"] (defScope s_Reader___init__) := ⟨rfl, rfl, rfl, by decide +kernel, rfl, by decide +kernel, by decide +kernel⟩
theorem ok_Reader___init__ {f : Addr} {fd : FuncData} (F : Fun K "__init__" "Reader.__init__" s_Reader___init__ f fd) (L : Kl K mg C_Condition C_CauseIs C_ThingIs C_DaysIn C_Over C_Not C_All C_Some C_Reader) : FnOk P w K mg base CX0 1 f fd ["self", "row"] (spRInit C_Reader) := by
  have sc := sc_Reader___init__
  refine F.ok sc (fun vs H Q E h => ?_) (fun cdv A outer s H vs Q E hr h => ?_)
  · obtain ⟨_, _, _, rfl, _⟩ := h
    rfl
  obtain ⟨p, dx, rw, rfl, hp, q⟩ := h
  refine ⟨_, (pss_cons (ps_fld (pv 0) (pv 1) rfl)
      (pss_cons (ps_fld (pv 0) pe_int rfl)
      (pss_one (ps_fld (pv 0) pe_int rfl)))), ?_⟩
  refine ⟨_, rfl, _, rfl, p, _, dx, _, rfl, hp, L.cl_Reader, L.na_Reader_row, (by show 0 < 1000; decide), ?_⟩
  refine ⟨_, rfl, p, _, dx, _, rfl, upd_same, L.cl_Reader, L.na_Reader_place, (by show 1 < 1000; decide), ?_⟩
  exact ⟨_, rfl, p, _, dx, _, rfl, upd_same, L.cl_Reader, L.na_Reader_depth, (by show 2 < 1000; decide), q _ (fun b n => by rw [upd_ne n, upd_ne n, upd_ne n]) upd_same⟩
theorem sc_read_condition : FnScope ["text", "row", "reader", "condition"] ["text"] (defScope s_read_condition) := ⟨rfl, rfl, rfl, by decide +kernel, rfl, by decide +kernel, by decide +kernel⟩
theorem ok_read_condition {f : Addr} {fd : FuncData} (F : Fun K "read_condition" "read_condition" s_read_condition f fd) (T : Txt K mg) (L : Kl K mg C_Condition C_CauseIs C_ThingIs C_DaysIn C_Over C_Not C_All C_Some C_Reader) (KReader : KCal P w K mg base 1 "Reader" C_Reader ["self", "row"] (spRInit C_Reader)) (Mread_rows : MCalX P w K mg base (5 * 6 + 8) C_Reader "read_rows" ["self"] (spRRsX (A8.mk C_Condition C_CauseIs C_ThingIs C_DaysIn C_Over C_Not C_All C_Some) C_NoWords C_TooDeep C_Reader 6)) (KNoWords : ECal P w K mg base 1 "NoWords" C_NoWords ["self", "at"] (spInitN C_NoWords "at")) : FnOk P w K mg base (CX1 P w) 40 f fd ["text"] (spRCX (A8.mk C_Condition C_CauseIs C_ThingIs C_DaysIn C_Over C_Not C_All C_Some) C_NoWords C_TooDeep) := by
  have sc := sc_read_condition
  refine F.okX sc (fun vs H Q E h => ?_) (fun cdv A outer s H vs Q E hr h => ?_)
  · obtain ⟨_, rfl, _⟩ := h
    rfl
  obtain ⟨ws, rfl, hne, okw, l100, alt⟩ := h
  refine ⟨_, (pss_cons (ps_if (pt_not (pt_val (pe_callB call_isinst rfl T.n_isinstance (show bootBuiltins _ = some (.builtin "isinstance") from rfl) (pa_cons (pv 0) (pa_cons (pe_ty "str" rfl T.n_str rfl) pa_nil)))))
        (pss_one (ps_raiseI wish_fn rfl KNoWords (hr.mono (by decide)) rfl (pa_cons pe_int pa_nil)))
        pss_nil)
      (pss_cons (ps_set (i := 1) sc.nd rfl (Or.inl rfl) (pe_bm PySem.F.plainAttrs_str PySem.F.slot_str_split PySem.F.type_str_split mt_split (pv 0) (pa_cons pe_str pa_nil)))
      (pss_cons (ps_if (pt_cmpR op_gt (pe_callB call_len_seq rfl T.n_len (show bootBuiltins _ = some (.builtin "len") from rfl) (pa_cons (pv 1) pa_nil)) (pe_gint T.g_MOST_WORDS rfl) (nomark _))
        (pss_one (ps_raiseI wish_fn rfl KNoWords (hr.mono (by decide)) rfl (pa_cons (pe_gint T.g_MOST_WORDS rfl) pa_nil)))
        pss_nil)
      (pss_cons (ps_set (i := 2) sc.nd rfl (Or.inl rfl) (pe_makeC KReader (hr.mono (by decide)) rfl (pa_cons (pv 1) pa_nil)))
      (pss_cons (ps_set (i := 3) sc.nd rfl (Or.inl rfl) (pe_meth0X Mread_rows (hr.mono (by decide)) wish_fn (pv 2)))
      (pss_cons (ps_if (pt_cmpR op_lt (pe_fld (pv 2) rfl) (pe_callB call_len_seq rfl T.n_len (show bootBuiltins _ = some (.builtin "len") from rfl) (pa_cons (pv 1) pa_nil)) (nomark _))
        (pss_one (ps_raiseI wish_fn rfl KNoWords (hr.mono (by decide)) rfl (pa_cons (pe_fld (pv 2) rfl) pa_nil)))
        pss_nil)
      (pss_one (ps_ret (pv 3))))))))), ?_⟩
  refine ⟨_, rfl, _, _, _, _, _, rfl, ty_is, .str _, kit_ss, _, rfl, iteF ?_⟩
  have jl := join_le (z := Str.ofString " ") (B := 100) (ps := ws) fun y hy => (okw y hy).2
  have e1 : (Str.ofString " ").length = 1 := by decide +kernel
  rw [e1] at jl
  have jl2 : ws.length * (100 + 1) ≤ 100 * (100 + 1) := Nat.mul_le_mul_right _ l100
  refine ⟨_, rfl, rfl, _, _, rfl, rfl, by decide +kernel, by rw [sizeLine_eq]; omega, fun rw' nrw => ?_⟩
  rw [split_join hne okw]
  have s1 := same_new nrw (.lst (ws.map V.str))
  have h1 : upd H rw' (.lst (ws.map V.str)) rw' = some (.lst (ws.map V.str)) := upd_same
  have lm : (ws.map V.str).length = ws.length := List.length_map _
  generalize upd H rw' (.lst (ws.map V.str)) = H1 at s1 h1
  refine atG [some (.str (Str.join (Str.ofString " ") ws)), some (.ref rw'), none, none] rfl ?_
  refine ⟨_, rfl, rw', _, rfl, .inl (SqL.of h1), _, _, rfl, rfl, _, rfl, ?_⟩
  by_cases l60 : ws.length ≤ 60
  · refine dF (by rw [lm]; omega) ?_
    refine ⟨_, rfl, fun r dx nr nd ne => ⟨r, dx, rw', rfl, upd_same, fun H2 kp hr2 => ⟨rfl, ?_⟩⟩⟩
    have s2 : Same H1 H2 := fun b o e => by
      have n1 := ne_of_none e nr
      rw [kp b n1, upd_ne n1, upd_ne (ne_of_none e nd)]; exact e
    refine atG [some (.str (Str.join (Str.ofString " ") ws)), some (.ref rw'), some (.ref r), none] rfl ?_
    have rd2 : RdAt C_Reader H2 r rw' 0 ((0 : Nat) : Int) ws := ⟨⟨dx, hr2⟩, s2 _ _ h1, Nat.zero_le _, l60⟩
    have rH : H r = none := s1.free nr
    have S : ∀ H', Kb r H2 H' → Same H H' := fun H' k b o e => k b o (s2 _ _ (s1 _ _ e)) (ne_of_none e rH)
    rcases alt with ⟨t, d, _, sp, d6, q⟩ | ⟨f, fl, q⟩
    · refine ⟨_, rfl, r, dx, _, rfl, hr2, rfl, .inl ⟨r, rw', 0, 0, ws, ws, [], t, d, rfl, rd2, (by rw [List.append_nil]; rfl), sp, d6, by omega, (by intro z; cases z), (by intro z; cases z), fun u H3 k3 rd3 cd => ?_⟩⟩
      refine atG [some (.str (Str.join (Str.ofString " ") ws)), some (.ref rw'), some (.ref r), some u] rfl ?_
      obtain ⟨⟨dx3, hr3⟩, hw3, hpl3, _⟩ := rd3
      refine ⟨_, rfl, r, _, dx3, _, _, rfl, hr3, L.cl_Reader, L.na_Reader_place, lr_place _ _ _, _, rfl, rw', _, rfl, .inl (SqL.of hw3), _, _, rfl, rfl, _, rfl, dF (by rw [lm]; omega) ?_⟩
      exact ⟨_, rfl, q u H3 (S H3 k3) (cd.same (Nw.later (s1.trans s2)))⟩
    · cases fl with
      | long h => omega
      | read _ fl => exact ⟨_, rfl, r, dx, _, rfl, hr2, rfl, .inr ⟨r, rw', 0, 0, ws, f, rfl, rd2, by omega, by omega, fl, NoT.noE S q⟩⟩
      | @more ws1 t d x post hl sp d6 na no =>
        refine ⟨_, rfl, r, dx, _, rfl, hr2, rfl, .inl ⟨r, rw', 0, 0, ws1 ++ x :: post, ws1, x :: post, t, d, rfl, rd2, rfl, sp, d6, by omega, (fun z => na (Option.some.inj z)), (fun z => no (Option.some.inj z)), fun u H3 k3 rd3 cd => ?_⟩⟩
        refine atG [some (.str (Str.join (Str.ofString " ") (ws1 ++ x :: post))), some (.ref rw'), some (.ref r), some u] rfl ?_
        obtain ⟨⟨dx3, hr3⟩, hw3, hpl3, _⟩ := rd3
        have ll : (ws1 ++ x :: post).length = ws1.length + (post.length + 1) := by rw [List.length_append, List.length_cons]
        refine ⟨_, rfl, r, _, dx3, _, _, rfl, hr3, L.cl_Reader, L.na_Reader_place, lr_place _ _ _, _, rfl, rw', _, rfl, .inl (SqL.of hw3), _, _, rfl, rfl, _, rfl, dT (by rw [lm, ll]; omega) ?_⟩
        refine ⟨_, rfl, r, _, dx3, _, _, rfl, hr3, L.cl_Reader, L.na_Reader_place, lr_place _ _ _, le_line (by show 1 ≤ 1000; decide), fun a ha => ?_⟩
        refine ⟨a, _, rfl, upd_same, fun d hd ne => ⟨rfl, d, by rw [upd_ne ne.symm, upd_same], ?_⟩⟩
        exact q d _ (S _ (kb_raise k3 ha hd)) (by rw [unt_ne ne, upd_same, Nat.zero_add])
  · refine dT (by rw [lm]; omega) ?_
    rcases alt with ⟨t, d, z, _⟩ | ⟨f, fl, q⟩
    · exact absurd z l60
    cases fl with
    | read z _ => exact absurd z l60
    | more z => exact absurd z l60
    | long _ =>
      refine ⟨le_line (by show 1 ≤ 1000; decide), fun a ha => ?_⟩
      refine ⟨a, _, rfl, upd_same, fun d hd ne => ⟨rfl, d, by rw [upd_ne ne.symm, upd_same], ?_⟩⟩
      refine q d _ (fun b o e => ?_) (by rw [unt_ne ne, upd_same]; rfl)
      have e2 := s1 b o e
      exact kb_raise (r := a) (Kb.of s1) ha hd b o e (ne_of_none e2 ha)
end


section
variable {P : Program} {w : World} {K : PySem.W.Frag} {mg : Str → Option Value} {base : Heap}
theorem sc__law_whole : FnScope ["_law_found"] ["_law_found"] (defScope s__law_whole) := ⟨rfl, rfl, rfl, by decide +kernel, rfl, by decide +kernel, by decide +kernel⟩
theorem ok__law_whole {f : Addr} {fd : FuncData} (F : Fun K "_law_whole" "_law_whole" s__law_whole f fd) (T : Txt K mg) : FnOk P w K mg base CX0 1 f fd ["_law_found"] (spWhole K) := by
  have sc := sc__law_whole
  refine F.ok sc (fun vs H Q E h => ?_) (fun cdv A outer s H vs Q E hr h => ?_)
  · obtain ⟨x, T, rfl, _⟩ := h
    rfl
  obtain ⟨x, ty, rfl, hty, q⟩ := h
  refine ⟨_, (pss_one (ps_ret (pe_and (pe_callB call_isinst rfl T.n_isinstance (show bootBuiltins _ = some (.builtin "isinstance") from rfl) (pa_cons (pv 0) (pa_cons (pe_ty "int" rfl T.n_int rfl) pa_nil))) (pe_one (pe_not (pe_callB call_isinst rfl T.n_isinstance (show bootBuiltins _ = some (.builtin "isinstance") from rfl) (pa_cons (pv 0) (pa_cons (pe_ty "bool" rfl T.n_bool rfl) pa_nil)))))))), ?_⟩
  obtain ⟨b1, b2, k1, k2, e⟩ := whole_kit hty
  rw [e] at q
  refine ⟨_, rfl, _, _, _, _, _, rfl, ty_is, hty, k1, _, rfl, ?_⟩
  cases b1 with
  | false => exact q
  | true => exact ⟨_, rfl, _, _, _, _, _, rfl, ty_is, hty, k2, _, rfl, q⟩
end


/-! ### the words that the law makes -/
abbrev sNot : Str := Str.ofString "not"
abbrev sOp : Str := Str.ofString "("
abbrev sCl : Str := Str.ofString ")"
abbrev sAnd : Str := Str.ofString "and"
abbrev sOr : Str := Str.ofString "or"
abbrev Sp8 := Spl wordsC okCo
abbrev Sps8 := Spls wordsC okCo
abbrev Fl8 := Fl wordsC okCo af28
abbrev FlT8 := FlT wordsC okCo af28
def OsOk (os : List Str) : Prop := ∀ o ∈ os, o = sNot ∨ o = sOp
def nO (os : List Str) : Nat := os.countP (fun o => o == sOp)
def nN (os : List Str) : Nat := os.countP (fun o => o == sNot)
def wrap : List Str → Cnd → Cnd
  | [], t => t
  | o :: os, t => if o = sNot then .no (wrap os t) else wrap os t
theorem op_not : sOp ≠ sNot := by decide +kernel
theorem OsOk.tail {o : Str} {os : List Str} (h : OsOk (o :: os)) : OsOk os := fun p hp => h p (List.mem_cons_of_mem _ hp)
theorem nest : ∀ {os : List Str}, OsOk os → ∀ {ws : List Str} {t : Cnd} {d : Nat}, Sp8 0 ws t d → Sp8 0 (os ++ ws ++ List.replicate (nO os) sCl) (wrap os t) (os.length + d)
  | [], _, ws, t, d, h => by
    show Sp8 0 ([] ++ ws ++ []) t (0 + d)
    rw [List.append_nil, List.nil_append, Nat.zero_add]
    exact h
  | o :: os, ho, ws, t, d, h => by
    have ih := nest (os := os) ho.tail h
    rw [List.length_cons, show os.length + 1 + d = os.length + d + 1 by omega]
    rcases ho o List.mem_cons_self with rfl | rfl
    · have e : nO (sNot :: os) = nO os := by unfold nO; rw [List.countP_cons_of_neg]; decide +kernel
      rw [e, wrap, if_pos rfl]
      exact .no ih
    · have e : nO (sOp :: os) = nO os + 1 := by unfold nO; rw [List.countP_cons_of_pos]; decide +kernel
      rw [e, wrap, if_neg op_not, List.replicate_succ', ← List.append_assoc]
      exact .br (.rows1 (.row1 ih))
theorem wrap_hT (x : LS) : ∀ {os : List Str}, OsOk os → ∀ (t : Cnd), hT (wrap os t) x = (hT t x == decide (nN os % 2 = 0))
  | [], _, t => by
    show hT t x = (hT t x == decide ((0 : Nat) % 2 = 0))
    cases hT t x <;> rfl
  | o :: os, ho, t => by
    have ih := wrap_hT x (os := os) ho.tail t
    rcases ho o List.mem_cons_self with rfl | rfl
    · have e : nN (sNot :: os) = nN os + 1 := by unfold nN; rw [List.countP_cons_of_pos]; decide +kernel
      rw [e, wrap, if_pos rfl, hT, ih]
      by_cases c : nN os % 2 = 0
      · rw [decide_eq_true c, decide_eq_false (show ¬ (nN os + 1) % 2 = 0 by omega)]
        cases hT t x <;> rfl
      · rw [decide_eq_false c, decide_eq_true (show (nN os + 1) % 2 = 0 by omega)]
        cases hT t x <;> rfl
    · have e : nN (sOp :: os) = nN os := by unfold nN; rw [List.countP_cons_of_neg]; decide +kernel
      rw [e, wrap, if_neg op_not, ih]
theorem wrap_hgt : ∀ (os : List Str) (t : Cnd), hgt (wrap os t) ≤ os.length + hgt t
  | [], t => by show hgt t ≤ 0 + hgt t; omega
  | o :: os, t => by
    have ih := wrap_hgt os t
    rw [wrap, List.length_cons]
    split
    · rw [hgt]; omega
    · omega
/-- what comes behind an atom that can't stand there -/
theorem opened_more : ∀ {os : List Str}, OsOk os → ∀ {ws post : List Str} {t : Cnd} {d dp : Nat}, Sp8 0 ws t d → dp + os.length + d ≤ 6 → (∀ x, post.head? = some x → x ∉ [Str.ofString "and", Str.ofString "or", Str.ofString ")"]) →
    (Sp8 0 (os ++ ws) (wrap os t) (os.length + d)) ∨ Fl8 0 dp (os ++ ws ++ post) (.at (os.length + ws.length))
  | [], _, ws, post, t, d, dp, h, _, _ => .inl (by
    show Sp8 0 ws t (0 + d)
    rw [Nat.zero_add]
    exact h)
  | o :: os, ho, ws, post, t, d, dp, h, hd, hp => by
    rw [List.length_cons] at hd
    have ih := opened_more (os := os) ho.tail (dp := dp + 1) h (by omega) hp
    rw [List.length_cons, show os.length + 1 + d = os.length + d + 1 by omega, show os.length + 1 + ws.length = 1 + (os.length + ws.length) by omega]
    rcases ho o List.mem_cons_self with rfl | rfl
    · rw [wrap, if_pos rfl]
      rcases ih with ih | ih
      · exact .inl (.no ih)
      · exact .inr (.no (by omega) ih)
    · rcases ih with ih | ih
      · refine .inr ?_
        have := Fl.open (af := af28) (dp := dp) (post := post) (.rows1 (.row1 ih)) (by omega) hp
        rw [List.length_append] at this
        exact this
      · exact .inr (.br (by omega) ih.up)
theorem flat_more {os ws : List Str} {x : Str} {post : List Str} {t : Cnd} {d : Nat} (ho : OsOk os) (h : Sp8 0 ws t d) (hd : os.length + d ≤ 6) (hx : x = sNot ∨ x = sOp) (hl : (os ++ ws ++ x :: post).length ≤ 60) : FlT8 (os ++ ws ++ x :: post) (.at (os.length + ws.length)) := by
  have nx : x ∉ [Str.ofString "and", Str.ofString "or", Str.ofString ")"] := by rcases hx with rfl | rfl <;> decide +kernel
  rcases opened_more ho (post := x :: post) (dp := 0) h (by omega) (fun y hy => by cases hy; exact nx) with g | g
  · have := FlT.more (af := af28) (x := x) (post := post) hl (.rows1 (.row1 g)) hd (fun z => nx (by rw [z]; simp)) (fun z => nx (by rw [z]; simp))
    rw [List.length_append] at this
    exact this
  · exact .read hl g.up
theorem flat_deep {os ws : List Str} (ho : OsOk os) (h : 7 ≤ os.length) (hl : (os ++ ws).length ≤ 60) : FlT8 (os ++ ws) .deep := .read hl (Fl.seventh ho h).up
/-! ### brackets and nots ahead of a row: the last is a bracket -/
theorem last_op {os : List Str} (h : os = [] ∨ ∃ os', os = os' ++ [sOp]) : OsOk os → ∀ {ws : List Str} {t : Cnd} {d : Nat}, Sp8 2 ws t d → Sp8 2 (os ++ ws ++ List.replicate (nO os) sCl) (wrap os t) (os.length + d) := by
  intro ho ws t d sp
  rcases h with rfl | ⟨os', rfl⟩
  · show Sp8 2 ([] ++ ws ++ []) t (0 + d)
    rw [List.append_nil, List.nil_append, Nat.zero_add]
    exact sp
  · have ho' : OsOk os' := fun o h => ho o (List.mem_append_left _ h)
    have g := nest ho' (.br sp)
    have e1 : nO (os' ++ [sOp]) = nO os' + 1 := by unfold nO; rw [List.countP_append]; rfl
    have e2 : ∀ l : List Str, wrap (l ++ [sOp]) t = wrap l t := by
      intro l
      induction l with
      | nil => show (if sOp = sNot then _ else _) = _; rw [if_neg op_not]
      | cons o l ih => rw [List.cons_append, wrap, wrap, ih]
    rw [e1, e2, List.length_append, List.replicate_succ, show os'.length + [sOp].length + d = os'.length + (d + 1) by show os'.length + 1 + d = _; omega]
    have e3 : os' ++ [sOp] ++ ws ++ sCl :: List.replicate (nO os') sCl = os' ++ (Str.ofString "(" :: (ws ++ [Str.ofString ")"])) ++ List.replicate (nO os') sCl := by simp
    rw [e3]
    exact .rows1 (.row1 g)
theorem last_fl {os : List Str} (h : os = [] ∨ ∃ os', os = os' ++ [sOp]) (ho : OsOk os) (h6 : os.length ≤ 6) {ws : List Str} {n : Nat} (f : Fl8 2 os.length ws (.at n)) : Fl8 2 0 (os ++ ws) (.at (os.length + n)) := by
  rcases h with rfl | ⟨os', rfl⟩
  · show Fl8 2 0 ws (.at (0 + n))
    rw [Nat.zero_add]
    exact f
  · have ho' : OsOk os' := fun o h => ho o (List.mem_append_left _ h)
    have l1 : (os' ++ [sOp]).length = os'.length + 1 := List.length_append
    rw [l1] at h6 f ⊢
    have g : Fl8 0 (0 + os'.length) (sOp :: ws) (No.on 1 (.at n)) := .br (by omega) (by rw [Nat.zero_add]; exact f)
    have := Fl.ahead (os := os') ho' (by omega) g
    rw [List.append_assoc, Nat.add_assoc]
    exact this.up
/-! ### rows of pieces -/
theorem spls_snoc {k : Nat} {ws : List Str} {t : Cnd} {d d' : Nat} : ∀ {wss : List (List Str)} {ts : List Cnd}, Sps8 k wss ts d → Sp8 k ws t d' → d' ≤ d → Sps8 k (wss ++ [ws]) (ts ++ [t]) d
  | _, _, .nil, h, hd => .cons h hd .nil
  | _, _, .cons a b c, h, hd => .cons a b (spls_snoc c h hd)
theorem spls_up {d : Nat} : ∀ {wss : List (List Str)} {ts : List Cnd}, Sps8 0 wss ts d → Sps8 1 wss ts d
  | _, _, .nil => .nil
  | _, _, .cons a b c => .cons (.row1 a) b (spls_up c)
def jS (b : Bool) : Str := if b then sAnd else sOr
theorem row_spl (b : Bool) {wss : List (List Str)} {ts : List Cnd} {d : Nat} (h : Sps8 0 wss ts d) (h2 : 2 ≤ ts.length) (h8 : ts.length ≤ 8) : Sp8 2 (joinL (jS b) wss) (joinT b ts) d := by
  cases b with
  | true => exact .rows1 (.rowN h h2 h8)
  | false => exact .rowsN (spls_up h) h2 h8
theorem row_fl (b : Bool) {wss : List (List Str)} {ts : List Cnd} {d dp : Nat} (h : Sps8 0 wss ts d) (h8 : ts.length = 8) (hd : dp + d ≤ 6) (ws : List Str) : Fl8 2 dp (joinL (jS b) wss ++ jS b :: ws) (.at ((joinL (jS b) wss).length + 1)) := by
  cases b with
  | true => exact .rows0 (.row9 h hd h8)
  | false => exact .rows9 (spls_up h) hd h8
theorem hAll_bools (x : LS) : ∀ ts : List Cnd, hAll ts x = !(ts.map fun t => hT t x).contains false
  | [] => by unfold hAll; rfl
  | t :: ts => by
    rw [hAll, hAll_bools x ts, List.map_cons, List.contains_cons]
    cases hT t x <;> rfl
theorem hSom_bools (x : LS) : ∀ ts : List Cnd, hSom ts x = (ts.map fun t => hT t x).contains true
  | [] => by unfold hSom; rfl
  | t :: ts => by
    rw [hSom, hSom_bools x ts, List.map_cons, List.contains_cons]
    cases hT t x <;> rfl
theorem hgts_all {n : Nat} : ∀ {ts : List Cnd}, (∀ t ∈ ts, hgt t ≤ n) → hgts ts ≤ n
  | [], _ => by unfold hgts; exact Nat.zero_le _
  | t :: ts, h => by
    rw [hgts]
    have := hgts_all (ts := ts) fun u hu => h u (List.mem_cons_of_mem _ hu)
    have := h t List.mem_cons_self
    omega
theorem joinT_hgt (b : Bool) {n : Nat} {ts : List Cnd} (h : ∀ t ∈ ts, hgt t ≤ n) : hgt (joinT b ts) ≤ n + 1 := by
  have := hgts_all h
  cases b with
  | true => show hgt (.al ts) ≤ _; rw [hgt]; omega
  | false => show hgt (.so ts) ≤ _; rw [hgt]; omega


/-! ### the law's own: refused, atoms, what is ahead -/
def x28 : LS := ⟨7, Str.ofString "roof", Str.ofString "hail", 100⟩
/-- what _law_refused hands back -/
def noV (H : Hp) (v : V) : No → Prop
  | .at n => ∃ p, v = .ref p ∧ H p = some (.tup [.str (Str.ofString "words"), .int (n : Int)])
  | .deep => ∃ p, v = .ref p ∧ H p = some (.tup [.str (Str.ofString "deep")])
def spRef : Sp := fun vs H Q _ => ∃ ws f, vs = [.str (Str.join (Str.ofString " ") ws)] ∧ ws ≠ [] ∧ (∀ w ∈ ws, okW w) ∧ ws.length ≤ 100 ∧ FlT8 ws f ∧ ∀ v H', Same H H' → noV H' v f → Q v H'
def spRefAt : Sp := fun vs H Q _ => ∃ ws, ∃ n : Nat, vs = [.str (Str.join (Str.ofString " ") ws), .int (n : Int)] ∧ ws ≠ [] ∧ (∀ w ∈ ws, okW w) ∧ ws.length ≤ 100 ∧ FlT8 ws (.at n) ∧ ∀ H', Same H H' → Q (.bl true) H'
def spHold : Sp := fun vs H Q _ => ∃ ws t d, vs = [.str (Str.join (Str.ofString " ") ws)] ∧ ws ≠ [] ∧ (∀ w ∈ ws, okW w) ∧ ws.length ≤ 60 ∧ Sp8 2 ws t d ∧ d ≤ 6 ∧ hgt t < 20 ∧ ∀ H', Same H H' → Q (.bl (hT t x28)) H'
def spAtom : Sp := fun vs H Q _ => ∃ n : Int, vs = [.int n] ∧ 0 ≤ n ∧ ∀ p l c H', Same H H' → H l = none → H' p = some (.tup [.ref l, .bl (holdsC c x28)]) → H' l = some (.lst ((wordsC c).map V.str)) → okCo c → Q (.ref p) H'
def spOpened : Sp := fun vs H Q _ => ∃ n : Int, ∃ z : Nat, vs = [.int n, .int (z : Int)] ∧ 0 ≤ n ∧ z ≤ 12 ∧ ∀ l os H', Same H H' → H l = none → os.length = z → OsOk os → H' l = some (.lst (os.map V.str)) → Q (.ref l) H'
theorem rep_tup2 {K : PySem.W.Frag} {H : Hp} {p : Addr} {a b : V} (h : H p = some (.tup [a, b])) (fa : flatV a = true) (fb : flatV b = true) : Rep K H (.seq true [.at a, .at b]) (.ref p) := by
  unfold Rep
  refine ⟨p, _, rfl, fun _ => SqT.of h, (fun z => by cases z), ?_⟩
  unfold Reps
  refine ⟨a, [b], rfl, (by unfold Rep; exact ⟨rfl, fa⟩), ?_⟩
  unfold Reps
  refine ⟨b, [], rfl, (by unfold Rep; exact ⟨rfl, fb⟩), ?_⟩
  unfold Reps
  rfl
theorem rep_tup1 {K : PySem.W.Frag} {H : Hp} {p : Addr} {a : V} (h : H p = some (.tup [a])) (fa : flatV a = true) : Rep K H (.seq true [.at a]) (.ref p) := by
  unfold Rep
  refine ⟨p, _, rfl, fun _ => SqT.of h, (fun z => by cases z), ?_⟩
  unfold Reps
  refine ⟨a, [], rfl, (by unfold Rep; exact ⟨rfl, fa⟩), ?_⟩
  unfold Reps
  rfl
def AtmAt (H0 H : Hp) (p : Addr) (xs : List V) (v : Bool) : Prop := ∃ l, H0 l = none ∧ H p = some (.tup [.ref l, .bl v]) ∧ H l = some (.lst xs)
theorem new_atom {H0 H : Hp} {a b : Addr} {xs : List V} {v : Bool} (s : Same H0 H) (na : H a = none) (nb : upd H a (.lst xs) b = none) : Same H0 (upd (upd H a (.lst xs)) b (.tup [.ref a, .bl v])) ∧ Same H (upd (upd H a (.lst xs)) b (.tup [.ref a, .bl v])) ∧ AtmAt H0 (upd (upd H a (.lst xs)) b (.tup [.ref a, .bl v])) b xs v := by
  have s1 : Same H (upd (upd H a (.lst xs)) b (.tup [.ref a, .bl v])) := (same_new na _).trans (same_new nb _)
  have ne : a ≠ b := fun z => by rw [← z, upd_same] at nb; cases nb
  exact ⟨s.trans s1, s1, a, s.free na, upd_same, by rw [upd_ne ne, upd_same]⟩
theorem AtmAt.same {H0 H H' : Hp} {p : Addr} {xs : List V} {v : Bool} (h : AtmAt H0 H p xs v) (s : Same H H') : AtmAt H0 H' p xs v := by
  obtain ⟨l, h0, h1, h2⟩ := h
  exact ⟨l, h0, s _ _ h1, s _ _ h2⟩
theorem atomW0 : wordsC (.alw) = [Str.ofString "always"] := by decide +kernel
theorem atomOk0 : okCo (.alw) := trivial
theorem atomW1 : wordsC (.cau (Str.ofString "hail")) = [Str.ofString "cause", Str.ofString "hail"] := by decide +kernel
theorem atomOk1 : okCo (.cau (Str.ofString "hail")) := ⟨[104, 97, 105, 108], by decide +kernel, ⟨by decide, by decide⟩, fun c hc => by unfold letter; simp only [List.mem_cons, List.not_mem_nil, or_false] at hc; omega⟩
theorem atomW2 : wordsC (.cau (Str.ofString "not")) = [Str.ofString "cause", Str.ofString "not"] := by decide +kernel
theorem atomOk2 : okCo (.cau (Str.ofString "not")) := ⟨[110, 111, 116], by decide +kernel, ⟨by decide, by decide⟩, fun c hc => by unfold letter; simp only [List.mem_cons, List.not_mem_nil, or_false] at hc; omega⟩
theorem atomW3 : wordsC (.thi (Str.ofString "roof")) = [Str.ofString "thing", Str.ofString "roof"] := by decide +kernel
theorem atomOk3 : okCo (.thi (Str.ofString "roof")) := ⟨[114, 111, 111, 102], by decide +kernel, ⟨by decide, by decide⟩, fun c hc => by unfold letter; simp only [List.mem_cons, List.not_mem_nil, or_false] at hc; omega⟩
theorem atomW4 : wordsC (.day 7 365) = [Str.ofString "days", Str.ofString "7", Str.ofString "365"] := by decide +kernel
theorem atomOk4 : okCo (.day 7 365) := ⟨by decide, by decide, by decide⟩
theorem atomW5 : wordsC (.day 8 365) = [Str.ofString "days", Str.ofString "8", Str.ofString "365"] := by decide +kernel
theorem atomOk5 : okCo (.day 8 365) := ⟨by decide, by decide, by decide⟩
theorem atomW6 : wordsC (.ovr 99) = [Str.ofString "over", Str.ofString "0.99"] := by decide +kernel
theorem atomOk6 : okCo (.ovr 99) := ⟨by decide, by decide⟩
theorem atomW7 : wordsC (.ovr 100) = [Str.ofString "over", Str.ofString "1.00"] := by decide +kernel
theorem atomOk7 : okCo (.ovr 100) := ⟨by decide, by decide⟩
theorem atomW8 : wordsC (.thi (Str.ofString "roo")) = [Str.ofString "thing", Str.ofString "roo"] := by decide +kernel
theorem atomOk8 : okCo (.thi (Str.ofString "roo")) := ⟨[114, 111, 111], by decide +kernel, ⟨by decide, by decide⟩, fun c hc => by unfold letter; simp only [List.mem_cons, List.not_mem_nil, or_false] at hc; omega⟩
section
seal L2.PS L2.PSs L2.PE L2.PA
variable {P : Program} {w : World} {K : PySem.W.Frag} {mg : Str → Option Value} {base : Heap} {C_Condition C_CauseIs C_ThingIs C_DaysIn C_Over C_Not C_All C_Some C_Reader : Addr} {C_CoverError C_NoAmount C_NoWords C_TooDeep C_NoText : Addr}
theorem sc__law_refused : FnScope ["_law_thing", "e"] ["_law_thing"] (defScope s__law_refused) := ⟨rfl, rfl, rfl, by decide +kernel, rfl, by decide +kernel, by decide +kernel⟩
theorem ok__law_refused {f : Addr} {fd : FuncData} (F : Fun K "_law_refused" "_law_refused" s__law_refused f fd) (T : Txt K mg) (Z : Xc K mg C_CoverError C_NoAmount C_NoWords C_TooDeep C_NoText) (Cread_condition : CalX P w K mg base 40 "read_condition" ["text"] (spRCX (A8.mk C_Condition C_CauseIs C_ThingIs C_DaysIn C_Over C_Not C_All C_Some) C_NoWords C_TooDeep)) : FnOk P w K mg base CX0 42 f fd ["_law_thing"] spRef := by
  have sc := sc__law_refused
  refine F.ok sc (fun vs H Q E h => ?_) (fun cdv A outer s H vs Q E hr h => ?_)
  · obtain ⟨_, _, rfl, _⟩ := h
    rfl
  obtain ⟨ws, f, rfl, hne, okw, l100, fl, q⟩ := h
  refine ⟨_, (pss_cons (ps_tryA (i := 1) rfl rfl rfl Z.a_CoverError sc.nd rfl rfl (fun pn E W hW hp =>
        (pss_one (ps_expr (pe_callX Cread_condition (hr.mono (by decide)) hW rfl (pa_cons (pv 0) pa_nil))))) (fun e =>
        (pss_cons (ps_if (pt_not (pt_val (pe_callB (call_isinstE (K := K)) rfl T.n_isinstance (show bootBuiltins _ = some (.builtin "isinstance") from rfl) (pa_cons (pv 1) (pa_cons (pe_ty "ValueError" rfl T.n_ValueError rfl) pa_nil)))))
        (pss_one (ps_ret (pe_tup (pa_cons pe_str pa_nil))))
        pss_nil)
      (pss_cons (ps_if (PW.pt (pw_and (pt_val (pe_callB (call_isinstE (K := K)) rfl T.n_isinstance (show bootBuiltins _ = some (.builtin "isinstance") from rfl) (pa_cons (pv 1) (pa_cons (pe_cls rfl Z.a_NoWords) pa_nil)))) (pw_and (pt_not (pt_val (pe_callB (call_isinstE (K := K)) rfl T.n_isinstance (show bootBuiltins _ = some (.builtin "isinstance") from rfl) (pa_cons (pv 1) (pa_cons (pe_cls rfl Z.a_TooDeep) pa_nil))))) (pw_and1 (pt_not (pt_val (pe_callB (call_isinstE (K := K)) rfl T.n_isinstance (show bootBuiltins _ = some (.builtin "isinstance") from rfl) (pa_cons (pv 1) (pa_cons (pe_cls rfl Z.a_NoText) pa_nil)))))))))
        (pss_one (ps_ret (pe_tup (pa_cons pe_str (pa_cons (pe_fldEK (K := K) (pv 1) rfl) pa_nil)))))
        pss_nil)
      (pss_cons (ps_if (PW.pt (pw_and (pt_val (pe_callB (call_isinstE (K := K)) rfl T.n_isinstance (show bootBuiltins _ = some (.builtin "isinstance") from rfl) (pa_cons (pv 1) (pa_cons (pe_cls rfl Z.a_TooDeep) pa_nil)))) (pw_and (pt_not (pt_val (pe_callB (call_isinstE (K := K)) rfl T.n_isinstance (show bootBuiltins _ = some (.builtin "isinstance") from rfl) (pa_cons (pv 1) (pa_cons (pe_cls rfl Z.a_NoWords) pa_nil))))) (pw_and1 (pt_not (pt_val (pe_callB (call_isinstE (K := K)) rfl T.n_isinstance (show bootBuiltins _ = some (.builtin "isinstance") from rfl) (pa_cons (pv 1) (pa_cons (pe_cls rfl Z.a_NoAmount) pa_nil)))))))))
        (pss_one (ps_ret (pe_tup (pa_cons pe_str pa_nil))))
        pss_nil)
      (pss_one (ps_ret (pe_tup (pa_cons pe_str pa_nil)))))))))
      (pss_one (ps_ret (pe_tup (pa_cons pe_str pa_nil))))), ?_⟩
  cases f with
  | «at» n =>
    have ze := Z.e_NoWords
    refine ⟨_, rfl, ws, rfl, hne, okw, l100, .inr ⟨.at n, fl, fun d H1 s1 hd => ⟨C_NoWords, rfl, Z.h_NoWords_CoverError, fun e he => ?_⟩⟩⟩
    have u0 := same_new he (exO e (.ref C_NoWords) (some d))
    have e0 : upd H1 e (exO e (.ref C_NoWords) (some d)) e = some (exO e (.ref C_NoWords) (some d)) := upd_same
    generalize upd H1 e (exO e (.ref C_NoWords) (some d)) = H2 at u0 e0
    have hd2 := u0 _ _ hd
    have ex : ExAt H2 e C_NoWords := .inr ⟨d, _, e0, hd2⟩
    refine ⟨_, rfl, e, _, _, _, _, rfl, ex, ze, ty_is, Z.v_NoWords, _, rfl, iteF ?_⟩
    refine ⟨_, rfl, e, _, _, _, _, rfl, ex, ze, ref_is, Z.k_NoWords_NoWords, _, rfl, iteT ⟨_, rfl, e, _, _, _, _, rfl, ex, ze, ref_is, Z.k_NoWords_TooDeep, _, rfl, iteT ⟨_, rfl, e, _, _, _, _, rfl, ex, ze, ref_is, Z.k_NoWords_NoText, _, rfl, iteT ?_⟩⟩⟩
    refine ⟨_, rfl, e, _, d, _, _, rfl, e0, hd2, ze, Z.s_NoWords, rfl, le_line (by show 2 ≤ 1000; decide), fun p np => ?_⟩
    exact q _ _ (s1.trans (u0.trans (same_new np _))) ⟨p, rfl, upd_same⟩
  | deep =>
    have ze := Z.e_TooDeep
    refine ⟨_, rfl, ws, rfl, hne, okw, l100, .inr ⟨.deep, fl, fun H1 s1 => ⟨C_TooDeep, rfl, Z.h_TooDeep_CoverError, fun e he => ?_⟩⟩⟩
    have u0 := same_new he (exO e (.ref C_TooDeep) none)
    have e0 : upd H1 e (exO e (.ref C_TooDeep) none) e = some (exO e (.ref C_TooDeep) none) := upd_same
    generalize upd H1 e (exO e (.ref C_TooDeep) none) = H2 at u0 e0
    have ex : ExAt H2 e C_TooDeep := .inl e0
    refine ⟨_, rfl, e, _, _, _, _, rfl, ex, ze, ty_is, Z.v_TooDeep, _, rfl, iteF ?_⟩
    refine ⟨_, rfl, e, _, _, _, _, rfl, ex, ze, ref_is, Z.k_TooDeep_NoWords, _, rfl, iteF (iteF ?_)⟩
    refine ⟨_, rfl, e, _, _, _, _, rfl, ex, ze, ref_is, Z.k_TooDeep_TooDeep, _, rfl, iteT ⟨_, rfl, e, _, _, _, _, rfl, ex, ze, ref_is, Z.k_TooDeep_NoWords, _, rfl, iteT ⟨_, rfl, e, _, _, _, _, rfl, ex, ze, ref_is, Z.k_TooDeep_NoAmount, _, rfl, iteT ?_⟩⟩⟩
    refine ⟨le_line (by show 1 ≤ 1000; decide), fun p np => ?_⟩
    exact q _ _ (s1.trans (u0.trans (same_new np _))) ⟨p, rfl, upd_same⟩
theorem sc__law_refused_at : FnScope ["_law_thing", "_law_due", "_law_found"] ["_law_thing", "_law_due"] (defScope s__law_refused_at) := ⟨rfl, rfl, rfl, by decide +kernel, rfl, by decide +kernel, by decide +kernel⟩
theorem ok__law_refused_at {f : Addr} {fd : FuncData} (F : Fun K "_law_refused_at" "_law_refused_at" s__law_refused_at f fd) (T : Txt K mg) (C_law_whole : Cal P w K mg base 1 "_law_whole" ["_law_found"] (spWhole K)) (C_law_refused : Cal P w K mg base 42 "_law_refused" ["_law_thing"] spRef) : FnOk P w K mg base CX0 43 f fd ["_law_thing", "_law_due"] spRefAt := by
  have sc := sc__law_refused_at
  refine F.ok sc (fun vs H Q E h => ?_) (fun cdv A outer s H vs Q E hr h => ?_)
  · obtain ⟨_, _, rfl, _⟩ := h
    rfl
  have hu64 := room_64 hr
  obtain ⟨ws, n, rfl, hne, okw, l100, fl, q⟩ := h
  refine ⟨_, (pss_cons (ps_set (i := 2) sc.nd rfl (Or.inl rfl) (pe_callC C_law_refused (hr.mono (by decide)) rfl (pa_cons (pv 0) pa_nil)))
      (pss_one (ps_ret (pe_and (pe_cmpR op_eq (pe_callB call_len_seq rfl T.n_len (show bootBuiltins _ = some (.builtin "len") from rfl) (pa_cons (pv 2) pa_nil)) pe_int (nomark _)) (pe_and (pe_callC C_law_whole (hr.mono (by decide)) rfl (pa_cons (pe_ix ix_tup (pv 2) pe_int (fun _ _ => rfl)) pa_nil)) (pe_one (pe_cmpR (op_eqD (K := K) hu64) (pv 2) (pe_tup (pa_cons pe_str (pa_cons (pv 1) pa_nil))) (nomark _)))))))), ?_⟩
  refine ⟨_, rfl, ws, .at n, rfl, hne, okw, l100, fl, fun v H1 s1 hv => ?_⟩
  obtain ⟨p, rfl, hp⟩ := hv
  refine atG [some (.str (Str.join (Str.ofString " ") ws)), some (.int (n : Int)), some (.ref p)] rfl ?_
  refine ⟨_, rfl, p, _, rfl, .inr (SqT.of hp), rfl, _, rfl, dT rfl ⟨_, rfl, p, _, _, _, rfl, rfl, SqT.of hp, rfl, _, _, rfl, .int _, _, rfl, iteT ?_⟩⟩
  refine ⟨_, rfl, _, rfl, le_line (by show 2 ≤ 1000; decide), fun p2 n2 => ⟨true, _, _, rep_tup2 (same_new n2 _ _ _ hp) rfl rfl, rep_tup2 upd_same rfl rfl, (by simp [deps, dep]), ?_⟩⟩
  have e : eqDs [D.at (.str (Str.ofString "words")), D.at (.int (n : Int))] [D.at (.str (Str.ofString "words")), D.at (.int (n : Int))] = true := by simp [eqDs, eqD, eqV]
  show Q (.bl (eqDs [D.at (.str (Str.ofString "words")), D.at (.int (n : Int))] [D.at (.str (Str.ofString "words")), D.at (.int (n : Int))])) _
  rw [e]
  exact q _ (s1.trans (same_new n2 _))
theorem sc__law_holds : FnScope ["_law_text"] ["_law_text"] (defScope s__law_holds) := ⟨rfl, rfl, rfl, by decide +kernel, rfl, by decide +kernel, by decide +kernel⟩
theorem ok__law_holds {f : Addr} {fd : FuncData} (F : Fun K "_law_holds" "_law_holds" s__law_holds f fd) (Cread_condition : Cal P w K mg base 40 "read_condition" ["text"] (fun vs H Q _ => spRCX (A8.mk C_Condition C_CauseIs C_ThingIs C_DaysIn C_Over C_Not C_All C_Some) C_NoWords C_TooDeep vs H Q E0)) (Mholds : MFam P w K mg base 20 (A8.Fam (A8.mk C_Condition C_CauseIs C_ThingIs C_DaysIn C_Over C_Not C_All C_Some)) "holds" ["self", "loss"] (spHolds (A8.mk C_Condition C_CauseIs C_ThingIs C_DaysIn C_Over C_Not C_All C_Some) 20)) : FnOk P w K mg base CX0 42 f fd ["_law_text"] spHold := by
  have sc := sc__law_holds
  refine F.ok sc (fun vs H Q E h => ?_) (fun cdv A outer s H vs Q E hr h => ?_)
  · obtain ⟨_, _, _, rfl, _⟩ := h
    rfl
  obtain ⟨ws, t, d, rfl, hne, okw, l60, sp, d6, hg, q⟩ := h
  refine ⟨_, (pss_one (ps_ret (pe_methD Mholds (hr.mono (by omega)) (pe_callC Cread_condition (hr.mono (by omega)) rfl (pa_cons (pv 0) pa_nil)) (pa_cons (pe_tup (pa_cons pe_int (pa_cons pe_int (pa_cons pe_str (pa_cons pe_str (pa_cons pe_str (pa_cons pe_int pa_nil))))))) pa_nil)))), ?_⟩
  refine ⟨_, rfl, ws, rfl, hne, okw, by omega, .inl ⟨t, d, l60, sp, d6, fun u H1 s1 cd0 => ?_⟩⟩
  have cd : CdAt (A8.mk C_Condition C_CauseIs C_ThingIs C_DaysIn C_Over C_Not C_All C_Some) H1 u t := cd0.same (fun b o e => (Nw.at e).2)
  obtain ⟨pu, du, fu, rfl, ob, nh, _, _, _⟩ := cd.obj
  refine ⟨pu, _, du, fu, rfl, ob, A8.fam _ t, nh, le_line (by show 6 ≤ 1000; decide), fun l nl => ?_⟩
  exact ⟨pu, t, l, x28, rfl, cd.same (same_new nl _), rfl, hg, ⟨_, _, upd_same⟩, q _ (s1.trans (same_new nl _))⟩
theorem sc__law_opened : FnScope ["_law_number", "_law_size", "_law_found", "_law_k"] ["_law_number", "_law_size"] (defScope s__law_opened) := ⟨rfl, rfl, rfl, by decide +kernel, rfl, by decide +kernel, by decide +kernel⟩
theorem ok__law_opened {f : Addr} {fd : FuncData} (F : Fun K "_law_opened" "_law_opened" s__law_opened f fd) (T : Txt K mg) : FnOk P w K mg base CX0 1 f fd ["_law_number", "_law_size"] spOpened := by
  have sc := sc__law_opened
  refine F.ok sc (fun vs H Q E h => ?_) (fun cdv A outer s H vs Q E hr h => ?_)
  · obtain ⟨_, _, rfl, _⟩ := h
    rfl
  obtain ⟨n, z, rfl, n0, z12, q⟩ := h
  refine ⟨_, (pss_cons (ps_set (i := 2) sc.nd rfl (Or.inl rfl) (pe_lst pa_nil))
      (pss_cons (ps_for PassesOwn.never rfl (pi_range1 rfl T.n_range (pa_cons (pv 1) pa_nil)) (pg_name (i := 3) sc.nd rfl (Or.inl rfl))
        (pss_cons (ps_expr (pe_bm PySem.F.plainAttrs_list PySem.F.slot_list_append PySem.F.type_list_append mt_append (pv 2) (pa_cons (pe_ix ix_list (pe_lst (pa_cons pe_str (pa_cons pe_str pa_nil))) (pe_op op_mod (pv 0) pe_int) (fun _ _ => rfl)) pa_nil)))
      (pss_one (ps_set (i := 0) sc.nd rfl (Or.inl rfl) (pe_op op_fdiv (pv 0) pe_int)))))
      (pss_one (ps_ret (pv 2))))), ?_⟩
  refine ⟨le_line (by show 0 ≤ 1000; decide), fun l nl => ?_⟩
  refine ⟨_, rfl, _, rfl, by omega, by omega, for_range (lo := 0) (n := ((z : Int)).toNat)
    (fun i σ H2 => ∃ (m : Int) (os : List Str) (o : Option V), σ = [some (.int m), some (.int (z : Int)), some (.ref l), o] ∧ 0 ≤ m ∧ os.length = i ∧ OsOk os ∧ H2 l = some (.lst (os.map V.str)) ∧ Same H H2)
    ⟨n, [], none, rfl, n0, rfl, (fun _ h => nomatch h), upd_same, same_new nl _⟩ ?_ ?_⟩
  · rintro i σ H2 hi ⟨m, os, o, rfl, m0, ll, ok, hl, s2⟩
    have i12 : i < 12 := by omega
    have nl2 : ∀ b o, H b = some o → b ≠ l := fun b o e => ne_of_none e nl
    refine ⟨_, rfl, .inl ⟨rfl, _, SqL.of hl⟩, le_line (by show 2 ≤ 1000; decide), fun pl npl => ⟨_, rfl, _, _, rfl, rfl, (by show (0 : Int) < 2; decide), ?_⟩⟩
    have hl3 := same_new npl (.lst [.str (Str.ofString "not"), .str (Str.ofString "(")]) _ _ hl
    have hp3 : upd H2 pl (.lst [.str (Str.ofString "not"), .str (Str.ofString "(")]) pl = some (.lst [.str (Str.ofString "not"), .str (Str.ofString "(")]) := upd_same
    have s3 := s2.trans (same_new npl (.lst [.str (Str.ofString "not"), .str (Str.ofString "(")]))
    generalize upd H2 pl (.lst [.str (Str.ofString "not"), .str (Str.ofString "(")]) = H3 at hl3 hp3 s3
    have fin : ∀ x : Str, x = sNot ∨ x = sOp → ∃ (m' : Int) (os' : List Str) (o' : Option V), [some (.int (m / 2)), some (.int (z : Int)), some (.ref l), some (V.int (0 + (i : Int)))] = [some (.int m'), some (.int (z : Int)), some (.ref l), o'] ∧ 0 ≤ m' ∧ os'.length = i + 1 ∧ OsOk os' ∧ upd H3 l (.lst (os.map V.str ++ [.str x])) l = some (.lst (os'.map V.str)) ∧ Same H (upd H3 l (.lst (os.map V.str ++ [.str x]))) := fun x hx => by
      refine ⟨m / 2, os ++ [x], some (.int (0 + (i : Int))), rfl, Int.ediv_nonneg m0 (by decide), (by rw [List.length_append, ll]; rfl), fun p hp => ?_, (by rw [upd_same, List.map_append]; rfl), same_upd nl s3⟩
      rcases List.mem_append.mp hp with hp | hp
      · exact ok p hp
      · rw [List.mem_singleton.mp hp]; exact hx
    have m2 : m % 2 = 0 ∨ m % 2 = 1 := by omega
    have sz : (os.map V.str).length < sizeLine := by rw [List.length_map, ll, sizeLine_eq]; omega
    rcases m2 with m2 | m2
    · exact ⟨pl, _, _, _, rfl, rfl, SqL.of hp3, (by rw [m2]; rfl), l, _, _, rfl, rfl, hl3, sz, _, rfl, _, _, rfl, rfl, ⟨by decide, by decide⟩, fin sNot (.inl rfl)⟩
    · exact ⟨pl, _, _, _, rfl, rfl, SqL.of hp3, (by rw [m2]; rfl), l, _, _, rfl, rfl, hl3, sz, _, rfl, _, _, rfl, rfl, ⟨by decide, by decide⟩, fin sOp (.inr rfl)⟩
  · rintro σ H2 ⟨m, os, o, rfl, m0, ll, ok, hl, s2⟩
    exact ⟨_, rfl, q l os H2 s2 nl (by rw [ll]; rfl) ok hl⟩

theorem sc__law_atom : FnScope ["_law_number", "_law_some"] ["_law_number"] (defScope s__law_atom) := ⟨rfl, rfl, rfl, by decide +kernel, rfl, by decide +kernel, by decide +kernel⟩
theorem ok__law_atom {f : Addr} {fd : FuncData} (F : Fun K "_law_atom" "_law_atom" s__law_atom f fd) (T : Txt K mg) : FnOk P w K mg base CX0 1 f fd ["_law_number"] spAtom := by
  have sc := sc__law_atom
  refine F.ok sc (fun vs H Q E h => ?_) (fun cdv A outer s H vs Q E hr h => ?_)
  · obtain ⟨_, rfl, _⟩ := h
    rfl
  obtain ⟨n, rfl, n0, q⟩ := h
  refine ⟨_, (pss_cons (ps_set (i := 1) sc.nd rfl (Or.inl rfl) (pe_lst (pa_cons (pe_tup (pa_cons (pe_lst (pa_cons pe_str pa_nil)) (pa_cons pe_bl pa_nil))) (pa_cons (pe_tup (pa_cons (pe_lst (pa_cons pe_str (pa_cons pe_str pa_nil))) (pa_cons pe_bl pa_nil))) (pa_cons (pe_tup (pa_cons (pe_lst (pa_cons pe_str (pa_cons pe_str pa_nil))) (pa_cons pe_bl pa_nil))) (pa_cons (pe_tup (pa_cons (pe_lst (pa_cons pe_str (pa_cons pe_str pa_nil))) (pa_cons pe_bl pa_nil))) pa_nil))))))
      (pss_cons (ps_set (i := 1) sc.nd rfl (Or.inl rfl) (pe_op op_cat (pv 1) (pe_lst (pa_cons (pe_tup (pa_cons (pe_lst (pa_cons pe_str (pa_cons pe_str (pa_cons pe_str pa_nil)))) (pa_cons pe_bl pa_nil))) (pa_cons (pe_tup (pa_cons (pe_lst (pa_cons pe_str (pa_cons pe_str (pa_cons pe_str pa_nil)))) (pa_cons pe_bl pa_nil))) (pa_cons (pe_tup (pa_cons (pe_lst (pa_cons pe_str (pa_cons pe_str pa_nil))) (pa_cons pe_bl pa_nil))) pa_nil))))))
      (pss_cons (ps_set (i := 1) sc.nd rfl (Or.inl rfl) (pe_op op_cat (pv 1) (pe_lst (pa_cons (pe_tup (pa_cons (pe_lst (pa_cons pe_str (pa_cons pe_str pa_nil))) (pa_cons pe_bl pa_nil))) (pa_cons (pe_tup (pa_cons (pe_lst (pa_cons pe_str (pa_cons pe_str pa_nil))) (pa_cons pe_bl pa_nil))) pa_nil)))))
      (pss_one (ps_ret (pe_ix ix_list (pv 1) (pe_op op_mod (pv 0) pe_int) (fun _ _ => rfl))))))), ?_⟩
  have S0 := Same.refl H
  refine ⟨le_line (by show 1 ≤ 1000; decide), fun a0 na0 => ⟨le_line (by show 2 ≤ 1000; decide), fun b0 nb0 => ?_⟩⟩
  have z0 := new_atom (v := true) S0 na0 nb0
  generalize upd (upd H a0 (.lst [V.str (Str.ofString "always")])) b0 (.tup [.ref a0, .bl true]) = H1 at z0
  obtain ⟨S1, s1, t0⟩ := z0
  refine ⟨le_line (by show 2 ≤ 1000; decide), fun a1 na1 => ⟨le_line (by show 2 ≤ 1000; decide), fun b1 nb1 => ?_⟩⟩
  have z1 := new_atom (v := true) S1 na1 nb1
  generalize upd (upd H1 a1 (.lst [V.str (Str.ofString "cause"), V.str (Str.ofString "hail")])) b1 (.tup [.ref a1, .bl true]) = H2 at z1
  obtain ⟨S2, s2, t1⟩ := z1
  replace t0 := t0.same s2
  refine ⟨le_line (by show 2 ≤ 1000; decide), fun a2 na2 => ⟨le_line (by show 2 ≤ 1000; decide), fun b2 nb2 => ?_⟩⟩
  have z2 := new_atom (v := false) S2 na2 nb2
  generalize upd (upd H2 a2 (.lst [V.str (Str.ofString "cause"), V.str (Str.ofString "not")])) b2 (.tup [.ref a2, .bl false]) = H3 at z2
  obtain ⟨S3, s3, t2⟩ := z2
  replace t0 := t0.same s3
  replace t1 := t1.same s3
  refine ⟨le_line (by show 2 ≤ 1000; decide), fun a3 na3 => ⟨le_line (by show 2 ≤ 1000; decide), fun b3 nb3 => ?_⟩⟩
  have z3 := new_atom (v := true) S3 na3 nb3
  generalize upd (upd H3 a3 (.lst [V.str (Str.ofString "thing"), V.str (Str.ofString "roof")])) b3 (.tup [.ref a3, .bl true]) = H4 at z3
  obtain ⟨S4, s4, t3⟩ := z3
  replace t0 := t0.same s4
  replace t1 := t1.same s4
  replace t2 := t2.same s4
  refine ⟨le_line (by show 4 ≤ 1000; decide), fun p0 np0 => ?_⟩
  have u0 := same_new np0 (.lst [V.ref b0, V.ref b1, V.ref b2, V.ref b3])
  have h0 : upd H4 p0 (.lst [V.ref b0, V.ref b1, V.ref b2, V.ref b3]) p0 = some (.lst [V.ref b0, V.ref b1, V.ref b2, V.ref b3]) := upd_same
  generalize upd H4 p0 (.lst [V.ref b0, V.ref b1, V.ref b2, V.ref b3]) = G0 at u0 h0
  replace t0 := t0.same u0
  replace t1 := t1.same u0
  replace t2 := t2.same u0
  replace t3 := t3.same u0
  have SS0 := S4.trans u0
  have hl := h0
  refine atG [some (.int n), some (.ref p0)] rfl ?_
  refine ⟨_, rfl, ?_⟩
  refine ⟨le_line (by show 3 ≤ 1000; decide), fun a4 na4 => ⟨le_line (by show 2 ≤ 1000; decide), fun b4 nb4 => ?_⟩⟩
  have z4 := new_atom (v := true) SS0 na4 nb4
  generalize upd (upd G0 a4 (.lst [V.str (Str.ofString "days"), V.str (Str.ofString "7"), V.str (Str.ofString "365")])) b4 (.tup [.ref a4, .bl true]) = H5 at z4
  obtain ⟨S5, s5, t4⟩ := z4
  replace t0 := t0.same s5
  replace t1 := t1.same s5
  replace t2 := t2.same s5
  replace t3 := t3.same s5
  replace hl := s5 _ _ hl
  refine ⟨le_line (by show 3 ≤ 1000; decide), fun a5 na5 => ⟨le_line (by show 2 ≤ 1000; decide), fun b5 nb5 => ?_⟩⟩
  have z5 := new_atom (v := false) S5 na5 nb5
  generalize upd (upd H5 a5 (.lst [V.str (Str.ofString "days"), V.str (Str.ofString "8"), V.str (Str.ofString "365")])) b5 (.tup [.ref a5, .bl false]) = H6 at z5
  obtain ⟨S6, s6, t5⟩ := z5
  replace t0 := t0.same s6
  replace t1 := t1.same s6
  replace t2 := t2.same s6
  replace t3 := t3.same s6
  replace t4 := t4.same s6
  replace hl := s6 _ _ hl
  refine ⟨le_line (by show 2 ≤ 1000; decide), fun a6 na6 => ⟨le_line (by show 2 ≤ 1000; decide), fun b6 nb6 => ?_⟩⟩
  have z6 := new_atom (v := true) S6 na6 nb6
  generalize upd (upd H6 a6 (.lst [V.str (Str.ofString "over"), V.str (Str.ofString "0.99")])) b6 (.tup [.ref a6, .bl true]) = H7 at z6
  obtain ⟨S7, s7, t6⟩ := z6
  replace t0 := t0.same s7
  replace t1 := t1.same s7
  replace t2 := t2.same s7
  replace t3 := t3.same s7
  replace t4 := t4.same s7
  replace t5 := t5.same s7
  replace hl := s7 _ _ hl
  refine ⟨le_line (by show 3 ≤ 1000; decide), fun p1 np1 => ?_⟩
  have u1 := same_new np1 (.lst [V.ref b4, V.ref b5, V.ref b6])
  have h1 : upd H7 p1 (.lst [V.ref b4, V.ref b5, V.ref b6]) p1 = some (.lst [V.ref b4, V.ref b5, V.ref b6]) := upd_same
  generalize upd H7 p1 (.lst [V.ref b4, V.ref b5, V.ref b6]) = G1 at u1 h1
  replace t0 := t0.same u1
  replace t1 := t1.same u1
  replace t2 := t2.same u1
  replace t3 := t3.same u1
  replace t4 := t4.same u1
  replace t5 := t5.same u1
  replace t6 := t6.same u1
  replace hl := u1 _ _ hl
  have SS1 := S7.trans u1
  refine ⟨p0, p1, _, _, rfl, rfl, hl, h1, le_line (by show 7 ≤ 1000; decide), fun c1 nc1 => ?_⟩
  have w1 := same_new nc1 (.lst ([V.ref b0, V.ref b1, V.ref b2, V.ref b3] ++ [V.ref b4, V.ref b5, V.ref b6]))
  have k1 : upd G1 c1 (.lst ([V.ref b0, V.ref b1, V.ref b2, V.ref b3] ++ [V.ref b4, V.ref b5, V.ref b6])) c1 = some (.lst [V.ref b0, V.ref b1, V.ref b2, V.ref b3, V.ref b4, V.ref b5, V.ref b6]) := upd_same
  generalize upd G1 c1 (.lst ([V.ref b0, V.ref b1, V.ref b2, V.ref b3] ++ [V.ref b4, V.ref b5, V.ref b6])) = M1 at w1 k1
  replace t0 := t0.same w1
  replace t1 := t1.same w1
  replace t2 := t2.same w1
  replace t3 := t3.same w1
  replace t4 := t4.same w1
  replace t5 := t5.same w1
  replace t6 := t6.same w1
  have SM1 := SS1.trans w1
  replace hl := k1
  refine atG [some (.int n), some (.ref c1)] rfl ?_
  refine ⟨_, rfl, ?_⟩
  refine ⟨le_line (by show 2 ≤ 1000; decide), fun a7 na7 => ⟨le_line (by show 2 ≤ 1000; decide), fun b7 nb7 => ?_⟩⟩
  have z7 := new_atom (v := false) SM1 na7 nb7
  generalize upd (upd M1 a7 (.lst [V.str (Str.ofString "over"), V.str (Str.ofString "1.00")])) b7 (.tup [.ref a7, .bl false]) = H8 at z7
  obtain ⟨S8, s8, t7⟩ := z7
  replace t0 := t0.same s8
  replace t1 := t1.same s8
  replace t2 := t2.same s8
  replace t3 := t3.same s8
  replace t4 := t4.same s8
  replace t5 := t5.same s8
  replace t6 := t6.same s8
  replace hl := s8 _ _ hl
  refine ⟨le_line (by show 2 ≤ 1000; decide), fun a8 na8 => ⟨le_line (by show 2 ≤ 1000; decide), fun b8 nb8 => ?_⟩⟩
  have z8 := new_atom (v := false) S8 na8 nb8
  generalize upd (upd H8 a8 (.lst [V.str (Str.ofString "thing"), V.str (Str.ofString "roo")])) b8 (.tup [.ref a8, .bl false]) = H9 at z8
  obtain ⟨S9, s9, t8⟩ := z8
  replace t0 := t0.same s9
  replace t1 := t1.same s9
  replace t2 := t2.same s9
  replace t3 := t3.same s9
  replace t4 := t4.same s9
  replace t5 := t5.same s9
  replace t6 := t6.same s9
  replace t7 := t7.same s9
  replace hl := s9 _ _ hl
  refine ⟨le_line (by show 2 ≤ 1000; decide), fun p2 np2 => ?_⟩
  have u2 := same_new np2 (.lst [V.ref b7, V.ref b8])
  have h2 : upd H9 p2 (.lst [V.ref b7, V.ref b8]) p2 = some (.lst [V.ref b7, V.ref b8]) := upd_same
  generalize upd H9 p2 (.lst [V.ref b7, V.ref b8]) = G2 at u2 h2
  replace t0 := t0.same u2
  replace t1 := t1.same u2
  replace t2 := t2.same u2
  replace t3 := t3.same u2
  replace t4 := t4.same u2
  replace t5 := t5.same u2
  replace t6 := t6.same u2
  replace t7 := t7.same u2
  replace t8 := t8.same u2
  replace hl := u2 _ _ hl
  have SS2 := S9.trans u2
  refine ⟨c1, p2, _, _, rfl, rfl, hl, h2, le_line (by show 9 ≤ 1000; decide), fun c2 nc2 => ?_⟩
  have w2 := same_new nc2 (.lst ([V.ref b0, V.ref b1, V.ref b2, V.ref b3, V.ref b4, V.ref b5, V.ref b6] ++ [V.ref b7, V.ref b8]))
  have k2 : upd G2 c2 (.lst ([V.ref b0, V.ref b1, V.ref b2, V.ref b3, V.ref b4, V.ref b5, V.ref b6] ++ [V.ref b7, V.ref b8])) c2 = some (.lst [V.ref b0, V.ref b1, V.ref b2, V.ref b3, V.ref b4, V.ref b5, V.ref b6, V.ref b7, V.ref b8]) := upd_same
  generalize upd G2 c2 (.lst ([V.ref b0, V.ref b1, V.ref b2, V.ref b3, V.ref b4, V.ref b5, V.ref b6] ++ [V.ref b7, V.ref b8])) = M2 at w2 k2
  replace t0 := t0.same w2
  replace t1 := t1.same w2
  replace t2 := t2.same w2
  replace t3 := t3.same w2
  replace t4 := t4.same w2
  replace t5 := t5.same w2
  replace t6 := t6.same w2
  replace t7 := t7.same w2
  replace t8 := t8.same w2
  have SM2 := SS2.trans w2
  replace hl := k2
  refine atG [some (.int n), some (.ref c2)] rfl ?_
  have n9 : n % 9 = 0 ∨ n % 9 = 1 ∨ n % 9 = 2 ∨ n % 9 = 3 ∨ n % 9 = 4 ∨ n % 9 = 5 ∨ n % 9 = 6 ∨ n % 9 = 7 ∨ n % 9 = 8 := by omega
  have nm : ∀ {l : List Nat}, NameL l → nmOk (tx l) := fun h => ⟨_, rfl, h⟩
  rcases n9 with e | e | e | e | e | e | e | e | e
  · obtain ⟨l, l0, l1, l2⟩ := t0
    have ew : wordsC (.alw) = [Str.ofString "always"] := atomW0
    refine ⟨_, rfl, _, rfl, _, _, rfl, rfl, (by show (0 : Int) < 9; decide), c2, _, _, _, rfl, rfl, SqL.of hl, (by rw [e]; rfl), q b0 l (.alw) _ SM2 l0 ?_ (by rw [ew]; exact l2) atomOk0⟩
    have eh : holdsC (.alw) x28 = true := by decide +kernel
    rw [eh]; exact l1
  · obtain ⟨l, l0, l1, l2⟩ := t1
    have ew : wordsC (.cau (Str.ofString "hail")) = [Str.ofString "cause", Str.ofString "hail"] := atomW1
    refine ⟨_, rfl, _, rfl, _, _, rfl, rfl, (by show (0 : Int) < 9; decide), c2, _, _, _, rfl, rfl, SqL.of hl, (by rw [e]; rfl), q b1 l (.cau (Str.ofString "hail")) _ SM2 l0 ?_ (by rw [ew]; exact l2) atomOk1⟩
    have eh : holdsC (.cau (Str.ofString "hail")) x28 = true := by decide +kernel
    rw [eh]; exact l1
  · obtain ⟨l, l0, l1, l2⟩ := t2
    have ew : wordsC (.cau (Str.ofString "not")) = [Str.ofString "cause", Str.ofString "not"] := atomW2
    refine ⟨_, rfl, _, rfl, _, _, rfl, rfl, (by show (0 : Int) < 9; decide), c2, _, _, _, rfl, rfl, SqL.of hl, (by rw [e]; rfl), q b2 l (.cau (Str.ofString "not")) _ SM2 l0 ?_ (by rw [ew]; exact l2) atomOk2⟩
    have eh : holdsC (.cau (Str.ofString "not")) x28 = false := by decide +kernel
    rw [eh]; exact l1
  · obtain ⟨l, l0, l1, l2⟩ := t3
    have ew : wordsC (.thi (Str.ofString "roof")) = [Str.ofString "thing", Str.ofString "roof"] := atomW3
    refine ⟨_, rfl, _, rfl, _, _, rfl, rfl, (by show (0 : Int) < 9; decide), c2, _, _, _, rfl, rfl, SqL.of hl, (by rw [e]; rfl), q b3 l (.thi (Str.ofString "roof")) _ SM2 l0 ?_ (by rw [ew]; exact l2) atomOk3⟩
    have eh : holdsC (.thi (Str.ofString "roof")) x28 = true := by decide +kernel
    rw [eh]; exact l1
  · obtain ⟨l, l0, l1, l2⟩ := t4
    have ew : wordsC (.day 7 365) = [Str.ofString "days", Str.ofString "7", Str.ofString "365"] := atomW4
    refine ⟨_, rfl, _, rfl, _, _, rfl, rfl, (by show (0 : Int) < 9; decide), c2, _, _, _, rfl, rfl, SqL.of hl, (by rw [e]; rfl), q b4 l (.day 7 365) _ SM2 l0 ?_ (by rw [ew]; exact l2) atomOk4⟩
    have eh : holdsC (.day 7 365) x28 = true := by decide +kernel
    rw [eh]; exact l1
  · obtain ⟨l, l0, l1, l2⟩ := t5
    have ew : wordsC (.day 8 365) = [Str.ofString "days", Str.ofString "8", Str.ofString "365"] := atomW5
    refine ⟨_, rfl, _, rfl, _, _, rfl, rfl, (by show (0 : Int) < 9; decide), c2, _, _, _, rfl, rfl, SqL.of hl, (by rw [e]; rfl), q b5 l (.day 8 365) _ SM2 l0 ?_ (by rw [ew]; exact l2) atomOk5⟩
    have eh : holdsC (.day 8 365) x28 = false := by decide +kernel
    rw [eh]; exact l1
  · obtain ⟨l, l0, l1, l2⟩ := t6
    have ew : wordsC (.ovr 99) = [Str.ofString "over", Str.ofString "0.99"] := atomW6
    refine ⟨_, rfl, _, rfl, _, _, rfl, rfl, (by show (0 : Int) < 9; decide), c2, _, _, _, rfl, rfl, SqL.of hl, (by rw [e]; rfl), q b6 l (.ovr 99) _ SM2 l0 ?_ (by rw [ew]; exact l2) atomOk6⟩
    have eh : holdsC (.ovr 99) x28 = true := by decide +kernel
    rw [eh]; exact l1
  · obtain ⟨l, l0, l1, l2⟩ := t7
    have ew : wordsC (.ovr 100) = [Str.ofString "over", Str.ofString "1.00"] := atomW7
    refine ⟨_, rfl, _, rfl, _, _, rfl, rfl, (by show (0 : Int) < 9; decide), c2, _, _, _, rfl, rfl, SqL.of hl, (by rw [e]; rfl), q b7 l (.ovr 100) _ SM2 l0 ?_ (by rw [ew]; exact l2) atomOk7⟩
    have eh : holdsC (.ovr 100) x28 = false := by decide +kernel
    rw [eh]; exact l1
  · obtain ⟨l, l0, l1, l2⟩ := t8
    have ew : wordsC (.thi (Str.ofString "roo")) = [Str.ofString "thing", Str.ofString "roo"] := atomW8
    refine ⟨_, rfl, _, rfl, _, _, rfl, rfl, (by show (0 : Int) < 9; decide), c2, _, _, _, rfl, rfl, SqL.of hl, (by rw [e]; rfl), q b8 l (.thi (Str.ofString "roo")) _ SM2 l0 ?_ (by rw [ew]; exact l2) atomOk8⟩
    have eh : holdsC (.thi (Str.ofString "roo")) x28 = false := by decide +kernel
    rw [eh]; exact l1
end


def spPart (K : PySem.W.Frag) : Sp := fun vs H Q _ => ∃ a ns, ∃ k : Int, vs = [.ref a, .int k] ∧ SqL K H a (List.map V.int ns) ∧ 0 ≤ k ∧ k ≤ 100 ∧ ns.length ≤ 63 ∧ ∀ H', Same H H' → Q (.bl true) H'
theorem cntO (os : List Str) : ((os.map V.str).countP fun z => eqV z (.str (Str.ofString "("))) = nO os := by unfold nO; rw [List.countP_map]; rfl
theorem cntN (os : List Str) : ((os.map V.str).countP fun z => eqV z (.str (Str.ofString "not"))) = nN os := by unfold nN; rw [List.countP_map]; rfl
theorem nO_le (os : List Str) : nO os ≤ os.length := List.countP_le_length
theorem flat_str : ∀ xs : List Str, (xs.map V.str).all flatV = true
  | [] => rfl
  | x :: xs => by rw [List.map_cons, List.all_cons, flat_str xs]; rfl
theorem rep_str (x : Str) : ∀ k : Nat, (List.replicate k [V.str x]).flatten = (List.replicate k x).map V.str
  | 0 => rfl
  | k + 1 => by rw [List.replicate_succ, List.flatten_cons, rep_str x k, List.replicate_succ, List.map_cons]; rfl
theorem wordsC_len (c : Co) : 1 ≤ (wordsC c).length ∧ (wordsC c).length ≤ 3 := by cases c <;> simp [wordsC]
theorem okW_os {os : List Str} (h : OsOk os) : ∀ w ∈ os, okW w := fun w hw => by
  rcases h w hw with rfl | rfl
  · exact ⟨by decide +kernel, by decide +kernel⟩
  · exact ⟨by decide +kernel, by decide +kernel⟩
theorem okW_rep (k : Nat) : ∀ w ∈ List.replicate k sCl, okW w := fun w hw => by
  rw [List.eq_of_mem_replicate hw]
  exact ⟨by decide +kernel, by decide +kernel⟩
theorem okW_app {a b : List Str} (h1 : ∀ w ∈ a, okW w) (h2 : ∀ w ∈ b, okW w) : ∀ w ∈ a ++ b, okW w := fun w hw => by
  rcases List.mem_append.mp hw with hw | hw
  · exact h1 w hw
  · exact h2 w hw
theorem map3 (a b c : List Str) : a.map V.str ++ b.map V.str ++ c.map V.str = (a ++ b ++ c).map V.str := by rw [List.map_append, List.map_append]
theorem map2 (a b : List Str) : a.map V.str ++ b.map V.str = (a ++ b).map V.str := by rw [List.map_append]
theorem even_eq {b : Bool} {n : Nat} : decide (V.bl b = V.bl (decide (V.int ((n : Int) % 2) = V.int 0))) = (b == decide (n % 2 = 0)) := by
  have e : decide (V.int ((n : Int) % 2) = V.int 0) = decide (n % 2 = 0) := by
    by_cases c : n % 2 = 0
    · rw [decide_eq_true c, decide_eq_true]
      have : (n : Int) % 2 = 0 := by omega
      rw [this]
    · rw [decide_eq_false c, decide_eq_false]
      intro z
      have := V.int.inj z
      omega
  rw [e]
  cases b <;> cases decide (n % 2 = 0) <;> rfl
theorem nest_val {os : List Str} {t : Cnd} {b : Bool} (ok : OsOk os) (h : hT t x28 = b) : (hT (wrap os t) x28 == (b == decide (nN os % 2 = 0))) = true := by
  rw [wrap_hT x28 ok t, h]
  simp
section
seal L2.PS L2.PSs L2.PE L2.PA
variable {P : Program} {w : World} {K : PySem.W.Frag} {mg : Str → Option Value} {base : Heap}
theorem sc__law_nested : FnScope ["_law_script", "_law_k", "_law_cell_here", "_law_size", "_law_ahead", "_law_words", "_law_due", "_law_closing", "_law_some", "_law_text"] ["_law_script", "_law_k"] (defScope s__law_nested) := ⟨rfl, rfl, rfl, by decide +kernel, rfl, by decide +kernel, by decide +kernel⟩
theorem ok__law_nested {f : Addr} {fd : FuncData} (F : Fun K "_law_nested" "_law_nested" s__law_nested f fd) (T : Txt K mg) (C_law_cell : Cal P w K mg base 1 "_law_cell" ["_law_script", "_law_k"] (spCellN K)) (C_law_mix : Cal P w K mg base 1 "_law_mix" ["_law_number", "_law_k"] spMix)
    (C_law_opened : Cal P w K mg base 1 "_law_opened" ["_law_number", "_law_size"] spOpened) (C_law_atom : Cal P w K mg base 1 "_law_atom" ["_law_number"] spAtom) (C_law_refused : Cal P w K mg base 42 "_law_refused" ["_law_thing"] spRef) (C_law_refused_at : Cal P w K mg base 43 "_law_refused_at" ["_law_thing", "_law_due"] spRefAt)
    (C_law_holds : Cal P w K mg base 42 "_law_holds" ["_law_text"] spHold) (C_law_truth : Cal P w K mg base 1 "_law_truth" ["_law_found", "_law_due"] spTruth) : FnOk P w K mg base CX0 44 f fd ["_law_script", "_law_k"] (spPart K) := by
  have sc := sc__law_nested
  refine F.ok sc (fun vs H Q E h => ?_) (fun cdv A outer s H vs Q E hr h => ?_)
  · obtain ⟨_, _, _, rfl, _⟩ := h
    rfl
  have hu64 := room_64 hr
  obtain ⟨a, ns, k, rfl, ha, k0, k1, h63, q⟩ := h
  refine ⟨_, (pss_cons (ps_set (i := 2) sc.nd rfl (Or.inl rfl) (pe_callC C_law_cell (hr.mono (by decide)) rfl (pa_cons (pv 0) (pa_cons (pv 1) pa_nil))))
      (pss_cons (ps_set (i := 3) sc.nd rfl (Or.inl rfl) (pe_op op_mod (pv 2) pe_int))
      (pss_cons (ps_set (i := 4) sc.nd rfl (Or.inl rfl) (pe_callC C_law_opened (hr.mono (by decide)) rfl (pa_cons (pe_callC C_law_mix (hr.mono (by decide)) rfl (pa_cons (pv 2) (pa_cons (pv 1) pa_nil))) (pa_cons (pv 3) pa_nil))))
      (pss_cons (ps_asg (pe_callC C_law_atom (hr.mono (by decide)) rfl (pa_cons (pe_callC C_law_cell (hr.mono (by decide)) rfl (pa_cons (pv 0) (pa_cons (pe_op op_add (pv 1) pe_int) pa_nil))) pa_nil)) (pg_tup (n := 2) rfl (pgs_cons (pg_name (i := 5) sc.nd rfl (Or.inl rfl)) (pgs_cons (pg_name (i := 6) sc.nd rfl (Or.inl rfl)) pgs_nil))))
      (pss_cons (ps_set (i := 7) sc.nd rfl (Or.inl rfl) (pe_op op_rep (pe_lst (pa_cons pe_str pa_nil)) (pe_bm PySem.F.plainAttrs_list PySem.F.slot_list_count PySem.F.type_list_count mt_count (pv 4) (pa_cons pe_str pa_nil))))
      (pss_cons (ps_if (PW.pt (pw_and (pt_cmpR op_lt (pv 3) pe_int (nomark _)) (pw_and1 (pt_cmpR op_eq (pe_op op_mod (pe_op op_fdiv (pv 2) pe_int) pe_int) pe_int (nomark _)))))
        (pss_cons (ps_set (i := 8) sc.nd rfl (Or.inl rfl) (pe_ix ix_list (pe_lst (pa_cons (pe_lst (pa_cons pe_str (pa_cons pe_str pa_nil))) (pa_cons (pe_lst (pa_cons pe_str (pa_cons pe_str (pa_cons pe_str pa_nil)))) (pa_cons (pe_lst (pa_cons pe_str pa_nil)) (pa_cons (pe_lst (pa_cons pe_str pa_nil)) pa_nil))))) (pe_op op_mod (pe_op op_fdiv (pv 2) pe_int) pe_int) (fun _ _ => rfl)))
      (pss_one (ps_ret (pe_callC C_law_refused_at (hr.mono (by decide)) rfl (pa_cons (pe_bm PySem.F.plainAttrs_str PySem.F.slot_str_join PySem.F.type_str_join mt_joinA pe_str (pa_cons (pe_op op_cat (pe_op op_cat (pv 4) (pv 5)) (pv 8)) pa_nil)) (pa_cons (pe_op op_add (pv 3) (pe_callB call_len_seq rfl T.n_len (show bootBuiltins _ = some (.builtin "len") from rfl) (pa_cons (pv 5) pa_nil))) pa_nil))))))
        pss_nil)
      (pss_cons (ps_if (pt_cmpR op_gt (pv 3) pe_int (nomark _))
        (pss_cons (ps_set (i := 8) sc.nd rfl (Or.inl rfl) (pe_lst (pa_cons (pe_op op_cat (pv 5) (pv 7)) (pa_cons (pv 5) (pa_cons (pe_lst (pa_cons pe_str pa_nil)) (pa_cons (pe_lst (pa_cons pe_str pa_nil)) (pa_cons (pe_lst pa_nil) (pa_cons (pe_lst (pa_cons pe_str (pa_cons pe_str pa_nil))) (pa_cons (pe_op op_cat (pe_op op_cat (pv 5) (pv 7)) (pe_lst (pa_cons pe_str pa_nil))) pa_nil)))))))))
      (pss_cons (ps_set (i := 9) sc.nd rfl (Or.inl rfl) (pe_bm PySem.F.plainAttrs_str PySem.F.slot_str_join PySem.F.type_str_join mt_joinA pe_str (pa_cons (pe_op op_cat (pv 4) (pe_ix ix_list (pv 8) (pe_op op_mod (pe_op op_fdiv (pv 2) pe_int) pe_int) (fun _ _ => rfl))) pa_nil)))
      (pss_one (ps_ret (pe_cmpR (op_eqD (K := K) hu64) (pe_callC C_law_refused (hr.mono (by decide)) rfl (pa_cons (pv 9) pa_nil)) (pe_tup (pa_cons pe_str pa_nil)) (nomark _))))))
        pss_nil)
      (pss_cons (ps_set (i := 9) sc.nd rfl (Or.inl rfl) (pe_bm PySem.F.plainAttrs_str PySem.F.slot_str_join PySem.F.type_str_join mt_joinA pe_str (pa_cons (pe_op op_cat (pe_op op_cat (pv 4) (pv 5)) (pv 7)) pa_nil)))
      (pss_one (ps_ret (pe_callC C_law_truth (hr.mono (by decide)) rfl (pa_cons (pe_callC C_law_holds (hr.mono (by decide)) rfl (pa_cons (pv 9) pa_nil)) (pa_cons (pe_cmpR op_eq (pv 6) (pe_cmpR op_eq (pe_op op_mod (pe_bm PySem.F.plainAttrs_list PySem.F.slot_list_count PySem.F.type_list_count mt_count (pv 4) (pa_cons pe_str pa_nil)) pe_int) pe_int (nomark _)) (nomark _)) pa_nil))))))))))))), ?_⟩
  refine ⟨_, rfl, _, rfl, a, ns, k, rfl, ha, by omega, by omega, h63, fun v v0 v1 => ?_⟩
  refine atG [some (.ref a), some (.int k), some (.int v), none, none, none, none, none, none, none] rfl ?_
  refine ⟨_, rfl, _, _, rfl, rfl, (by show (0 : Int) < 13; decide), ?_⟩
  obtain ⟨z, hz⟩ : ∃ z : Nat, v % 13 = (z : Int) := Int.eq_ofNat_of_zero_le (Int.emod_nonneg _ (by decide))
  have z12 : z ≤ 12 := by omega
  refine atG [some (.ref a), some (.int k), some (.int v), some (.int (z : Int)), none, none, none, none, none, none] (by rw [← hz]; rfl) ?_
  refine ⟨_, rfl, _, rfl, v, k, rfl, v0, by omega, k0, by omega, fun m m0 m1 => ⟨_, rfl, m, z, rfl, m0, z12, fun l os H1 s1 l0 lz ok hl => ?_⟩⟩
  refine atG [some (.ref a), some (.int k), some (.int v), some (.int (z : Int)), some (.ref l), none, none, none, none, none] rfl ?_
  refine ⟨_, rfl, _, rfl, _, _, rfl, rfl, a, ns, k + 1, rfl, s1.seq ha, by omega, by omega, h63, fun v2 v20 v21 => ⟨v2, rfl, v20, fun p la c H2 s2 la0 hp hla okc => ?_⟩⟩
  refine ⟨p, _, rfl, SqT.of hp, rfl, _, _, rfl, ?_⟩
  refine atG [some (.ref a), some (.int k), some (.int v), some (.int (z : Int)), some (.ref l), some (.ref la), none, none, none, none] rfl ?_
  refine ⟨_, _, rfl, ?_⟩
  refine atG [some (.ref a), some (.int k), some (.int v), some (.int (z : Int)), some (.ref l), some (.ref la), some (.bl (holdsC c x28)), none, none, none] rfl ?_
  refine ⟨rfl, ?_⟩
  replace hl := s2 _ _ hl
  have S0 := s1.trans s2
  have no := nO_le os
  have wl := wordsC_len c
  have okc' := okW_C c okc
  have lz' : os.length = z := lz
  have spc : Sp8 0 (wordsC c) (.at c) 0 := .leaf okc
  refine ⟨le_line (by show 1 ≤ 1000; decide), fun d0 nd0 => ?_⟩
  have ud0 := same_new nd0 (.lst [V.str (Str.ofString ")")])
  have hd0 : upd H2 d0 (.lst [V.str (Str.ofString ")")]) d0 = some (.lst [V.str (Str.ofString ")")]) := upd_same
  generalize upd H2 d0 (.lst [V.str (Str.ofString ")")]) = X1 at ud0 hd0
  replace hl := ud0 _ _ hl
  replace hla := ud0 _ _ hla
  have S1 := S0.trans ud0
  refine ⟨_, rfl, .inl ⟨rfl, _, SqL.of hl⟩, l, _, _, rfl, rfl, SqL.of hl, rfl, flat_str os, d0, _, _, rfl, rfl, hd0, ?_⟩
  rw [cntO]
  refine ⟨by omega, by omega, (by rw [Int.toNat_natCast, sizeLine_eq]; show 1 * nO os ≤ _; omega), fun d1 nd1 => ?_⟩
  rw [Int.toNat_natCast, rep_str]
  have ud1 := same_new nd1 (.lst ((List.replicate (nO os) (Str.ofString ")")).map V.str))
  have hd1 : upd X1 d1 (.lst ((List.replicate (nO os) (Str.ofString ")")).map V.str)) d1 = some (.lst ((List.replicate (nO os) (Str.ofString ")")).map V.str)) := upd_same
  generalize upd X1 d1 (.lst ((List.replicate (nO os) (Str.ofString ")")).map V.str)) = X2 at ud1 hd1
  replace hl := ud1 _ _ hl
  replace hla := ud1 _ _ hla
  replace hd0 := ud1 _ _ hd0
  have S2 := S1.trans ud1
  refine atG [some (.ref a), some (.int k), some (.int v), some (.int (z : Int)), some (.ref l), some (.ref la), some (.bl (holdsC c x28)), some (.ref d1), none, none] rfl ?_
  by_cases c1 : (z : Int) < 7 ∧ v / 13 % 3 = 1
  · refine ⟨_, rfl, _, _, rfl, rfl, _, rfl, dT c1.1 ⟨_, rfl, _, _, rfl, rfl, ⟨by decide, by decide⟩, _, _, rfl, rfl, (by show (0 : Int) < 3; decide), rfl, _, rfl, dT (congrArg V.int c1.2) ?_⟩⟩
    refine ⟨le_line (by show 2 ≤ 1000; decide), fun e0 ne0 => ?_⟩
    have ue0 := same_new ne0 (.lst [V.str (Str.ofString "not"), V.str (Str.ofString "always")])
    have he0 : upd X2 e0 (.lst [V.str (Str.ofString "not"), V.str (Str.ofString "always")]) e0 = some (.lst [V.str (Str.ofString "not"), V.str (Str.ofString "always")]) := upd_same
    generalize upd X2 e0 (.lst [V.str (Str.ofString "not"), V.str (Str.ofString "always")]) = X3 at ue0 he0
    replace hl := ue0 _ _ hl
    replace hla := ue0 _ _ hla
    replace hd0 := ue0 _ _ hd0
    replace hd1 := ue0 _ _ hd1
    have S3 := S2.trans ue0
    refine ⟨le_line (by show 3 ≤ 1000; decide), fun e1 ne1 => ?_⟩
    have ue1 := same_new ne1 (.lst [V.str (Str.ofString "("), V.str (Str.ofString "always"), V.str (Str.ofString ")")])
    have he1 : upd X3 e1 (.lst [V.str (Str.ofString "("), V.str (Str.ofString "always"), V.str (Str.ofString ")")]) e1 = some (.lst [V.str (Str.ofString "("), V.str (Str.ofString "always"), V.str (Str.ofString ")")]) := upd_same
    generalize upd X3 e1 (.lst [V.str (Str.ofString "("), V.str (Str.ofString "always"), V.str (Str.ofString ")")]) = X4 at ue1 he1
    replace hl := ue1 _ _ hl
    replace hla := ue1 _ _ hla
    replace hd0 := ue1 _ _ hd0
    replace hd1 := ue1 _ _ hd1
    replace he0 := ue1 _ _ he0
    have S4 := S3.trans ue1
    refine ⟨le_line (by show 1 ≤ 1000; decide), fun e2 ne2 => ?_⟩
    have ue2 := same_new ne2 (.lst [V.str (Str.ofString "not")])
    have he2 : upd X4 e2 (.lst [V.str (Str.ofString "not")]) e2 = some (.lst [V.str (Str.ofString "not")]) := upd_same
    generalize upd X4 e2 (.lst [V.str (Str.ofString "not")]) = X5 at ue2 he2
    replace hl := ue2 _ _ hl
    replace hla := ue2 _ _ hla
    replace hd0 := ue2 _ _ hd0
    replace hd1 := ue2 _ _ hd1
    replace he0 := ue2 _ _ he0
    replace he1 := ue2 _ _ he1
    have S5 := S4.trans ue2
    refine ⟨le_line (by show 1 ≤ 1000; decide), fun e3 ne3 => ?_⟩
    have ue3 := same_new ne3 (.lst [V.str (Str.ofString "(")])
    have he3 : upd X5 e3 (.lst [V.str (Str.ofString "(")]) e3 = some (.lst [V.str (Str.ofString "(")]) := upd_same
    generalize upd X5 e3 (.lst [V.str (Str.ofString "(")]) = X6 at ue3 he3
    replace hl := ue3 _ _ hl
    replace hla := ue3 _ _ hla
    replace hd0 := ue3 _ _ hd0
    replace hd1 := ue3 _ _ hd1
    replace he0 := ue3 _ _ he0
    replace he1 := ue3 _ _ he1
    replace he2 := ue3 _ _ he2
    have S6 := S5.trans ue3
    refine ⟨le_line (by show 4 ≤ 1000; decide), fun e4 ne4 => ?_⟩
    have ue4 := same_new ne4 (.lst [V.ref e0, .ref e1, .ref e2, .ref e3])
    have he4 : upd X6 e4 (.lst [V.ref e0, .ref e1, .ref e2, .ref e3]) e4 = some (.lst [V.ref e0, .ref e1, .ref e2, .ref e3]) := upd_same
    generalize upd X6 e4 (.lst [V.ref e0, .ref e1, .ref e2, .ref e3]) = X7 at ue4 he4
    replace hl := ue4 _ _ hl
    replace hla := ue4 _ _ hla
    replace hd0 := ue4 _ _ hd0
    replace hd1 := ue4 _ _ hd1
    replace he0 := ue4 _ _ he0
    replace he1 := ue4 _ _ he1
    replace he2 := ue4 _ _ he2
    replace he3 := ue4 _ _ he3
    have S7 := S6.trans ue4
    have key : ∃ (g : Addr) (y : Str) (post : List Str), atI [V.ref e0, .ref e1, .ref e2, .ref e3] (v / 39 % 4) = some (.ref g) ∧ X7 g = some (.lst ((y :: post).map V.str)) ∧ (y = sNot ∨ y = sOp) ∧ post.length ≤ 2 ∧ ∀ w ∈ y :: post, okW w := by
      have i4 : v / 39 % 4 = 0 ∨ v / 39 % 4 = 1 ∨ v / 39 % 4 = 2 ∨ v / 39 % 4 = 3 := by omega
      have okl : ∀ w ∈ [Str.ofString "not", Str.ofString "always", Str.ofString "(", Str.ofString ")"], okW w := by
        intro w hw
        simp only [List.mem_cons, List.not_mem_nil, or_false] at hw
        rcases hw with rfl | rfl | rfl | rfl <;> exact ⟨by decide +kernel, by decide +kernel⟩
      rcases i4 with i | i | i | i
      · exact ⟨e0, Str.ofString "not", [Str.ofString "always"], by rw [i]; rfl, he0, .inl rfl, by decide, fun w hw => okl w (by simp only [List.mem_cons, List.not_mem_nil, or_false] at hw ⊢; first | (rcases hw with rfl | rfl | rfl <;> simp) | (rcases hw with rfl | rfl <;> simp) | (rcases hw with rfl <;> simp))⟩
      · exact ⟨e1, Str.ofString "(", [Str.ofString "always", Str.ofString ")"], by rw [i]; rfl, he1, .inr rfl, by decide, fun w hw => okl w (by simp only [List.mem_cons, List.not_mem_nil, or_false] at hw ⊢; first | (rcases hw with rfl | rfl | rfl <;> simp) | (rcases hw with rfl | rfl <;> simp) | (rcases hw with rfl <;> simp))⟩
      · exact ⟨e2, Str.ofString "not", [], by rw [i]; rfl, he2, .inl rfl, by decide, fun w hw => okl w (by simp only [List.mem_cons, List.not_mem_nil, or_false] at hw ⊢; first | (rcases hw with rfl | rfl | rfl <;> simp) | (rcases hw with rfl | rfl <;> simp) | (rcases hw with rfl <;> simp))⟩
      · exact ⟨e3, Str.ofString "(", [], by rw [i]; rfl, he3, .inr rfl, by decide, fun w hw => okl w (by simp only [List.mem_cons, List.not_mem_nil, or_false] at hw ⊢; first | (rcases hw with rfl | rfl | rfl <;> simp) | (rcases hw with rfl | rfl <;> simp) | (rcases hw with rfl <;> simp))⟩
    obtain ⟨g, y, post, hg, hgl, hy, pl2, okp⟩ := key
    refine ⟨_, rfl, _, _, rfl, rfl, ⟨by decide, by decide⟩, _, _, rfl, rfl, (by show (0 : Int) < 4; decide), e4, _, _, _, rfl, rfl, SqL.of he4, hg, ?_⟩
    refine atG [some (.ref a), some (.int k), some (.int v), some (.int (z : Int)), some (.ref l), some (.ref la), some (.bl (holdsC c x28)), some (.ref d1), some (.ref g), none] rfl ?_
    refine ⟨rfl, _, rfl, _, rfl, l, la, _, _, rfl, rfl, hl, hla, (by rw [List.length_map, List.length_map, sizeLine_eq]; omega), fun e5 ne5 => ?_⟩
    have ue5 := same_new ne5 (.lst (os.map V.str ++ (wordsC c).map V.str))
    have he5 : upd X7 e5 (.lst (os.map V.str ++ (wordsC c).map V.str)) e5 = some (.lst (os.map V.str ++ (wordsC c).map V.str)) := upd_same
    generalize upd X7 e5 (.lst (os.map V.str ++ (wordsC c).map V.str)) = X8 at ue5 he5
    replace hl := ue5 _ _ hl
    replace hla := ue5 _ _ hla
    replace hd0 := ue5 _ _ hd0
    replace hd1 := ue5 _ _ hd1
    replace he0 := ue5 _ _ he0
    replace he1 := ue5 _ _ he1
    replace he2 := ue5 _ _ he2
    replace he3 := ue5 _ _ he3
    replace he4 := ue5 _ _ he4
    replace hgl := ue5 _ _ hgl
    have S8 := S7.trans ue5
    refine ⟨_, rfl, e5, g, _, _, rfl, rfl, he5, hgl, (by rw [List.length_append, List.length_map, List.length_map, List.length_map, List.length_cons, sizeLine_eq]; omega), fun e6 ne6 => ?_⟩
    rw [map3]
    have ue6 := same_new ne6 (.lst ((os ++ wordsC c ++ y :: post).map V.str))
    have he6 : upd X8 e6 (.lst ((os ++ wordsC c ++ y :: post).map V.str)) e6 = some (.lst ((os ++ wordsC c ++ y :: post).map V.str)) := upd_same
    generalize upd X8 e6 (.lst ((os ++ wordsC c ++ y :: post).map V.str)) = X9 at ue6 he6
    replace hl := ue6 _ _ hl
    replace hla := ue6 _ _ hla
    replace hd0 := ue6 _ _ hd0
    replace hd1 := ue6 _ _ hd1
    replace he0 := ue6 _ _ he0
    replace he1 := ue6 _ _ he1
    replace he2 := ue6 _ _ he2
    replace he3 := ue6 _ _ he3
    replace he4 := ue6 _ _ he4
    replace hgl := ue6 _ _ hgl
    replace he5 := ue6 _ _ he5
    have S9 := S8.trans ue6
    have tl : (os ++ wordsC c ++ y :: post).length = os.length + (wordsC c).length + (post.length + 1) := by rw [List.length_append, List.length_append, List.length_cons]
    have okw : ∀ w ∈ os ++ wordsC c ++ y :: post, okW w := okW_app (okW_app (okW_os ok) okc') okp
    refine ⟨_, e6, os ++ wordsC c ++ y :: post, rfl, rfl, SqL.of he6, by omega, by omega, (by decide +kernel), (fun w hw => by have := (okw w hw).2; omega), ?_⟩
    refine ⟨_, rfl, _, rfl, la, _, rfl, .inl (SqL.of hla), _, _, rfl, rfl, ?_⟩
    have en : ((z : Int) + (((wordsC c).map V.str).length : Int)) = ((os.length + (wordsC c).length : Nat) : Int) := by rw [List.length_map, lz']; omega
    refine ⟨os ++ wordsC c ++ y :: post, os.length + (wordsC c).length, (by rw [← en]; rfl), (fun z => by rw [z, List.length_nil] at tl; omega), okw, by omega, flat_more ok spc (by omega) hy (by omega), fun H9 s9 => q H9 (S9.trans s9)⟩
  by_cases c2 : (z : Int) > 6
  · refine ⟨_, rfl, _, _, rfl, rfl, _, rfl, dF (by omega) (iteF ?_)⟩
    refine ⟨_, rfl, _, _, rfl, rfl, _, rfl, dT c2 ?_⟩
    refine ⟨_, rfl, _, rfl, la, d1, _, _, rfl, rfl, hla, hd1, (by rw [List.length_map, List.length_map, List.length_replicate, sizeLine_eq]; omega), fun e0 ne0 => ?_⟩
    rw [map2]
    have ue0 := same_new ne0 (.lst ((wordsC c ++ List.replicate (nO os) (Str.ofString ")")).map V.str))
    have he0 : upd X2 e0 (.lst ((wordsC c ++ List.replicate (nO os) (Str.ofString ")")).map V.str)) e0 = some (.lst ((wordsC c ++ List.replicate (nO os) (Str.ofString ")")).map V.str)) := upd_same
    generalize upd X2 e0 (.lst ((wordsC c ++ List.replicate (nO os) (Str.ofString ")")).map V.str)) = X3 at ue0 he0
    replace hl := ue0 _ _ hl
    replace hla := ue0 _ _ hla
    replace hd0 := ue0 _ _ hd0
    replace hd1 := ue0 _ _ hd1
    have S3 := S2.trans ue0
    refine ⟨_, rfl, ?_⟩
    refine ⟨le_line (by show 1 ≤ 1000; decide), fun e2 ne2 => ?_⟩
    have ue2 := same_new ne2 (.lst [V.str (Str.ofString "Always")])
    have he2 : upd X3 e2 (.lst [V.str (Str.ofString "Always")]) e2 = some (.lst [V.str (Str.ofString "Always")]) := upd_same
    generalize upd X3 e2 (.lst [V.str (Str.ofString "Always")]) = X4 at ue2 he2
    replace hl := ue2 _ _ hl
    replace hla := ue2 _ _ hla
    replace hd0 := ue2 _ _ hd0
    replace hd1 := ue2 _ _ hd1
    replace he0 := ue2 _ _ he0
    have S4 := S3.trans ue2
    refine ⟨le_line (by show 1 ≤ 1000; decide), fun e3 ne3 => ?_⟩
    have ue3 := same_new ne3 (.lst [V.str (Str.ofString ")")])
    have he3 : upd X4 e3 (.lst [V.str (Str.ofString ")")]) e3 = some (.lst [V.str (Str.ofString ")")]) := upd_same
    generalize upd X4 e3 (.lst [V.str (Str.ofString ")")]) = X5 at ue3 he3
    replace hl := ue3 _ _ hl
    replace hla := ue3 _ _ hla
    replace hd0 := ue3 _ _ hd0
    replace hd1 := ue3 _ _ hd1
    replace he0 := ue3 _ _ he0
    replace he2 := ue3 _ _ he2
    have S5 := S4.trans ue3
    refine ⟨le_line (by show 0 ≤ 1000; decide), fun e4 ne4 => ?_⟩
    have ue4 := same_new ne4 (.lst [])
    have he4 : upd X5 e4 (.lst []) e4 = some (.lst []) := upd_same
    generalize upd X5 e4 (.lst []) = X6 at ue4 he4
    replace hl := ue4 _ _ hl
    replace hla := ue4 _ _ hla
    replace hd0 := ue4 _ _ hd0
    replace hd1 := ue4 _ _ hd1
    replace he0 := ue4 _ _ he0
    replace he2 := ue4 _ _ he2
    replace he3 := ue4 _ _ he3
    have S6 := S5.trans ue4
    refine ⟨le_line (by show 2 ≤ 1000; decide), fun e5 ne5 => ?_⟩
    have ue5 := same_new ne5 (.lst [V.str (Str.ofString ""), V.str (Str.ofString "(")])
    have he5 : upd X6 e5 (.lst [V.str (Str.ofString ""), V.str (Str.ofString "(")]) e5 = some (.lst [V.str (Str.ofString ""), V.str (Str.ofString "(")]) := upd_same
    generalize upd X6 e5 (.lst [V.str (Str.ofString ""), V.str (Str.ofString "(")]) = X7 at ue5 he5
    replace hl := ue5 _ _ hl
    replace hla := ue5 _ _ hla
    replace hd0 := ue5 _ _ hd0
    replace hd1 := ue5 _ _ hd1
    replace he0 := ue5 _ _ he0
    replace he2 := ue5 _ _ he2
    replace he3 := ue5 _ _ he3
    replace he4 := ue5 _ _ he4
    have S7 := S6.trans ue5
    refine ⟨_, rfl, _, rfl, la, d1, _, _, rfl, rfl, hla, hd1, (by rw [List.length_map, List.length_map, List.length_replicate, sizeLine_eq]; omega), fun e6 ne6 => ?_⟩
    rw [map2]
    have ue6 := same_new ne6 (.lst ((wordsC c ++ List.replicate (nO os) (Str.ofString ")")).map V.str))
    have he6 : upd X7 e6 (.lst ((wordsC c ++ List.replicate (nO os) (Str.ofString ")")).map V.str)) e6 = some (.lst ((wordsC c ++ List.replicate (nO os) (Str.ofString ")")).map V.str)) := upd_same
    generalize upd X7 e6 (.lst ((wordsC c ++ List.replicate (nO os) (Str.ofString ")")).map V.str)) = X8 at ue6 he6
    replace hl := ue6 _ _ hl
    replace hla := ue6 _ _ hla
    replace hd0 := ue6 _ _ hd0
    replace hd1 := ue6 _ _ hd1
    replace he0 := ue6 _ _ he0
    replace he2 := ue6 _ _ he2
    replace he3 := ue6 _ _ he3
    replace he4 := ue6 _ _ he4
    replace he5 := ue6 _ _ he5
    have S8 := S7.trans ue6
    refine ⟨le_line (by show 1 ≤ 1000; decide), fun e7 ne7 => ?_⟩
    have ue7 := same_new ne7 (.lst [V.str (Str.ofString ")")])
    have he7 : upd X8 e7 (.lst [V.str (Str.ofString ")")]) e7 = some (.lst [V.str (Str.ofString ")")]) := upd_same
    generalize upd X8 e7 (.lst [V.str (Str.ofString ")")]) = X9 at ue7 he7
    replace hl := ue7 _ _ hl
    replace hla := ue7 _ _ hla
    replace hd0 := ue7 _ _ hd0
    replace hd1 := ue7 _ _ hd1
    replace he0 := ue7 _ _ he0
    replace he2 := ue7 _ _ he2
    replace he3 := ue7 _ _ he3
    replace he4 := ue7 _ _ he4
    replace he5 := ue7 _ _ he5
    replace he6 := ue7 _ _ he6
    have S9 := S8.trans ue7
    refine ⟨e6, e7, _, _, rfl, rfl, he6, he7, (by rw [List.length_map, List.length_append, List.length_replicate, sizeLine_eq]; show _ + 1 ≤ _; omega), fun e8 ne8 => ?_⟩
    have ue8 := same_new ne8 (.lst ((wordsC c ++ List.replicate (nO os) (Str.ofString ")")).map V.str ++ [V.str (Str.ofString ")")]))
    have he8 : upd X9 e8 (.lst ((wordsC c ++ List.replicate (nO os) (Str.ofString ")")).map V.str ++ [V.str (Str.ofString ")")])) e8 = some (.lst ((wordsC c ++ List.replicate (nO os) (Str.ofString ")")).map V.str ++ [V.str (Str.ofString ")")])) := upd_same
    generalize upd X9 e8 (.lst ((wordsC c ++ List.replicate (nO os) (Str.ofString ")")).map V.str ++ [V.str (Str.ofString ")")])) = X10 at ue8 he8
    replace hl := ue8 _ _ hl
    replace hla := ue8 _ _ hla
    replace hd0 := ue8 _ _ hd0
    replace hd1 := ue8 _ _ hd1
    replace he0 := ue8 _ _ he0
    replace he2 := ue8 _ _ he2
    replace he3 := ue8 _ _ he3
    replace he4 := ue8 _ _ he4
    replace he5 := ue8 _ _ he5
    replace he6 := ue8 _ _ he6
    replace he7 := ue8 _ _ he7
    have S10 := S9.trans ue8
    refine ⟨le_line (by show 7 ≤ 1000; decide), fun e9 ne9 => ?_⟩
    have ue9 := same_new ne9 (.lst [V.ref e0, .ref la, .ref e2, .ref e3, .ref e4, .ref e5, .ref e8])
    have he9 : upd X10 e9 (.lst [V.ref e0, .ref la, .ref e2, .ref e3, .ref e4, .ref e5, .ref e8]) e9 = some (.lst [V.ref e0, .ref la, .ref e2, .ref e3, .ref e4, .ref e5, .ref e8]) := upd_same
    generalize upd X10 e9 (.lst [V.ref e0, .ref la, .ref e2, .ref e3, .ref e4, .ref e5, .ref e8]) = X11 at ue9 he9
    replace hl := ue9 _ _ hl
    replace hla := ue9 _ _ hla
    replace hd0 := ue9 _ _ hd0
    replace hd1 := ue9 _ _ hd1
    replace he0 := ue9 _ _ he0
    replace he2 := ue9 _ _ he2
    replace he3 := ue9 _ _ he3
    replace he4 := ue9 _ _ he4
    replace he5 := ue9 _ _ he5
    replace he6 := ue9 _ _ he6
    replace he7 := ue9 _ _ he7
    replace he8 := ue9 _ _ he8
    have S11 := S10.trans ue9
    refine atG [some (.ref a), some (.int k), some (.int v), some (.int (z : Int)), some (.ref l), some (.ref la), some (.bl (holdsC c x28)), some (.ref d1), some (.ref e9), none] rfl ?_
    have key : ∃ (g : Addr) (xs : List Str), atI [V.ref e0, .ref la, .ref e2, .ref e3, .ref e4, .ref e5, .ref e8] (v / 13 % 7) = some (.ref g) ∧ X11 g = some (.lst (xs.map V.str)) ∧ xs.length ≤ 16 ∧ ∀ w ∈ xs, okW w := by
      have i7 : v / 13 % 7 = 0 ∨ v / 13 % 7 = 1 ∨ v / 13 % 7 = 2 ∨ v / 13 % 7 = 3 ∨ v / 13 % 7 = 4 ∨ v / 13 % 7 = 5 ∨ v / 13 % 7 = 6 := by omega
      have okl : ∀ w ∈ [Str.ofString "Always", Str.ofString ")", Str.ofString "", Str.ofString "("], okW w := by
        intro w hw
        simp only [List.mem_cons, List.not_mem_nil, or_false] at hw
        rcases hw with rfl | rfl | rfl | rfl <;> exact ⟨by decide +kernel, by decide +kernel⟩
      have okr := okW_app okc' (okW_rep (nO os))
      have lr : (wordsC c ++ List.replicate (nO os) (Str.ofString ")")).length = (wordsC c).length + nO os := by rw [List.length_append, List.length_replicate]
      rcases i7 with i | i | i | i | i | i | i
      · exact ⟨e0, _, by rw [i]; rfl, he0, by omega, okr⟩
      · exact ⟨la, _, by rw [i]; rfl, hla, by omega, okc'⟩
      · exact ⟨e2, [Str.ofString "Always"], by rw [i]; rfl, he2, by decide, fun w hw => okl w (by rw [List.mem_singleton.mp hw]; simp)⟩
      · exact ⟨e3, [Str.ofString ")"], by rw [i]; rfl, he3, by decide, fun w hw => okl w (by rw [List.mem_singleton.mp hw]; simp)⟩
      · exact ⟨e4, [], by rw [i]; rfl, he4, by decide, fun w hw => nomatch hw⟩
      · exact ⟨e5, [Str.ofString "", Str.ofString "("], by rw [i]; rfl, he5, by decide, fun w hw => okl w (by simp only [List.mem_cons, List.not_mem_nil, or_false] at hw ⊢; rcases hw with rfl | rfl <;> simp)⟩
      · refine ⟨e8, (wordsC c ++ List.replicate (nO os) (Str.ofString ")")) ++ [Str.ofString ")"], by rw [i]; rfl, ?_, (by rw [List.length_append, lr]; show _ + 1 ≤ _; omega), okW_app okr fun w hw => okl w (by rw [List.mem_singleton.mp hw]; simp)⟩
        rw [List.map_append]; exact he8
    obtain ⟨g, xs, hg, hgl, lx, okx⟩ := key
    refine ⟨rfl, _, rfl, _, rfl, _, rfl, _, _, rfl, rfl, ⟨by decide, by decide⟩, _, _, rfl, rfl, (by show (0 : Int) < 7; decide), e9, _, _, _, rfl, rfl, SqL.of he9, hg, ?_⟩
    refine ⟨l, g, _, _, rfl, rfl, hl, hgl, (by rw [List.length_map, List.length_map, sizeLine_eq]; omega), fun t0 nt0 => ?_⟩
    rw [map2]
    have ut0 := same_new nt0 (.lst ((os ++ xs).map V.str))
    have ht0 : upd X11 t0 (.lst ((os ++ xs).map V.str)) t0 = some (.lst ((os ++ xs).map V.str)) := upd_same
    generalize upd X11 t0 (.lst ((os ++ xs).map V.str)) = X12 at ut0 ht0
    replace hl := ut0 _ _ hl
    replace hla := ut0 _ _ hla
    replace hd0 := ut0 _ _ hd0
    replace hd1 := ut0 _ _ hd1
    replace he0 := ut0 _ _ he0
    replace he2 := ut0 _ _ he2
    replace he3 := ut0 _ _ he3
    replace he4 := ut0 _ _ he4
    replace he5 := ut0 _ _ he5
    replace he6 := ut0 _ _ he6
    replace he7 := ut0 _ _ he7
    replace he8 := ut0 _ _ he8
    replace he9 := ut0 _ _ he9
    replace hgl := ut0 _ _ hgl
    have S12 := S11.trans ut0
    have tl : (os ++ xs).length = os.length + xs.length := List.length_append
    have okw : ∀ w ∈ os ++ xs, okW w := okW_app (okW_os ok) okx
    refine ⟨_, t0, os ++ xs, rfl, rfl, SqL.of ht0, by omega, by omega, (by decide +kernel), (fun w hw => by have := (okw w hw).2; omega), ?_⟩
    refine atG [some (.ref a), some (.int k), some (.int v), some (.int (z : Int)), some (.ref l), some (.ref la), some (.bl (holdsC c x28)), some (.ref d1), some (.ref e9), some (.str (Str.join (Str.ofString " ") (os ++ xs)))] rfl ?_
    refine ⟨_, rfl, os ++ xs, .deep, rfl, (fun z => by rw [z, List.length_nil] at tl; omega), okw, by omega, flat_deep ok (by omega) (by omega), fun u H9 s9 hu9 => ?_⟩
    obtain ⟨p9, rfl, hp9⟩ := hu9
    refine ⟨le_line (by show 1 ≤ 1000; decide), fun p10 n10 => ⟨true, _, _, rep_tup1 (same_new n10 _ _ _ hp9) rfl, rep_tup1 upd_same rfl, (by simp [deps, dep]), ?_⟩⟩
    have e : eqDs [D.at (.str (Str.ofString "deep"))] [D.at (.str (Str.ofString "deep"))] = true := by simp [eqDs, eqD, eqV]
    show Q (.bl (eqDs [D.at (.str (Str.ofString "deep"))] [D.at (.str (Str.ofString "deep"))])) _
    rw [e]
    exact q _ (S12.trans (s9.trans (same_new n10 _)))
  have z6 : z ≤ 6 := by omega
  have c3 : v / 13 % 3 ≠ 1 := fun e => c1 ⟨by omega, e⟩
  refine ⟨_, rfl, _, _, rfl, rfl, _, rfl, dT (by omega) ⟨_, rfl, _, _, rfl, rfl, ⟨by decide, by decide⟩, _, _, rfl, rfl, (by show (0 : Int) < 3; decide), rfl, _, rfl, dF (vne c3) ?_⟩⟩
  refine ⟨_, rfl, _, _, rfl, rfl, _, rfl, dF c2 ?_⟩
  refine ⟨rfl, _, rfl, _, rfl, l, la, _, _, rfl, rfl, hl, hla, (by rw [List.length_map, List.length_map, sizeLine_eq]; omega), fun e5 ne5 => ?_⟩
  have ue5 := same_new ne5 (.lst (os.map V.str ++ (wordsC c).map V.str))
  have he5 : upd X2 e5 (.lst (os.map V.str ++ (wordsC c).map V.str)) e5 = some (.lst (os.map V.str ++ (wordsC c).map V.str)) := upd_same
  generalize upd X2 e5 (.lst (os.map V.str ++ (wordsC c).map V.str)) = X3 at ue5 he5
  replace hl := ue5 _ _ hl
  replace hla := ue5 _ _ hla
  replace hd0 := ue5 _ _ hd0
  replace hd1 := ue5 _ _ hd1
  have S3 := S2.trans ue5
  refine ⟨_, rfl, e5, d1, _, _, rfl, rfl, he5, hd1, (by rw [List.length_append, List.length_map, List.length_map, List.length_map, List.length_replicate, sizeLine_eq]; omega), fun e6 ne6 => ?_⟩
  rw [map3]
  have ue6 := same_new ne6 (.lst ((os ++ wordsC c ++ List.replicate (nO os) (Str.ofString ")")).map V.str))
  have he6 : upd X3 e6 (.lst ((os ++ wordsC c ++ List.replicate (nO os) (Str.ofString ")")).map V.str)) e6 = some (.lst ((os ++ wordsC c ++ List.replicate (nO os) (Str.ofString ")")).map V.str)) := upd_same
  generalize upd X3 e6 (.lst ((os ++ wordsC c ++ List.replicate (nO os) (Str.ofString ")")).map V.str)) = X4 at ue6 he6
  replace hl := ue6 _ _ hl
  replace hla := ue6 _ _ hla
  replace hd0 := ue6 _ _ hd0
  replace hd1 := ue6 _ _ hd1
  replace he5 := ue6 _ _ he5
  have S4 := S3.trans ue6
  have tl : (os ++ wordsC c ++ List.replicate (nO os) (Str.ofString ")")).length = os.length + (wordsC c).length + nO os := by rw [List.length_append, List.length_append, List.length_replicate]
  have okw : ∀ w ∈ os ++ wordsC c ++ List.replicate (nO os) (Str.ofString ")"), okW w := okW_app (okW_app (okW_os ok) okc') (okW_rep _)
  refine ⟨_, e6, os ++ wordsC c ++ List.replicate (nO os) (Str.ofString ")"), rfl, rfl, SqL.of he6, by omega, by omega, (by decide +kernel), (fun w hw => by have := (okw w hw).2; omega), ?_⟩
  refine atG [some (.ref a), some (.int k), some (.int v), some (.int (z : Int)), some (.ref l), some (.ref la), some (.bl (holdsC c x28)), some (.ref d1), none, some (.str (Str.join (Str.ofString " ") (os ++ wordsC c ++ List.replicate (nO os) (Str.ofString ")"))))] rfl ?_
  have hg0 := wrap_hgt os (.at c)
  have hgc : hgt (.at c) = 0 := by rw [hgt]
  refine ⟨_, rfl, os ++ wordsC c ++ List.replicate (nO os) (Str.ofString ")"), wrap os (.at c), os.length + 0, rfl, (fun z => by rw [z, List.length_nil] at tl; omega), okw, by omega, .rows1 (.row1 (nest ok spc)), by omega, by omega, fun H9 s9 => ?_⟩
  refine ⟨_, rfl, _, rfl, .inl ⟨rfl, _, SqL.of (s9 _ _ hl)⟩, l, _, _, rfl, rfl, SqL.of (s9 _ _ hl), rfl, flat_str os, _, _, rfl, rfl, (by show (0 : Int) < 2; decide), rfl, rfl, _, _, rfl, ?_⟩
  rw [cntN, even_eq]
  have := nest_val (t := .at c) (b := holdsC c x28) ok (by rw [hT])
  rw [this]
  exact q _ (S4.trans s9)
end


/-! ### what the law's rows come to -/
theorem seqI {c : TT} {t t2 u : TS} {D : Ends} {σ : St} {H : Hp} (G : St → Hp → Prop) (h : ∀ N : St → Hp → Prop, (∀ σ' H', G σ' H' → N σ' H') → tIfS c t t2 { D with nx := N } σ H) (R : ∀ σ' H', G σ' H' → u D σ' H') : tSeq (tIfS c t t2) u D σ H := h _ R
theorem seqIn {rt : VK} {bk ct : St → Hp → Prop} {c : TT} {t t2 u : TS} {D : Ends} {σ : St} {H : Hp} (G : St → Hp → Prop) (h : ∀ N : St → Hp → Prop, (∀ σ' H', G σ' H' → N σ' H') → tIfS c t t2 { D with nx := N } σ H) (R : ∀ σ' H', G σ' H' → u D σ' H') : (Ends.mk (tSeq (tIfS c t t2) u D) rt bk ct).nx σ H := h _ R
theorem nil_or_last {α : Type} (l : List α) : l = [] ∨ ∃ l' x, l = l' ++ [x] := by
  cases h : l with
  | nil => exact .inl rfl
  | cons y ys => exact .inr ⟨(y :: ys).dropLast, (y :: ys).getLast (by simp), (List.dropLast_concat_getLast (by simp)).symm⟩
theorem cut_lo (o : List Str) (x : Str) : cutV ((o ++ [x]).map V.str) (some (-1)) none = [V.str x] := by
  have l : ((o ++ [x]).map V.str).length = o.length + 1 := by rw [List.length_map, List.length_append]; rfl
  have e1 : HT.sIx (o.length + 1) 0 (some (-1)) = o.length := by unfold HT.sIx; show (if (-1 : Int) < 0 then (-1 + ((o.length + 1 : Nat) : Int)).toNat else min (-1 : Int).toNat (o.length + 1)) = _; rw [if_pos (by decide)]; omega
  unfold cutV
  rw [l, e1]
  show List.take (o.length + 1 - o.length) _ = _
  rw [List.map_append, List.drop_append, List.length_map, Nat.sub_self, List.drop_of_length_le (by rw [List.length_map]; omega), show o.length + 1 - o.length = 1 by omega]
  rfl
theorem cut_hi (o : List Str) (x : Str) : cutV ((o ++ [x]).map V.str) none (some (-1)) = o.map V.str := by
  have l : ((o ++ [x]).map V.str).length = o.length + 1 := by rw [List.length_map, List.length_append]; rfl
  have e1 : HT.sIx (o.length + 1) (o.length + 1) (some (-1)) = o.length := by unfold HT.sIx; show (if (-1 : Int) < 0 then (-1 + ((o.length + 1 : Nat) : Int)).toNat else min (-1 : Int).toNat (o.length + 1)) = _; rw [if_pos (by decide)]; omega
  unfold cutV
  rw [l, e1]
  show List.take (o.length - 0) (List.drop 0 _) = _
  rw [Nat.sub_zero, List.drop_zero, List.map_append, List.take_append_of_le_length (by rw [List.length_map]; omega), List.take_of_length_le (by rw [List.length_map]; omega)]
theorem eqL_not (x : Str) : eqL [V.str x] [V.str (Str.ofString "not")] = decide (x = sNot) := by
  show ((x == sNot) && true) = _
  rw [Bool.and_true]
  by_cases c : x = sNot
  · rw [decide_eq_true c, c]; exact beq_self_eq_true _
  · rw [decide_eq_false c]; exact beq_eq_false_iff_ne.mpr c
def EndOp (os : List Str) : Prop := os = [] ∨ ∃ os', os = os' ++ [sOp]
theorem osOk_last {o : List Str} {x y : Str} (h : OsOk (o ++ [x])) (hy : y = sNot ∨ y = sOp) : OsOk (o ++ [y]) := fun p hp => by
  rcases List.mem_append.mp hp with hp | hp
  · exact h p (List.mem_append_left _ hp)
  · rw [List.mem_singleton.mp hp]; exact hy
theorem end_op {o : List Str} {x : Str} (h : OsOk (o ++ [x])) (n : x ≠ sNot) : EndOp (o ++ [x]) := by
  rcases h x (List.mem_append_right _ List.mem_cons_self) with e | e
  · exact absurd e n
  · exact .inr ⟨o, by rw [e]⟩
def PcOk (dd pw : Nat) (w : List Str) (t : Cnd) : Prop := (∃ d, Sp8 0 w t d ∧ d ≤ dd) ∧ 1 ≤ w.length ∧ w.length ≤ pw ∧ hgt t ≤ 2 ∧ ∀ x ∈ w, okW x
def RowInv (b : Bool) (os : List Str) (dd pw i : Nat) (Wd : List Str) (bs : List Bool) (nth : Int) : Prop :=
  bs.length = i ∧ Wd.length ≤ os.length + i * (pw + 1) ∧ (∀ w ∈ Wd, okW w) ∧ ∃ wss ts, Sps8 0 wss ts dd ∧ (∀ t ∈ ts, hgt t ≤ 2) ∧
   ((i ≤ 8 ∧ ts.length = i ∧ bs = ts.map (fun t => hT t x28) ∧ Wd = os ++ joinL (jS b) wss) ∨ (9 ≤ i ∧ ts.length = 8 ∧ (∃ rest, Wd = os ++ joinL (jS b) wss ++ jS b :: rest) ∧ nth = (((os ++ joinL (jS b) wss).length + 1 : Nat) : Int)))
theorem okW_j (b : Bool) : okW (jS b) := by cases b <;> exact ⟨by decide +kernel, by decide +kernel⟩
theorem RowInv.zero (b : Bool) {os : List Str} (dd pw : Nat) (n : Int) (ok : OsOk os) : RowInv b os dd pw 0 os [] n := ⟨rfl, by omega, okW_os ok, [], [], .nil, (fun _ h => nomatch h), .inl ⟨by omega, rfl, rfl, (List.append_nil os).symm⟩⟩
theorem RowInv.first {b : Bool} {os : List Str} {dd pw : Nat} {Wd : List Str} {bs : List Bool} {n m : Int} {w : List Str} {t : Cnd} (h : RowInv b os dd pw 0 Wd bs n) (p : PcOk dd pw w t) : RowInv b os dd pw 1 (Wd ++ w) (bs ++ [hT t x28]) m := by
  obtain ⟨h1, h2, h3, wss, ts, sp, hg, alt⟩ := h
  obtain ⟨⟨d, p1, pd⟩, p2, p3, p4, p5⟩ := p
  rcases alt with ⟨_, l0, rfl, rfl⟩ | ⟨z, _⟩
  · have : ts = [] := List.length_eq_zero_iff.mp l0
    subst this
    have e : wss = [] := List.length_eq_zero_iff.mp sp.len
    subst e
    refine ⟨rfl, ?_, okW_app h3 p5, [w], [t], .cons p1 pd .nil, (fun u hu => by rw [List.mem_singleton.mp hu]; exact p4), .inl ⟨by omega, rfl, rfl, ?_⟩⟩
    · rw [List.length_append]; omega
    · show os ++ [] ++ w = os ++ (w ++ [])
      rw [List.append_nil, List.append_nil]
  · omega
theorem RowInv.next {b : Bool} {os : List Str} {dd pw i : Nat} {Wd : List Str} {bs : List Bool} {n m : Int} {w : List Str} {t : Cnd} (h : RowInv b os dd pw i Wd bs n) (i1 : 1 ≤ i) (i8 : i < 8) (p : PcOk dd pw w t) : RowInv b os dd pw (i + 1) (Wd ++ [jS b] ++ w) (bs ++ [hT t x28]) m := by
  obtain ⟨h1, h2, h3, wss, ts, sp, hg, alt⟩ := h
  obtain ⟨⟨d, p1, pd⟩, p2, p3, p4, p5⟩ := p
  rcases alt with ⟨_, l0, rfl, rfl⟩ | ⟨z, _⟩
  · have lw := sp.len
    have e : wss ≠ [] := fun z => by rw [z, List.length_nil] at lw; omega
    refine ⟨by rw [List.length_append, h1]; rfl, ?_, okW_app (okW_app h3 fun x hx => by rw [List.mem_singleton.mp hx]; exact okW_j b) p5, wss ++ [w], ts ++ [t], spls_snoc sp p1 pd, (fun u hu => ?_), .inl ⟨by omega, by rw [List.length_append, l0]; rfl, by rw [List.map_append]; rfl, ?_⟩⟩
    · rw [List.length_append, List.length_append, List.length_singleton, Nat.succ_mul]; omega
    · rcases List.mem_append.mp hu with hu | hu
      · exact hg u hu
      · rw [List.mem_singleton.mp hu]; exact p4
    · rw [joinL_snoc _ e]; simp
  · omega
theorem RowInv.ninth {b : Bool} {os : List Str} {dd pw : Nat} {Wd : List Str} {bs : List Bool} {n : Int} {w : List Str} (c : Bool) (h : RowInv b os dd pw 8 Wd bs n) (p3 : w.length ≤ pw) (p5 : ∀ x ∈ w, okW x) : RowInv b os dd pw 9 (Wd ++ [jS b] ++ w) (bs ++ [c]) ((Wd.length : Int) + 1) := by
  obtain ⟨h1, h2, h3, wss, ts, sp, hg, alt⟩ := h
  rcases alt with ⟨_, l0, rfl, rfl⟩ | ⟨z, _⟩
  · refine ⟨by rw [List.length_append, h1]; rfl, ?_, okW_app (okW_app h3 fun x hx => by rw [List.mem_singleton.mp hx]; exact okW_j b) p5, wss, ts, sp, hg, .inr ⟨by omega, l0, ⟨w, by simp⟩, by omega⟩⟩
    rw [List.length_append, List.length_append, List.length_singleton]; omega
  · omega
theorem RowInv.more {b : Bool} {os : List Str} {dd pw i : Nat} {Wd : List Str} {bs : List Bool} {n : Int} {w : List Str} (c : Bool) (h : RowInv b os dd pw i Wd bs n) (i9 : 9 ≤ i) (p3 : w.length ≤ pw) (p5 : ∀ x ∈ w, okW x) : RowInv b os dd pw (i + 1) (Wd ++ [jS b] ++ w) (bs ++ [c]) n := by
  obtain ⟨h1, h2, h3, wss, ts, sp, hg, alt⟩ := h
  rcases alt with ⟨z, _⟩ | ⟨_, l0, ⟨rest, rfl⟩, e⟩
  · omega
  · refine ⟨by rw [List.length_append, h1]; rfl, ?_, okW_app (okW_app h3 fun x hx => by rw [List.mem_singleton.mp hx]; exact okW_j b) p5, wss, ts, sp, hg, .inr ⟨by omega, l0, ⟨rest ++ [jS b] ++ w, by simp⟩, e⟩⟩
    rw [List.length_append, List.length_append, List.length_singleton, Nat.succ_mul]; omega
theorem RowInv.good {b : Bool} {os : List Str} {dd pw i : Nat} {Wd : List Str} {bs : List Bool} {n : Int} (h : RowInv b os dd pw i Wd bs n) (i2 : 2 ≤ i) (i8 : i ≤ 8) (ok : OsOk os) (en : EndOp os) (d6 : os.length + dd ≤ 6) :
    ∃ t d, Sp8 2 (Wd ++ List.replicate (nO os) sCl) (wrap os t) d ∧ d ≤ 6 ∧ hgt t ≤ 3 ∧ hT t x28 = if b then !bs.contains false else bs.contains true := by
  obtain ⟨h1, h2, h3, wss, ts, sp, hg, alt⟩ := h
  rcases alt with ⟨_, l0, rfl, rfl⟩ | ⟨z, _⟩
  · refine ⟨joinT b ts, os.length + dd, last_op en ok (row_spl b sp (by omega) (by omega)), d6, joinT_hgt b hg, ?_⟩
    cases b with
    | true => show hT (.al ts) x28 = _; rw [hT, hAll_bools]; rfl
    | false => show hT (.so ts) x28 = _; rw [hT, hSom_bools]; rfl
  · omega
theorem RowInv.bad {b : Bool} {os : List Str} {dd pw i : Nat} {Wd : List Str} {bs : List Bool} {n : Int} (h : RowInv b os dd pw i Wd bs n) (i9 : 9 ≤ i) (ok : OsOk os) (en : EndOp os) (d6 : os.length + dd ≤ 6) (hl : (Wd ++ List.replicate (nO os) sCl).length ≤ 60) :
    ∃ k : Nat, n = (k : Int) ∧ FlT8 (Wd ++ List.replicate (nO os) sCl) (.at k) := by
  obtain ⟨h1, h2, h3, wss, ts, sp, hg, alt⟩ := h
  rcases alt with ⟨z, _⟩ | ⟨_, l0, ⟨rest, rfl⟩, rfl⟩
  · omega
  · refine ⟨_, rfl, .read hl ?_⟩
    have f := last_fl en ok (by omega) (row_fl b sp l0 d6 (rest ++ List.replicate (nO os) sCl))
    rw [List.length_append, Nat.add_assoc]
    have e : os ++ joinL (jS b) wss ++ jS b :: rest ++ List.replicate (nO os) sCl = os ++ (joinL (jS b) wss ++ jS b :: (rest ++ List.replicate (nO os) sCl)) := by simp
    rw [e]
    exact f
theorem inV_bl (c : Bool) : ∀ bs : List Bool, inV (.bl c) (bs.map V.bl) = bs.contains c
  | [] => rfl
  | x :: bs => by
    have ih := inV_bl c bs
    unfold inV at ih ⊢
    rw [List.map_cons, List.any_cons, ih, List.contains_cons]
    show (x == c || _) = _
    cases x <;> cases c <;> rfl
theorem flat_bl : ∀ bs : List Bool, (bs.map V.bl).all flatV = true
  | [] => rfl
  | x :: bs => by rw [List.map_cons, List.all_cons, flat_bl bs]; rfl
theorem row_ix (b x y : Bool) : atI [V.bl x, V.bl y] (if decide (V.str (jS b) = V.str (Str.ofString "or")) = true then 1 else 0) = some (.bl (if b then x else y)) := by
  cases b with
  | true => rw [decide_eq_false (show ¬ V.str (jS true) = V.str (Str.ofString "or") from fun z => absurd (V.str.inj z) (by decide +kernel))]; rfl
  | false => rw [decide_eq_true (show V.str (jS false) = V.str (Str.ofString "or") from rfl)]; rfl
theorem pc_plain {dd pw : Nat} {c : Co} (h : okCo c) (p3 : 3 ≤ pw) : PcOk dd pw (wordsC c) (.at c) := by
  have := wordsC_len c
  exact ⟨⟨0, .leaf h, by omega⟩, by omega, by omega, by rw [hgt]; omega, okW_C c h⟩
theorem pc_not {dd pw : Nat} {c : Co} (h : okCo c) (p3 : 4 ≤ pw) (d1 : 1 ≤ dd) : PcOk dd pw (Str.ofString "not" :: wordsC c) (.no (.at c)) := by
  have := wordsC_len c
  refine ⟨⟨0 + 1, .no (.leaf h), by omega⟩, by rw [List.length_cons]; omega, by rw [List.length_cons]; omega, by rw [hgt, hgt]; omega, fun x hx => ?_⟩
  rcases List.mem_cons.mp hx with rfl | hx
  · exact ⟨by decide +kernel, by decide +kernel⟩
  · exact okW_C c h x hx
theorem pc_notbr {dd pw : Nat} {c : Co} (h : okCo c) (p3 : 6 ≤ pw) (d1 : 2 ≤ dd) : PcOk dd pw (Str.ofString "not" :: (Str.ofString "(" :: (wordsC c ++ [Str.ofString ")"]))) (.no (.at c)) := by
  have := wordsC_len c
  refine ⟨⟨0 + 1 + 1, .no (.br (.rows1 (.row1 (.leaf h)))), by omega⟩, by rw [List.length_cons]; omega, by rw [List.length_cons, List.length_cons, List.length_append]; show _ + 1 + 1 + 1 ≤ _; omega, by rw [hgt, hgt]; omega, fun x hx => ?_⟩
  rcases List.mem_cons.mp hx with rfl | hx
  · exact ⟨by decide +kernel, by decide +kernel⟩
  rcases List.mem_cons.mp hx with rfl | hx
  · exact ⟨by decide +kernel, by decide +kernel⟩
  rcases List.mem_append.mp hx with hx | hx
  · exact okW_C c h x hx
  · rw [List.mem_singleton.mp hx]; exact ⟨by decide +kernel, by decide +kernel⟩
mutual
theorem spl_pos : ∀ {k : Nat} {ws : List Str} {t : Cnd} {d : Nat}, Sp8 k ws t d → 1 ≤ ws.length
  | _, _, _, _, .leaf (c := c) _ => (wordsC_len c).1
  | _, _, _, _, .no _ => by rw [List.length_cons]; omega
  | _, _, _, _, .br _ => by rw [List.length_cons]; omega
  | _, _, _, _, .row1 h => spl_pos h
  | _, _, _, _, .rowN h h2 _ => spls_pos h (by omega)
  | _, _, _, _, .rows1 h => spl_pos h
  | _, _, _, _, .rowsN h h2 _ => spls_pos h (by omega)
theorem spls_pos : ∀ {k : Nat} {b : Str} {wss : List (List Str)} {ts : List Cnd} {d : Nat}, Sps8 k wss ts d → 1 ≤ ts.length → 1 ≤ (joinL b wss).length
  | _, _, _, _, _, .nil, h => by simp at h
  | _, _, _, _, _, .cons a _ _, _ => by have := spl_pos a; rw [joinL, List.length_append]; omega
end


section
seal L2.PS L2.PSs L2.PE L2.PA
variable {P : Program} {w : World} {K : PySem.W.Frag} {mg : Str → Option Value} {base : Heap}
theorem sc__law_row : FnScope ["_law_script", "_law_k", "_law_cell_here", "_law_size", "_law_joiner", "_law_ahead", "_law_words", "_law_dues", "_law_ninth", "_law_nots", "_law_j", "_law_atom_here", "_law_due", "_law_text"] ["_law_script", "_law_k"] (defScope s__law_row) := ⟨rfl, rfl, rfl, by decide +kernel, rfl, by decide +kernel, by decide +kernel⟩
theorem ok__law_row {f : Addr} {fd : FuncData} (F : Fun K "_law_row" "_law_row" s__law_row f fd) (T : Txt K mg) (C_law_cell : Cal P w K mg base 1 "_law_cell" ["_law_script", "_law_k"] (spCellN K)) (C_law_mix : Cal P w K mg base 1 "_law_mix" ["_law_number", "_law_k"] spMix)
    (C_law_opened : Cal P w K mg base 1 "_law_opened" ["_law_number", "_law_size"] spOpened) (C_law_atom : Cal P w K mg base 1 "_law_atom" ["_law_number"] spAtom) (C_law_refused_at : Cal P w K mg base 43 "_law_refused_at" ["_law_thing", "_law_due"] spRefAt)
    (C_law_holds : Cal P w K mg base 42 "_law_holds" ["_law_text"] spHold) (C_law_truth : Cal P w K mg base 1 "_law_truth" ["_law_found", "_law_due"] spTruth) : FnOk P w K mg base CX0 44 f fd ["_law_script", "_law_k"] (spPart K) := by
  have sc := sc__law_row
  refine F.ok sc (fun vs H Q E h => ?_) (fun cdv A outer s H vs Q E hr h => ?_)
  · obtain ⟨_, _, _, rfl, _⟩ := h
    rfl
  have hu := room_u hr
  obtain ⟨a, ns, k, rfl, ha, k0, k1, h63, q⟩ := h
  refine ⟨_, (pss_cons (ps_set (i := 2) sc.nd rfl (Or.inl rfl) (pe_callC C_law_cell (hr.mono (by decide)) rfl (pa_cons (pv 0) (pa_cons (pv 1) pa_nil))))
      (pss_cons (ps_set (i := 3) sc.nd rfl (Or.inl rfl) (pe_op op_add pe_int (pe_op op_mod (pv 2) pe_int)))
      (pss_cons (ps_set (i := 4) sc.nd rfl (Or.inl rfl) (pe_ix ix_list (pe_lst (pa_cons pe_str (pa_cons pe_str pa_nil))) (pe_op op_mod (pe_op op_fdiv (pv 2) pe_int) pe_int) (fun _ _ => rfl)))
      (pss_cons (ps_set (i := 5) sc.nd rfl (Or.inl rfl) (pe_callC C_law_opened (hr.mono (by decide)) rfl (pa_cons (pe_callC C_law_mix (hr.mono (by decide)) rfl (pa_cons (pv 2) (pa_cons (pe_op op_add (pv 1) pe_int) pa_nil))) (pa_cons (pe_op op_mod (pe_op op_fdiv (pv 2) pe_int) pe_int) pa_nil))))
      (pss_cons (ps_if (pt_cmpR (op_eqL hu) (pe_slice sl_list (pv 5) (po_some (pe_un un_neg pe_int)) po_none) (pe_lst (pa_cons pe_str pa_nil)) (nomark _))
        (pss_one (ps_set (i := 5) sc.nd rfl (Or.inl rfl) (pe_op op_cat (pe_slice sl_list (pv 5) po_none (po_some (pe_un un_neg pe_int))) (pe_lst (pa_cons pe_str pa_nil)))))
        pss_nil)
      (pss_cons (ps_set (i := 6) sc.nd rfl (Or.inl rfl) (pe_callTy call_list_of rfl T.n_list (show bootBuiltins _ = some (.type "list") from rfl) (pa_cons (pv 5) pa_nil)))
      (pss_cons (ps_set (i := 7) sc.nd rfl (Or.inl rfl) (pe_lst pa_nil))
      (pss_cons (ps_set (i := 8) sc.nd rfl (Or.inl rfl) pe_int)
      (pss_cons (ps_set (i := 9) sc.nd rfl (Or.inl rfl) pe_int)
      (pss_cons (ps_if (PW.pt (pw_and (pt_cmpR op_lt (pe_callB call_len_seq rfl T.n_len (show bootBuiltins _ = some (.builtin "len") from rfl) (pa_cons (pv 5) pa_nil)) pe_int (nomark _)) (pw_and1 (pt_cmpR op_lt (pv 3) pe_int (nomark _)))))
        (pss_one (ps_set (i := 9) sc.nd rfl (Or.inl rfl) (pe_op op_fdiv (pe_callC C_law_mix (hr.mono (by decide)) rfl (pa_cons (pv 2) (pa_cons (pe_op op_add (pv 1) pe_int) pa_nil))) (pe_op op_pow pe_int pe_int))))
        pss_nil)
      (pss_cons (ps_for PassesOwn.never rfl (pi_range1 rfl T.n_range (pa_cons (pv 3) pa_nil)) (pg_name (i := 10) sc.nd rfl (Or.inl rfl))
        (pss_cons (ps_asg (pe_callC C_law_atom (hr.mono (by decide)) rfl (pa_cons (pe_callC C_law_mix (hr.mono (by decide)) rfl (pa_cons (pv 2) (pa_cons (pe_op op_add (pe_op op_mul pe_int (pv 1)) (pv 10)) pa_nil))) pa_nil)) (pg_tup (n := 2) rfl (pgs_cons (pg_name (i := 11) sc.nd rfl (Or.inl rfl)) (pgs_cons (pg_name (i := 12) sc.nd rfl (Or.inl rfl)) pgs_nil))))
      (pss_cons (ps_if (pt_cmpR op_eq (pe_op op_mod (pv 9) pe_int) pe_int (nomark _))
        (pss_cons (ps_if (PW.pt (pw_and (pt_cmpR op_eq (pe_op op_mod (pe_op op_fdiv (pv 2) pe_int) pe_int) pe_int (nomark _)) (pw_and (pt_cmpR op_lt (pv 3) pe_int (nomark _)) (pw_and1 (pt_cmpR op_lt (pe_callB call_len_seq rfl T.n_len (show bootBuiltins _ = some (.builtin "len") from rfl) (pa_cons (pv 5) pa_nil)) pe_int (nomark _))))))
        (pss_one (ps_set (i := 11) sc.nd rfl (Or.inl rfl) (pe_op op_cat (pe_op op_cat (pe_lst (pa_cons pe_str pa_nil)) (pv 11)) (pe_lst (pa_cons pe_str pa_nil)))))
        pss_nil)
      (pss_cons (ps_set (i := 11) sc.nd rfl (Or.inl rfl) (pe_op op_cat (pe_lst (pa_cons pe_str pa_nil)) (pv 11)))
      (pss_one (ps_set (i := 12) sc.nd rfl (Or.inl rfl) (pe_not (pv 12))))))
        pss_nil)
      (pss_cons (ps_set (i := 9) sc.nd rfl (Or.inl rfl) (pe_op op_fdiv (pv 9) pe_int))
      (pss_cons (ps_if (pt_cmpR op_eq (pv 10) pe_int (nomark _))
        (pss_cons (ps_set (i := 8) sc.nd rfl (Or.inl rfl) (pe_op op_add (pe_callB call_len_seq rfl T.n_len (show bootBuiltins _ = some (.builtin "len") from rfl) (pa_cons (pv 6) pa_nil)) pe_int))
      (pss_one (ps_set (i := 11) sc.nd rfl (Or.inl rfl) (pe_ix ix_list (pe_lst (pa_cons (pv 11) (pa_cons (pe_lst (pa_cons pe_str (pa_cons pe_str pa_nil))) (pa_cons (pe_lst (pa_cons pe_str (pa_cons pe_str (pa_cons pe_str pa_nil)))) (pa_cons (pe_lst (pa_cons pe_str pa_nil)) (pa_cons (pe_lst (pa_cons pe_str pa_nil)) pa_nil)))))) (pe_op op_mod (pe_op op_fdiv (pv 2) pe_int) pe_int) (fun _ _ => rfl)))))
        pss_nil)
      (pss_cons (ps_if (pt_cmpR op_gt (pv 10) pe_int (nomark _))
        (pss_one (ps_expr (pe_bm PySem.F.plainAttrs_list PySem.F.slot_list_append PySem.F.type_list_append mt_append (pv 6) (pa_cons (pv 4) pa_nil))))
        pss_nil)
      (pss_cons (ps_expr (pe_bm PySem.F.plainAttrs_list PySem.F.slot_list_extend PySem.F.type_list_extend mt_extend (pv 6) (pa_cons (pv 11) pa_nil)))
      (pss_one (ps_expr (pe_bm PySem.F.plainAttrs_list PySem.F.slot_list_append PySem.F.type_list_append mt_append (pv 7) (pa_cons (pv 12) pa_nil)))))))))))
      (pss_cons (ps_set (i := 13) sc.nd rfl (Or.inl rfl) (pe_bm PySem.F.plainAttrs_str PySem.F.slot_str_join PySem.F.type_str_join mt_joinA pe_str (pa_cons (pe_op op_cat (pv 6) (pe_op op_rep (pe_lst (pa_cons pe_str pa_nil)) (pe_bm PySem.F.plainAttrs_list PySem.F.slot_list_count PySem.F.type_list_count mt_count (pv 5) (pa_cons pe_str pa_nil)))) pa_nil)))
      (pss_cons (ps_if (pt_cmpR op_gt (pv 3) pe_int (nomark _))
        (pss_one (ps_ret (pe_callC C_law_refused_at (hr.mono (by decide)) rfl (pa_cons (pv 13) (pa_cons (pv 8) pa_nil)))))
        pss_nil)
      (pss_cons (ps_set (i := 12) sc.nd rfl (Or.inl rfl) (pe_ix ix_tup (pe_tup (pa_cons (pe_cmpR op_notIn_seq pe_bl (pv 7) rfl) (pa_cons (pe_cmpR op_in_seq pe_bl (pv 7) rfl) pa_nil))) (pe_callTy call_int1 rfl T.n_int (show bootBuiltins _ = some (.type "int") from rfl) (pa_cons (pe_cmpR op_eq (pv 4) pe_str (nomark _)) pa_nil)) (fun _ _ => rfl)))
      (pss_one (ps_ret (pe_callC C_law_truth (hr.mono (by decide)) rfl (pa_cons (pe_callC C_law_holds (hr.mono (by decide)) rfl (pa_cons (pv 13) pa_nil)) (pa_cons (pe_cmpR op_eq (pv 12) (pe_cmpR op_eq (pe_op op_mod (pe_bm PySem.F.plainAttrs_list PySem.F.slot_list_count PySem.F.type_list_count mt_count (pv 5) (pa_cons pe_str pa_nil)) pe_int) pe_int (nomark _)) (nomark _)) pa_nil))))))))))))))))))), ?_⟩
  refine ⟨_, rfl, _, rfl, a, ns, k, rfl, ha, by omega, by omega, h63, fun v v0 v1 => ?_⟩
  refine atG [some (.ref a), some (.int k), some (.int v), none, none, none, none, none, none, none, none, none, none, none] rfl ?_
  refine ⟨_, rfl, _, _, rfl, rfl, (by show (0 : Int) < 10; decide), _, _, rfl, rfl, ?_⟩
  obtain ⟨z, hz⟩ : ∃ z : Nat, 2 + v % 10 = (z : Int) := Int.eq_ofNat_of_zero_le (by omega)
  have z2 : 2 ≤ z := by omega
  have z11 : z ≤ 11 := by omega
  refine atG [some (.ref a), some (.int k), some (.int v), some (.int (z : Int)), none, none, none, none, none, none, none, none, none, none] (by rw [← hz]; rfl) ?_
  refine ⟨le_line (by show 2 ≤ 1000; decide), fun j0 nj0 => ?_⟩
  have uj0 := same_new nj0 (.lst [V.str (Str.ofString "and"), V.str (Str.ofString "or")])
  have hj0 : upd H j0 (.lst [V.str (Str.ofString "and"), V.str (Str.ofString "or")]) j0 = some (.lst [V.str (Str.ofString "and"), V.str (Str.ofString "or")]) := upd_same
  generalize upd H j0 (.lst [V.str (Str.ofString "and"), V.str (Str.ofString "or")]) = X1 at uj0 hj0
  have S1 := (Same.refl H).trans uj0
  obtain ⟨bb, hb⟩ : ∃ bb : Bool, atI [V.str (Str.ofString "and"), V.str (Str.ofString "or")] (v / 10 % 2) = some (.str (jS bb)) := by
    have i2 : v / 10 % 2 = 0 ∨ v / 10 % 2 = 1 := by omega
    rcases i2 with i | i
    · exact ⟨true, by rw [i]; rfl⟩
    · exact ⟨false, by rw [i]; rfl⟩
  refine ⟨_, rfl, _, _, rfl, rfl, ⟨by decide, by decide⟩, _, _, rfl, rfl, (by show (0 : Int) < 2; decide), j0, _, _, _, rfl, rfl, SqL.of hj0, hb, ?_⟩
  refine atG [some (.ref a), some (.int k), some (.int v), some (.int (z : Int)), some (.str (jS bb)), none, none, none, none, none, none, none, none, none] rfl ?_
  obtain ⟨z0, hz0⟩ : ∃ z0 : Nat, v / 20 % 7 = (z0 : Int) := Int.eq_ofNat_of_zero_le (Int.emod_nonneg _ (by decide))
  have z06 : z0 ≤ 6 := by omega
  refine ⟨_, rfl, _, rfl, _, _, rfl, rfl, v, k + 1, rfl, v0, by omega, by omega, by omega, fun m m0 m1 => ⟨_, rfl, _, _, rfl, rfl, ⟨by decide, by decide⟩, _, _, rfl, rfl, (by show (0 : Int) < 7; decide), m, z0, (by rw [← hz0]; rfl), m0, by omega, fun l os H1 s1 l0 lz ok hl => ?_⟩⟩
  refine atG [some (.ref a), some (.int k), some (.int v), some (.int (z : Int)), some (.str (jS bb)), some (.ref l), none, none, none, none, none, none, none, none] rfl ?_
  have T1 := S1.trans s1
  refine seqIn (fun σ' H' => ∃ l2 os2, σ' = [some (.ref a), some (.int k), some (.int v), some (.int (z : Int)), some (.str (jS bb)), some (.ref l2), none, none, none, none, none, none, none, none] ∧ OsOk os2 ∧ os2.length = z0 ∧ EndOp os2 ∧ H' l2 = some (.lst (os2.map V.str)) ∧ Same H1 H') (fun N hN => ?_) (fun σ' H2 g => ?_)
  · refine ⟨_, rfl, _, rfl, _, rfl, l, _, rfl, SqL.of hl, fun s0 ns0 => ?_⟩
    rcases nil_or_last os with rfl | ⟨o', y, rfl⟩
    · refine ⟨le_line (by show 1 ≤ 1000; decide), fun s1' ns1' => ⟨s0, s1', _, _, rfl, rfl, SqL.of (same_new ns1' _ _ _ upd_same), SqL.of upd_same, rfl, rfl, _, rfl, iteF ?_⟩⟩
      have sa := (same_new ns0 (.lst (cutV ([].map V.str) (some (-1)) none))).trans (same_new ns1' (.lst [V.str (Str.ofString "not")]))
      exact hN _ _ ⟨l, [], rfl, ok, lz, .inl rfl, sa _ _ hl, sa⟩
    · have ec := cut_lo o' y
      have e0 : upd H1 s0 (.lst (cutV ((o' ++ [y]).map V.str) (some (-1)) none)) s0 = some (.lst [V.str y]) := by rw [upd_same]; exact congrArg (fun u => some (HO.lst u)) ec
      have u0 := same_new ns0 (.lst (cutV ((o' ++ [y]).map V.str) (some (-1)) none))
      refine ⟨le_line (by show 1 ≤ 1000; decide), fun s2 ns2 => ⟨s0, s2, _, _, rfl, rfl, SqL.of (same_new ns2 _ _ _ e0), SqL.of upd_same, rfl, rfl, _, rfl, ?_⟩⟩
      have u2 := u0.trans (same_new ns2 (.lst [V.str (Str.ofString "not")]))
      generalize upd (upd H1 s0 (.lst (cutV ((o' ++ [y]).map V.str) (some (-1)) none))) s2 (.lst [V.str (Str.ofString "not")]) = H1' at u2
      have hl' := u2 _ _ hl
      show if eqL [V.str y] [V.str (Str.ofString "not")] = true then _ else _
      rw [eqL_not]
      by_cases cy : y = sNot
      · refine dT cy ?_
        refine ⟨_, rfl, _, rfl, _, rfl, l, _, rfl, SqL.of hl', fun s3 ns3 => ⟨le_line (by show 1 ≤ 1000; decide), fun s4 ns4 => ?_⟩⟩
        have e3 : upd H1' s3 (.lst (cutV ((o' ++ [y]).map V.str) none (some (-1)))) s3 = some (.lst (o'.map V.str)) := by rw [upd_same]; exact congrArg (fun u => some (HO.lst u)) (cut_hi o' y)
        have u3 := (same_new ns3 (.lst (cutV ((o' ++ [y]).map V.str) none (some (-1))))).trans (same_new ns4 (.lst [V.str (Str.ofString "(")]))
        have lo' : o'.length < 12 := by rw [List.length_append, List.length_singleton] at lz; omega
        refine ⟨s3, s4, _, _, rfl, rfl, same_new ns4 _ _ _ e3, upd_same, (by rw [List.length_map, sizeLine_eq]; show _ + 1 ≤ _; omega), fun s5 ns5 => ?_⟩
        refine hN _ _ ⟨s5, o' ++ [sOp], rfl, osOk_last ok (.inr rfl), (by rw [← lz, List.length_append, List.length_append]; rfl), .inr ⟨o', rfl⟩, ?_, u2.trans (u3.trans (same_new ns5 _))⟩
        rw [upd_same, List.map_append]; rfl
      · exact dF cy (hN _ _ ⟨l, o' ++ [y], rfl, ok, lz, end_op ok cy, hl', u2⟩)
  obtain ⟨l2, os2, rfl, ok2, lz2, en2, hl2, s2⟩ := g
  have T2 := T1.trans s2
  refine ⟨_, rfl, l2, _, rfl, .inl (SqL.of hl2), fun wd nwd => ?_⟩
  have l2wd : l2 ≠ wd := ne_of_none hl2 nwd
  have wdH : H wd = none := T2.free nwd
  have uwd := same_new nwd (.lst (os2.map V.str))
  have hwd : upd H2 wd (.lst (os2.map V.str)) wd = some (.lst (os2.map V.str)) := upd_same
  generalize upd H2 wd (.lst (os2.map V.str)) = X2 at uwd hwd
  replace hl2 := uwd _ _ hl2
  have S2 := T2.trans uwd
  refine atG [some (.ref a), some (.int k), some (.int v), some (.int (z : Int)), some (.str (jS bb)), some (.ref l2), some (.ref wd), none, none, none, none, none, none, none] rfl ?_
  refine ⟨le_line (by show 0 ≤ 1000; decide), fun du ndu => ?_⟩
  have duH : H du = none := S2.free ndu
  have wd_du : wd ≠ du := fun e => by rw [← e, hwd] at ndu; cases ndu
  have l2_du : l2 ≠ du := fun e => by rw [← e, hl2] at ndu; cases ndu
  have l2_wd : l2 ≠ wd := l2wd
  have udu := same_new ndu (.lst ([] : List V))
  have hdu : upd X2 du (.lst ([] : List V)) du = some (.lst ([] : List V)) := upd_same
  generalize upd X2 du (.lst ([] : List V)) = X3 at udu hdu
  replace hl2 := udu _ _ hl2
  replace hwd := udu _ _ hwd
  have S3 := S2.trans udu
  refine atG [some (.ref a), some (.int k), some (.int v), some (.int (z : Int)), some (.str (jS bb)), some (.ref l2), some (.ref wd), some (.ref du), none, none, none, none, none, none] rfl ?_
  refine seqC [some (.ref a), some (.int k), some (.int v), some (.int (z : Int)), some (.str (jS bb)), some (.ref l2), some (.ref wd), some (.ref du), some (.int 0), none, none, none, none, none] rfl ?_
  refine seqC [some (.ref a), some (.int k), some (.int v), some (.int (z : Int)), some (.str (jS bb)), some (.ref l2), some (.ref wd), some (.ref du), some (.int 0), some (.int 0), none, none, none, none] rfl ?_
  have ll : ((os2.map V.str).length : Int) = (z0 : Int) := by rw [List.length_map, lz2]
  have TX := S3
  refine seqIn (fun σ' H' => ∃ n : Int, σ' = [some (.ref a), some (.int k), some (.int v), some (.int (z : Int)), some (.str (jS bb)), some (.ref l2), some (.ref wd), some (.ref du), some (.int 0), some (.int n), none, none, none, none] ∧ H' = X3 ∧ 0 ≤ n ∧ (n = 0 ∨ (z0 < 6 ∧ z < 10))) (fun N hN => ?_) (fun σ' H' g => ?_)
  · refine ⟨_, rfl, l2, _, rfl, .inl (SqL.of hl2), _, _, rfl, rfl, _, rfl, ?_⟩
    by_cases d1 : z0 < 6
    · refine dT (by rw [ll]; omega) ⟨_, rfl, _, _, rfl, rfl, _, rfl, ?_⟩
      by_cases d2 : z < 10
      · refine dT (by omega) ⟨_, rfl, _, rfl, _, _, rfl, rfl, v, k + 7, rfl, v0, by omega, by omega, by omega, fun m5 m50 m51 => ⟨_, _, rfl, rfl, ⟨by decide, by decide, by decide⟩, _, _, rfl, rfl, (by constructor <;> decide), ?_⟩⟩
        exact hN _ _ ⟨_, rfl, rfl, Int.ediv_nonneg m50 (by decide), .inr ⟨d1, d2⟩⟩
      · exact dF (by omega) (hN _ _ ⟨0, rfl, rfl, by omega, .inl rfl⟩)
    · exact dF (by rw [ll]; omega) (iteF (hN _ _ ⟨0, rfl, rfl, by omega, .inl rfl⟩))
  obtain ⟨n0, rfl, rfl, n00, nn0⟩ := g
  obtain ⟨dd, pw, dd6, pw60, pw3, pw6, dA, dB⟩ : ∃ dd pw : Nat, z0 + dd ≤ 6 ∧ 2 * z0 + z * (pw + 1) ≤ 60 ∧ 3 ≤ pw ∧ pw ≤ 6 ∧ (z0 < 6 ∧ z < 10 → 1 ≤ dd ∧ 4 ≤ pw) ∧ (z < 8 ∧ z0 < 5 → 2 ≤ dd ∧ 6 ≤ pw) := by
    by_cases e1 : z < 8 ∧ z0 < 5
    · exact ⟨2, 6, by omega, by omega, by omega, by omega, fun _ => ⟨by omega, by omega⟩, fun _ => ⟨by omega, by omega⟩⟩
    · by_cases e2 : z0 < 6 ∧ z < 10
      · exact ⟨1, 4, by omega, by omega, by omega, by omega, fun _ => ⟨by omega, by omega⟩, fun e => absurd e e1⟩
      · exact ⟨0, 3, by omega, by omega, by omega, by omega, fun e => absurd e e2, fun e => absurd e e1⟩
  refine ⟨_, rfl, _, rfl, by omega, by omega, for_range (lo := 0) (n := ((z : Int)).toNat) (fun i σ H2 => ∃ (nt n : Int) (o10 o11 o12 : Option V) (Wd : List Str) (bs : List Bool), σ = [some (.ref a), some (.int k), some (.int v), some (.int (z : Int)), some (.str (jS bb)), some (.ref l2), some (.ref wd), some (.ref du), some (.int nt), some (.int n), o10, o11, o12, none] ∧ 0 ≤ n ∧ (n = 0 ∨ (z0 < 6 ∧ z < 10)) ∧ RowInv bb os2 dd pw i Wd bs nt ∧ H2 l2 = some (.lst (os2.map V.str)) ∧ H2 wd = some (.lst (Wd.map V.str)) ∧ H2 du = some (.lst (bs.map V.bl)) ∧ Same H H2)
    ⟨0, n0, none, none, none, os2, [], rfl, n00, nn0, RowInv.zero bb dd pw 0 ok2, hl2, hwd, hdu, TX⟩ ?_ ?_⟩
  · rintro i σ H3 hi ⟨nt, n, o10, o11, o12, Wd, bs, rfl, n0', nn, inv, hl3, hw3, hd3, s3⟩
    have ii : (0 + (i : Int)) = (i : Int) := by omega
    rw [ii]
    have iz : i < z := by omega
    refine atG [some (.ref a), some (.int k), some (.int v), some (.int (z : Int)), some (.str (jS bb)), some (.ref l2), some (.ref wd), some (.ref du), some (.int nt), some (.int n), some (.int (i : Int)), o11, o12, none] rfl ?_
    refine ⟨_, rfl, _, rfl, _, _, rfl, rfl, .inl ⟨by decide, by decide⟩, _, rfl, _, _, rfl, rfl, v, 2 * k + (i : Int), rfl, v0, by omega, by omega, by omega, fun m m0 m1 => ⟨m, rfl, m0, fun p la c H4 s4 la0 hp hla okc => ?_⟩⟩
    refine ⟨p, _, rfl, SqT.of hp, rfl, _, _, rfl, ?_⟩
    refine atG [some (.ref a), some (.int k), some (.int v), some (.int (z : Int)), some (.str (jS bb)), some (.ref l2), some (.ref wd), some (.ref du), some (.int nt), some (.int n), some (.int (i : Int)), some (.ref la), o12, none] rfl ?_
    refine ⟨_, _, rfl, ?_⟩
    refine atG [some (.ref a), some (.int k), some (.int v), some (.int (z : Int)), some (.str (jS bb)), some (.ref l2), some (.ref wd), some (.ref du), some (.int nt), some (.int n), some (.int (i : Int)), some (.ref la), some (.bl (holdsC c x28)), none] rfl ?_
    refine ⟨rfl, ?_⟩
    replace hl3 := s4 _ _ hl3
    have hw4 := s4 _ _ hw3
    have hd4 := s4 _ _ hd3
    have S4 := s3.trans s4
    refine seqIn (fun σ' H' => ∃ lb w t, σ' = [some (.ref a), some (.int k), some (.int v), some (.int (z : Int)), some (.str (jS bb)), some (.ref l2), some (.ref wd), some (.ref du), some (.int nt), some (.int n), some (.int (i : Int)), some (.ref lb), some (.bl (hT t x28)), none] ∧ H' lb = some (.lst (w.map V.str)) ∧ PcOk dd pw w t ∧ H3 lb = none ∧ Same H4 H') (fun N hN => ?_) (fun σ' H5 g => ?_)
    · refine ⟨_, rfl, _, _, rfl, rfl, (by show (0 : Int) < 2; decide), rfl, _, rfl, ?_⟩
      by_cases d1 : n % 2 = 1
      · refine dT (congrArg V.int d1) ?_
        have n1 : z0 < 6 ∧ z < 10 := by rcases nn with e | e; (rw [e] at d1; exact absurd d1 (by decide)); exact e
        obtain ⟨dA1, dA2⟩ := dA n1
        refine seqI (fun σ' H' => ∃ lb w, σ' = [some (.ref a), some (.int k), some (.int v), some (.int (z : Int)), some (.str (jS bb)), some (.ref l2), some (.ref wd), some (.ref du), some (.int nt), some (.int n), some (.int (i : Int)), some (.ref lb), some (.bl (holdsC c x28)), none] ∧ H' lb = some (.lst (w.map V.str)) ∧ PcOk dd pw (Str.ofString "not" :: w) (.no (.at c)) ∧ w.length < 20 ∧ Same H4 H') (fun N2 hN2 => ?_) (fun σ' H5 g => ?_)
        · have plain := hN2 _ _ ⟨la, wordsC c, rfl, hla, pc_not okc dA2 dA1, (by have := wordsC_len c; omega), Same.refl H4⟩
          refine ⟨_, rfl, _, _, rfl, rfl, ⟨by decide, by decide⟩, _, _, rfl, rfl, (by show (0 : Int) < 2; decide), rfl, _, rfl, ?_⟩
          by_cases f1 : v / 700 % 2 = 1
          · refine dT (congrArg V.int f1) ⟨_, rfl, _, _, rfl, rfl, _, rfl, ?_⟩
            by_cases f2 : z < 8
            · refine dT (by omega) ⟨_, rfl, l2, _, rfl, .inl (SqL.of hl3), _, _, rfl, rfl, _, rfl, ?_⟩
              by_cases f3 : z0 < 5
              · refine dT (by rw [ll]; omega) ?_
                obtain ⟨dB1, dB2⟩ := dB ⟨f2, f3⟩
                refine ⟨le_line (by show 1 ≤ 1000; decide), fun g0 ng0 => ?_⟩
                have ug0 := same_new ng0 (.lst [V.str (Str.ofString "(")])
                have hg0 : upd H4 g0 (.lst [V.str (Str.ofString "(")]) g0 = some (.lst [V.str (Str.ofString "(")]) := upd_same
                generalize upd H4 g0 (.lst [V.str (Str.ofString "(")]) = X4 at ug0 hg0
                replace hla := ug0 _ _ hla
                have S4 := (Same.refl H4).trans ug0
                refine ⟨_, rfl, g0, la, _, _, rfl, rfl, hg0, hla, (by have := wordsC_len c; rw [List.length_map, sizeLine_eq]; show 1 + _ ≤ _; omega), fun g1 ng1 => ?_⟩
                have ug1 := same_new ng1 (.lst ([V.str (Str.ofString "(")] ++ (wordsC c).map V.str))
                have hg1 : upd X4 g1 (.lst ([V.str (Str.ofString "(")] ++ (wordsC c).map V.str)) g1 = some (.lst ([V.str (Str.ofString "(")] ++ (wordsC c).map V.str)) := upd_same
                generalize upd X4 g1 (.lst ([V.str (Str.ofString "(")] ++ (wordsC c).map V.str)) = X5 at ug1 hg1
                replace hla := ug1 _ _ hla
                replace hg0 := ug1 _ _ hg0
                have S5 := S4.trans ug1
                refine ⟨le_line (by show 1 ≤ 1000; decide), fun g2 ng2 => ?_⟩
                have ug2 := same_new ng2 (.lst [V.str (Str.ofString ")")])
                have hg2 : upd X5 g2 (.lst [V.str (Str.ofString ")")]) g2 = some (.lst [V.str (Str.ofString ")")]) := upd_same
                generalize upd X5 g2 (.lst [V.str (Str.ofString ")")]) = X6 at ug2 hg2
                replace hla := ug2 _ _ hla
                replace hg0 := ug2 _ _ hg0
                replace hg1 := ug2 _ _ hg1
                have S6 := S5.trans ug2
                refine ⟨g1, g2, _, _, rfl, rfl, hg1, hg2, (by have := wordsC_len c; rw [List.length_append, List.length_map, sizeLine_eq]; show 1 + _ + 1 ≤ _; omega), fun g3 ng3 => ?_⟩
                refine hN2 _ _ ⟨g3, Str.ofString "(" :: (wordsC c ++ [Str.ofString ")"]), rfl, ?_, pc_notbr okc dB2 dB1, (by have := wordsC_len c; rw [List.length_cons, List.length_append]; show _ + 1 + 1 < _; omega), S6.trans (same_new ng3 _)⟩
                rw [upd_same, List.map_cons, List.map_append]; rfl
              · exact dF (by rw [ll]; omega) plain
            · exact dF (by omega) (iteF plain)
          · exact dF (vne f1) (iteF plain)
        · obtain ⟨lb, w, rfl, hlb, pc, w20, s5⟩ := g
          refine ⟨le_line (by show 1 ≤ 1000; decide), fun g4 ng4 => ?_⟩
          have ug4 := same_new ng4 (.lst [V.str (Str.ofString "not")])
          have hg4 : upd H5 g4 (.lst [V.str (Str.ofString "not")]) g4 = some (.lst [V.str (Str.ofString "not")]) := upd_same
          generalize upd H5 g4 (.lst [V.str (Str.ofString "not")]) = X4 at ug4 hg4
          replace hlb := ug4 _ _ hlb
          have S4 := s5.trans ug4
          refine ⟨_, rfl, g4, lb, _, _, rfl, rfl, hg4, hlb, (by rw [List.length_map, sizeLine_eq]; show 1 + _ ≤ _; omega), fun g5 ng5 => ?_⟩
          refine atG [some (.ref a), some (.int k), some (.int v), some (.int (z : Int)), some (.str (jS bb)), some (.ref l2), some (.ref wd), some (.ref du), some (.int nt), some (.int n), some (.int (i : Int)), some (.ref g5), some (.bl (holdsC c x28)), none] rfl ?_
          refine ⟨_, rfl, _, rfl, ?_⟩
          refine hN _ _ ⟨g5, Str.ofString "not" :: w, .no (.at c), ?_, ?_, pc, (s4.trans S4).free ng5, S4.trans (same_new ng5 _)⟩
          · show List.set _ 12 _ = _
            rw [show hT (.no (.at c)) x28 = !holdsC c x28 by rw [hT, hT]]
            rfl
          · rw [upd_same, List.map_cons]; rfl
      · exact dF (vne d1) (hN _ _ ⟨la, wordsC c, .at c, by rw [show hT (.at c) x28 = holdsC c x28 by rw [hT]], hla, pc_plain okc pw3, la0, Same.refl H4⟩)
    obtain ⟨lb, w, t, rfl, hlb, pc, lb0, s5⟩ := g
    replace hl3 := s5 _ _ hl3
    have hw5 := s5 _ _ hw4
    have hd5 := s5 _ _ hd4
    have S5 := S4.trans s5
    have lb_wd : lb ≠ wd := fun e => by rw [e, hw3] at lb0; cases lb0
    have lb_du : lb ≠ du := fun e => by rw [e, hd3] at lb0; cases lb0
    refine ⟨_, rfl, _, _, rfl, rfl, ⟨by decide, by decide⟩, ?_⟩
    refine atG [some (.ref a), some (.int k), some (.int v), some (.int (z : Int)), some (.str (jS bb)), some (.ref l2), some (.ref wd), some (.ref du), some (.int nt), some (.int (n / 2)), some (.int (i : Int)), some (.ref lb), some (.bl (hT t x28)), none] rfl ?_
    have nn2 : 0 ≤ n / 2 := Int.ediv_nonneg n0' (by decide)
    have nn3 : n / 2 = 0 ∨ (z0 < 6 ∧ z < 10) := by rcases nn with e | e; (left; rw [e]; rfl); exact .inr e
    refine seqIn (fun σ' H' => ∃ (nt' : Int) (lc : Addr) (w' : List Str), σ' = [some (.ref a), some (.int k), some (.int v), some (.int (z : Int)), some (.str (jS bb)), some (.ref l2), some (.ref wd), some (.ref du), some (.int nt'), some (.int (n / 2)), some (.int (i : Int)), some (.ref lc), some (.bl (hT t x28)), none] ∧ H' lc = some (.lst (w'.map V.str)) ∧ H3 lc = none ∧ Same H5 H' ∧ w'.length ≤ pw ∧ (∀ x ∈ w', okW x) ∧ (i ≠ 8 → w' = w ∧ nt' = nt) ∧ (i = 8 → nt' = (Wd.length : Int) + 1)) (fun N hN => ?_) (fun σ' H6 g => ?_)
    · refine ⟨_, rfl, rfl, _, rfl, ?_⟩
      by_cases e8 : i = 8
      · refine dT (by rw [e8]; rfl) ?_
        refine ⟨_, rfl, wd, _, rfl, .inl (SqL.of hw5), _, _, rfl, rfl, ?_⟩
        refine atG [some (.ref a), some (.int k), some (.int v), some (.int (z : Int)), some (.str (jS bb)), some (.ref l2), some (.ref wd), some (.ref du), some (.int ((Wd.length : Int) + 1)), some (.int (n / 2)), some (.int (i : Int)), some (.ref lb), some (.bl (hT t x28)), none] (by rw [List.length_map]; rfl) ?_
        refine ⟨_, rfl, ?_⟩
        refine ⟨le_line (by show 2 ≤ 1000; decide), fun e0 ne0 => ?_⟩
        have fe0 : H5 e0 = none := ne0
        have ue0 := same_new ne0 (.lst [V.str (Str.ofString "not"), V.str (Str.ofString "always")])
        have he0 : upd H5 e0 (.lst [V.str (Str.ofString "not"), V.str (Str.ofString "always")]) e0 = some (.lst [V.str (Str.ofString "not"), V.str (Str.ofString "always")]) := upd_same
        generalize upd H5 e0 (.lst [V.str (Str.ofString "not"), V.str (Str.ofString "always")]) = X4 at ue0 he0
        replace hlb := ue0 _ _ hlb
        have S4 := (Same.refl H5).trans ue0
        refine ⟨le_line (by show 3 ≤ 1000; decide), fun e1 ne1 => ?_⟩
        have fe1 : H5 e1 = none := S4.free ne1
        have ue1 := same_new ne1 (.lst [V.str (Str.ofString "("), V.str (Str.ofString "always"), V.str (Str.ofString ")")])
        have he1 : upd X4 e1 (.lst [V.str (Str.ofString "("), V.str (Str.ofString "always"), V.str (Str.ofString ")")]) e1 = some (.lst [V.str (Str.ofString "("), V.str (Str.ofString "always"), V.str (Str.ofString ")")]) := upd_same
        generalize upd X4 e1 (.lst [V.str (Str.ofString "("), V.str (Str.ofString "always"), V.str (Str.ofString ")")]) = X5 at ue1 he1
        replace hlb := ue1 _ _ hlb
        replace he0 := ue1 _ _ he0
        have S5 := S4.trans ue1
        refine ⟨le_line (by show 1 ≤ 1000; decide), fun e2 ne2 => ?_⟩
        have fe2 : H5 e2 = none := S5.free ne2
        have ue2 := same_new ne2 (.lst [V.str (Str.ofString "and")])
        have he2 : upd X5 e2 (.lst [V.str (Str.ofString "and")]) e2 = some (.lst [V.str (Str.ofString "and")]) := upd_same
        generalize upd X5 e2 (.lst [V.str (Str.ofString "and")]) = X6 at ue2 he2
        replace hlb := ue2 _ _ hlb
        replace he0 := ue2 _ _ he0
        replace he1 := ue2 _ _ he1
        have S6 := S5.trans ue2
        refine ⟨le_line (by show 1 ≤ 1000; decide), fun e3 ne3 => ?_⟩
        have fe3 : H5 e3 = none := S6.free ne3
        have ue3 := same_new ne3 (.lst [V.str (Str.ofString "")])
        have he3 : upd X6 e3 (.lst [V.str (Str.ofString "")]) e3 = some (.lst [V.str (Str.ofString "")]) := upd_same
        generalize upd X6 e3 (.lst [V.str (Str.ofString "")]) = X7 at ue3 he3
        replace hlb := ue3 _ _ hlb
        replace he0 := ue3 _ _ he0
        replace he1 := ue3 _ _ he1
        replace he2 := ue3 _ _ he2
        have S7 := S6.trans ue3
        refine ⟨le_line (by show 5 ≤ 1000; decide), fun e5 ne5 => ?_⟩
        have ue5 := same_new ne5 (.lst [V.ref lb, .ref e0, .ref e1, .ref e2, .ref e3])
        have he5 : upd X7 e5 (.lst [V.ref lb, .ref e0, .ref e1, .ref e2, .ref e3]) e5 = some (.lst [V.ref lb, .ref e0, .ref e1, .ref e2, .ref e3]) := upd_same
        generalize upd X7 e5 (.lst [V.ref lb, .ref e0, .ref e1, .ref e2, .ref e3]) = X8 at ue5 he5
        replace hlb := ue5 _ _ hlb
        replace he0 := ue5 _ _ he0
        replace he1 := ue5 _ _ he1
        replace he2 := ue5 _ _ he2
        replace he3 := ue5 _ _ he3
        have S8 := S7.trans ue5
        have fr : ∀ g, H5 g = none → H3 g = none := fun g hg => (s4.trans s5).free hg
        have key : ∃ (g : Addr) (xs : List Str), atI [V.ref lb, .ref e0, .ref e1, .ref e2, .ref e3] (v / 140 % 5) = some (.ref g) ∧ X8 g = some (.lst (xs.map V.str)) ∧ H3 g = none ∧ xs.length ≤ pw ∧ ∀ w ∈ xs, okW w := by
          have i5 : v / 140 % 5 = 0 ∨ v / 140 % 5 = 1 ∨ v / 140 % 5 = 2 ∨ v / 140 % 5 = 3 ∨ v / 140 % 5 = 4 := by omega
          have okl : ∀ w ∈ [Str.ofString "not", Str.ofString "always", Str.ofString "(", Str.ofString ")", Str.ofString "and", Str.ofString ""], okW w := by
            intro w hw
            simp only [List.mem_cons, List.not_mem_nil, or_false] at hw
            rcases hw with rfl | rfl | rfl | rfl | rfl | rfl <;> exact ⟨by decide +kernel, by decide +kernel⟩
          rcases i5 with i | i | i | i | i
          · exact ⟨lb, w, by rw [i]; rfl, hlb, lb0, pc.2.2.1, pc.2.2.2.2⟩
          · refine ⟨e0, [Str.ofString "not", Str.ofString "always"], by rw [i]; rfl, he0, fr _ fe0, by show 2 ≤ pw; omega, fun w hw => okl w ?_⟩
            simp only [List.mem_cons, List.not_mem_nil, or_false] at hw ⊢
            rcases hw with rfl | rfl <;> simp
          · refine ⟨e1, [Str.ofString "(", Str.ofString "always", Str.ofString ")"], by rw [i]; rfl, he1, fr _ fe1, by show 3 ≤ pw; omega, fun w hw => okl w ?_⟩
            simp only [List.mem_cons, List.not_mem_nil, or_false] at hw ⊢
            rcases hw with rfl | rfl | rfl <;> simp
          · refine ⟨e2, [Str.ofString "and"], by rw [i]; rfl, he2, fr _ fe2, by show 1 ≤ pw; omega, fun w hw => okl w ?_⟩
            simp only [List.mem_cons, List.not_mem_nil, or_false] at hw ⊢
            subst hw <;> simp
          · refine ⟨e3, [Str.ofString ""], by rw [i]; rfl, he3, fr _ fe3, by show 1 ≤ pw; omega, fun w hw => okl w ?_⟩
            simp only [List.mem_cons, List.not_mem_nil, or_false] at hw ⊢
            subst hw <;> simp
        obtain ⟨g, xs, hg, hgl, hg0, lx, okx⟩ := key
        refine ⟨_, rfl, _, _, rfl, rfl, ⟨by decide, by decide⟩, _, _, rfl, rfl, (by show (0 : Int) < 5; decide), e5, _, _, _, rfl, rfl, SqL.of he5, hg, ?_⟩
        exact hN _ _ ⟨_, g, xs, rfl, hgl, hg0, S8, lx, okx, fun e => absurd e8 e, fun _ => rfl⟩
      · exact dF (fun e => e8 (by have := V.int.inj e; omega)) (hN _ _ ⟨nt, lb, w, rfl, hlb, lb0, Same.refl H5, pc.2.2.1, pc.2.2.2.2, fun _ => ⟨rfl, rfl⟩, fun e => absurd e e8⟩)
    obtain ⟨nt', lc, w', rfl, hlc, lc0, s6, lw', okw', ne8, is8⟩ := g
    replace hl3 := s6 _ _ hl3
    have hw6 := s6 _ _ hw5
    have hd6 := s6 _ _ hd5
    have S6 := S5.trans s6
    have lc_wd : lc ≠ wd := fun e => by rw [e, hw3] at lc0; cases lc0
    have lc_du : lc ≠ du := fun e => by rw [e, hd3] at lc0; cases lc0
    have wl := inv.2.1
    have bl := inv.1
    have izp : i * (pw + 1) ≤ z * (pw + 1) := Nat.mul_le_mul_right _ (by omega)
    have lo2 := lz2
    refine seqI (fun σ' H' => σ' = [some (.ref a), some (.int k), some (.int v), some (.int (z : Int)), some (.str (jS bb)), some (.ref l2), some (.ref wd), some (.ref du), some (.int nt'), some (.int (n / 2)), some (.int (i : Int)), some (.ref lc), some (.bl (hT t x28)), none] ∧ ((i = 0 ∧ H' = H6) ∨ (1 ≤ i ∧ H' = upd H6 wd (.lst ((Wd ++ [jS bb]).map V.str))))) (fun N hN => ?_) (fun σ' H7 g => ?_)
    · refine ⟨_, rfl, _, _, rfl, rfl, _, rfl, ?_⟩
      by_cases e0 : i = 0
      · exact dF (by omega) (hN _ _ ⟨rfl, .inl ⟨e0, rfl⟩⟩)
      · refine dT (by omega) ⟨_, rfl, .inl ⟨rfl, _, SqL.of hw6⟩, _, rfl, wd, _, _, rfl, rfl, hw6, (by rw [List.length_map, sizeLine_eq]; omega), ?_⟩
        refine hN _ _ ⟨rfl, .inr ⟨by omega, ?_⟩⟩
        rw [List.map_append]; rfl
    obtain ⟨rfl, alt⟩ := g
    have hx : ∃ Wj : List Str, H7 wd = some (.lst (Wj.map V.str)) ∧ Wj.length ≤ Wd.length + 1 ∧ H7 lc = some (.lst (w'.map V.str)) ∧ H7 du = some (.lst (bs.map V.bl)) ∧ H7 l2 = some (.lst (os2.map V.str)) ∧ Same H H7 ∧ ((i = 0 ∧ Wj = Wd) ∨ (1 ≤ i ∧ Wj = Wd ++ [jS bb])) := by
      rcases alt with ⟨e0, rfl⟩ | ⟨e1, rfl⟩
      · exact ⟨Wd, hw6, by omega, hlc, hd6, hl3, S6, .inl ⟨e0, rfl⟩⟩
      · exact ⟨Wd ++ [jS bb], upd_same, by rw [List.length_append]; exact Nat.le_refl _, by rw [upd_ne lc_wd]; exact hlc, by rw [upd_ne (Ne.symm wd_du)]; exact hd6, by rw [upd_ne l2_wd]; exact hl3, same_upd wdH S6, .inr ⟨e1, rfl⟩⟩
    clear alt
    obtain ⟨Wj, hw7, lj, hlc7, hd7, hl7, S7, alt⟩ := hx
    refine ⟨_, rfl, .inl ⟨rfl, _, SqL.of hw7⟩, _, rfl, wd, lc, _, _, rfl, rfl, hw7, hlc7, (by rw [List.length_map, List.length_map, sizeLine_eq]; omega), ?_⟩
    rw [map2]
    have hd8 : upd H7 wd (.lst ((Wj ++ w').map V.str)) du = some (.lst (bs.map V.bl)) := by rw [upd_ne (Ne.symm wd_du)]; exact hd7
    have hw8 : upd H7 wd (.lst ((Wj ++ w').map V.str)) wd = some (.lst ((Wj ++ w').map V.str)) := upd_same
    have hl8 : upd H7 wd (.lst ((Wj ++ w').map V.str)) l2 = some (.lst (os2.map V.str)) := by rw [upd_ne l2_wd]; exact hl7
    have S8 : Same H (upd H7 wd (.lst ((Wj ++ w').map V.str))) := same_upd wdH S7
    generalize upd H7 wd (.lst ((Wj ++ w').map V.str)) = H8 at hd8 hw8 hl8 S8
    refine ⟨_, rfl, .inl ⟨rfl, _, SqL.of hd8⟩, _, rfl, du, _, _, rfl, rfl, hd8, (by rw [List.length_map, sizeLine_eq]; omega), ?_⟩
    refine ⟨nt', n / 2, some (.int (i : Int)), some (.ref lc), some (.bl (hT t x28)), Wj ++ w', bs ++ [hT t x28], rfl, nn2, nn3, ?_, by rw [upd_ne l2_du]; exact hl8, by rw [upd_ne wd_du]; exact hw8, by rw [upd_same, List.map_append]; rfl, same_upd duH S8⟩
    rcases alt with ⟨e0, rfl⟩ | ⟨e1, rfl⟩
    · subst e0
      obtain ⟨rfl, rfl⟩ := ne8 (by decide)
      exact inv.first pc
    · by_cases e8 : i = 8
      · subst e8
        rw [is8 rfl]
        exact inv.ninth _ lw' okw'
      · obtain ⟨rfl, rfl⟩ := ne8 e8
        by_cases l8 : i < 8
        · exact inv.next e1 l8 pc
        · exact inv.more _ (by omega) lw' okw'
  · rintro σ H3 ⟨nt, n, o10, o11, o12, Wd, bs, rfl, n0', nn, inv, hl3, hw3, hd3, s3⟩
    have zz : ((z : Int)).toNat = z := Int.toNat_natCast z
    rw [zz] at inv
    have no := nO_le os2
    have wl := inv.2.1
    have bl := inv.1
    have lo2 := lz2
    have wz : Wd.length + nO os2 ≤ 60 := by omega
    refine ⟨rfl, _, rfl, ?_⟩
    refine ⟨le_line (by show 1 ≤ 1000; decide), fun d0 nd0 => ?_⟩
    have ud0 := same_new nd0 (.lst [V.str (Str.ofString ")")])
    have hd0 : upd H3 d0 (.lst [V.str (Str.ofString ")")]) d0 = some (.lst [V.str (Str.ofString ")")]) := upd_same
    generalize upd H3 d0 (.lst [V.str (Str.ofString ")")]) = X4 at ud0 hd0
    replace hl3 := ud0 _ _ hl3
    replace hw3 := ud0 _ _ hw3
    replace hd3 := ud0 _ _ hd3
    have S4 := s3.trans ud0
    refine ⟨_, rfl, .inl ⟨rfl, _, SqL.of hl3⟩, l2, _, _, rfl, rfl, SqL.of hl3, rfl, flat_str os2, d0, _, _, rfl, rfl, hd0, ?_⟩
    rw [cntO]
    refine ⟨by omega, by omega, (by rw [Int.toNat_natCast, sizeLine_eq]; show 1 * nO os2 ≤ _; omega), fun d1 nd1 => ?_⟩
    rw [Int.toNat_natCast, rep_str]
    have ud1 := same_new nd1 (.lst ((List.replicate (nO os2) (Str.ofString ")")).map V.str))
    have hd1 : upd X4 d1 (.lst ((List.replicate (nO os2) (Str.ofString ")")).map V.str)) d1 = some (.lst ((List.replicate (nO os2) (Str.ofString ")")).map V.str)) := upd_same
    generalize upd X4 d1 (.lst ((List.replicate (nO os2) (Str.ofString ")")).map V.str)) = X5 at ud1 hd1
    replace hl3 := ud1 _ _ hl3
    replace hw3 := ud1 _ _ hw3
    replace hd3 := ud1 _ _ hd3
    replace hd0 := ud1 _ _ hd0
    have S5 := S4.trans ud1
    refine ⟨wd, d1, _, _, rfl, rfl, hw3, hd1, (by rw [List.length_map, List.length_map, List.length_replicate, sizeLine_eq]; omega), fun d2 nd2 => ?_⟩
    rw [map2]
    have ud2 := same_new nd2 (.lst ((Wd ++ List.replicate (nO os2) (Str.ofString ")")).map V.str))
    have hd2 : upd X5 d2 (.lst ((Wd ++ List.replicate (nO os2) (Str.ofString ")")).map V.str)) d2 = some (.lst ((Wd ++ List.replicate (nO os2) (Str.ofString ")")).map V.str)) := upd_same
    generalize upd X5 d2 (.lst ((Wd ++ List.replicate (nO os2) (Str.ofString ")")).map V.str)) = X6 at ud2 hd2
    replace hl3 := ud2 _ _ hl3
    replace hw3 := ud2 _ _ hw3
    replace hd3 := ud2 _ _ hd3
    replace hd0 := ud2 _ _ hd0
    replace hd1 := ud2 _ _ hd1
    have S6 := S5.trans ud2
    have tl : (Wd ++ List.replicate (nO os2) (Str.ofString ")")).length = Wd.length + nO os2 := by rw [List.length_append, List.length_replicate]
    have okw : ∀ w ∈ Wd ++ List.replicate (nO os2) (Str.ofString ")"), okW w := okW_app inv.2.2.1 (okW_rep _)
    have w1 : 1 ≤ Wd.length := by
      obtain ⟨_, _, _, wss, ts, sp, _, alt⟩ := inv
      rcases alt with ⟨_, l0, _, rfl⟩ | ⟨_, _, ⟨rest, rfl⟩, _⟩
      · have lw := sp.len
        cases wss with
        | nil => rw [List.length_nil] at lw; omega
        | cons w0 wss =>
          obtain ⟨_, hts⟩ : ∃ t0, ts[0]? = some t0 := ⟨_, List.getElem?_eq_getElem (by omega)⟩
          obtain ⟨ws, d', e1, _, e3⟩ := sp.get hts
          have : w0 = ws := by simpa using e1
          subst this
          have := spl_pos e3
          rw [joinL, List.length_append, List.length_append]; omega
      · rw [List.length_append, List.length_cons]; omega
    refine ⟨_, d2, Wd ++ List.replicate (nO os2) (Str.ofString ")"), rfl, rfl, SqL.of hd2, by omega, by omega, (by decide +kernel), (fun w hw => by have := (okw w hw).2; omega), ?_⟩
    refine atG [some (.ref a), some (.int k), some (.int v), some (.int (z : Int)), some (.str (jS bb)), some (.ref l2), some (.ref wd), some (.ref du), some (.int nt), some (.int n), o10, o11, o12, some (.str (Str.join (Str.ofString " ") (Wd ++ List.replicate (nO os2) (Str.ofString ")"))))] rfl ?_
    have hne : Wd ++ List.replicate (nO os2) (Str.ofString ")") ≠ [] := fun e => by rw [e, List.length_nil] at tl; omega
    refine ⟨_, rfl, _, _, rfl, rfl, _, rfl, ?_⟩
    by_cases z8 : (z : Int) > 8
    · obtain ⟨kk, rfl, fl⟩ := inv.bad (by omega) ok2 en2 (by omega) (by rw [tl]; exact wz)
      exact dT z8 ⟨_, rfl, _, rfl, Wd ++ List.replicate (nO os2) (Str.ofString ")"), kk, rfl, hne, okw, by omega, fl, fun H9 s9 => q H9 (S6.trans s9)⟩
    · refine dF z8 ?_
      obtain ⟨t, d, sp, d6, hg, ev⟩ := inv.good z2 (by omega) ok2 en2 (by omega)
      refine ⟨_, rfl, du, _, rfl, .inl (SqL.of hd3), rfl, flat_bl bs, _, rfl, du, _, rfl, .inl (SqL.of hd3), rfl, flat_bl bs, le_line (by show 2 ≤ 1000; decide), fun d3 nd3 => ?_⟩
      refine ⟨_, rfl, rfl, .inr ⟨_, rfl, d3, _, _, _, rfl, rfl, SqT.of upd_same, row_ix bb _ _, ?_⟩⟩
      have hl9 := same_new nd3 (.tup [V.bl (!inV (.bl false) (bs.map V.bl)), V.bl (inV (.bl true) (bs.map V.bl))]) _ _ hl3
      have S9 := S6.trans (same_new nd3 (.tup [V.bl (!inV (.bl false) (bs.map V.bl)), V.bl (inV (.bl true) (bs.map V.bl))]))
      refine atG [some (.ref a), some (.int k), some (.int v), some (.int (z : Int)), some (.str (jS bb)), some (.ref l2), some (.ref wd), some (.ref du), some (.int nt), some (.int n), o10, o11, some (.bl (if bb then !inV (.bl false) (bs.map V.bl) else inV (.bl true) (bs.map V.bl))), some (.str (Str.join (Str.ofString " ") (Wd ++ List.replicate (nO os2) (Str.ofString ")"))))] rfl ?_
      have hg2 := wrap_hgt os2 t
      refine ⟨_, rfl, Wd ++ List.replicate (nO os2) (Str.ofString ")"), wrap os2 t, d, rfl, hne, okw, by omega, sp, d6, by omega, fun H9 s9 => ?_⟩
      have hlz := s9 _ _ hl9
      refine ⟨_, rfl, _, rfl, .inl ⟨rfl, _, SqL.of hlz⟩, l2, _, _, rfl, rfl, SqL.of hlz, rfl, flat_str os2, _, _, rfl, rfl, (by show (0 : Int) < 2; decide), rfl, rfl, _, _, rfl, ?_⟩
      rw [cntN, even_eq]
      have := nest_val (t := t) (b := if bb then !inV (.bl false) (bs.map V.bl) else inV (.bl true) (bs.map V.bl)) ok2 (by rw [ev, inV_bl, inV_bl])
      rw [this]
      exact q _ (S9.trans s9)
end


/-! ### long texts: rows of eight -/
abbrev sAlw : Str := Str.ofString "always"
abbrev sBad : Str := Str.ofString "Always"
def pcW (od j : Nat) : List Str := if j = od then [sNot, sAlw] else [sAlw]
def pcT (od j : Nat) : Cnd := if j = od then .no (.at .alw) else .at .alw
theorem pc_spl (od j : Nat) : ∃ d, Sp8 0 (pcW od j) (pcT od j) d ∧ d ≤ 1 := by
  unfold pcW pcT
  split
  · exact ⟨0 + 1, .no (.leaf (c := .alw) trivial), by omega⟩
  · exact ⟨0, .leaf (c := .alw) trivial, by omega⟩
theorem pc_hT (od j : Nat) : hT (pcT od j) x28 = !decide (j = od) := by
  unfold pcT
  by_cases c : j = od
  · rw [if_pos c, decide_eq_true c, hT, hT]; rfl
  · rw [if_neg c, decide_eq_false c, hT]; rfl
theorem pc_hgt (od j : Nat) : hgt (pcT od j) ≤ 1 := by
  unfold pcT
  split
  · rw [hgt, hgt]; omega
  · rw [hgt]; omega
theorem okW_alw : okW sAlw := ⟨by decide +kernel, by decide +kernel⟩
theorem okW_not : okW sNot := ⟨by decide +kernel, by decide +kernel⟩
theorem pc_okW (od j : Nat) : ∀ w ∈ pcW od j, okW w := by
  unfold pcW
  intro w hw
  split at hw
  · simp only [List.mem_cons, List.not_mem_nil, or_false] at hw
    rcases hw with rfl | rfl
    · exact okW_not
    · exact okW_alw
  · rw [List.mem_singleton.mp hw]; exact okW_alw
def mkRow : List Cnd → Cnd
  | [t] => t
  | ts => .al ts
def mkSom : List Cnd → Cnd
  | [t] => t
  | ts => .so ts
theorem mkRow_spl {cw : List (List Str)} {ct : List Cnd} {d : Nat} (h : Sps8 0 cw ct d) (h1 : 1 ≤ ct.length) (h8 : ct.length ≤ 8) : ∃ d', Sp8 1 (joinL sAnd cw) (mkRow ct) d' ∧ d' ≤ d := by
  cases h with
  | nil => simp at h1
  | @cons _ ws t d' wss ts _ a b c =>
    cases ts with
    | nil =>
      have : wss = [] := List.length_eq_zero_iff.mp c.len
      subst this
      refine ⟨d', ?_, b⟩
      show Sp8 1 (ws ++ []) t d'
      rw [List.append_nil]
      exact .row1 a
    | cons t2 ts => exact ⟨d, .rowN (.cons a b c) (by simp) h8, Nat.le_refl _⟩
theorem mkSom_spl {cw : List (List Str)} {ct : List Cnd} {d : Nat} (h : Sps8 1 cw ct d) (h1 : 1 ≤ ct.length) (h8 : ct.length ≤ 8) : ∃ d', Sp8 2 (joinL sOr cw) (mkSom ct) d' ∧ d' ≤ d := by
  cases h with
  | nil => simp at h1
  | @cons _ ws t d' wss ts _ a b c =>
    cases ts with
    | nil =>
      have : wss = [] := List.length_eq_zero_iff.mp c.len
      subst this
      refine ⟨d', ?_, b⟩
      show Sp8 2 (ws ++ []) t d'
      rw [List.append_nil]
      exact .rows1 a
    | cons t2 ts => exact ⟨d, .rowsN (.cons a b c) (by simp) h8, Nat.le_refl _⟩
theorem mkRow_hT (x : LS) : ∀ {ts : List Cnd}, 1 ≤ ts.length → hT (mkRow ts) x = hAll ts x
  | [], h => by simp at h
  | [t], _ => by show hT t x = hAll [t] x; rw [hAll]; unfold hAll; rw [Bool.and_true]
  | t :: u :: ts, _ => by show hT (.al (t :: u :: ts)) x = _; rw [hT]
theorem mkSom_hT (x : LS) : ∀ {ts : List Cnd}, 1 ≤ ts.length → hT (mkSom ts) x = hSom ts x
  | [], h => by simp at h
  | [t], _ => by show hT t x = hSom [t] x; rw [hSom]; unfold hSom; rw [Bool.or_false]
  | t :: u :: ts, _ => by show hT (.so (t :: u :: ts)) x = _; rw [hT]
theorem mkRow_hgt {n : Nat} : ∀ {ts : List Cnd}, (∀ t ∈ ts, hgt t ≤ n) → hgt (mkRow ts) ≤ n + 1
  | [], _ => by show hgt (.al []) ≤ _; rw [hgt]; unfold hgts; omega
  | [t], h => by have := h t List.mem_cons_self; show hgt t ≤ _; omega
  | t :: u :: ts, h => by have := hgts_all h; show hgt (.al (t :: u :: ts)) ≤ _; rw [hgt]; omega
theorem mkSom_hgt {n : Nat} : ∀ {ts : List Cnd}, (∀ t ∈ ts, hgt t ≤ n) → hgt (mkSom ts) ≤ n + 1
  | [], _ => by show hgt (.so []) ≤ _; rw [hgt]; unfold hgts; omega
  | [t], h => by have := h t List.mem_cons_self; show hgt t ≤ _; omega
  | t :: u :: ts, h => by have := hgts_all h; show hgt (.so (t :: u :: ts)) ≤ _; rw [hgt]; omega
theorem hAll_snoc (x : LS) (t : Cnd) : ∀ ts : List Cnd, hAll (ts ++ [t]) x = (hAll ts x && hT t x)
  | [] => by
    have e : hAll [] x = true := by unfold hAll; rfl
    show hAll [t] x = (hAll [] x && hT t x)
    rw [e, hAll, e, Bool.and_true, Bool.true_and]
  | u :: ts => by rw [List.cons_append, hAll, hAll_snoc x t ts, hAll, Bool.and_assoc]
/-- the words ahead of a place where a word that can't stand is put -/
def PreOk (pre : List Str) : Prop := (∃ t d, Sp8 2 pre t d ∧ d ≤ 6) ∨ ∀ post, Fl8 2 0 (pre ++ sBad :: post) (.at pre.length)
theorem bad_af (post : List Str) : af28 (sBad :: post) 0 := ⟨rfl, fun x hx => by cases hx; decide +kernel⟩
theorem bad_fl (post : List Str) : Fl8 0 0 (sBad :: post) (.at 0) := .atom (bad_af post)
theorem bad_fl1 (post : List Str) : Fl8 0 0 (sNot :: sBad :: post) (.at 1) := .no (by omega) (.atom (bad_af post))
structure LongC (od j : Nat) (Wd : List Str) (fw : List (List Str)) (ft : List Cnd) (cw : List (List Str)) (ct : List Cnd) : Prop where
  sf : Sps8 1 fw ft 1
  sc : Sps8 0 cw ct 1
  c1 : 1 ≤ ct.length
  c8 : ct.length ≤ 8
  ej : j = 8 * ft.length + ct.length
  ew : Wd = joinL sOr (fw ++ [joinL sAnd cw])
  gf : ∀ t ∈ ft, hgt t ≤ 2
  gc : ∀ t ∈ ct, hgt t ≤ 1
  vf : ft.map (fun t => hT t x28) = (List.range ft.length).map fun r => decide (od / 8 ≠ r)
  vc : hAll ct x28 = !decide (8 * ft.length ≤ od ∧ od < j)
def LongInv (od j : Nat) (Wd : List Str) : Prop := ((j = 0 ∧ Wd = []) ∨ ∃ fw ft cw ct, LongC od j Wd fw ft cw ct) ∧ (∀ n < Wd.length, PreOk (Wd.take n)) ∧ Wd.length ≤ 2 * j + (if od < j then 1 else 0) ∧ (∀ w ∈ Wd, okW w) ∧ (1 ≤ j → 1 ≤ Wd.length)
theorem LongInv.zero (od : Nat) : LongInv od 0 [] := ⟨.inl ⟨rfl, rfl⟩, (fun n h => by simp at h), by simp, (fun _ h => nomatch h), (fun h => by omega)⟩
theorem pcW_len (od j : Nat) : (pcW od j).length = if j = od then 2 else 1 := by unfold pcW; split <;> rfl
/-- the places of the words of a new piece -/
theorem pc_pre {od j : Nat} {W : List Str} {k : Nat} (hk : k < (pcW od j).length) (h : ∀ X n, Fl8 0 0 X (.at n) → Fl8 2 0 (W ++ X) (.at (W.length + n))) : PreOk (W ++ (pcW od j).take k) := by
  rw [pcW_len] at hk
  refine .inr fun post => ?_
  have k2 : k = 0 ∨ (k = 1 ∧ j = od) := by split at hk <;> omega
  rcases k2 with rfl | ⟨rfl, e⟩
  · rw [List.take_zero, List.append_nil]
    exact h _ 0 (bad_fl post)
  · have e1 : (pcW od j).take 1 = [sNot] := by unfold pcW; rw [if_pos e]; rfl
    rw [e1, List.append_assoc, List.length_append]
    exact h _ 1 (bad_fl1 post)
theorem take_app_lt {A B : List Str} {n : Nat} (h : n ≤ A.length) : (A ++ B).take n = A.take n := List.take_append_of_le_length h
theorem pre_grow {od j : Nat} {Wd J : List Str} (h : ∀ n < Wd.length, PreOk (Wd.take n)) (h1 : J.length = 1) (h2 : PreOk Wd) (h3 : ∀ X n, Fl8 0 0 X (.at n) → Fl8 2 0 (Wd ++ J ++ X) (.at ((Wd ++ J).length + n))) : ∀ n < (Wd ++ J ++ pcW od j).length, PreOk ((Wd ++ J ++ pcW od j).take n) := by
  intro n hn
  rw [List.length_append, List.length_append, h1] at hn
  by_cases c1 : n < Wd.length
  · rw [List.append_assoc, take_app_lt (by omega)]; exact h n c1
  by_cases c2 : n = Wd.length
  · rw [List.append_assoc, take_app_lt (by omega), c2, List.take_length]; exact h2
  · obtain ⟨k, rfl⟩ : ∃ k, n = (Wd ++ J).length + k := ⟨n - (Wd.length + 1), by rw [List.length_append, h1]; omega⟩
    rw [List.take_length_add_append]
    exact pc_pre (by rw [List.length_append, h1] at hn; omega) h3
theorem if_grow (od j : Nat) : (if od < j then 1 else 0) + (if j = od then 1 else 0) = if od < j + 1 then 1 else 0 := by
  by_cases c : od < j
  · rw [if_pos c, if_neg (by omega), if_pos (by omega)]
  · by_cases e : j = od
    · rw [if_neg c, if_pos e, if_pos (by omega)]
    · rw [if_neg c, if_neg e, if_neg (by omega)]
theorem pcW_len' (od j : Nat) : (pcW od j).length = 1 + if j = od then 1 else 0 := by rw [pcW_len]; split <;> rfl
theorem LongInv.first {od : Nat} {Wd : List Str} (h : LongInv od 0 Wd) : LongInv od 1 (Wd ++ pcW od 0) := by
  obtain ⟨alt, h2, h3, h4, h5⟩ := h
  have e : Wd = [] := by
    rcases alt with ⟨_, e⟩ | ⟨fw, ft, cw, ct, c⟩
    · exact e
    · have := c.ej; have := c.c1; omega
  subst e
  obtain ⟨d, sp, d1⟩ := pc_spl od 0
  have g := if_grow od 0
  have pl := pcW_len' od 0
  refine ⟨.inr ⟨[], [], [pcW od 0], [pcT od 0], ⟨.nil, .cons sp d1 .nil, by simp, by simp, rfl, ?_, (fun _ h => nomatch h), (fun t ht => by rw [List.mem_singleton.mp ht]; exact pc_hgt od 0), rfl, ?_⟩⟩, ?_, ?_, ?_, ?_⟩
  · show [] ++ pcW od 0 = (pcW od 0 ++ []) ++ []
    simp
  · show hAll [pcT od 0] x28 = _
    rw [hAll, pc_hT]
    unfold hAll
    by_cases c : 0 = od
    · rw [decide_eq_true c, decide_eq_true (show 8 * ([] : List Cnd).length ≤ od ∧ od < 1 from ⟨by simp, by omega⟩)]; rfl
    · rw [decide_eq_false c, decide_eq_false (show ¬ (8 * ([] : List Cnd).length ≤ od ∧ od < 1) from fun z => c (by omega))]; rfl
  · intro n hn
    rw [List.nil_append] at hn ⊢
    have := pc_pre (W := []) (od := od) (j := 0) hn (fun X n f => by rw [List.nil_append]; show Fl8 2 0 X (.at (0 + n)); rw [Nat.zero_add]; exact f.up)
    rw [List.nil_append] at this
    exact this
  · show (pcW od 0).length ≤ 2 * 1 + if od < 1 then 1 else 0
    rw [pl]
    by_cases e : 0 = od
    · rw [if_pos e, if_pos (by omega)]; omega
    · rw [if_neg e]; omega
  · rw [List.nil_append]; exact pc_okW od 0
  · intro _; rw [List.nil_append, pl]; omega
theorem LongInv.next {od j : Nat} {Wd : List Str} (h : LongInv od j Wd) (j1 : 1 ≤ j) (j40 : j < 40) : LongInv od (j + 1) (Wd ++ [if j % 8 = 0 then sOr else sAnd] ++ pcW od j) := by
  obtain ⟨alt, h2, h3, h4, h5⟩ := h
  rcases alt with ⟨z, _⟩ | ⟨fw, ft, cw, ct, c⟩
  · omega
  have c1 := c.c1
  have c8 := c.c8
  have ej := c.ej
  have lf := c.sf.len
  have lc := c.sc.len
  have g := if_grow od j
  have pl := pcW_len' od j
  obtain ⟨d, sp, d1⟩ := pc_spl od j
  obtain ⟨dr, srow, dr1⟩ := mkRow_spl c.sc c1 c8
  have sall : Sps8 1 (fw ++ [joinL sAnd cw]) (ft ++ [mkRow ct]) 1 := spls_snoc c.sf srow dr1
  obtain ⟨ds, ssom, ds1⟩ := mkSom_spl sall (by rw [List.length_append]; show 1 ≤ _ + 1; omega) (by rw [List.length_append]; show _ + 1 ≤ _; omega)
  have pW : PreOk Wd := .inl ⟨_, _, by rw [c.ew]; exact ssom, by omega⟩
  have cne : cw ≠ [] := fun z => by rw [z, List.length_nil] at lc; omega
  have lenb : (Wd ++ [if j % 8 = 0 then sOr else sAnd] ++ pcW od j).length ≤ 2 * (j + 1) + if od < j + 1 then 1 else 0 := by
    rw [List.length_append, List.length_append, pl, ← g]
    show _ + 1 + _ ≤ _
    omega
  have okb : ∀ w ∈ Wd ++ [if j % 8 = 0 then sOr else sAnd] ++ pcW od j, okW w := okW_app (okW_app h4 fun x hx => by
    rw [List.mem_singleton.mp hx]
    split
    · exact okW_j false
    · exact okW_j true) (pc_okW od j)
  have pos : 1 ≤ (Wd ++ [if j % 8 = 0 then sOr else sAnd] ++ pcW od j).length := by rw [List.length_append, pl]; omega
  by_cases e8 : ct.length = 8
  · have jm : j % 8 = 0 := by omega
    rw [if_pos jm] at lenb okb pos ⊢
    refine ⟨.inr ⟨fw ++ [joinL sAnd cw], ft ++ [mkRow ct], [pcW od j], [pcT od j], ⟨sall, .cons sp d1 .nil, by simp, by simp, ?_, ?_, ?_, ?_, ?_, ?_⟩⟩, pre_grow h2 rfl pW ?_, lenb, okb, fun _ => pos⟩
    · rw [List.length_append]; show _ = 8 * (_ + 1) + 1; omega
    · show _ = joinL sOr (fw ++ [joinL sAnd cw] ++ [pcW od j ++ []])
      rw [joinL_snoc _ (by simp), ← c.ew, List.append_nil, List.append_assoc]; rfl
    · intro t ht
      rcases List.mem_append.mp ht with ht | ht
      · exact c.gf t ht
      · rw [List.mem_singleton.mp ht]; exact mkRow_hgt c.gc
    · intro t ht; rw [List.mem_singleton.mp ht]; exact pc_hgt od j
    · rw [List.map_append, c.vf, List.length_append]
      show _ = List.map _ (List.range (ft.length + 1))
      rw [List.range_succ, List.map_append]
      congr 1
      show [hT (mkRow ct) x28] = [decide (od / 8 ≠ ft.length)]
      rw [mkRow_hT x28 c1, c.vc]
      by_cases z : od / 8 = ft.length
      · rw [decide_eq_true (show 8 * ft.length ≤ od ∧ od < j from ⟨by omega, by omega⟩), decide_eq_false (show ¬ od / 8 ≠ ft.length from fun y => y z)]; rfl
      · rw [decide_eq_false (show ¬ (8 * ft.length ≤ od ∧ od < j) from fun y => z (by omega)), decide_eq_true (show od / 8 ≠ ft.length from z)]; rfl
    · show hAll [pcT od j] x28 = _
      rw [hAll, pc_hT]
      unfold hAll
      have l9 : (ft ++ [mkRow ct]).length = ft.length + 1 := by rw [List.length_append]; rfl
      rw [l9]
      by_cases z : j = od
      · rw [decide_eq_true z, decide_eq_true (show 8 * (ft.length + 1) ≤ od ∧ od < j + 1 from ⟨by omega, by omega⟩)]; rfl
      · rw [decide_eq_false z, decide_eq_false (show ¬ (8 * (ft.length + 1) ≤ od ∧ od < j + 1) from fun y => z (by omega))]; rfl
    · intro X n f
      have f2 : Fl8 2 0 (joinL sOr (fw ++ [joinL sAnd cw]) ++ sOr :: X) (No.on ((joinL sOr (fw ++ [joinL sAnd cw])).length + 1) (.at n)) := .rowsN sall (by omega) (by rw [List.length_append]; show 1 ≤ _ + 1; omega) (by rw [List.length_append]; show _ + 1 < 8; omega) (.row0 f)
      rw [← c.ew] at f2
      rw [List.append_assoc, List.length_append]
      exact f2
  · have jm : ¬ j % 8 = 0 := by omega
    rw [if_neg jm] at lenb okb pos ⊢
    refine ⟨.inr ⟨fw, ft, cw ++ [pcW od j], ct ++ [pcT od j], ⟨c.sf, spls_snoc c.sc sp d1, by rw [List.length_append]; omega, by rw [List.length_append]; show _ + 1 ≤ 8; omega, by rw [List.length_append]; show _ = _ + (_ + 1); omega, ?_, c.gf, ?_, c.vf, ?_⟩⟩, pre_grow h2 rfl pW ?_, lenb, okb, fun _ => pos⟩
    · rw [joinL_snoc _ cne, c.ew]
      cases fw with
      | nil => show joinL sAnd cw ++ [] ++ [sAnd] ++ pcW od j = (joinL sAnd cw ++ sAnd :: pcW od j) ++ []; simp
      | cons f0 fw => rw [joinL_snoc _ (by simp), joinL_snoc _ (by simp)]; simp
    · intro t ht
      rcases List.mem_append.mp ht with ht | ht
      · exact c.gc t ht
      · rw [List.mem_singleton.mp ht]; exact pc_hgt od j
    · rw [hAll_snoc, c.vc, pc_hT]
      by_cases z : j = od
      · rw [decide_eq_true z, decide_eq_true (show 8 * ft.length ≤ od ∧ od < j + 1 from ⟨by omega, by omega⟩)]; simp
      · rw [decide_eq_false z]
        by_cases y : 8 * ft.length ≤ od ∧ od < j
        · rw [decide_eq_true y, decide_eq_true (show 8 * ft.length ≤ od ∧ od < j + 1 from ⟨y.1, by omega⟩)]; rfl
        · rw [decide_eq_false y, decide_eq_false (show ¬ (8 * ft.length ≤ od ∧ od < j + 1) from fun x => y ⟨x.1, by omega⟩)]; rfl
    · intro X n f
      have f1 : Fl8 1 0 (joinL sAnd cw ++ sAnd :: X) (No.on ((joinL sAnd cw).length + 1) (.at n)) := .rowN c.sc (by omega) c1 (by omega) f
      rw [c.ew]
      cases fw with
      | nil =>
        show Fl8 2 0 (joinL sAnd cw ++ [] ++ [sAnd] ++ X) (.at ((joinL sAnd cw ++ [] ++ [sAnd]).length + n))
        rw [List.append_nil, List.append_assoc, List.length_append]
        exact .rows0 f1
      | cons f0 fw =>
        rw [joinL_snoc _ (by simp)]
        have f2 : Fl8 2 0 (joinL sOr (f0 :: fw) ++ sOr :: (joinL sAnd cw ++ sAnd :: X)) (No.on ((joinL sOr (f0 :: fw)).length + 1) (No.on ((joinL sAnd cw).length + 1) (.at n))) := .rowsN c.sf (by omega) (by rw [← lf]; simp) (by omega) f1
        have e1 : joinL sOr (f0 :: fw) ++ sOr :: joinL sAnd cw ++ [sAnd] ++ X = joinL sOr (f0 :: fw) ++ sOr :: (joinL sAnd cw ++ sAnd :: X) := by simp
        have e2 : (joinL sOr (f0 :: fw) ++ sOr :: joinL sAnd cw ++ [sAnd]).length + n = (joinL sOr (f0 :: fw)).length + 1 + ((joinL sAnd cw).length + 1 + n) := by
          rw [List.length_append, List.length_append, List.length_cons]; show _ + 1 + n = _; omega
        rw [e1, e2]
        exact f2
def valR (od z r : Nat) : Bool := decide (od = z) || decide (od / 8 ≠ r)
theorem LongInv.good {od z : Nat} {Wd : List Str} (h : LongInv od z Wd) (z1 : 1 ≤ z) (z40 : z ≤ 40) (oz : od ≤ z) : ∃ t d, Sp8 2 Wd t d ∧ d ≤ 6 ∧ hgt t ≤ 3 ∧ hT t x28 = ((List.range ((z + 7) / 8)).map (valR od z)).contains true := by
  obtain ⟨alt, h2, h3, h4, h5⟩ := h
  rcases alt with ⟨y, _⟩ | ⟨fw, ft, cw, ct, c⟩
  · omega
  have c1 := c.c1
  have c8 := c.c8
  have ej := c.ej
  obtain ⟨dr, srow, dr1⟩ := mkRow_spl c.sc c1 c8
  have sall : Sps8 1 (fw ++ [joinL sAnd cw]) (ft ++ [mkRow ct]) 1 := spls_snoc c.sf srow dr1
  have l1 : (ft ++ [mkRow ct]).length = ft.length + 1 := by rw [List.length_append]; rfl
  obtain ⟨ds, ssom, ds1⟩ := mkSom_spl sall (by omega) (by omega)
  refine ⟨mkSom (ft ++ [mkRow ct]), ds, by rw [c.ew]; exact ssom, by omega, mkSom_hgt (n := 2) (fun t ht => ?_), ?_⟩
  · rcases List.mem_append.mp ht with ht | ht
    · exact c.gf t ht
    · rw [List.mem_singleton.mp ht]; exact mkRow_hgt c.gc
  · rw [mkSom_hT x28 (by omega), hSom_bools, List.map_append, c.vf]
    have ez : (z + 7) / 8 = ft.length + 1 := by omega
    rw [ez, List.range_succ, List.map_append]
    have ea : (List.range ft.length).map (fun r => decide (od / 8 ≠ r)) = (List.range ft.length).map (valR od z) := List.map_congr_left fun r hr => by
      have hr := List.mem_range.mp hr
      unfold valR
      by_cases e : od = z
      · rw [decide_eq_true e, Bool.true_or]; exact decide_eq_true (by omega)
      · rw [decide_eq_false e, Bool.false_or]
    have eb : hT (mkRow ct) x28 = valR od z ft.length := by
      rw [mkRow_hT x28 c1, c.vc]
      unfold valR
      by_cases e : od = z
      · rw [decide_eq_true e, Bool.true_or, decide_eq_false (by omega)]; rfl
      · rw [decide_eq_false e, Bool.false_or]
        by_cases y : od / 8 = ft.length
        · rw [decide_eq_true (show 8 * ft.length ≤ od ∧ od < z from ⟨by omega, by omega⟩), decide_eq_false (show ¬ od / 8 ≠ ft.length from fun x => x y)]; rfl
        · rw [decide_eq_false (show ¬ (8 * ft.length ≤ od ∧ od < z) from fun x => y (by omega)), decide_eq_true (show od / 8 ≠ ft.length from y)]; rfl
    rw [ea]
    show (_ ++ [hT (mkRow ct) x28]).contains true = (_ ++ [valR od z ft.length]).contains true
    rw [eb]
theorem set_cut {Wd : List Str} {n : Nat} (x : Str) (h : n < Wd.length) : Wd.set n x = Wd.take n ++ x :: Wd.drop (n + 1) := List.set_eq_take_append_cons_drop.trans (if_pos h)
theorem LongInv.bad {od z : Nat} {Wd : List Str} (h : LongInv od z Wd) {n : Nat} (hn : n < Wd.length) : FlT8 (Wd.set n sBad) (.at (if Wd.length > 60 then 60 else n)) := by
  obtain ⟨alt, h2, h3, h4, h5⟩ := h
  by_cases c : Wd.length > 60
  · rw [if_pos c]
    exact .long (by rw [List.length_set]; exact c)
  · rw [if_neg c]
    have hl : (Wd.take n ++ sBad :: Wd.drop (n + 1)).length ≤ 60 := by rw [← set_cut sBad hn, List.length_set]; omega
    have lt : (Wd.take n).length = n := by rw [List.length_take]; omega
    rw [set_cut sBad hn]
    rcases h2 n hn with ⟨t, d, sp, d6⟩ | f
    · have := FlT.more (af := af28) hl sp d6 (by decide +kernel) (by decide +kernel)
      rw [lt] at this
      exact this
    · have := f (Wd.drop (n + 1))
      rw [lt] at this
      exact .read hl this


theorem rep_bl (x : Bool) : ∀ k : Nat, (List.replicate k [V.bl x]).flatten = (List.replicate k x).map V.bl
  | 0 => rfl
  | k + 1 => by rw [List.replicate_succ, List.flatten_cons, rep_bl x k, List.replicate_succ, List.map_cons]; rfl
theorem vals_eq {f : Nat → Bool} {R : Nat} {vs : List Bool} (l : vs.length = R) (h : ∀ r, r < R → vs[r]? = some (f r)) : vs = (List.range R).map f := by
  refine List.ext_getElem? fun r => ?_
  by_cases c : r < R
  · rw [h r c, List.getElem?_map, List.getElem?_range c]; rfl
  · rw [List.getElem?_eq_none (by omega), List.getElem?_eq_none (by rw [List.length_map, List.length_range]; omega)]
theorem join_ix (j : Nat) : atI [V.str (Str.ofString "and"), V.str (Str.ofString "or")] (if decide (V.int ((j : Int) % 8) = V.int 0) = true then 1 else 0) = some (.str (if j % 8 = 0 then sOr else sAnd)) := by
  by_cases c : j % 8 = 0
  · have : (j : Int) % 8 = 0 := by omega
    rw [this, decide_eq_true rfl, if_pos c]; rfl
  · have : ¬ (j : Int) % 8 = 0 := by omega
    rw [decide_eq_false (vne this), if_neg c]; rfl
theorem sixty_ix (n m : Nat) : atI [V.int (n : Int), V.int 60] (if decide ((60 : Int) < (m : Int)) = true then 1 else 0) = some (.int ((if m > 60 then 60 else n : Nat) : Int)) := by
  by_cases c : m > 60
  · rw [decide_eq_true (show (60 : Int) < (m : Int) by omega), if_pos c]; rfl
  · rw [decide_eq_false (show ¬ (60 : Int) < (m : Int) by omega), if_neg c]; rfl
section
seal L2.PS L2.PSs L2.PE L2.PA
variable {P : Program} {w : World} {K : PySem.W.Frag} {mg : Str → Option Value} {base : Heap}
theorem sc__law_long : FnScope ["_law_script", "_law_k", "_law_cell_here", "_law_size", "_law_odd", "_law_words", "_law_rows", "_law_j", "_law_at"] ["_law_script", "_law_k"] (defScope s__law_long) := ⟨rfl, rfl, rfl, by decide +kernel, rfl, by decide +kernel, by decide +kernel⟩
theorem ok__law_long {f : Addr} {fd : FuncData} (F : Fun K "_law_long" "_law_long" s__law_long f fd) (T : Txt K mg) (C_law_cell : Cal P w K mg base 1 "_law_cell" ["_law_script", "_law_k"] (spCellN K)) (C_law_mix : Cal P w K mg base 1 "_law_mix" ["_law_number", "_law_k"] spMix)
    (C_law_refused_at : Cal P w K mg base 43 "_law_refused_at" ["_law_thing", "_law_due"] spRefAt)
    (C_law_holds : Cal P w K mg base 42 "_law_holds" ["_law_text"] spHold) (C_law_truth : Cal P w K mg base 1 "_law_truth" ["_law_found", "_law_due"] spTruth) : FnOk P w K mg base CX0 44 f fd ["_law_script", "_law_k"] (spPart K) := by
  have sc := sc__law_long
  refine F.ok sc (fun vs H Q E h => ?_) (fun cdv A outer s H vs Q E hr h => ?_)
  · obtain ⟨_, _, _, rfl, _⟩ := h
    rfl
  obtain ⟨a, ns, k, rfl, ha, k0, k1, h63, q⟩ := h
  refine ⟨_, (pss_cons (ps_set (i := 2) sc.nd rfl (Or.inl rfl) (pe_callC C_law_cell (hr.mono (by decide)) rfl (pa_cons (pv 0) (pa_cons (pv 1) pa_nil))))
      (pss_cons (ps_set (i := 3) sc.nd rfl (Or.inl rfl) (pe_op op_add pe_int (pe_op op_mod (pv 2) pe_int)))
      (pss_cons (ps_set (i := 4) sc.nd rfl (Or.inl rfl) (pe_op op_mod (pe_op op_fdiv (pv 2) pe_int) (pe_op op_add (pv 3) pe_int)))
      (pss_cons (ps_set (i := 5) sc.nd rfl (Or.inl rfl) (pe_lst pa_nil))
      (pss_cons (ps_set (i := 6) sc.nd rfl (Or.inl rfl) (pe_op op_rep (pe_lst (pa_cons pe_bl pa_nil)) (pe_op op_fdiv (pe_op op_add (pv 3) pe_int) pe_int)))
      (pss_cons (ps_for PassesOwn.never rfl (pi_range1 rfl T.n_range (pa_cons (pv 3) pa_nil)) (pg_name (i := 7) sc.nd rfl (Or.inl rfl))
        (pss_cons (ps_if (pt_cmpR op_gt (pv 7) pe_int (nomark _))
        (pss_one (ps_expr (pe_bm PySem.F.plainAttrs_list PySem.F.slot_list_append PySem.F.type_list_append mt_append (pv 5) (pa_cons (pe_ix ix_list (pe_lst (pa_cons pe_str (pa_cons pe_str pa_nil))) (pe_callTy call_int1 rfl T.n_int (show bootBuiltins _ = some (.type "int") from rfl) (pa_cons (pe_cmpR op_eq (pe_op op_mod (pv 7) pe_int) pe_int (nomark _)) pa_nil)) (fun _ _ => rfl)) pa_nil))))
        pss_nil)
      (pss_cons (ps_if (pt_cmpR op_eq (pv 7) (pv 4) (nomark _))
        (pss_one (ps_expr (pe_bm PySem.F.plainAttrs_list PySem.F.slot_list_append PySem.F.type_list_append mt_append (pv 5) (pa_cons pe_str pa_nil))))
        pss_nil)
      (pss_one (ps_expr (pe_bm PySem.F.plainAttrs_list PySem.F.slot_list_append PySem.F.type_list_append mt_append (pv 5) (pa_cons pe_str pa_nil)))))))
      (pss_cons (ps_for PassesOwn.never rfl (pi_range1 rfl T.n_range (pa_cons (pe_callB call_len_seq rfl T.n_len (show bootBuiltins _ = some (.builtin "len") from rfl) (pa_cons (pv 6) pa_nil)) pa_nil)) (pg_name (i := 7) sc.nd rfl (Or.inl rfl))
        (pss_one (ps_asg (pe_or (pe_cmpR op_eq (pv 4) (pv 3) (nomark _)) (pe_one (pe_cmpR op_ne (pe_op op_fdiv (pv 4) pe_int) (pv 7) (nomark _)))) (pg_sub (pv 6) (pv 7) set_list))))
      (pss_cons (ps_if (pt_cmpR op_eq (pe_op op_mod (pe_op op_fdiv (pv 2) pe_int) pe_int) pe_int (nomark _))
        (pss_cons (ps_set (i := 8) sc.nd rfl (Or.inl rfl) (pe_op op_mod (pe_callC C_law_mix (hr.mono (by decide)) rfl (pa_cons (pv 2) (pa_cons (pv 1) pa_nil))) (pe_callB call_len_seq rfl T.n_len (show bootBuiltins _ = some (.builtin "len") from rfl) (pa_cons (pv 5) pa_nil))))
      (pss_cons (ps_asg pe_str (pg_sub (pv 5) (pv 8) set_list))
      (pss_one (ps_ret (pe_callC C_law_refused_at (hr.mono (by decide)) rfl (pa_cons (pe_bm PySem.F.plainAttrs_str PySem.F.slot_str_join PySem.F.type_str_join mt_joinA pe_str (pa_cons (pv 5) pa_nil)) (pa_cons (pe_ix ix_list (pe_lst (pa_cons (pv 8) (pa_cons pe_int pa_nil))) (pe_callTy call_int1 rfl T.n_int (show bootBuiltins _ = some (.type "int") from rfl) (pa_cons (pe_cmpR op_gt (pe_callB call_len_seq rfl T.n_len (show bootBuiltins _ = some (.builtin "len") from rfl) (pa_cons (pv 5) pa_nil)) pe_int (nomark _)) pa_nil)) (fun _ _ => rfl)) pa_nil)))))))
        pss_nil)
      (pss_cons (ps_if (pt_cmpR op_gt (pe_callB call_len_seq rfl T.n_len (show bootBuiltins _ = some (.builtin "len") from rfl) (pa_cons (pv 5) pa_nil)) pe_int (nomark _))
        (pss_one (ps_ret (pe_callC C_law_refused_at (hr.mono (by decide)) rfl (pa_cons (pe_bm PySem.F.plainAttrs_str PySem.F.slot_str_join PySem.F.type_str_join mt_joinA pe_str (pa_cons (pv 5) pa_nil)) (pa_cons pe_int pa_nil)))))
        pss_nil)
      (pss_one (ps_ret (pe_callC C_law_truth (hr.mono (by decide)) rfl (pa_cons (pe_callC C_law_holds (hr.mono (by decide)) rfl (pa_cons (pe_bm PySem.F.plainAttrs_str PySem.F.slot_str_join PySem.F.type_str_join mt_joinA pe_str (pa_cons (pv 5) pa_nil)) pa_nil)) (pa_cons (pe_cmpR op_in_seq pe_bl (pv 6) rfl) pa_nil)))))))))))))), ?_⟩
  refine ⟨_, rfl, _, rfl, a, ns, k, rfl, ha, by omega, by omega, h63, fun v v0 v1 => ?_⟩
  refine atG [some (.ref a), some (.int k), some (.int v), none, none, none, none, none, none] rfl ?_
  refine ⟨_, rfl, _, _, rfl, rfl, (by show (0 : Int) < 40; decide), _, _, rfl, rfl, ?_⟩
  obtain ⟨z, hz⟩ : ∃ z : Nat, 1 + v % 40 = (z : Int) := Int.eq_ofNat_of_zero_le (by omega)
  have z1 : 1 ≤ z := by omega
  have z40 : z ≤ 40 := by omega
  refine atG [some (.ref a), some (.int k), some (.int v), some (.int (z : Int)), none, none, none, none, none] (by rw [← hz]; rfl) ?_
  refine ⟨_, rfl, _, _, rfl, rfl, ⟨by decide, by decide⟩, _, rfl, _, _, rfl, rfl, _, _, rfl, rfl, (by show (0 : Int) < (z : Int) + 1; omega), ?_⟩
  obtain ⟨od, hod⟩ : ∃ od : Nat, v / 40 % ((z : Int) + 1) = (od : Int) := Int.eq_ofNat_of_zero_le (Int.emod_nonneg _ (by omega))
  have oz : od ≤ z := by
    have := Int.emod_lt_of_pos (v / 40) (show (0 : Int) < (z : Int) + 1 by omega)
    omega
  refine atG [some (.ref a), some (.int k), some (.int v), some (.int (z : Int)), some (.int (od : Int)), none, none, none, none] (by rw [← hod]; rfl) ?_
  refine ⟨le_line (by show 0 ≤ 1000; decide), fun wd nwd => ?_⟩
  have wdH := nwd
  have uwd := same_new nwd (.lst ([] : List V))
  have hwd : upd H wd (.lst ([] : List V)) wd = some (.lst ([] : List V)) := upd_same
  generalize upd H wd (.lst ([] : List V)) = X1 at uwd hwd
  have S1 := (Same.refl H).trans uwd
  refine atG [some (.ref a), some (.int k), some (.int v), some (.int (z : Int)), some (.int (od : Int)), some (.ref wd), none, none, none] rfl ?_
  refine ⟨le_line (by show 1 ≤ 1000; decide), fun d0 nd0 => ?_⟩
  have ud0 := same_new nd0 (.lst [V.bl false])
  have hd0 : upd X1 d0 (.lst [V.bl false]) d0 = some (.lst [V.bl false]) := upd_same
  generalize upd X1 d0 (.lst [V.bl false]) = X2 at ud0 hd0
  replace hwd := ud0 _ _ hwd
  have S2 := S1.trans ud0
  have zR : ((z : Int) + 7) / 8 = (((z + 7) / 8 : Nat) : Int) := by omega
  refine ⟨_, rfl, _, _, rfl, rfl, _, _, rfl, rfl, ⟨by decide, by decide⟩, d0, _, _, rfl, rfl, hd0, ?_⟩
  have RN : (((z : Int) + 7) / 8).toNat = (z + 7) / 8 := by omega
  refine ⟨by show -(2 ^ 63) ≤ ((z : Int) + 7) / 8; omega, by show ((z : Int) + 7) / 8 < 2 ^ 63; omega, (by show 1 * (((z : Int) + 7) / 8).toNat ≤ _; rw [RN, sizeLine_eq]; omega), fun rw' nrw' => ?_⟩
  have er : (List.replicate (((z : Int) + 7) / 8).toNat [V.bl false]).flatten = (List.replicate ((z + 7) / 8) false).map V.bl := by rw [RN, rep_bl]
  have rwH : H rw' = none := S2.free nrw'
  have rw_wd : wd ≠ rw' := fun e => by rw [← e, hwd] at nrw'; cases nrw'
  have urw := same_new nrw' (.lst ((List.replicate ((z + 7) / 8) false).map V.bl))
  have hrw : upd X2 rw' (.lst ((List.replicate ((z + 7) / 8) false).map V.bl)) rw' = some (.lst ((List.replicate ((z + 7) / 8) false).map V.bl)) := upd_same
  rw [← er] at urw hrw
  have TX := S2.trans urw
  have hwx := urw _ _ hwd
  refine atG [some (.ref a), some (.int k), some (.int v), some (.int (z : Int)), some (.int (od : Int)), some (.ref wd), some (.ref rw'), none, none] rfl ?_
  have hrwz : upd X2 rw' (.lst (List.replicate (((z : Int) + 7) / 8).toNat [V.bl false]).flatten) rw' = some (.lst ((List.replicate ((z + 7) / 8) false).map V.bl)) := by rw [upd_same, er]
  have vs0 : (List.replicate ((z + 7) / 8) false).length = (z + 7) / 8 := List.length_replicate
  refine ⟨_, rfl, _, rfl, by omega, by omega, for_range (lo := 0) (n := ((z : Int)).toNat) (fun i σ H2 => ∃ (o7 : Option V) (Wd : List Str), σ = [some (.ref a), some (.int k), some (.int v), some (.int (z : Int)), some (.int (od : Int)), some (.ref wd), some (.ref rw'), o7, none] ∧ LongInv od i Wd ∧ H2 wd = some (.lst (Wd.map V.str)) ∧ H2 rw' = some (.lst ((List.replicate ((z + 7) / 8) false).map V.bl)) ∧ Same H H2)
    ⟨none, [], rfl, LongInv.zero od, hwx, hrwz, TX⟩ ?_ ?_⟩
  · rintro i σ H3 hi ⟨o7, Wd, rfl, inv, hw3, hr3, s3⟩
    have ii : (0 + (i : Int)) = (i : Int) := by omega
    rw [ii]
    have iz : i < z := by omega
    refine atG [some (.ref a), some (.int k), some (.int v), some (.int (z : Int)), some (.int (od : Int)), some (.ref wd), some (.ref rw'), some (.int (i : Int)), none] rfl ?_
    have wl := inv.2.2.1
    have wl2 : Wd.length ≤ 2 * i + 1 := by split at wl <;> omega
    refine seqI (fun σ' H' => σ' = [some (.ref a), some (.int k), some (.int v), some (.int (z : Int)), some (.int (od : Int)), some (.ref wd), some (.ref rw'), some (.int (i : Int)), none] ∧ ∃ Wj : List Str, Wj.length ≤ Wd.length + 1 ∧ H' wd = some (.lst (Wj.map V.str)) ∧ H' rw' = some (.lst ((List.replicate ((z + 7) / 8) false).map V.bl)) ∧ Same H H' ∧ ((i = 0 ∧ Wj = Wd) ∨ (1 ≤ i ∧ Wj = Wd ++ [if i % 8 = 0 then sOr else sAnd]))) (fun N hN => ?_) (fun σ' H4 g => ?_)
    · refine ⟨_, rfl, _, _, rfl, rfl, _, rfl, ?_⟩
      by_cases e0 : i = 0
      · exact dF (by omega) (hN _ _ ⟨rfl, Wd, by omega, hw3, hr3, s3, .inl ⟨e0, rfl⟩⟩)
      · refine dT (by omega) ⟨_, rfl, .inl ⟨rfl, _, SqL.of hw3⟩, le_line (by show 2 ≤ 1000; decide), fun g0 ng0 => ?_⟩
        have u0 := same_new ng0 (.lst [V.str (Str.ofString "and"), V.str (Str.ofString "or")])
        have h0 : upd H3 g0 (.lst [V.str (Str.ofString "and"), V.str (Str.ofString "or")]) g0 = some (.lst [V.str (Str.ofString "and"), V.str (Str.ofString "or")]) := upd_same
        generalize upd H3 g0 (.lst [V.str (Str.ofString "and"), V.str (Str.ofString "or")]) = H3' at u0 h0
        refine ⟨_, rfl, _, _, rfl, rfl, (by show (0 : Int) < 8; decide), rfl, .inr ⟨_, rfl, g0, _, _, _, rfl, rfl, SqL.of h0, join_ix i, wd, _, _, rfl, rfl, u0 _ _ hw3, (by rw [List.length_map, sizeLine_eq]; omega), ?_⟩⟩
        refine hN _ _ ⟨rfl, Wd ++ [if i % 8 = 0 then sOr else sAnd], by rw [List.length_append]; exact Nat.le_refl _, by rw [upd_same, List.map_append]; rfl, by rw [upd_ne (Ne.symm rw_wd)]; exact u0 _ _ hr3, same_upd wdH (s3.trans u0), .inr ⟨by omega, rfl⟩⟩
    obtain ⟨rfl, Wj, lj, hw4, hr4, s4, alt⟩ := g
    refine seqI (fun σ' H' => σ' = [some (.ref a), some (.int k), some (.int v), some (.int (z : Int)), some (.int (od : Int)), some (.ref wd), some (.ref rw'), some (.int (i : Int)), none] ∧ ∃ Wk : List Str, Wk.length ≤ Wj.length + 1 ∧ H' wd = some (.lst (Wk.map V.str)) ∧ H' rw' = some (.lst ((List.replicate ((z + 7) / 8) false).map V.bl)) ∧ Same H H' ∧ Wk ++ [sAlw] = Wj ++ pcW od i) (fun N hN => ?_) (fun σ' H5 g => ?_)
    · refine ⟨_, rfl, _, rfl, rfl, _, rfl, ?_⟩
      by_cases eo : i = od
      · refine dT (by rw [eo]) ⟨_, rfl, .inl ⟨rfl, _, SqL.of hw4⟩, wd, _, _, rfl, rfl, hw4, (by rw [List.length_map, sizeLine_eq]; omega), ?_⟩
        refine hN _ _ ⟨rfl, Wj ++ [sNot], by rw [List.length_append]; exact Nat.le_refl _, by rw [upd_same, List.map_append]; rfl, by rw [upd_ne (Ne.symm rw_wd)]; exact hr4, same_upd wdH s4, ?_⟩
        unfold pcW; rw [if_pos eo]; simp
      · refine dF (vne (by omega)) (hN _ _ ⟨rfl, Wj, by omega, hw4, hr4, s4, ?_⟩)
        unfold pcW; rw [if_neg eo]
    obtain ⟨rfl, Wk, lk, hw5, hr5, s5, ek⟩ := g
    refine ⟨_, rfl, .inl ⟨rfl, _, SqL.of hw5⟩, wd, _, _, rfl, rfl, hw5, (by rw [List.length_map, sizeLine_eq]; omega), ?_⟩
    refine ⟨some (.int (i : Int)), Wj ++ pcW od i, rfl, ?_, by rw [upd_same, ← ek, List.map_append]; rfl, by rw [upd_ne (Ne.symm rw_wd)]; exact hr5, same_upd wdH s5⟩
    rcases alt with ⟨e0, rfl⟩ | ⟨e1, rfl⟩
    · subst e0; exact inv.first
    · exact inv.next e1 (by omega)
  · rintro σ H3 ⟨o7, Wd, rfl, inv, hw3, hr3, s3⟩
    have zz : ((z : Int)).toNat = z := Int.toNat_natCast z
    rw [zz] at inv
    have wl := inv.2.2.1
    have wl2 : Wd.length ≤ 81 := by split at wl <;> omega
    have w1 := inv.2.2.2.2 z1
    have okw := inv.2.2.2.1
    refine ⟨_, rfl, rw', _, rfl, .inl (SqL.of hr3), _, rfl, ?_⟩
    rw [List.length_map, vs0]
    refine ⟨by omega, by omega, for_range (lo := 0) (n := (((z + 7) / 8 : Nat) : Int).toNat) (fun i σ H2 => ∃ (o8 : Option V) (vs : List Bool), σ = [some (.ref a), some (.int k), some (.int v), some (.int (z : Int)), some (.int (od : Int)), some (.ref wd), some (.ref rw'), o8, none] ∧ vs.length = (z + 7) / 8 ∧ (∀ r, r < i → vs[r]? = some (valR od z r)) ∧ H2 wd = some (.lst (Wd.map V.str)) ∧ H2 rw' = some (.lst (vs.map V.bl)) ∧ Same H H2)
      ⟨o7, List.replicate ((z + 7) / 8) false, rfl, vs0, (fun r h => by omega), hw3, hr3, s3⟩ ?_ ?_⟩
    · rintro i σ H4 hi ⟨o8, vs, rfl, lv, hv, hw4, hr4, s4⟩
      have ii : (0 + (i : Int)) = (i : Int) := by omega
      rw [ii]
      have iR : i < (z + 7) / 8 := by omega
      refine atG [some (.ref a), some (.int k), some (.int v), some (.int (z : Int)), some (.int (od : Int)), some (.ref wd), some (.ref rw'), some (.int (i : Int)), none] rfl ?_
      have ixi : ixN (vs.map V.bl).length (i : Int) = some i := by
        unfold ixN
        rw [if_pos (by omega), if_pos (by rw [List.length_map, lv]; omega)]; rfl
      have fin : ∀ x : Bool, x = valR od z i → ∃ (o8 : Option V) (vs' : List Bool), [some (.ref a), some (.int k), some (.int v), some (.int (z : Int)), some (.int (od : Int)), some (.ref wd), some (.ref rw'), some (.int (i : Int)), none] = [some (.ref a), some (.int k), some (.int v), some (.int (z : Int)), some (.int (od : Int)), some (.ref wd), some (.ref rw'), o8, none] ∧ vs'.length = (z + 7) / 8 ∧ (∀ r, r < i + 1 → vs'[r]? = some (valR od z r)) ∧ upd H4 rw' (.lst ((vs.map V.bl).set i (.bl x))) wd = some (.lst (Wd.map V.str)) ∧ upd H4 rw' (.lst ((vs.map V.bl).set i (.bl x))) rw' = some (.lst (vs'.map V.bl)) ∧ Same H (upd H4 rw' (.lst ((vs.map V.bl).set i (.bl x)))) := fun x hx => by
        refine ⟨some (.int (i : Int)), vs.set i x, rfl, by rw [List.length_set]; exact lv, fun r hr => ?_, by rw [upd_ne rw_wd]; exact hw4, by rw [upd_same, List.map_set], same_upd rwH s4⟩
        by_cases e : i = r
        · subst e; rw [List.getElem?_set_self (by omega), hx]
        · rw [List.getElem?_set_ne e]; exact hv r (by omega)
      refine ⟨_, rfl, _, rfl, rfl, _, rfl, ?_⟩
      by_cases e1 : od = z
      · refine dT (by rw [e1]) ?_
        refine ⟨_, rfl, _, rfl, rw', _, _, i, rfl, rfl, hr4, ixi, ?_⟩
        refine fin _ ?_
        unfold valR
        rw [decide_eq_true e1]; rfl
      · refine dF (vne (by omega)) ⟨_, rfl, _, _, rfl, rfl, ⟨by decide, by decide⟩, _, rfl, rfl, _, rfl, _, rfl, rw', _, _, i, rfl, rfl, hr4, ixi, ?_⟩
        refine fin _ ?_
        unfold valR
        rw [decide_eq_false e1, Bool.false_or]
        by_cases e2 : od / 8 = i
        · rw [decide_eq_false (show ¬ od / 8 ≠ i from fun x => x e2)]
          show (!decide (V.int ((od : Int) / 8) = V.int (i : Int))) = false
          rw [decide_eq_true (by rw [show (od : Int) / 8 = (i : Int) by omega])]; rfl
        · rw [decide_eq_true (show od / 8 ≠ i from e2)]
          show (!decide (V.int ((od : Int) / 8) = V.int (i : Int))) = true
          rw [decide_eq_false (vne (by omega))]; rfl
    · rintro σ H4 ⟨o8, vs, rfl, lv, hv, hw4, hr4, s4⟩
      have ev : vs = (List.range ((z + 7) / 8)).map (valR od z) := vals_eq lv (fun r hr => hv r (by omega))
      have hne : Wd ≠ [] := fun e => by rw [e, List.length_nil] at w1; omega
      have okl : ∀ y ∈ Wd, y.length ≤ 1000 := fun y hy => by have := (okw y hy).2; omega
      refine ⟨_, rfl, _, _, rfl, rfl, ⟨by decide, by decide⟩, _, _, rfl, rfl, (by show (0 : Int) < 3; decide), rfl, _, rfl, ?_⟩
      by_cases c3 : v / 1640 % 3 = 1
      · refine dT (congrArg V.int c3) ?_
        refine ⟨_, rfl, _, rfl, v, k, rfl, v0, by omega, k0, by omega, fun m m0 m1 => ⟨_, rfl, wd, _, rfl, .inl (SqL.of hw4), _, _, rfl, rfl, (by rw [List.length_map]; omega), ?_⟩⟩
        obtain ⟨n, hn⟩ : ∃ n : Nat, m % ((Wd.map V.str).length : Int) = (n : Int) := Int.eq_ofNat_of_zero_le (Int.emod_nonneg _ (by rw [List.length_map]; omega))
        have nl : n < Wd.length := by
          have := Int.emod_lt_of_pos m (show (0 : Int) < ((Wd.map V.str).length : Int) by rw [List.length_map]; omega)
          rw [hn, List.length_map] at this
          omega
        refine atG [some (.ref a), some (.int k), some (.int v), some (.int (z : Int)), some (.int (od : Int)), some (.ref wd), some (.ref rw'), o8, some (.int (n : Int))] (by rw [← hn]; rfl) ?_
        have ixi : ixN (Wd.map V.str).length (n : Int) = some n := by
          unfold ixN
          rw [if_pos (by omega), if_pos (by rw [List.length_map]; omega)]; rfl
        refine ⟨_, rfl, _, rfl, wd, _, _, n, rfl, rfl, hw4, ixi, ?_⟩
        have hw5 : upd H4 wd (.lst ((Wd.map V.str).set n (.str (Str.ofString "Always")))) wd = some (.lst ((Wd.set n sBad).map V.str)) := by rw [upd_same, List.map_set]
        have s5 : Same H (upd H4 wd (.lst ((Wd.map V.str).set n (.str (Str.ofString "Always"))))) := same_upd wdH s4
        generalize upd H4 wd (.lst ((Wd.map V.str).set n (.str (Str.ofString "Always")))) = H5 at hw5 s5
        have okw2 : ∀ y ∈ Wd.set n sBad, okW y := fun y hy => by
          rcases List.mem_or_eq_of_mem_set hy with hy | rfl
          · exact okw y hy
          · exact ⟨by decide +kernel, by decide +kernel⟩
        have sl : (Wd.set n sBad).length = Wd.length := List.length_set
        refine ⟨rfl, _, rfl, _, wd, Wd.set n sBad, rfl, rfl, SqL.of hw5, by omega, by omega, (by decide +kernel), (fun y hy => by have := (okw2 y hy).2; omega), ?_⟩
        refine ⟨_, rfl, le_line (by show 2 ≤ 1000; decide), fun g0 ng0 => ?_⟩
        have hw6 := same_new ng0 (.lst [V.int (n : Int), V.int 60]) _ _ hw5
        refine ⟨_, rfl, wd, _, rfl, .inl (SqL.of hw6), _, _, rfl, rfl, .inr ⟨_, rfl, g0, _, _, _, rfl, rfl, SqL.of upd_same, (by rw [List.length_map, sl]; exact sixty_ix n Wd.length), ?_⟩⟩
        exact ⟨Wd.set n sBad, _, rfl, (fun e => by rw [e, List.length_nil] at sl; omega), okw2, by omega, inv.bad nl, fun H9 s9 => q H9 (s5.trans ((same_new ng0 _).trans s9))⟩
      · refine dF (vne c3) ?_
        refine ⟨_, rfl, wd, _, rfl, .inl (SqL.of hw4), _, _, rfl, rfl, _, rfl, ?_⟩
        by_cases c6 : Wd.length > 60
        · refine dT (by rw [List.length_map]; omega) ?_
          refine ⟨rfl, _, rfl, _, wd, Wd, rfl, rfl, SqL.of hw4, by omega, by omega, (by decide +kernel), okl, ?_⟩
          exact ⟨Wd, 60, rfl, hne, okw, by omega, .long c6, fun H9 s9 => q H9 (s4.trans s9)⟩
        · refine dF (by rw [List.length_map]; omega) ?_
          refine ⟨rfl, _, rfl, _, wd, Wd, rfl, rfl, SqL.of hw4, by omega, by omega, (by decide +kernel), okl, ?_⟩
          obtain ⟨t, d, sp, d6, hg, et⟩ := inv.good z1 z40 oz
          refine ⟨Wd, t, d, rfl, hne, okw, by omega, sp, d6, by omega, fun H9 s9 => ?_⟩
          refine ⟨_, rfl, rw', _, rfl, .inl (SqL.of (s9 _ _ hr4)), rfl, flat_bl vs, _, _, rfl, ?_⟩
          show Q (.bl (hT t x28 == inV (.bl true) (vs.map V.bl))) H9
          rw [inV_bl, et, ← ev, beq_self_eq_true]
          exact q H9 (s4.trans s9)
def spLaw (K : PySem.W.Frag) : Sp := fun vs H Q _ => ∃ a ns, vs = [.ref a] ∧ SqL K H a (List.map V.int ns) ∧ ns.length ≤ 63 ∧ ∀ H', Q (.bl true) H'
theorem sc_law : FnScope ["_law_script", "_law_k"] ["_law_script"] (defScope s_law) := ⟨rfl, rfl, rfl, by decide +kernel, rfl, by decide +kernel, by decide +kernel⟩
theorem ok_law {f : Addr} {fd : FuncData} (F : Fun K "law" "law" s_law f fd) (T : Txt K mg) (C_law_nested : Cal P w K mg base 44 "_law_nested" ["_law_script", "_law_k"] (spPart K)) (C_law_row : Cal P w K mg base 44 "_law_row" ["_law_script", "_law_k"] (spPart K)) (C_law_long : Cal P w K mg base 44 "_law_long" ["_law_script", "_law_k"] (spPart K)) : FnOk P w K mg base CX0 45 f fd ["_law_script"] (spLaw K) := by
  have sc := sc_law
  refine F.ok sc (fun vs H Q E h => ?_) (fun cdv A outer s H vs Q E hr h => ?_)
  · obtain ⟨_, _, rfl, _⟩ := h
    rfl
  obtain ⟨a, ns, rfl, ha, h63, q⟩ := h
  refine ⟨_, (pss_cons (ps_for PassesOwn.never rfl (pi_range1 rfl T.n_range (pa_cons pe_int pa_nil)) (pg_name (i := 1) sc.nd rfl (Or.inl rfl))
        (pss_one (ps_if (PW.pt (pw_or (pt_not (pt_val (pe_callC C_law_nested (hr.mono (by decide)) rfl (pa_cons (pv 0) (pa_cons (pe_op op_mul pe_int (pv 1)) pa_nil))))) (pw_or (pt_not (pt_val (pe_callC C_law_row (hr.mono (by decide)) rfl (pa_cons (pv 0) (pa_cons (pe_op op_add (pe_op op_mul pe_int (pv 1)) pe_int) pa_nil))))) (pw_or1 (pt_not (pt_val (pe_callC C_law_long (hr.mono (by decide)) rfl (pa_cons (pv 0) (pa_cons (pe_op op_add (pe_op op_mul pe_int (pv 1)) pe_int) pa_nil)))))))))
        (pss_one (ps_ret pe_bl))
        pss_nil)))
      (pss_one (ps_ret pe_bl))), ?_⟩
  refine ⟨_, rfl, by decide, by decide, for_range (lo := 0) (n := (10 : Int).toNat) (fun i σ H2 => ∃ o : Option V, σ = [some (.ref a), o] ∧ Same H H2) ⟨none, rfl, Same.refl H⟩ ?_ ?_⟩
  · rintro i σ H2 hi ⟨o, rfl, s2⟩
    have i10 : i < 10 := hi
    have ii : (0 + (i : Int)) = (i : Int) := by omega
    rw [ii]
    refine atG [some (.ref a), some (.int (i : Int))] rfl ?_
    refine ⟨_, rfl, _, rfl, _, _, rfl, rfl, .inl ⟨by decide, by decide⟩, a, ns, 6 * (i : Int), rfl, s2.seq ha, by omega, by omega, h63, fun H3 s3 => ⟨_, rfl, iteF ?_⟩⟩
    refine ⟨_, rfl, _, rfl, _, _, rfl, rfl, .inl ⟨by decide, by decide⟩, _, _, rfl, rfl, a, ns, 6 * (i : Int) + 2, rfl, (s2.trans s3).seq ha, by omega, by omega, h63, fun H4 s4 => ⟨_, rfl, iteF ?_⟩⟩
    refine ⟨_, rfl, _, rfl, _, _, rfl, rfl, .inl ⟨by decide, by decide⟩, _, _, rfl, rfl, a, ns, 6 * (i : Int) + 4, rfl, ((s2.trans s3).trans s4).seq ha, by omega, by omega, h63, fun H5 s5 => ⟨_, rfl, iteF ?_⟩⟩
    exact ⟨_, rfl, s2.trans (s3.trans (s4.trans s5))⟩
  · rintro σ H2 ⟨o, rfl, s2⟩
    exact q H2
end


theorem vac {P : Program} {w : World} {K : PySem.W.Frag} {mg : Str → Option Value} {base : Heap} {CX : CXT} {k : Nat} {f : Addr} {fd : FuncData} {ps : List Str} {sp : Sp} (h : ∀ vs H Q E, ¬ sp vs H Q E) : FnOk P w K mg base CX k f fd ps sp :=
  ⟨fun vs H Q E z => absurd z (h vs H Q E), fun _ _ _ _ _ _ _ _ _ _ _ _ _ z => absurd z (h _ _ _ _)⟩
theorem all_mk {l : PySem.W.OpenLaw} {w : World} {K : PySem.W.Frag} {h : Heap} {mg : Str → Option Value} {fa : Addr} (X : K.In h) (G : h.Ns mainGlobals mg) (hfa : mg "law" = some (.ref fa))
    {f0 : Addr} {od0 an0 : Option Addr} {sl0 : Array (Option Value)} {oc0 kV0 dc0 pm0 cd0 ct0 : Value}
    (a0 : PySem.W.nsIn K mainGlobals "is_whole" = some (some (.ref f0))) (l0 : K.lookup f0 = some ⟨oc0, od0, .func (PySem.W.fnOf "is_whole" "is_whole" (defArgs s_is_whole) (defBody s_is_whole) (defScope s_is_whole) .none kV0 dc0 pm0 an0 cd0 ct0), sl0⟩) (c0 : PySem.W.codeIn K cd0 "is_whole" = true) (k0 : PySem.W.keepIn K (.ref f0) = true)
    {f1 : Addr} {od1 an1 : Option Addr} {sl1 : Array (Option Value)} {oc1 kV1 dc1 pm1 cd1 ct1 : Value}
    (a1 : PySem.W.nsIn K mainGlobals "has_figures_alone" = some (some (.ref f1))) (l1 : K.lookup f1 = some ⟨oc1, od1, .func (PySem.W.fnOf "has_figures_alone" "has_figures_alone" (defArgs s_has_figures_alone) (defBody s_has_figures_alone) (defScope s_has_figures_alone) .none kV1 dc1 pm1 an1 cd1 ct1), sl1⟩) (c1 : PySem.W.codeIn K cd1 "has_figures_alone" = true) (k1 : PySem.W.keepIn K (.ref f1) = true)
    {f2 : Addr} {od2 an2 : Option Addr} {sl2 : Array (Option Value)} {oc2 kV2 dc2 pm2 cd2 ct2 : Value}
    (a2 : PySem.W.nsIn K mainGlobals "writes_whole" = some (some (.ref f2))) (l2 : K.lookup f2 = some ⟨oc2, od2, .func (PySem.W.fnOf "writes_whole" "writes_whole" (defArgs s_writes_whole) (defBody s_writes_whole) (defScope s_writes_whole) .none kV2 dc2 pm2 an2 cd2 ct2), sl2⟩) (c2 : PySem.W.codeIn K cd2 "writes_whole" = true) (k2 : PySem.W.keepIn K (.ref f2) = true)
    {f3 : Addr} {od3 an3 : Option Addr} {sl3 : Array (Option Value)} {oc3 kV3 dc3 pm3 cd3 ct3 : Value}
    (a3 : PySem.W.nsIn K mainGlobals "is_cents_part" = some (some (.ref f3))) (l3 : K.lookup f3 = some ⟨oc3, od3, .func (PySem.W.fnOf "is_cents_part" "is_cents_part" (defArgs s_is_cents_part) (defBody s_is_cents_part) (defScope s_is_cents_part) .none kV3 dc3 pm3 an3 cd3 ct3), sl3⟩) (c3 : PySem.W.codeIn K cd3 "is_cents_part" = true) (k3 : PySem.W.keepIn K (.ref f3) = true)
    {f4 : Addr} {od4 an4 : Option Addr} {sl4 : Array (Option Value)} {oc4 kV4 dc4 pm4 cd4 ct4 : Value}
    (a4 : PySem.W.nsIn K mainGlobals "read_cents" = some (some (.ref f4))) (l4 : K.lookup f4 = some ⟨oc4, od4, .func (PySem.W.fnOf "read_cents" "read_cents" (defArgs s_read_cents) (defBody s_read_cents) (defScope s_read_cents) .none kV4 dc4 pm4 an4 cd4 ct4), sl4⟩) (c4 : PySem.W.codeIn K cd4 "read_cents" = true) (k4 : PySem.W.keepIn K (.ref f4) = true)
    {f5 : Addr} {od5 an5 : Option Addr} {sl5 : Array (Option Value)} {oc5 kV5 dc5 pm5 cd5 ct5 : Value}
    (a5 : PySem.W.nsIn K mainGlobals "has_letters_alone" = some (some (.ref f5))) (l5 : K.lookup f5 = some ⟨oc5, od5, .func (PySem.W.fnOf "has_letters_alone" "has_letters_alone" (defArgs s_has_letters_alone) (defBody s_has_letters_alone) (defScope s_has_letters_alone) .none kV5 dc5 pm5 an5 cd5 ct5), sl5⟩) (c5 : PySem.W.codeIn K cd5 "has_letters_alone" = true) (k5 : PySem.W.keepIn K (.ref f5) = true)
    {f6 : Addr} {od6 an6 : Option Addr} {sl6 : Array (Option Value)} {oc6 kV6 dc6 pm6 cd6 ct6 : Value}
    (a6 : PySem.W.nsIn K mainGlobals "is_name" = some (some (.ref f6))) (l6 : K.lookup f6 = some ⟨oc6, od6, .func (PySem.W.fnOf "is_name" "is_name" (defArgs s_is_name) (defBody s_is_name) (defScope s_is_name) .none kV6 dc6 pm6 an6 cd6 ct6), sl6⟩) (c6 : PySem.W.codeIn K cd6 "is_name" = true) (k6 : PySem.W.keepIn K (.ref f6) = true)
    {f7 : Addr} {od7 an7 : Option Addr} {sl7 : Array (Option Value)} {oc7 kV7 dc7 pm7 cd7 ct7 : Value}
    (a7 : PySem.W.nsIn K mainGlobals "is_day" = some (some (.ref f7))) (l7 : K.lookup f7 = some ⟨oc7, od7, .func (PySem.W.fnOf "is_day" "is_day" (defArgs s_is_day) (defBody s_is_day) (defScope s_is_day) .none kV7 dc7 pm7 an7 cd7 ct7), sl7⟩) (c7 : PySem.W.codeIn K cd7 "is_day" = true) (k7 : PySem.W.keepIn K (.ref f7) = true)
    {f8 : Addr} {od8 an8 : Option Addr} {sl8 : Array (Option Value)} {oc8 kV8 dc8 pm8 cd8 ct8 : Value}
    (a8 : PySem.W.nsIn K mainGlobals "day_of" = some (some (.ref f8))) (l8 : K.lookup f8 = some ⟨oc8, od8, .func (PySem.W.fnOf "day_of" "day_of" (defArgs s_day_of) (defBody s_day_of) (defScope s_day_of) .none kV8 dc8 pm8 an8 cd8 ct8), sl8⟩) (c8 : PySem.W.codeIn K cd8 "day_of" = true) (k8 : PySem.W.keepIn K (.ref f8) = true)
    {f9 : Addr} {od9 an9 : Option Addr} {sl9 : Array (Option Value)} {oc9 kV9 dc9 pm9 cd9 ct9 : Value}
    (a9 : PySem.W.nsIn K mainGlobals "read_condition" = some (some (.ref f9))) (l9 : K.lookup f9 = some ⟨oc9, od9, .func (PySem.W.fnOf "read_condition" "read_condition" (defArgs s_read_condition) (defBody s_read_condition) (defScope s_read_condition) .none kV9 dc9 pm9 an9 cd9 ct9), sl9⟩) (c9 : PySem.W.codeIn K cd9 "read_condition" = true) (k9 : PySem.W.keepIn K (.ref f9) = true)
    {f10 : Addr} {od10 an10 : Option Addr} {sl10 : Array (Option Value)} {oc10 kV10 dc10 pm10 cd10 ct10 : Value}
    (a10 : PySem.W.nsIn K mainGlobals "_law_cell" = some (some (.ref f10))) (l10 : K.lookup f10 = some ⟨oc10, od10, .func (PySem.W.fnOf "_law_cell" "_law_cell" (defArgs s__law_cell) (defBody s__law_cell) (defScope s__law_cell) .none kV10 dc10 pm10 an10 cd10 ct10), sl10⟩) (c10 : PySem.W.codeIn K cd10 "_law_cell" = true) (k10 : PySem.W.keepIn K (.ref f10) = true)
    {f11 : Addr} {od11 an11 : Option Addr} {sl11 : Array (Option Value)} {oc11 kV11 dc11 pm11 cd11 ct11 : Value}
    (a11 : PySem.W.nsIn K mainGlobals "_law_mix" = some (some (.ref f11))) (l11 : K.lookup f11 = some ⟨oc11, od11, .func (PySem.W.fnOf "_law_mix" "_law_mix" (defArgs s__law_mix) (defBody s__law_mix) (defScope s__law_mix) .none kV11 dc11 pm11 an11 cd11 ct11), sl11⟩) (c11 : PySem.W.codeIn K cd11 "_law_mix" = true) (k11 : PySem.W.keepIn K (.ref f11) = true)
    {f12 : Addr} {od12 an12 : Option Addr} {sl12 : Array (Option Value)} {oc12 kV12 dc12 pm12 cd12 ct12 : Value}
    (a12 : PySem.W.nsIn K mainGlobals "_law_whole" = some (some (.ref f12))) (l12 : K.lookup f12 = some ⟨oc12, od12, .func (PySem.W.fnOf "_law_whole" "_law_whole" (defArgs s__law_whole) (defBody s__law_whole) (defScope s__law_whole) .none kV12 dc12 pm12 an12 cd12 ct12), sl12⟩) (c12 : PySem.W.codeIn K cd12 "_law_whole" = true) (k12 : PySem.W.keepIn K (.ref f12) = true)
    {f13 : Addr} {od13 an13 : Option Addr} {sl13 : Array (Option Value)} {oc13 kV13 dc13 pm13 cd13 ct13 : Value}
    (a13 : PySem.W.nsIn K mainGlobals "_law_refused" = some (some (.ref f13))) (l13 : K.lookup f13 = some ⟨oc13, od13, .func (PySem.W.fnOf "_law_refused" "_law_refused" (defArgs s__law_refused) (defBody s__law_refused) (defScope s__law_refused) .none kV13 dc13 pm13 an13 cd13 ct13), sl13⟩) (c13 : PySem.W.codeIn K cd13 "_law_refused" = true) (k13 : PySem.W.keepIn K (.ref f13) = true)
    {f14 : Addr} {od14 an14 : Option Addr} {sl14 : Array (Option Value)} {oc14 kV14 dc14 pm14 cd14 ct14 : Value}
    (a14 : PySem.W.nsIn K mainGlobals "_law_refused_at" = some (some (.ref f14))) (l14 : K.lookup f14 = some ⟨oc14, od14, .func (PySem.W.fnOf "_law_refused_at" "_law_refused_at" (defArgs s__law_refused_at) (defBody s__law_refused_at) (defScope s__law_refused_at) .none kV14 dc14 pm14 an14 cd14 ct14), sl14⟩) (c14 : PySem.W.codeIn K cd14 "_law_refused_at" = true) (k14 : PySem.W.keepIn K (.ref f14) = true)
    {f15 : Addr} {od15 an15 : Option Addr} {sl15 : Array (Option Value)} {oc15 kV15 dc15 pm15 cd15 ct15 : Value}
    (a15 : PySem.W.nsIn K mainGlobals "_law_truth" = some (some (.ref f15))) (l15 : K.lookup f15 = some ⟨oc15, od15, .func (PySem.W.fnOf "_law_truth" "_law_truth" (defArgs s__law_truth) (defBody s__law_truth) (defScope s__law_truth) .none kV15 dc15 pm15 an15 cd15 ct15), sl15⟩) (c15 : PySem.W.codeIn K cd15 "_law_truth" = true) (k15 : PySem.W.keepIn K (.ref f15) = true)
    {f16 : Addr} {od16 an16 : Option Addr} {sl16 : Array (Option Value)} {oc16 kV16 dc16 pm16 cd16 ct16 : Value}
    (a16 : PySem.W.nsIn K mainGlobals "_law_atom" = some (some (.ref f16))) (l16 : K.lookup f16 = some ⟨oc16, od16, .func (PySem.W.fnOf "_law_atom" "_law_atom" (defArgs s__law_atom) (defBody s__law_atom) (defScope s__law_atom) .none kV16 dc16 pm16 an16 cd16 ct16), sl16⟩) (c16 : PySem.W.codeIn K cd16 "_law_atom" = true) (k16 : PySem.W.keepIn K (.ref f16) = true)
    {f17 : Addr} {od17 an17 : Option Addr} {sl17 : Array (Option Value)} {oc17 kV17 dc17 pm17 cd17 ct17 : Value}
    (a17 : PySem.W.nsIn K mainGlobals "_law_opened" = some (some (.ref f17))) (l17 : K.lookup f17 = some ⟨oc17, od17, .func (PySem.W.fnOf "_law_opened" "_law_opened" (defArgs s__law_opened) (defBody s__law_opened) (defScope s__law_opened) .none kV17 dc17 pm17 an17 cd17 ct17), sl17⟩) (c17 : PySem.W.codeIn K cd17 "_law_opened" = true) (k17 : PySem.W.keepIn K (.ref f17) = true)
    {f18 : Addr} {od18 an18 : Option Addr} {sl18 : Array (Option Value)} {oc18 kV18 dc18 pm18 cd18 ct18 : Value}
    (a18 : PySem.W.nsIn K mainGlobals "_law_holds" = some (some (.ref f18))) (l18 : K.lookup f18 = some ⟨oc18, od18, .func (PySem.W.fnOf "_law_holds" "_law_holds" (defArgs s__law_holds) (defBody s__law_holds) (defScope s__law_holds) .none kV18 dc18 pm18 an18 cd18 ct18), sl18⟩) (c18 : PySem.W.codeIn K cd18 "_law_holds" = true) (k18 : PySem.W.keepIn K (.ref f18) = true)
    {f19 : Addr} {od19 an19 : Option Addr} {sl19 : Array (Option Value)} {oc19 kV19 dc19 pm19 cd19 ct19 : Value}
    (a19 : PySem.W.nsIn K mainGlobals "_law_nested" = some (some (.ref f19))) (l19 : K.lookup f19 = some ⟨oc19, od19, .func (PySem.W.fnOf "_law_nested" "_law_nested" (defArgs s__law_nested) (defBody s__law_nested) (defScope s__law_nested) .none kV19 dc19 pm19 an19 cd19 ct19), sl19⟩) (c19 : PySem.W.codeIn K cd19 "_law_nested" = true) (k19 : PySem.W.keepIn K (.ref f19) = true)
    {f20 : Addr} {od20 an20 : Option Addr} {sl20 : Array (Option Value)} {oc20 kV20 dc20 pm20 cd20 ct20 : Value}
    (a20 : PySem.W.nsIn K mainGlobals "_law_row" = some (some (.ref f20))) (l20 : K.lookup f20 = some ⟨oc20, od20, .func (PySem.W.fnOf "_law_row" "_law_row" (defArgs s__law_row) (defBody s__law_row) (defScope s__law_row) .none kV20 dc20 pm20 an20 cd20 ct20), sl20⟩) (c20 : PySem.W.codeIn K cd20 "_law_row" = true) (k20 : PySem.W.keepIn K (.ref f20) = true)
    {f21 : Addr} {od21 an21 : Option Addr} {sl21 : Array (Option Value)} {oc21 kV21 dc21 pm21 cd21 ct21 : Value}
    (a21 : PySem.W.nsIn K mainGlobals "_law_long" = some (some (.ref f21))) (l21 : K.lookup f21 = some ⟨oc21, od21, .func (PySem.W.fnOf "_law_long" "_law_long" (defArgs s__law_long) (defBody s__law_long) (defScope s__law_long) .none kV21 dc21 pm21 an21 cd21 ct21), sl21⟩) (c21 : PySem.W.codeIn K cd21 "_law_long" = true) (k21 : PySem.W.keepIn K (.ref f21) = true)
    {f22 : Addr} {od22 an22 : Option Addr} {sl22 : Array (Option Value)} {oc22 kV22 dc22 pm22 cd22 ct22 : Value}
    (a22 : PySem.W.nsIn K mainGlobals "law" = some (some (.ref f22))) (l22 : K.lookup f22 = some ⟨oc22, od22, .func (PySem.W.fnOf "law" "law" (defArgs s_law) (defBody s_law) (defScope s_law) .none kV22 dc22 pm22 an22 cd22 ct22), sl22⟩) (c22 : PySem.W.codeIn K cd22 "law" = true) (k22 : PySem.W.keepIn K (.ref f22) = true)
    {C_Condition : Addr} (q_Condition : PySem.W.nsIn K mainGlobals "Condition" = some (some (.ref C_Condition)))
    (pg_Condition : PySem.W.plainGet K C_Condition Str.empty = true) (hd_Condition : PySem.W.hasDictIn K C_Condition = true) (po_Condition : PySem.W.plainOver K C_Condition = true) (sa_Condition : PySem.W.findIn K (.ref C_Condition) "__setattr__" = some (some (.builtin "object.__setattr__"))) (mk_Condition : PySem.W.makesIn K C_Condition = true) (kc_Condition : PySem.W.keepIn K (.ref C_Condition) = true)
    {C_CauseIs : Addr} (q_CauseIs : PySem.W.nsIn K mainGlobals "CauseIs" = some (some (.ref C_CauseIs)))
    (pg_CauseIs : PySem.W.plainGet K C_CauseIs Str.empty = true) (hd_CauseIs : PySem.W.hasDictIn K C_CauseIs = true) (po_CauseIs : PySem.W.plainOver K C_CauseIs = true) (sa_CauseIs : PySem.W.findIn K (.ref C_CauseIs) "__setattr__" = some (some (.builtin "object.__setattr__"))) (mk_CauseIs : PySem.W.makesIn K C_CauseIs = true) (kc_CauseIs : PySem.W.keepIn K (.ref C_CauseIs) = true)
    (na_CauseIs_name : PySem.W.findIn K (.ref C_CauseIs) "name" = some none)
    {C_ThingIs : Addr} (q_ThingIs : PySem.W.nsIn K mainGlobals "ThingIs" = some (some (.ref C_ThingIs)))
    (pg_ThingIs : PySem.W.plainGet K C_ThingIs Str.empty = true) (hd_ThingIs : PySem.W.hasDictIn K C_ThingIs = true) (po_ThingIs : PySem.W.plainOver K C_ThingIs = true) (sa_ThingIs : PySem.W.findIn K (.ref C_ThingIs) "__setattr__" = some (some (.builtin "object.__setattr__"))) (mk_ThingIs : PySem.W.makesIn K C_ThingIs = true) (kc_ThingIs : PySem.W.keepIn K (.ref C_ThingIs) = true)
    (na_ThingIs_name : PySem.W.findIn K (.ref C_ThingIs) "name" = some none)
    {C_DaysIn : Addr} (q_DaysIn : PySem.W.nsIn K mainGlobals "DaysIn" = some (some (.ref C_DaysIn)))
    (pg_DaysIn : PySem.W.plainGet K C_DaysIn Str.empty = true) (hd_DaysIn : PySem.W.hasDictIn K C_DaysIn = true) (po_DaysIn : PySem.W.plainOver K C_DaysIn = true) (sa_DaysIn : PySem.W.findIn K (.ref C_DaysIn) "__setattr__" = some (some (.builtin "object.__setattr__"))) (mk_DaysIn : PySem.W.makesIn K C_DaysIn = true) (kc_DaysIn : PySem.W.keepIn K (.ref C_DaysIn) = true)
    (na_DaysIn_first : PySem.W.findIn K (.ref C_DaysIn) "first" = some none)
    (na_DaysIn_last : PySem.W.findIn K (.ref C_DaysIn) "last" = some none)
    {C_Over : Addr} (q_Over : PySem.W.nsIn K mainGlobals "Over" = some (some (.ref C_Over)))
    (pg_Over : PySem.W.plainGet K C_Over Str.empty = true) (hd_Over : PySem.W.hasDictIn K C_Over = true) (po_Over : PySem.W.plainOver K C_Over = true) (sa_Over : PySem.W.findIn K (.ref C_Over) "__setattr__" = some (some (.builtin "object.__setattr__"))) (mk_Over : PySem.W.makesIn K C_Over = true) (kc_Over : PySem.W.keepIn K (.ref C_Over) = true)
    (na_Over_cents : PySem.W.findIn K (.ref C_Over) "cents" = some none)
    {C_Not : Addr} (q_Not : PySem.W.nsIn K mainGlobals "Not" = some (some (.ref C_Not)))
    (pg_Not : PySem.W.plainGet K C_Not Str.empty = true) (hd_Not : PySem.W.hasDictIn K C_Not = true) (po_Not : PySem.W.plainOver K C_Not = true) (sa_Not : PySem.W.findIn K (.ref C_Not) "__setattr__" = some (some (.builtin "object.__setattr__"))) (mk_Not : PySem.W.makesIn K C_Not = true) (kc_Not : PySem.W.keepIn K (.ref C_Not) = true)
    (na_Not_part : PySem.W.findIn K (.ref C_Not) "part" = some none)
    {C_All : Addr} (q_All : PySem.W.nsIn K mainGlobals "All" = some (some (.ref C_All)))
    (pg_All : PySem.W.plainGet K C_All Str.empty = true) (hd_All : PySem.W.hasDictIn K C_All = true) (po_All : PySem.W.plainOver K C_All = true) (sa_All : PySem.W.findIn K (.ref C_All) "__setattr__" = some (some (.builtin "object.__setattr__"))) (mk_All : PySem.W.makesIn K C_All = true) (kc_All : PySem.W.keepIn K (.ref C_All) = true)
    (na_All_several : PySem.W.findIn K (.ref C_All) "several" = some none)
    {C_Some : Addr} (q_Some : PySem.W.nsIn K mainGlobals "Some" = some (some (.ref C_Some)))
    (pg_Some : PySem.W.plainGet K C_Some Str.empty = true) (hd_Some : PySem.W.hasDictIn K C_Some = true) (po_Some : PySem.W.plainOver K C_Some = true) (sa_Some : PySem.W.findIn K (.ref C_Some) "__setattr__" = some (some (.builtin "object.__setattr__"))) (mk_Some : PySem.W.makesIn K C_Some = true) (kc_Some : PySem.W.keepIn K (.ref C_Some) = true)
    (na_Some_several : PySem.W.findIn K (.ref C_Some) "several" = some none)
    {C_Reader : Addr} (q_Reader : PySem.W.nsIn K mainGlobals "Reader" = some (some (.ref C_Reader)))
    (pg_Reader : PySem.W.plainGet K C_Reader Str.empty = true) (hd_Reader : PySem.W.hasDictIn K C_Reader = true) (po_Reader : PySem.W.plainOver K C_Reader = true) (sa_Reader : PySem.W.findIn K (.ref C_Reader) "__setattr__" = some (some (.builtin "object.__setattr__"))) (mk_Reader : PySem.W.makesIn K C_Reader = true) (kc_Reader : PySem.W.keepIn K (.ref C_Reader) = true)
    (na_Reader_row : PySem.W.findIn K (.ref C_Reader) "row" = some none)
    (na_Reader_place : PySem.W.findIn K (.ref C_Reader) "place" = some none)
    (na_Reader_depth : PySem.W.findIn K (.ref C_Reader) "depth" = some none)
    (nd_C : ([C_Condition, C_CauseIs, C_ThingIs, C_DaysIn, C_Over, C_Not, C_All, C_Some, C_Reader] : List Addr).Nodup)
    {fCondition_holds : Addr} {odCondition_holds anCondition_holds : Option Addr} {slCondition_holds : Array (Option Value)} {ocCondition_holds kVCondition_holds dcCondition_holds pmCondition_holds cdCondition_holds ctCondition_holds : Value}
    (a_Condition_holds : PySem.W.findIn K (.ref C_Condition) "holds" = some (some (.ref fCondition_holds)))
    (iCondition_holds : PySem.W.isFn K (.ref fCondition_holds) = true) (lCondition_holds : K.lookup fCondition_holds = some ⟨ocCondition_holds, odCondition_holds, .func (PySem.W.fnOf "holds" "Condition.holds" (defArgs s_Condition_holds) (defBody s_Condition_holds) (defScope s_Condition_holds) .none kVCondition_holds dcCondition_holds pmCondition_holds anCondition_holds cdCondition_holds ctCondition_holds), slCondition_holds⟩) (cCondition_holds : PySem.W.codeIn K cdCondition_holds "Condition.holds" = true) (kCondition_holds : PySem.W.keepIn K (.ref fCondition_holds) = true)
    {fCauseIs___init__ : Addr} {odCauseIs___init__ anCauseIs___init__ : Option Addr} {slCauseIs___init__ : Array (Option Value)} {ocCauseIs___init__ kVCauseIs___init__ dcCauseIs___init__ pmCauseIs___init__ cdCauseIs___init__ ctCauseIs___init__ : Value}
    (a_CauseIs___init__ : PySem.W.findIn K (.ref C_CauseIs) "__init__" = some (some (.ref fCauseIs___init__)))
    (iCauseIs___init__ : PySem.W.isFn K (.ref fCauseIs___init__) = true) (lCauseIs___init__ : K.lookup fCauseIs___init__ = some ⟨ocCauseIs___init__, odCauseIs___init__, .func (PySem.W.fnOf "__init__" "CauseIs.__init__" (defArgs s_CauseIs___init__) (defBody s_CauseIs___init__) (defScope s_CauseIs___init__) .none kVCauseIs___init__ dcCauseIs___init__ pmCauseIs___init__ anCauseIs___init__ cdCauseIs___init__ ctCauseIs___init__), slCauseIs___init__⟩) (cCauseIs___init__ : PySem.W.codeIn K cdCauseIs___init__ "CauseIs.__init__" = true) (kCauseIs___init__ : PySem.W.keepIn K (.ref fCauseIs___init__) = true)
    {fCauseIs_holds : Addr} {odCauseIs_holds anCauseIs_holds : Option Addr} {slCauseIs_holds : Array (Option Value)} {ocCauseIs_holds kVCauseIs_holds dcCauseIs_holds pmCauseIs_holds cdCauseIs_holds ctCauseIs_holds : Value}
    (a_CauseIs_holds : PySem.W.findIn K (.ref C_CauseIs) "holds" = some (some (.ref fCauseIs_holds)))
    (iCauseIs_holds : PySem.W.isFn K (.ref fCauseIs_holds) = true) (lCauseIs_holds : K.lookup fCauseIs_holds = some ⟨ocCauseIs_holds, odCauseIs_holds, .func (PySem.W.fnOf "holds" "CauseIs.holds" (defArgs s_CauseIs_holds) (defBody s_CauseIs_holds) (defScope s_CauseIs_holds) .none kVCauseIs_holds dcCauseIs_holds pmCauseIs_holds anCauseIs_holds cdCauseIs_holds ctCauseIs_holds), slCauseIs_holds⟩) (cCauseIs_holds : PySem.W.codeIn K cdCauseIs_holds "CauseIs.holds" = true) (kCauseIs_holds : PySem.W.keepIn K (.ref fCauseIs_holds) = true)
    {fThingIs___init__ : Addr} {odThingIs___init__ anThingIs___init__ : Option Addr} {slThingIs___init__ : Array (Option Value)} {ocThingIs___init__ kVThingIs___init__ dcThingIs___init__ pmThingIs___init__ cdThingIs___init__ ctThingIs___init__ : Value}
    (a_ThingIs___init__ : PySem.W.findIn K (.ref C_ThingIs) "__init__" = some (some (.ref fThingIs___init__)))
    (iThingIs___init__ : PySem.W.isFn K (.ref fThingIs___init__) = true) (lThingIs___init__ : K.lookup fThingIs___init__ = some ⟨ocThingIs___init__, odThingIs___init__, .func (PySem.W.fnOf "__init__" "ThingIs.__init__" (defArgs s_ThingIs___init__) (defBody s_ThingIs___init__) (defScope s_ThingIs___init__) .none kVThingIs___init__ dcThingIs___init__ pmThingIs___init__ anThingIs___init__ cdThingIs___init__ ctThingIs___init__), slThingIs___init__⟩) (cThingIs___init__ : PySem.W.codeIn K cdThingIs___init__ "ThingIs.__init__" = true) (kThingIs___init__ : PySem.W.keepIn K (.ref fThingIs___init__) = true)
    {fThingIs_holds : Addr} {odThingIs_holds anThingIs_holds : Option Addr} {slThingIs_holds : Array (Option Value)} {ocThingIs_holds kVThingIs_holds dcThingIs_holds pmThingIs_holds cdThingIs_holds ctThingIs_holds : Value}
    (a_ThingIs_holds : PySem.W.findIn K (.ref C_ThingIs) "holds" = some (some (.ref fThingIs_holds)))
    (iThingIs_holds : PySem.W.isFn K (.ref fThingIs_holds) = true) (lThingIs_holds : K.lookup fThingIs_holds = some ⟨ocThingIs_holds, odThingIs_holds, .func (PySem.W.fnOf "holds" "ThingIs.holds" (defArgs s_ThingIs_holds) (defBody s_ThingIs_holds) (defScope s_ThingIs_holds) .none kVThingIs_holds dcThingIs_holds pmThingIs_holds anThingIs_holds cdThingIs_holds ctThingIs_holds), slThingIs_holds⟩) (cThingIs_holds : PySem.W.codeIn K cdThingIs_holds "ThingIs.holds" = true) (kThingIs_holds : PySem.W.keepIn K (.ref fThingIs_holds) = true)
    {fDaysIn___init__ : Addr} {odDaysIn___init__ anDaysIn___init__ : Option Addr} {slDaysIn___init__ : Array (Option Value)} {ocDaysIn___init__ kVDaysIn___init__ dcDaysIn___init__ pmDaysIn___init__ cdDaysIn___init__ ctDaysIn___init__ : Value}
    (a_DaysIn___init__ : PySem.W.findIn K (.ref C_DaysIn) "__init__" = some (some (.ref fDaysIn___init__)))
    (iDaysIn___init__ : PySem.W.isFn K (.ref fDaysIn___init__) = true) (lDaysIn___init__ : K.lookup fDaysIn___init__ = some ⟨ocDaysIn___init__, odDaysIn___init__, .func (PySem.W.fnOf "__init__" "DaysIn.__init__" (defArgs s_DaysIn___init__) (defBody s_DaysIn___init__) (defScope s_DaysIn___init__) .none kVDaysIn___init__ dcDaysIn___init__ pmDaysIn___init__ anDaysIn___init__ cdDaysIn___init__ ctDaysIn___init__), slDaysIn___init__⟩) (cDaysIn___init__ : PySem.W.codeIn K cdDaysIn___init__ "DaysIn.__init__" = true) (kDaysIn___init__ : PySem.W.keepIn K (.ref fDaysIn___init__) = true)
    {fDaysIn_holds : Addr} {odDaysIn_holds anDaysIn_holds : Option Addr} {slDaysIn_holds : Array (Option Value)} {ocDaysIn_holds kVDaysIn_holds dcDaysIn_holds pmDaysIn_holds cdDaysIn_holds ctDaysIn_holds : Value}
    (a_DaysIn_holds : PySem.W.findIn K (.ref C_DaysIn) "holds" = some (some (.ref fDaysIn_holds)))
    (iDaysIn_holds : PySem.W.isFn K (.ref fDaysIn_holds) = true) (lDaysIn_holds : K.lookup fDaysIn_holds = some ⟨ocDaysIn_holds, odDaysIn_holds, .func (PySem.W.fnOf "holds" "DaysIn.holds" (defArgs s_DaysIn_holds) (defBody s_DaysIn_holds) (defScope s_DaysIn_holds) .none kVDaysIn_holds dcDaysIn_holds pmDaysIn_holds anDaysIn_holds cdDaysIn_holds ctDaysIn_holds), slDaysIn_holds⟩) (cDaysIn_holds : PySem.W.codeIn K cdDaysIn_holds "DaysIn.holds" = true) (kDaysIn_holds : PySem.W.keepIn K (.ref fDaysIn_holds) = true)
    {fOver___init__ : Addr} {odOver___init__ anOver___init__ : Option Addr} {slOver___init__ : Array (Option Value)} {ocOver___init__ kVOver___init__ dcOver___init__ pmOver___init__ cdOver___init__ ctOver___init__ : Value}
    (a_Over___init__ : PySem.W.findIn K (.ref C_Over) "__init__" = some (some (.ref fOver___init__)))
    (iOver___init__ : PySem.W.isFn K (.ref fOver___init__) = true) (lOver___init__ : K.lookup fOver___init__ = some ⟨ocOver___init__, odOver___init__, .func (PySem.W.fnOf "__init__" "Over.__init__" (defArgs s_Over___init__) (defBody s_Over___init__) (defScope s_Over___init__) .none kVOver___init__ dcOver___init__ pmOver___init__ anOver___init__ cdOver___init__ ctOver___init__), slOver___init__⟩) (cOver___init__ : PySem.W.codeIn K cdOver___init__ "Over.__init__" = true) (kOver___init__ : PySem.W.keepIn K (.ref fOver___init__) = true)
    {fOver_holds : Addr} {odOver_holds anOver_holds : Option Addr} {slOver_holds : Array (Option Value)} {ocOver_holds kVOver_holds dcOver_holds pmOver_holds cdOver_holds ctOver_holds : Value}
    (a_Over_holds : PySem.W.findIn K (.ref C_Over) "holds" = some (some (.ref fOver_holds)))
    (iOver_holds : PySem.W.isFn K (.ref fOver_holds) = true) (lOver_holds : K.lookup fOver_holds = some ⟨ocOver_holds, odOver_holds, .func (PySem.W.fnOf "holds" "Over.holds" (defArgs s_Over_holds) (defBody s_Over_holds) (defScope s_Over_holds) .none kVOver_holds dcOver_holds pmOver_holds anOver_holds cdOver_holds ctOver_holds), slOver_holds⟩) (cOver_holds : PySem.W.codeIn K cdOver_holds "Over.holds" = true) (kOver_holds : PySem.W.keepIn K (.ref fOver_holds) = true)
    {fNot___init__ : Addr} {odNot___init__ anNot___init__ : Option Addr} {slNot___init__ : Array (Option Value)} {ocNot___init__ kVNot___init__ dcNot___init__ pmNot___init__ cdNot___init__ ctNot___init__ : Value}
    (a_Not___init__ : PySem.W.findIn K (.ref C_Not) "__init__" = some (some (.ref fNot___init__)))
    (iNot___init__ : PySem.W.isFn K (.ref fNot___init__) = true) (lNot___init__ : K.lookup fNot___init__ = some ⟨ocNot___init__, odNot___init__, .func (PySem.W.fnOf "__init__" "Not.__init__" (defArgs s_Not___init__) (defBody s_Not___init__) (defScope s_Not___init__) .none kVNot___init__ dcNot___init__ pmNot___init__ anNot___init__ cdNot___init__ ctNot___init__), slNot___init__⟩) (cNot___init__ : PySem.W.codeIn K cdNot___init__ "Not.__init__" = true) (kNot___init__ : PySem.W.keepIn K (.ref fNot___init__) = true)
    {fNot_holds : Addr} {odNot_holds anNot_holds : Option Addr} {slNot_holds : Array (Option Value)} {ocNot_holds kVNot_holds dcNot_holds pmNot_holds cdNot_holds ctNot_holds : Value}
    (a_Not_holds : PySem.W.findIn K (.ref C_Not) "holds" = some (some (.ref fNot_holds)))
    (iNot_holds : PySem.W.isFn K (.ref fNot_holds) = true) (lNot_holds : K.lookup fNot_holds = some ⟨ocNot_holds, odNot_holds, .func (PySem.W.fnOf "holds" "Not.holds" (defArgs s_Not_holds) (defBody s_Not_holds) (defScope s_Not_holds) .none kVNot_holds dcNot_holds pmNot_holds anNot_holds cdNot_holds ctNot_holds), slNot_holds⟩) (cNot_holds : PySem.W.codeIn K cdNot_holds "Not.holds" = true) (kNot_holds : PySem.W.keepIn K (.ref fNot_holds) = true)
    {fAll___init__ : Addr} {odAll___init__ anAll___init__ : Option Addr} {slAll___init__ : Array (Option Value)} {ocAll___init__ kVAll___init__ dcAll___init__ pmAll___init__ cdAll___init__ ctAll___init__ : Value}
    (a_All___init__ : PySem.W.findIn K (.ref C_All) "__init__" = some (some (.ref fAll___init__)))
    (iAll___init__ : PySem.W.isFn K (.ref fAll___init__) = true) (lAll___init__ : K.lookup fAll___init__ = some ⟨ocAll___init__, odAll___init__, .func (PySem.W.fnOf "__init__" "All.__init__" (defArgs s_All___init__) (defBody s_All___init__) (defScope s_All___init__) .none kVAll___init__ dcAll___init__ pmAll___init__ anAll___init__ cdAll___init__ ctAll___init__), slAll___init__⟩) (cAll___init__ : PySem.W.codeIn K cdAll___init__ "All.__init__" = true) (kAll___init__ : PySem.W.keepIn K (.ref fAll___init__) = true)
    {fAll_holds : Addr} {odAll_holds anAll_holds : Option Addr} {slAll_holds : Array (Option Value)} {ocAll_holds kVAll_holds dcAll_holds pmAll_holds cdAll_holds ctAll_holds : Value}
    (a_All_holds : PySem.W.findIn K (.ref C_All) "holds" = some (some (.ref fAll_holds)))
    (iAll_holds : PySem.W.isFn K (.ref fAll_holds) = true) (lAll_holds : K.lookup fAll_holds = some ⟨ocAll_holds, odAll_holds, .func (PySem.W.fnOf "holds" "All.holds" (defArgs s_All_holds) (defBody s_All_holds) (defScope s_All_holds) .none kVAll_holds dcAll_holds pmAll_holds anAll_holds cdAll_holds ctAll_holds), slAll_holds⟩) (cAll_holds : PySem.W.codeIn K cdAll_holds "All.holds" = true) (kAll_holds : PySem.W.keepIn K (.ref fAll_holds) = true)
    {fSome___init__ : Addr} {odSome___init__ anSome___init__ : Option Addr} {slSome___init__ : Array (Option Value)} {ocSome___init__ kVSome___init__ dcSome___init__ pmSome___init__ cdSome___init__ ctSome___init__ : Value}
    (a_Some___init__ : PySem.W.findIn K (.ref C_Some) "__init__" = some (some (.ref fSome___init__)))
    (iSome___init__ : PySem.W.isFn K (.ref fSome___init__) = true) (lSome___init__ : K.lookup fSome___init__ = some ⟨ocSome___init__, odSome___init__, .func (PySem.W.fnOf "__init__" "Some.__init__" (defArgs s_Some___init__) (defBody s_Some___init__) (defScope s_Some___init__) .none kVSome___init__ dcSome___init__ pmSome___init__ anSome___init__ cdSome___init__ ctSome___init__), slSome___init__⟩) (cSome___init__ : PySem.W.codeIn K cdSome___init__ "Some.__init__" = true) (kSome___init__ : PySem.W.keepIn K (.ref fSome___init__) = true)
    {fSome_holds : Addr} {odSome_holds anSome_holds : Option Addr} {slSome_holds : Array (Option Value)} {ocSome_holds kVSome_holds dcSome_holds pmSome_holds cdSome_holds ctSome_holds : Value}
    (a_Some_holds : PySem.W.findIn K (.ref C_Some) "holds" = some (some (.ref fSome_holds)))
    (iSome_holds : PySem.W.isFn K (.ref fSome_holds) = true) (lSome_holds : K.lookup fSome_holds = some ⟨ocSome_holds, odSome_holds, .func (PySem.W.fnOf "holds" "Some.holds" (defArgs s_Some_holds) (defBody s_Some_holds) (defScope s_Some_holds) .none kVSome_holds dcSome_holds pmSome_holds anSome_holds cdSome_holds ctSome_holds), slSome_holds⟩) (cSome_holds : PySem.W.codeIn K cdSome_holds "Some.holds" = true) (kSome_holds : PySem.W.keepIn K (.ref fSome_holds) = true)
    {fReader___init__ : Addr} {odReader___init__ anReader___init__ : Option Addr} {slReader___init__ : Array (Option Value)} {ocReader___init__ kVReader___init__ dcReader___init__ pmReader___init__ cdReader___init__ ctReader___init__ : Value}
    (a_Reader___init__ : PySem.W.findIn K (.ref C_Reader) "__init__" = some (some (.ref fReader___init__)))
    (iReader___init__ : PySem.W.isFn K (.ref fReader___init__) = true) (lReader___init__ : K.lookup fReader___init__ = some ⟨ocReader___init__, odReader___init__, .func (PySem.W.fnOf "__init__" "Reader.__init__" (defArgs s_Reader___init__) (defBody s_Reader___init__) (defScope s_Reader___init__) .none kVReader___init__ dcReader___init__ pmReader___init__ anReader___init__ cdReader___init__ ctReader___init__), slReader___init__⟩) (cReader___init__ : PySem.W.codeIn K cdReader___init__ "Reader.__init__" = true) (kReader___init__ : PySem.W.keepIn K (.ref fReader___init__) = true)
    {fReader_ahead : Addr} {odReader_ahead anReader_ahead : Option Addr} {slReader_ahead : Array (Option Value)} {ocReader_ahead kVReader_ahead dcReader_ahead pmReader_ahead cdReader_ahead ctReader_ahead : Value}
    (a_Reader_ahead : PySem.W.findIn K (.ref C_Reader) "ahead" = some (some (.ref fReader_ahead)))
    (iReader_ahead : PySem.W.isFn K (.ref fReader_ahead) = true) (lReader_ahead : K.lookup fReader_ahead = some ⟨ocReader_ahead, odReader_ahead, .func (PySem.W.fnOf "ahead" "Reader.ahead" (defArgs s_Reader_ahead) (defBody s_Reader_ahead) (defScope s_Reader_ahead) .none kVReader_ahead dcReader_ahead pmReader_ahead anReader_ahead cdReader_ahead ctReader_ahead), slReader_ahead⟩) (cReader_ahead : PySem.W.codeIn K cdReader_ahead "Reader.ahead" = true) (kReader_ahead : PySem.W.keepIn K (.ref fReader_ahead) = true)
    {fReader_step : Addr} {odReader_step anReader_step : Option Addr} {slReader_step : Array (Option Value)} {ocReader_step kVReader_step dcReader_step pmReader_step cdReader_step ctReader_step : Value}
    (a_Reader_step : PySem.W.findIn K (.ref C_Reader) "step" = some (some (.ref fReader_step)))
    (iReader_step : PySem.W.isFn K (.ref fReader_step) = true) (lReader_step : K.lookup fReader_step = some ⟨ocReader_step, odReader_step, .func (PySem.W.fnOf "step" "Reader.step" (defArgs s_Reader_step) (defBody s_Reader_step) (defScope s_Reader_step) .none kVReader_step dcReader_step pmReader_step anReader_step cdReader_step ctReader_step), slReader_step⟩) (cReader_step : PySem.W.codeIn K cdReader_step "Reader.step" = true) (kReader_step : PySem.W.keepIn K (.ref fReader_step) = true)
    {fReader_read_rows : Addr} {odReader_read_rows anReader_read_rows : Option Addr} {slReader_read_rows : Array (Option Value)} {ocReader_read_rows kVReader_read_rows dcReader_read_rows pmReader_read_rows cdReader_read_rows ctReader_read_rows : Value}
    (a_Reader_read_rows : PySem.W.findIn K (.ref C_Reader) "read_rows" = some (some (.ref fReader_read_rows)))
    (iReader_read_rows : PySem.W.isFn K (.ref fReader_read_rows) = true) (lReader_read_rows : K.lookup fReader_read_rows = some ⟨ocReader_read_rows, odReader_read_rows, .func (PySem.W.fnOf "read_rows" "Reader.read_rows" (defArgs s_Reader_read_rows) (defBody s_Reader_read_rows) (defScope s_Reader_read_rows) .none kVReader_read_rows dcReader_read_rows pmReader_read_rows anReader_read_rows cdReader_read_rows ctReader_read_rows), slReader_read_rows⟩) (cReader_read_rows : PySem.W.codeIn K cdReader_read_rows "Reader.read_rows" = true) (kReader_read_rows : PySem.W.keepIn K (.ref fReader_read_rows) = true)
    {fReader_read_row : Addr} {odReader_read_row anReader_read_row : Option Addr} {slReader_read_row : Array (Option Value)} {ocReader_read_row kVReader_read_row dcReader_read_row pmReader_read_row cdReader_read_row ctReader_read_row : Value}
    (a_Reader_read_row : PySem.W.findIn K (.ref C_Reader) "read_row" = some (some (.ref fReader_read_row)))
    (iReader_read_row : PySem.W.isFn K (.ref fReader_read_row) = true) (lReader_read_row : K.lookup fReader_read_row = some ⟨ocReader_read_row, odReader_read_row, .func (PySem.W.fnOf "read_row" "Reader.read_row" (defArgs s_Reader_read_row) (defBody s_Reader_read_row) (defScope s_Reader_read_row) .none kVReader_read_row dcReader_read_row pmReader_read_row anReader_read_row cdReader_read_row ctReader_read_row), slReader_read_row⟩) (cReader_read_row : PySem.W.codeIn K cdReader_read_row "Reader.read_row" = true) (kReader_read_row : PySem.W.keepIn K (.ref fReader_read_row) = true)
    {fReader_goes_on : Addr} {odReader_goes_on anReader_goes_on : Option Addr} {slReader_goes_on : Array (Option Value)} {ocReader_goes_on kVReader_goes_on dcReader_goes_on pmReader_goes_on cdReader_goes_on ctReader_goes_on : Value}
    (a_Reader_goes_on : PySem.W.findIn K (.ref C_Reader) "goes_on" = some (some (.ref fReader_goes_on)))
    (iReader_goes_on : PySem.W.isFn K (.ref fReader_goes_on) = true) (lReader_goes_on : K.lookup fReader_goes_on = some ⟨ocReader_goes_on, odReader_goes_on, .func (PySem.W.fnOf "goes_on" "Reader.goes_on" (defArgs s_Reader_goes_on) (defBody s_Reader_goes_on) (defScope s_Reader_goes_on) .none kVReader_goes_on dcReader_goes_on pmReader_goes_on anReader_goes_on cdReader_goes_on ctReader_goes_on), slReader_goes_on⟩) (cReader_goes_on : PySem.W.codeIn K cdReader_goes_on "Reader.goes_on" = true) (kReader_goes_on : PySem.W.keepIn K (.ref fReader_goes_on) = true)
    {fReader_read_piece : Addr} {odReader_read_piece anReader_read_piece : Option Addr} {slReader_read_piece : Array (Option Value)} {ocReader_read_piece kVReader_read_piece dcReader_read_piece pmReader_read_piece cdReader_read_piece ctReader_read_piece : Value}
    (a_Reader_read_piece : PySem.W.findIn K (.ref C_Reader) "read_piece" = some (some (.ref fReader_read_piece)))
    (iReader_read_piece : PySem.W.isFn K (.ref fReader_read_piece) = true) (lReader_read_piece : K.lookup fReader_read_piece = some ⟨ocReader_read_piece, odReader_read_piece, .func (PySem.W.fnOf "read_piece" "Reader.read_piece" (defArgs s_Reader_read_piece) (defBody s_Reader_read_piece) (defScope s_Reader_read_piece) .none kVReader_read_piece dcReader_read_piece pmReader_read_piece anReader_read_piece cdReader_read_piece ctReader_read_piece), slReader_read_piece⟩) (cReader_read_piece : PySem.W.codeIn K cdReader_read_piece "Reader.read_piece" = true) (kReader_read_piece : PySem.W.keepIn K (.ref fReader_read_piece) = true)
    {fReader_read_deeper : Addr} {odReader_read_deeper anReader_read_deeper : Option Addr} {slReader_read_deeper : Array (Option Value)} {ocReader_read_deeper kVReader_read_deeper dcReader_read_deeper pmReader_read_deeper cdReader_read_deeper ctReader_read_deeper : Value}
    (a_Reader_read_deeper : PySem.W.findIn K (.ref C_Reader) "read_deeper" = some (some (.ref fReader_read_deeper)))
    (iReader_read_deeper : PySem.W.isFn K (.ref fReader_read_deeper) = true) (lReader_read_deeper : K.lookup fReader_read_deeper = some ⟨ocReader_read_deeper, odReader_read_deeper, .func (PySem.W.fnOf "read_deeper" "Reader.read_deeper" (defArgs s_Reader_read_deeper) (defBody s_Reader_read_deeper) (defScope s_Reader_read_deeper) .none kVReader_read_deeper dcReader_read_deeper pmReader_read_deeper anReader_read_deeper cdReader_read_deeper ctReader_read_deeper), slReader_read_deeper⟩) (cReader_read_deeper : PySem.W.codeIn K cdReader_read_deeper "Reader.read_deeper" = true) (kReader_read_deeper : PySem.W.keepIn K (.ref fReader_read_deeper) = true)
    {fReader_read_bracket : Addr} {odReader_read_bracket anReader_read_bracket : Option Addr} {slReader_read_bracket : Array (Option Value)} {ocReader_read_bracket kVReader_read_bracket dcReader_read_bracket pmReader_read_bracket cdReader_read_bracket ctReader_read_bracket : Value}
    (a_Reader_read_bracket : PySem.W.findIn K (.ref C_Reader) "read_bracket" = some (some (.ref fReader_read_bracket)))
    (iReader_read_bracket : PySem.W.isFn K (.ref fReader_read_bracket) = true) (lReader_read_bracket : K.lookup fReader_read_bracket = some ⟨ocReader_read_bracket, odReader_read_bracket, .func (PySem.W.fnOf "read_bracket" "Reader.read_bracket" (defArgs s_Reader_read_bracket) (defBody s_Reader_read_bracket) (defScope s_Reader_read_bracket) .none kVReader_read_bracket dcReader_read_bracket pmReader_read_bracket anReader_read_bracket cdReader_read_bracket ctReader_read_bracket), slReader_read_bracket⟩) (cReader_read_bracket : PySem.W.codeIn K cdReader_read_bracket "Reader.read_bracket" = true) (kReader_read_bracket : PySem.W.keepIn K (.ref fReader_read_bracket) = true)
    {fReader_read_name : Addr} {odReader_read_name anReader_read_name : Option Addr} {slReader_read_name : Array (Option Value)} {ocReader_read_name kVReader_read_name dcReader_read_name pmReader_read_name cdReader_read_name ctReader_read_name : Value}
    (a_Reader_read_name : PySem.W.findIn K (.ref C_Reader) "read_name" = some (some (.ref fReader_read_name)))
    (iReader_read_name : PySem.W.isFn K (.ref fReader_read_name) = true) (lReader_read_name : K.lookup fReader_read_name = some ⟨ocReader_read_name, odReader_read_name, .func (PySem.W.fnOf "read_name" "Reader.read_name" (defArgs s_Reader_read_name) (defBody s_Reader_read_name) (defScope s_Reader_read_name) .none kVReader_read_name dcReader_read_name pmReader_read_name anReader_read_name cdReader_read_name ctReader_read_name), slReader_read_name⟩) (cReader_read_name : PySem.W.codeIn K cdReader_read_name "Reader.read_name" = true) (kReader_read_name : PySem.W.keepIn K (.ref fReader_read_name) = true)
    {fReader_read_days : Addr} {odReader_read_days anReader_read_days : Option Addr} {slReader_read_days : Array (Option Value)} {ocReader_read_days kVReader_read_days dcReader_read_days pmReader_read_days cdReader_read_days ctReader_read_days : Value}
    (a_Reader_read_days : PySem.W.findIn K (.ref C_Reader) "read_days" = some (some (.ref fReader_read_days)))
    (iReader_read_days : PySem.W.isFn K (.ref fReader_read_days) = true) (lReader_read_days : K.lookup fReader_read_days = some ⟨ocReader_read_days, odReader_read_days, .func (PySem.W.fnOf "read_days" "Reader.read_days" (defArgs s_Reader_read_days) (defBody s_Reader_read_days) (defScope s_Reader_read_days) .none kVReader_read_days dcReader_read_days pmReader_read_days anReader_read_days cdReader_read_days ctReader_read_days), slReader_read_days⟩) (cReader_read_days : PySem.W.codeIn K cdReader_read_days "Reader.read_days" = true) (kReader_read_days : PySem.W.keepIn K (.ref fReader_read_days) = true)
    {fReader_read_day : Addr} {odReader_read_day anReader_read_day : Option Addr} {slReader_read_day : Array (Option Value)} {ocReader_read_day kVReader_read_day dcReader_read_day pmReader_read_day cdReader_read_day ctReader_read_day : Value}
    (a_Reader_read_day : PySem.W.findIn K (.ref C_Reader) "read_day" = some (some (.ref fReader_read_day)))
    (iReader_read_day : PySem.W.isFn K (.ref fReader_read_day) = true) (lReader_read_day : K.lookup fReader_read_day = some ⟨ocReader_read_day, odReader_read_day, .func (PySem.W.fnOf "read_day" "Reader.read_day" (defArgs s_Reader_read_day) (defBody s_Reader_read_day) (defScope s_Reader_read_day) .none kVReader_read_day dcReader_read_day pmReader_read_day anReader_read_day cdReader_read_day ctReader_read_day), slReader_read_day⟩) (cReader_read_day : PySem.W.codeIn K cdReader_read_day "Reader.read_day" = true) (kReader_read_day : PySem.W.keepIn K (.ref fReader_read_day) = true)
    {fReader_read_amount : Addr} {odReader_read_amount anReader_read_amount : Option Addr} {slReader_read_amount : Array (Option Value)} {ocReader_read_amount kVReader_read_amount dcReader_read_amount pmReader_read_amount cdReader_read_amount ctReader_read_amount : Value}
    (a_Reader_read_amount : PySem.W.findIn K (.ref C_Reader) "read_amount" = some (some (.ref fReader_read_amount)))
    (iReader_read_amount : PySem.W.isFn K (.ref fReader_read_amount) = true) (lReader_read_amount : K.lookup fReader_read_amount = some ⟨ocReader_read_amount, odReader_read_amount, .func (PySem.W.fnOf "read_amount" "Reader.read_amount" (defArgs s_Reader_read_amount) (defBody s_Reader_read_amount) (defScope s_Reader_read_amount) .none kVReader_read_amount dcReader_read_amount pmReader_read_amount anReader_read_amount cdReader_read_amount ctReader_read_amount), slReader_read_amount⟩) (cReader_read_amount : PySem.W.codeIn K cdReader_read_amount "Reader.read_amount" = true) (kReader_read_amount : PySem.W.keepIn K (.ref fReader_read_amount) = true)
    (ni_Condition : PySem.W.findIn K (.ref C_Condition) "__init__" = some (some (.builtin "object.__init__")))
    {tk_CAUSE : Tok} (z_CAUSE : PySem.W.nsIn K mainGlobals "CAUSE" = some (some (.int 4 tk_CAUSE)))
    {tk_CENTS : Tok} (z_CENTS : PySem.W.nsIn K mainGlobals "CENTS" = some (some (.int 5 tk_CENTS)))
    {tk_DAY : Tok} (z_DAY : PySem.W.nsIn K mainGlobals "DAY" = some (some (.int 1 tk_DAY)))
    {tk_FIGURES : Tok} (z_FIGURES : PySem.W.nsIn K mainGlobals "FIGURES" = some (some (.str "0123456789" tk_FIGURES)))
    {tk_LAST_DAY : Tok} (z_LAST_DAY : PySem.W.nsIn K mainGlobals "LAST_DAY" = some (some (.int 1000000 tk_LAST_DAY)))
    {tk_LETTERS : Tok} (z_LETTERS : PySem.W.nsIn K mainGlobals "LETTERS" = some (some (.str "abcdefghijklmnopqrstuvwxyz" tk_LETTERS)))
    {tk_LONGEST_NAME : Tok} (z_LONGEST_NAME : PySem.W.nsIn K mainGlobals "LONGEST_NAME" = some (some (.int 8 tk_LONGEST_NAME)))
    {tk_MOST_DAY_FIGURES : Tok} (z_MOST_DAY_FIGURES : PySem.W.nsIn K mainGlobals "MOST_DAY_FIGURES" = some (some (.int 7 tk_MOST_DAY_FIGURES)))
    {tk_MOST_IN_ROW : Tok} (z_MOST_IN_ROW : PySem.W.nsIn K mainGlobals "MOST_IN_ROW" = some (some (.int 8 tk_MOST_IN_ROW)))
    {tk_MOST_OPEN : Tok} (z_MOST_OPEN : PySem.W.nsIn K mainGlobals "MOST_OPEN" = some (some (.int 6 tk_MOST_OPEN)))
    {tk_MOST_WHOLE_FIGURES : Tok} (z_MOST_WHOLE_FIGURES : PySem.W.nsIn K mainGlobals "MOST_WHOLE_FIGURES" = some (some (.int 10 tk_MOST_WHOLE_FIGURES)))
    {tk_MOST_WORDS : Tok} (z_MOST_WORDS : PySem.W.nsIn K mainGlobals "MOST_WORDS" = some (some (.int 60 tk_MOST_WORDS)))
    {tk_THING : Tok} (z_THING : PySem.W.nsIn K mainGlobals "THING" = some (some (.int 3 tk_THING)))
    (z_ValueError : PySem.W.nsIn K mainGlobals "ValueError" = some none)
    (z_bool : PySem.W.nsIn K mainGlobals "bool" = some none)
    (z_int : PySem.W.nsIn K mainGlobals "int" = some none)
    (z_isinstance : PySem.W.nsIn K mainGlobals "isinstance" = some none)
    (z_len : PySem.W.nsIn K mainGlobals "len" = some none)
    (z_list : PySem.W.nsIn K mainGlobals "list" = some none)
    (z_range : PySem.W.nsIn K mainGlobals "range" = some none)
    (z_str : PySem.W.nsIn K mainGlobals "str" = some none)
    {C_CoverError : Addr} (q_CoverError : PySem.W.nsIn K mainGlobals "CoverError" = some (some (.ref C_CoverError)))
    {C_NoAmount : Addr} (q_NoAmount : PySem.W.nsIn K mainGlobals "NoAmount" = some (some (.ref C_NoAmount)))
    {C_NoWords : Addr} (q_NoWords : PySem.W.nsIn K mainGlobals "NoWords" = some (some (.ref C_NoWords)))
    {C_TooDeep : Addr} (q_TooDeep : PySem.W.nsIn K mainGlobals "TooDeep" = some (some (.ref C_TooDeep)))
    {C_NoText : Addr} (q_NoText : PySem.W.nsIn K mainGlobals "NoText" = some (some (.ref C_NoText)))
    {fINoWords : Addr} {odINoWords anINoWords : Option Addr} {slINoWords : Array (Option Value)} {ocINoWords kVINoWords dcINoWords pmINoWords cdINoWords ctINoWords : Value}
    (aINoWords : PySem.W.findIn K (.ref C_NoWords) "__init__" = some (some (.ref fINoWords))) (iINoWords : PySem.W.isFn K (.ref fINoWords) = true) (lINoWords : K.lookup fINoWords = some ⟨ocINoWords, odINoWords, .func (PySem.W.fnOf "__init__" "NoWords.__init__" (defArgs s_NoWords___init__) (defBody s_NoWords___init__) (defScope s_NoWords___init__) .none kVINoWords dcINoWords pmINoWords anINoWords cdINoWords ctINoWords), slINoWords⟩) (cINoWords : PySem.W.codeIn K cdINoWords "NoWords.__init__" = true) (kINoWords : PySem.W.keepIn K (.ref fINoWords) = true)
    (w_NoWords : ownInit K C_NoWords fINoWords [.type "ValueError", .type "Exception", .type "BaseException", .type "object"] "ValueError.__new__" = true) (kp_NoWords : PySem.W.keepIn K (.ref C_NoWords) = true)
    (sa_NoWords : PySem.W.findIn K (.ref C_NoWords) "__setattr__" = some (some (.builtin "object.__setattr__"))) (ov_NoWords : excOver K C_NoWords = true) (fi_NoWords : PySem.W.findIn K (.ref C_NoWords) "at" = some none)
    (ga_NoWords : PySem.W.findIn K (.ref C_NoWords) "__getattribute__" = some (some (.builtin "BaseException.__getattribute__")))
    (gt_NoWords : PySem.W.findIn K (.ref C_NoWords) "__getattr__" = some none)
    (cl_NoWords : PySem.W.findIn K (.ref C_NoWords) "__class__" = some (some (.builtin "object.__class__")))
    (ob_NoWords : PySem.W.mroIn K C_NoWords (.type "object") = some true)
    (sb_NoWords : PySem.W.subIn K (.ref C_NoWords) (.type "BaseException") = some true)
    (ic_NoWords : PySem.W.isClsIn K C_NoWords = true)
    (hd_NoWords : PySem.W.hasDictIn K C_NoWords = true)
    (gs : PySem.W.specialIn K (.builtin "object.__class__") "__get__" = some (some (.builtin "getset_descriptor.__get__"))) (tk : PySem.W.takesIn K (.builtin "object.__class__") = some true)
    (v_NoWords : PySem.W.kitOne K (.ref C_NoWords) (.type "ValueError") = some true)
    (k_NoWords_NoWords : PySem.W.kitOne K (.ref C_NoWords) (.ref C_NoWords) = some true)
    (k_NoWords_TooDeep : PySem.W.kitOne K (.ref C_NoWords) (.ref C_TooDeep) = some false)
    (k_NoWords_NoText : PySem.W.kitOne K (.ref C_NoWords) (.ref C_NoText) = some false)
    (k_NoWords_NoAmount : PySem.W.kitOne K (.ref C_NoWords) (.ref C_NoAmount) = some false)
    (h_NoWords_CoverError : PySem.W.exmOne K (.ref C_NoWords) (.ref C_CoverError) = some true)
    (r_TooDeep : PySem.W.excIn K C_TooDeep [.type "ValueError", .type "Exception", .type "BaseException", .type "object"] "ValueError.__new__" = true)
    (ga_TooDeep : PySem.W.findIn K (.ref C_TooDeep) "__getattribute__" = some (some (.builtin "BaseException.__getattribute__")))
    (gt_TooDeep : PySem.W.findIn K (.ref C_TooDeep) "__getattr__" = some none)
    (cl_TooDeep : PySem.W.findIn K (.ref C_TooDeep) "__class__" = some (some (.builtin "object.__class__")))
    (ob_TooDeep : PySem.W.mroIn K C_TooDeep (.type "object") = some true)
    (sb_TooDeep : PySem.W.subIn K (.ref C_TooDeep) (.type "BaseException") = some true)
    (ic_TooDeep : PySem.W.isClsIn K C_TooDeep = true)
    (hd_TooDeep : PySem.W.hasDictIn K C_TooDeep = true)
    (v_TooDeep : PySem.W.kitOne K (.ref C_TooDeep) (.type "ValueError") = some true)
    (k_TooDeep_NoWords : PySem.W.kitOne K (.ref C_TooDeep) (.ref C_NoWords) = some false)
    (k_TooDeep_TooDeep : PySem.W.kitOne K (.ref C_TooDeep) (.ref C_TooDeep) = some true)
    (k_TooDeep_NoText : PySem.W.kitOne K (.ref C_TooDeep) (.ref C_NoText) = some false)
    (k_TooDeep_NoAmount : PySem.W.kitOne K (.ref C_TooDeep) (.ref C_NoAmount) = some false)
    (h_TooDeep_CoverError : PySem.W.exmOne K (.ref C_TooDeep) (.ref C_CoverError) = some true) :
    ∃ fd : FuncData, (∀ (s : Shared) (v : Value), BindsTo s fd ⟨[v], []⟩ [("_law_script", v)]) ∧ ∀ base : Heap, K.In base → base.Ns mainGlobals mg → FnOk l.prog w K mg base CX0 45 fa fd ["_law_script"] (spLaw K) := by
  have e := hfa.symm.trans (PySem.W.mg_of X G a22)
  cases e
  have F0 := fun_mk (st := s_is_whole) l0 c0 k0
  have B0 := F0.binds (ps := ["thing"]) fun _ _ _ _ _ _ us hl => match us, hl with | [_], _ => rfl
  have D_is_whole : Def K mg "is_whole" s_is_whole ["thing"] := ⟨f0, _, F0, B0, PySem.W.mg_of X G a0⟩
  have F1 := fun_mk (st := s_has_figures_alone) l1 c1 k1
  have B1 := F1.binds (ps := ["text"]) fun _ _ _ _ _ _ us hl => match us, hl with | [_], _ => rfl
  have D_has_figures_alone : Def K mg "has_figures_alone" s_has_figures_alone ["text"] := ⟨f1, _, F1, B1, PySem.W.mg_of X G a1⟩
  have F2 := fun_mk (st := s_writes_whole) l2 c2 k2
  have B2 := F2.binds (ps := ["text", "most_figures"]) fun _ _ _ _ _ _ us hl => match us, hl with | [_, _], _ => rfl
  have D_writes_whole : Def K mg "writes_whole" s_writes_whole ["text", "most_figures"] := ⟨f2, _, F2, B2, PySem.W.mg_of X G a2⟩
  have F3 := fun_mk (st := s_is_cents_part) l3 c3 k3
  have B3 := F3.binds (ps := ["text"]) fun _ _ _ _ _ _ us hl => match us, hl with | [_], _ => rfl
  have D_is_cents_part : Def K mg "is_cents_part" s_is_cents_part ["text"] := ⟨f3, _, F3, B3, PySem.W.mg_of X G a3⟩
  have F4 := fun_mk (st := s_read_cents) l4 c4 k4
  have B4 := F4.binds (ps := ["text"]) fun _ _ _ _ _ _ us hl => match us, hl with | [_], _ => rfl
  have D_read_cents : Def K mg "read_cents" s_read_cents ["text"] := ⟨f4, _, F4, B4, PySem.W.mg_of X G a4⟩
  have F5 := fun_mk (st := s_has_letters_alone) l5 c5 k5
  have B5 := F5.binds (ps := ["text"]) fun _ _ _ _ _ _ us hl => match us, hl with | [_], _ => rfl
  have D_has_letters_alone : Def K mg "has_letters_alone" s_has_letters_alone ["text"] := ⟨f5, _, F5, B5, PySem.W.mg_of X G a5⟩
  have F6 := fun_mk (st := s_is_name) l6 c6 k6
  have B6 := F6.binds (ps := ["thing"]) fun _ _ _ _ _ _ us hl => match us, hl with | [_], _ => rfl
  have D_is_name : Def K mg "is_name" s_is_name ["thing"] := ⟨f6, _, F6, B6, PySem.W.mg_of X G a6⟩
  have F7 := fun_mk (st := s_is_day) l7 c7 k7
  have B7 := F7.binds (ps := ["thing"]) fun _ _ _ _ _ _ us hl => match us, hl with | [_], _ => rfl
  have D_is_day : Def K mg "is_day" s_is_day ["thing"] := ⟨f7, _, F7, B7, PySem.W.mg_of X G a7⟩
  have F8 := fun_mk (st := s_day_of) l8 c8 k8
  have B8 := F8.binds (ps := ["word"]) fun _ _ _ _ _ _ us hl => match us, hl with | [_], _ => rfl
  have D_day_of : Def K mg "day_of" s_day_of ["word"] := ⟨f8, _, F8, B8, PySem.W.mg_of X G a8⟩
  have F9 := fun_mk (st := s_read_condition) l9 c9 k9
  have B9 := F9.binds (ps := ["text"]) fun _ _ _ _ _ _ us hl => match us, hl with | [_], _ => rfl
  have D_read_condition : Def K mg "read_condition" s_read_condition ["text"] := ⟨f9, _, F9, B9, PySem.W.mg_of X G a9⟩
  have F10 := fun_mk (st := s__law_cell) l10 c10 k10
  have B10 := F10.binds (ps := ["_law_script", "_law_k"]) fun _ _ _ _ _ _ us hl => match us, hl with | [_, _], _ => rfl
  have D__law_cell : Def K mg "_law_cell" s__law_cell ["_law_script", "_law_k"] := ⟨f10, _, F10, B10, PySem.W.mg_of X G a10⟩
  have F11 := fun_mk (st := s__law_mix) l11 c11 k11
  have B11 := F11.binds (ps := ["_law_number", "_law_k"]) fun _ _ _ _ _ _ us hl => match us, hl with | [_, _], _ => rfl
  have D__law_mix : Def K mg "_law_mix" s__law_mix ["_law_number", "_law_k"] := ⟨f11, _, F11, B11, PySem.W.mg_of X G a11⟩
  have F12 := fun_mk (st := s__law_whole) l12 c12 k12
  have B12 := F12.binds (ps := ["_law_found"]) fun _ _ _ _ _ _ us hl => match us, hl with | [_], _ => rfl
  have D__law_whole : Def K mg "_law_whole" s__law_whole ["_law_found"] := ⟨f12, _, F12, B12, PySem.W.mg_of X G a12⟩
  have F13 := fun_mk (st := s__law_refused) l13 c13 k13
  have B13 := F13.binds (ps := ["_law_thing"]) fun _ _ _ _ _ _ us hl => match us, hl with | [_], _ => rfl
  have D__law_refused : Def K mg "_law_refused" s__law_refused ["_law_thing"] := ⟨f13, _, F13, B13, PySem.W.mg_of X G a13⟩
  have F14 := fun_mk (st := s__law_refused_at) l14 c14 k14
  have B14 := F14.binds (ps := ["_law_thing", "_law_due"]) fun _ _ _ _ _ _ us hl => match us, hl with | [_, _], _ => rfl
  have D__law_refused_at : Def K mg "_law_refused_at" s__law_refused_at ["_law_thing", "_law_due"] := ⟨f14, _, F14, B14, PySem.W.mg_of X G a14⟩
  have F15 := fun_mk (st := s__law_truth) l15 c15 k15
  have B15 := F15.binds (ps := ["_law_found", "_law_due"]) fun _ _ _ _ _ _ us hl => match us, hl with | [_, _], _ => rfl
  have D__law_truth : Def K mg "_law_truth" s__law_truth ["_law_found", "_law_due"] := ⟨f15, _, F15, B15, PySem.W.mg_of X G a15⟩
  have F16 := fun_mk (st := s__law_atom) l16 c16 k16
  have B16 := F16.binds (ps := ["_law_number"]) fun _ _ _ _ _ _ us hl => match us, hl with | [_], _ => rfl
  have D__law_atom : Def K mg "_law_atom" s__law_atom ["_law_number"] := ⟨f16, _, F16, B16, PySem.W.mg_of X G a16⟩
  have F17 := fun_mk (st := s__law_opened) l17 c17 k17
  have B17 := F17.binds (ps := ["_law_number", "_law_size"]) fun _ _ _ _ _ _ us hl => match us, hl with | [_, _], _ => rfl
  have D__law_opened : Def K mg "_law_opened" s__law_opened ["_law_number", "_law_size"] := ⟨f17, _, F17, B17, PySem.W.mg_of X G a17⟩
  have F18 := fun_mk (st := s__law_holds) l18 c18 k18
  have B18 := F18.binds (ps := ["_law_text"]) fun _ _ _ _ _ _ us hl => match us, hl with | [_], _ => rfl
  have D__law_holds : Def K mg "_law_holds" s__law_holds ["_law_text"] := ⟨f18, _, F18, B18, PySem.W.mg_of X G a18⟩
  have F19 := fun_mk (st := s__law_nested) l19 c19 k19
  have B19 := F19.binds (ps := ["_law_script", "_law_k"]) fun _ _ _ _ _ _ us hl => match us, hl with | [_, _], _ => rfl
  have D__law_nested : Def K mg "_law_nested" s__law_nested ["_law_script", "_law_k"] := ⟨f19, _, F19, B19, PySem.W.mg_of X G a19⟩
  have F20 := fun_mk (st := s__law_row) l20 c20 k20
  have B20 := F20.binds (ps := ["_law_script", "_law_k"]) fun _ _ _ _ _ _ us hl => match us, hl with | [_, _], _ => rfl
  have D__law_row : Def K mg "_law_row" s__law_row ["_law_script", "_law_k"] := ⟨f20, _, F20, B20, PySem.W.mg_of X G a20⟩
  have F21 := fun_mk (st := s__law_long) l21 c21 k21
  have B21 := F21.binds (ps := ["_law_script", "_law_k"]) fun _ _ _ _ _ _ us hl => match us, hl with | [_, _], _ => rfl
  have D__law_long : Def K mg "_law_long" s__law_long ["_law_script", "_law_k"] := ⟨f21, _, F21, B21, PySem.W.mg_of X G a21⟩
  have F22 := fun_mk (st := s_law) l22 c22 k22
  have B22 := F22.binds (ps := ["_law_script"]) fun _ _ _ _ _ _ us hl => match us, hl with | [_], _ => rfl
  have F_Condition_holds := fun_mk (x := "holds") (qual := "Condition.holds") (st := s_Condition_holds) lCondition_holds cCondition_holds kCondition_holds
  have B_Condition_holds := F_Condition_holds.binds (ps := ["self", "loss"]) fun _ _ _ _ _ _ us hl => match us, hl with | [_, _], _ => rfl
  have F_CauseIs___init__ := fun_mk (x := "__init__") (qual := "CauseIs.__init__") (st := s_CauseIs___init__) lCauseIs___init__ cCauseIs___init__ kCauseIs___init__
  have B_CauseIs___init__ := F_CauseIs___init__.binds (ps := ["self", "name"]) fun _ _ _ _ _ _ us hl => match us, hl with | [_, _], _ => rfl
  have F_CauseIs_holds := fun_mk (x := "holds") (qual := "CauseIs.holds") (st := s_CauseIs_holds) lCauseIs_holds cCauseIs_holds kCauseIs_holds
  have B_CauseIs_holds := F_CauseIs_holds.binds (ps := ["self", "loss"]) fun _ _ _ _ _ _ us hl => match us, hl with | [_, _], _ => rfl
  have F_ThingIs___init__ := fun_mk (x := "__init__") (qual := "ThingIs.__init__") (st := s_ThingIs___init__) lThingIs___init__ cThingIs___init__ kThingIs___init__
  have B_ThingIs___init__ := F_ThingIs___init__.binds (ps := ["self", "name"]) fun _ _ _ _ _ _ us hl => match us, hl with | [_, _], _ => rfl
  have F_ThingIs_holds := fun_mk (x := "holds") (qual := "ThingIs.holds") (st := s_ThingIs_holds) lThingIs_holds cThingIs_holds kThingIs_holds
  have B_ThingIs_holds := F_ThingIs_holds.binds (ps := ["self", "loss"]) fun _ _ _ _ _ _ us hl => match us, hl with | [_, _], _ => rfl
  have F_DaysIn___init__ := fun_mk (x := "__init__") (qual := "DaysIn.__init__") (st := s_DaysIn___init__) lDaysIn___init__ cDaysIn___init__ kDaysIn___init__
  have B_DaysIn___init__ := F_DaysIn___init__.binds (ps := ["self", "first", "last"]) fun _ _ _ _ _ _ us hl => match us, hl with | [_, _, _], _ => rfl
  have F_DaysIn_holds := fun_mk (x := "holds") (qual := "DaysIn.holds") (st := s_DaysIn_holds) lDaysIn_holds cDaysIn_holds kDaysIn_holds
  have B_DaysIn_holds := F_DaysIn_holds.binds (ps := ["self", "loss"]) fun _ _ _ _ _ _ us hl => match us, hl with | [_, _], _ => rfl
  have F_Over___init__ := fun_mk (x := "__init__") (qual := "Over.__init__") (st := s_Over___init__) lOver___init__ cOver___init__ kOver___init__
  have B_Over___init__ := F_Over___init__.binds (ps := ["self", "cents"]) fun _ _ _ _ _ _ us hl => match us, hl with | [_, _], _ => rfl
  have F_Over_holds := fun_mk (x := "holds") (qual := "Over.holds") (st := s_Over_holds) lOver_holds cOver_holds kOver_holds
  have B_Over_holds := F_Over_holds.binds (ps := ["self", "loss"]) fun _ _ _ _ _ _ us hl => match us, hl with | [_, _], _ => rfl
  have F_Not___init__ := fun_mk (x := "__init__") (qual := "Not.__init__") (st := s_Not___init__) lNot___init__ cNot___init__ kNot___init__
  have B_Not___init__ := F_Not___init__.binds (ps := ["self", "part"]) fun _ _ _ _ _ _ us hl => match us, hl with | [_, _], _ => rfl
  have F_Not_holds := fun_mk (x := "holds") (qual := "Not.holds") (st := s_Not_holds) lNot_holds cNot_holds kNot_holds
  have B_Not_holds := F_Not_holds.binds (ps := ["self", "loss"]) fun _ _ _ _ _ _ us hl => match us, hl with | [_, _], _ => rfl
  have F_All___init__ := fun_mk (x := "__init__") (qual := "All.__init__") (st := s_All___init__) lAll___init__ cAll___init__ kAll___init__
  have B_All___init__ := F_All___init__.binds (ps := ["self", "several"]) fun _ _ _ _ _ _ us hl => match us, hl with | [_, _], _ => rfl
  have F_All_holds := fun_mk (x := "holds") (qual := "All.holds") (st := s_All_holds) lAll_holds cAll_holds kAll_holds
  have B_All_holds := F_All_holds.binds (ps := ["self", "loss"]) fun _ _ _ _ _ _ us hl => match us, hl with | [_, _], _ => rfl
  have F_Some___init__ := fun_mk (x := "__init__") (qual := "Some.__init__") (st := s_Some___init__) lSome___init__ cSome___init__ kSome___init__
  have B_Some___init__ := F_Some___init__.binds (ps := ["self", "several"]) fun _ _ _ _ _ _ us hl => match us, hl with | [_, _], _ => rfl
  have F_Some_holds := fun_mk (x := "holds") (qual := "Some.holds") (st := s_Some_holds) lSome_holds cSome_holds kSome_holds
  have B_Some_holds := F_Some_holds.binds (ps := ["self", "loss"]) fun _ _ _ _ _ _ us hl => match us, hl with | [_, _], _ => rfl
  have F_Reader___init__ := fun_mk (x := "__init__") (qual := "Reader.__init__") (st := s_Reader___init__) lReader___init__ cReader___init__ kReader___init__
  have B_Reader___init__ := F_Reader___init__.binds (ps := ["self", "row"]) fun _ _ _ _ _ _ us hl => match us, hl with | [_, _], _ => rfl
  have F_Reader_ahead := fun_mk (x := "ahead") (qual := "Reader.ahead") (st := s_Reader_ahead) lReader_ahead cReader_ahead kReader_ahead
  have B_Reader_ahead := F_Reader_ahead.binds (ps := ["self"]) fun _ _ _ _ _ _ us hl => match us, hl with | [_], _ => rfl
  have F_Reader_step := fun_mk (x := "step") (qual := "Reader.step") (st := s_Reader_step) lReader_step cReader_step kReader_step
  have B_Reader_step := F_Reader_step.binds (ps := ["self"]) fun _ _ _ _ _ _ us hl => match us, hl with | [_], _ => rfl
  have F_Reader_read_rows := fun_mk (x := "read_rows") (qual := "Reader.read_rows") (st := s_Reader_read_rows) lReader_read_rows cReader_read_rows kReader_read_rows
  have B_Reader_read_rows := F_Reader_read_rows.binds (ps := ["self"]) fun _ _ _ _ _ _ us hl => match us, hl with | [_], _ => rfl
  have F_Reader_read_row := fun_mk (x := "read_row") (qual := "Reader.read_row") (st := s_Reader_read_row) lReader_read_row cReader_read_row kReader_read_row
  have B_Reader_read_row := F_Reader_read_row.binds (ps := ["self"]) fun _ _ _ _ _ _ us hl => match us, hl with | [_], _ => rfl
  have F_Reader_goes_on := fun_mk (x := "goes_on") (qual := "Reader.goes_on") (st := s_Reader_goes_on) lReader_goes_on cReader_goes_on kReader_goes_on
  have B_Reader_goes_on := F_Reader_goes_on.binds (ps := ["self", "between", "so_far"]) fun _ _ _ _ _ _ us hl => match us, hl with | [_, _, _], _ => rfl
  have F_Reader_read_piece := fun_mk (x := "read_piece") (qual := "Reader.read_piece") (st := s_Reader_read_piece) lReader_read_piece cReader_read_piece kReader_read_piece
  have B_Reader_read_piece := F_Reader_read_piece.binds (ps := ["self"]) fun _ _ _ _ _ _ us hl => match us, hl with | [_], _ => rfl
  have F_Reader_read_deeper := fun_mk (x := "read_deeper") (qual := "Reader.read_deeper") (st := s_Reader_read_deeper) lReader_read_deeper cReader_read_deeper kReader_read_deeper
  have B_Reader_read_deeper := F_Reader_read_deeper.binds (ps := ["self", "word"]) fun _ _ _ _ _ _ us hl => match us, hl with | [_, _], _ => rfl
  have F_Reader_read_bracket := fun_mk (x := "read_bracket") (qual := "Reader.read_bracket") (st := s_Reader_read_bracket) lReader_read_bracket cReader_read_bracket kReader_read_bracket
  have B_Reader_read_bracket := F_Reader_read_bracket.binds (ps := ["self"]) fun _ _ _ _ _ _ us hl => match us, hl with | [_], _ => rfl
  have F_Reader_read_name := fun_mk (x := "read_name") (qual := "Reader.read_name") (st := s_Reader_read_name) lReader_read_name cReader_read_name kReader_read_name
  have B_Reader_read_name := F_Reader_read_name.binds (ps := ["self"]) fun _ _ _ _ _ _ us hl => match us, hl with | [_], _ => rfl
  have F_Reader_read_days := fun_mk (x := "read_days") (qual := "Reader.read_days") (st := s_Reader_read_days) lReader_read_days cReader_read_days kReader_read_days
  have B_Reader_read_days := F_Reader_read_days.binds (ps := ["self"]) fun _ _ _ _ _ _ us hl => match us, hl with | [_], _ => rfl
  have F_Reader_read_day := fun_mk (x := "read_day") (qual := "Reader.read_day") (st := s_Reader_read_day) lReader_read_day cReader_read_day kReader_read_day
  have B_Reader_read_day := F_Reader_read_day.binds (ps := ["self", "least"]) fun _ _ _ _ _ _ us hl => match us, hl with | [_, _], _ => rfl
  have F_Reader_read_amount := fun_mk (x := "read_amount") (qual := "Reader.read_amount") (st := s_Reader_read_amount) lReader_read_amount cReader_read_amount kReader_read_amount
  have B_Reader_read_amount := F_Reader_read_amount.binds (ps := ["self"]) fun _ _ _ _ _ _ us hl => match us, hl with | [_], _ => rfl
  have H_Condition_holds : Meth K C_Condition "holds" fCondition_holds := ⟨a_Condition_holds, iCondition_holds, kCondition_holds⟩
  have H_CauseIs_make : Mk K C_CauseIs fCauseIs___init__ := ⟨mk_CauseIs, a_CauseIs___init__, iCauseIs___init__, kc_CauseIs⟩
  have H_CauseIs_holds : Meth K C_CauseIs "holds" fCauseIs_holds := ⟨a_CauseIs_holds, iCauseIs_holds, kCauseIs_holds⟩
  have H_ThingIs_make : Mk K C_ThingIs fThingIs___init__ := ⟨mk_ThingIs, a_ThingIs___init__, iThingIs___init__, kc_ThingIs⟩
  have H_ThingIs_holds : Meth K C_ThingIs "holds" fThingIs_holds := ⟨a_ThingIs_holds, iThingIs_holds, kThingIs_holds⟩
  have H_DaysIn_make : Mk K C_DaysIn fDaysIn___init__ := ⟨mk_DaysIn, a_DaysIn___init__, iDaysIn___init__, kc_DaysIn⟩
  have H_DaysIn_holds : Meth K C_DaysIn "holds" fDaysIn_holds := ⟨a_DaysIn_holds, iDaysIn_holds, kDaysIn_holds⟩
  have H_Over_make : Mk K C_Over fOver___init__ := ⟨mk_Over, a_Over___init__, iOver___init__, kc_Over⟩
  have H_Over_holds : Meth K C_Over "holds" fOver_holds := ⟨a_Over_holds, iOver_holds, kOver_holds⟩
  have H_Not_make : Mk K C_Not fNot___init__ := ⟨mk_Not, a_Not___init__, iNot___init__, kc_Not⟩
  have H_Not_holds : Meth K C_Not "holds" fNot_holds := ⟨a_Not_holds, iNot_holds, kNot_holds⟩
  have H_All_make : Mk K C_All fAll___init__ := ⟨mk_All, a_All___init__, iAll___init__, kc_All⟩
  have H_All_holds : Meth K C_All "holds" fAll_holds := ⟨a_All_holds, iAll_holds, kAll_holds⟩
  have H_Some_make : Mk K C_Some fSome___init__ := ⟨mk_Some, a_Some___init__, iSome___init__, kc_Some⟩
  have H_Some_holds : Meth K C_Some "holds" fSome_holds := ⟨a_Some_holds, iSome_holds, kSome_holds⟩
  have H_Reader_make : Mk K C_Reader fReader___init__ := ⟨mk_Reader, a_Reader___init__, iReader___init__, kc_Reader⟩
  have H_Reader_ahead : Meth K C_Reader "ahead" fReader_ahead := ⟨a_Reader_ahead, iReader_ahead, kReader_ahead⟩
  have H_Reader_step : Meth K C_Reader "step" fReader_step := ⟨a_Reader_step, iReader_step, kReader_step⟩
  have H_Reader_read_rows : Meth K C_Reader "read_rows" fReader_read_rows := ⟨a_Reader_read_rows, iReader_read_rows, kReader_read_rows⟩
  have H_Reader_read_row : Meth K C_Reader "read_row" fReader_read_row := ⟨a_Reader_read_row, iReader_read_row, kReader_read_row⟩
  have H_Reader_goes_on : Meth K C_Reader "goes_on" fReader_goes_on := ⟨a_Reader_goes_on, iReader_goes_on, kReader_goes_on⟩
  have H_Reader_read_piece : Meth K C_Reader "read_piece" fReader_read_piece := ⟨a_Reader_read_piece, iReader_read_piece, kReader_read_piece⟩
  have H_Reader_read_deeper : Meth K C_Reader "read_deeper" fReader_read_deeper := ⟨a_Reader_read_deeper, iReader_read_deeper, kReader_read_deeper⟩
  have H_Reader_read_bracket : Meth K C_Reader "read_bracket" fReader_read_bracket := ⟨a_Reader_read_bracket, iReader_read_bracket, kReader_read_bracket⟩
  have H_Reader_read_name : Meth K C_Reader "read_name" fReader_read_name := ⟨a_Reader_read_name, iReader_read_name, kReader_read_name⟩
  have H_Reader_read_days : Meth K C_Reader "read_days" fReader_read_days := ⟨a_Reader_read_days, iReader_read_days, kReader_read_days⟩
  have H_Reader_read_day : Meth K C_Reader "read_day" fReader_read_day := ⟨a_Reader_read_day, iReader_read_day, kReader_read_day⟩
  have H_Reader_read_amount : Meth K C_Reader "read_amount" fReader_read_amount := ⟨a_Reader_read_amount, iReader_read_amount, kReader_read_amount⟩
  have NCondition : Mk0 K mg "Condition" C_Condition := ⟨mk_Condition, ni_Condition, kc_Condition, PySem.W.mg_of X G q_Condition⟩
  have L : Kl K mg C_Condition C_CauseIs C_ThingIs C_DaysIn C_Over C_Not C_All C_Some C_Reader := ⟨PySem.W.mg_of X G q_Condition, ⟨pg_Condition, hd_Condition, po_Condition, sa_Condition⟩, PySem.W.mg_of X G q_CauseIs, ⟨pg_CauseIs, hd_CauseIs, po_CauseIs, sa_CauseIs⟩, na_CauseIs_name, PySem.W.mg_of X G q_ThingIs, ⟨pg_ThingIs, hd_ThingIs, po_ThingIs, sa_ThingIs⟩, na_ThingIs_name, PySem.W.mg_of X G q_DaysIn, ⟨pg_DaysIn, hd_DaysIn, po_DaysIn, sa_DaysIn⟩, na_DaysIn_first, na_DaysIn_last, PySem.W.mg_of X G q_Over, ⟨pg_Over, hd_Over, po_Over, sa_Over⟩, na_Over_cents, PySem.W.mg_of X G q_Not, ⟨pg_Not, hd_Not, po_Not, sa_Not⟩, na_Not_part, PySem.W.mg_of X G q_All, ⟨pg_All, hd_All, po_All, sa_All⟩, na_All_several, PySem.W.mg_of X G q_Some, ⟨pg_Some, hd_Some, po_Some, sa_Some⟩, na_Some_several, PySem.W.mg_of X G q_Reader, ⟨pg_Reader, hd_Reader, po_Reader, sa_Reader⟩, na_Reader_row, na_Reader_place, na_Reader_depth, nd_C⟩
  have T : Txt K mg := ⟨⟨tk_CAUSE, PySem.W.mg_of X G z_CAUSE⟩, ⟨tk_CENTS, PySem.W.mg_of X G z_CENTS⟩, ⟨tk_DAY, PySem.W.mg_of X G z_DAY⟩, ⟨tk_FIGURES, PySem.W.mg_of X G z_FIGURES⟩, ⟨tk_LAST_DAY, PySem.W.mg_of X G z_LAST_DAY⟩, ⟨tk_LETTERS, PySem.W.mg_of X G z_LETTERS⟩, ⟨tk_LONGEST_NAME, PySem.W.mg_of X G z_LONGEST_NAME⟩, ⟨tk_MOST_DAY_FIGURES, PySem.W.mg_of X G z_MOST_DAY_FIGURES⟩, ⟨tk_MOST_IN_ROW, PySem.W.mg_of X G z_MOST_IN_ROW⟩, ⟨tk_MOST_OPEN, PySem.W.mg_of X G z_MOST_OPEN⟩, ⟨tk_MOST_WHOLE_FIGURES, PySem.W.mg_of X G z_MOST_WHOLE_FIGURES⟩, ⟨tk_MOST_WORDS, PySem.W.mg_of X G z_MOST_WORDS⟩, ⟨tk_THING, PySem.W.mg_of X G z_THING⟩, PySem.W.mg_none_of X G z_ValueError, PySem.W.mg_none_of X G z_bool, PySem.W.mg_none_of X G z_int, PySem.W.mg_none_of X G z_isinstance, PySem.W.mg_none_of X G z_len, PySem.W.mg_none_of X G z_list, PySem.W.mg_none_of X G z_range, PySem.W.mg_none_of X G z_str⟩
  have F_NoWords := fun_mk (x := "__init__") (qual := "NoWords.__init__") (st := s_NoWords___init__) lINoWords cINoWords kINoWords
  have B_NoWords := F_NoWords.binds (ps := ["self", "at"]) fun _ _ _ _ _ _ us hl => match us, hl with | [_, _], _ => rfl
  have M_NoWords : EMk K C_NoWords fINoWords := ⟨⟨_, _, _, _, w_NoWords, PySem.F.excBase_ValueError⟩, iINoWords, kp_NoWords⟩
  have Z : Xc K mg C_CoverError C_NoAmount C_NoWords C_TooDeep C_NoText := ⟨PySem.W.mg_of X G q_CoverError, PySem.W.mg_of X G q_NoAmount, PySem.W.mg_of X G q_NoWords, PySem.W.mg_of X G q_TooDeep, PySem.W.mg_of X G q_NoText, XSet.of sa_NoWords ov_NoWords fi_NoWords hd_NoWords, ⟨ga_NoWords, gt_NoWords, cl_NoWords, ob_NoWords, sb_NoWords, ic_NoWords, hd_NoWords, gs, tk⟩, v_NoWords, k_NoWords_NoWords, k_NoWords_TooDeep, k_NoWords_NoText, k_NoWords_NoAmount, h_NoWords_CoverError, ⟨PySem.W.mg_of X G q_TooDeep, _, _, _, _, r_TooDeep, PySem.F.excBase_ValueError⟩, ⟨ga_TooDeep, gt_TooDeep, cl_TooDeep, ob_TooDeep, sb_TooDeep, ic_TooDeep, hd_TooDeep, gs, tk⟩, v_TooDeep, k_TooDeep_NoWords, k_TooDeep_TooDeep, k_TooDeep_NoText, k_TooDeep_NoAmount, h_TooDeep_CoverError⟩
  refine ⟨PySem.W.fnOf "law" "law" (defArgs s_law) (defBody s_law) (defScope s_law) .none kV22 dc22 pm22 an22 cd22 ct22, fun s v => .of_eq rfl, fun base _ _ => ?_⟩
  have Mholds : ∀ m, MFam l.prog w K mg base m (A8.Fam (A8.mk C_Condition C_CauseIs C_ThingIs C_DaysIn C_Over C_Not C_All C_Some)) "holds" ["self", "loss"] (spHolds (A8.mk C_Condition C_CauseIs C_ThingIs C_DaysIn C_Over C_Not C_All C_Some) m) := by
    intro m
    induction m with
    | zero =>
      refine ⟨fun C hC => ?_⟩
      rcases hC with rfl | rfl | rfl | rfl | rfl | rfl | rfl | rfl
      · exact ⟨⟨_, _, vac fun _ _ _ _ => spHolds0, B_Condition_holds, H_Condition_holds⟩, L.cl_Condition⟩
      · exact ⟨⟨_, _, vac fun _ _ _ _ => spHolds0, B_CauseIs_holds, H_CauseIs_holds⟩, L.cl_CauseIs⟩
      · exact ⟨⟨_, _, vac fun _ _ _ _ => spHolds0, B_ThingIs_holds, H_ThingIs_holds⟩, L.cl_ThingIs⟩
      · exact ⟨⟨_, _, vac fun _ _ _ _ => spHolds0, B_DaysIn_holds, H_DaysIn_holds⟩, L.cl_DaysIn⟩
      · exact ⟨⟨_, _, vac fun _ _ _ _ => spHolds0, B_Over_holds, H_Over_holds⟩, L.cl_Over⟩
      · exact ⟨⟨_, _, vac fun _ _ _ _ => spHolds0, B_Not_holds, H_Not_holds⟩, L.cl_Not⟩
      · exact ⟨⟨_, _, vac fun _ _ _ _ => spHolds0, B_All_holds, H_All_holds⟩, L.cl_All⟩
      · exact ⟨⟨_, _, vac fun _ _ _ _ => spHolds0, B_Some_holds, H_Some_holds⟩, L.cl_Some⟩
    | succ m ih =>
      refine ⟨fun C hC => ?_⟩
      have m1 : 1 ≤ m + 1 := Nat.succ_le_succ (Nat.zero_le _)
      rcases hC with rfl | rfl | rfl | rfl | rfl | rfl | rfl | rfl
      · exact ⟨⟨_, _, (ok_Condition_holds F_Condition_holds L).mono m1, B_Condition_holds, H_Condition_holds⟩, L.cl_Condition⟩
      · exact ⟨⟨_, _, (ok_CauseIs_holds F_CauseIs_holds T L).mono m1, B_CauseIs_holds, H_CauseIs_holds⟩, L.cl_CauseIs⟩
      · exact ⟨⟨_, _, (ok_ThingIs_holds F_ThingIs_holds T L).mono m1, B_ThingIs_holds, H_ThingIs_holds⟩, L.cl_ThingIs⟩
      · exact ⟨⟨_, _, (ok_DaysIn_holds F_DaysIn_holds T L).mono m1, B_DaysIn_holds, H_DaysIn_holds⟩, L.cl_DaysIn⟩
      · exact ⟨⟨_, _, (ok_Over_holds F_Over_holds T L).mono m1, B_Over_holds, H_Over_holds⟩, L.cl_Over⟩
      · exact ⟨⟨_, _, ok_Not_holds F_Not_holds L ih, B_Not_holds, H_Not_holds⟩, L.cl_Not⟩
      · exact ⟨⟨_, _, ok_All_holds F_All_holds L ih, B_All_holds, H_All_holds⟩, L.cl_All⟩
      · exact ⟨⟨_, _, ok_Some_holds F_Some_holds L ih, B_Some_holds, H_Some_holds⟩, L.cl_Some⟩
  have KCauseIs : KCal l.prog w K mg base 1 "CauseIs" C_CauseIs ["self", "name"] (spMk1 C_CauseIs "name") := ⟨_, _, H_CauseIs_make, ok_CauseIs___init__ F_CauseIs___init__ L, B_CauseIs___init__, L.mg_CauseIs⟩
  have KThingIs : KCal l.prog w K mg base 1 "ThingIs" C_ThingIs ["self", "name"] (spMk1 C_ThingIs "name") := ⟨_, _, H_ThingIs_make, ok_ThingIs___init__ F_ThingIs___init__ L, B_ThingIs___init__, L.mg_ThingIs⟩
  have KDaysIn : KCal l.prog w K mg base 1 "DaysIn" C_DaysIn ["self", "first", "last"] (spMkD C_DaysIn) := ⟨_, _, H_DaysIn_make, ok_DaysIn___init__ F_DaysIn___init__ L, B_DaysIn___init__, L.mg_DaysIn⟩
  have KOver : KCal l.prog w K mg base 1 "Over" C_Over ["self", "cents"] (spMk1 C_Over "cents") := ⟨_, _, H_Over_make, ok_Over___init__ F_Over___init__ L, B_Over___init__, L.mg_Over⟩
  have KNot : KCal l.prog w K mg base 1 "Not" C_Not ["self", "part"] (spMk1 C_Not "part") := ⟨_, _, H_Not_make, ok_Not___init__ F_Not___init__ L, B_Not___init__, L.mg_Not⟩
  have KAll : KCal l.prog w K mg base 1 "All" C_All ["self", "several"] (spMkA C_All) := ⟨_, _, H_All_make, ok_All___init__ F_All___init__ T L, B_All___init__, L.mg_All⟩
  have KSome : KCal l.prog w K mg base 1 "Some" C_Some ["self", "several"] (spMkA C_Some) := ⟨_, _, H_Some_make, ok_Some___init__ F_Some___init__ T L, B_Some___init__, L.mg_Some⟩
  have C_law_cell : Cal l.prog w K mg base 1 "_law_cell" ["_law_script", "_law_k"] (spCellN K) := D__law_cell.cal fun f fd F => ok__law_cell F T
  have C_law_mix : Cal l.prog w K mg base 1 "_law_mix" ["_law_number", "_law_k"] spMix := D__law_mix.cal fun f fd F => ok__law_mix F T
  have C_law_truth : Cal l.prog w K mg base 1 "_law_truth" ["_law_found", "_law_due"] spTruth := D__law_truth.cal fun f fd F => ok__law_truth F T
  have Cis_whole : Cal l.prog w K mg base 1 "is_whole" ["thing"] (spWhole K) := D_is_whole.cal fun f fd F => ok_is_whole F T
  have Chas_letters_alone : Cal l.prog w K mg base 1 "has_letters_alone" ["text"] spLet := D_has_letters_alone.cal fun f fd F => ok_has_letters_alone F T
  have Cis_name : Cal l.prog w K mg base 2 "is_name" ["thing"] (spName K) := D_is_name.cal fun f fd F => ok_is_name F T Chas_letters_alone
  have Chas_figures_alone : Cal l.prog w K mg base 1 "has_figures_alone" ["text"] spFigs := D_has_figures_alone.cal fun f fd F => ok_has_figures_alone F T
  have Cwrites_whole : Cal l.prog w K mg base 2 "writes_whole" ["text", "most_figures"] spWholePart := D_writes_whole.cal fun f fd F => ok_writes_whole F T Chas_figures_alone
  have Cis_cents_part : Cal l.prog w K mg base 2 "is_cents_part" ["text"] spCentsPart := D_is_cents_part.cal fun f fd F => ok_is_cents_part F T Chas_figures_alone
  have Cread_cents : Cal l.prog w K mg base 3 "read_cents" ["text"] spRead := D_read_cents.cal fun f fd F => ok_read_cents F T Cwrites_whole Cis_cents_part
  have Cis_day : Cal l.prog w K mg base 2 "is_day" ["thing"] spIsDay := D_is_day.cal fun f fd F => ok_is_day F T Cis_whole
  have Cday_of : Cal l.prog w K mg base 3 "day_of" ["word"] spDayOf := D_day_of.cal fun f fd F => ok_day_of F T Cwrites_whole Cis_day
  have Mahead : MCal l.prog w K mg base 1 C_Reader "ahead" ["self"] (spAhead C_Reader) := ⟨⟨_, _, ok_Reader_ahead F_Reader_ahead T L, B_Reader_ahead, H_Reader_ahead⟩, L.cl_Reader⟩
  have Mstep : MCal l.prog w K mg base 1 C_Reader "step" ["self"] (spStep1 C_Reader) := ⟨⟨_, _, ok_Reader_step F_Reader_step T L, B_Reader_step, H_Reader_step⟩, L.cl_Reader⟩
  have KNoWords : ECal l.prog w K mg base 1 "NoWords" C_NoWords ["self", "at"] (spInitN C_NoWords "at") := ⟨_, _, M_NoWords, ok_NoWords___init__ F_NoWords T Z, B_NoWords, Z.a_NoWords⟩
  have Mgoes_on : MCalX l.prog w K mg base 3 C_Reader "goes_on" ["self", "between", "so_far"] (spGoX C_NoWords C_Reader) := ⟨⟨_, _, ok_Reader_goes_on F_Reader_goes_on T L Mahead Mstep KNoWords, B_Reader_goes_on, H_Reader_goes_on⟩, L.cl_Reader⟩
  have Mread_name : MCal l.prog w K mg base 3 C_Reader "read_name" ["self"] (spRdName C_Reader) := ⟨⟨_, _, ok_Reader_read_name F_Reader_read_name T L Mahead Mstep Cis_name, B_Reader_read_name, H_Reader_read_name⟩, L.cl_Reader⟩
  have Mread_day : MCal l.prog w K mg base 4 C_Reader "read_day" ["self", "least"] (spRdDay C_Reader) := ⟨⟨_, _, ok_Reader_read_day F_Reader_read_day T L Mahead Mstep Cday_of, B_Reader_read_day, H_Reader_read_day⟩, L.cl_Reader⟩
  have Mread_days : MCal l.prog w K mg base 5 C_Reader "read_days" ["self"] (spRdDays (A8.mk C_Condition C_CauseIs C_ThingIs C_DaysIn C_Over C_Not C_All C_Some) C_Reader) := ⟨⟨_, _, ok_Reader_read_days F_Reader_read_days T L Mread_day KDaysIn, B_Reader_read_days, H_Reader_read_days⟩, L.cl_Reader⟩
  have Mread_amount : MCal l.prog w K mg base 4 C_Reader "read_amount" ["self"] (spRdAmt C_Reader) := ⟨⟨_, _, ok_Reader_read_amount F_Reader_read_amount T L Mahead Mstep Z Cread_cents, B_Reader_read_amount, H_Reader_read_amount⟩, L.cl_Reader⟩
  have lev : ∀ m, MCalX l.prog w K mg base (5 * m + 5) C_Reader "read_deeper" ["self", "word"] (spRDX (A8.mk C_Condition C_CauseIs C_ThingIs C_DaysIn C_Over C_Not C_All C_Some) C_NoWords C_TooDeep C_Reader m) ∧ (MCalX l.prog w K mg base (5 * m + 5) C_Reader "read_deeper" ["self", "word"] (spRDX (A8.mk C_Condition C_CauseIs C_ThingIs C_DaysIn C_Over C_Not C_All C_Some) C_NoWords C_TooDeep C_Reader m) → MCalX l.prog w K mg base (5 * m + 8) C_Reader "read_rows" ["self"] (spRRsX (A8.mk C_Condition C_CauseIs C_ThingIs C_DaysIn C_Over C_Not C_All C_Some) C_NoWords C_TooDeep C_Reader m)) := by
    have piece : ∀ m, MCalX l.prog w K mg base (5 * m + 5) C_Reader "read_deeper" ["self", "word"] (spRDX (A8.mk C_Condition C_CauseIs C_ThingIs C_DaysIn C_Over C_Not C_All C_Some) C_NoWords C_TooDeep C_Reader m) → MCalX l.prog w K mg base (5 * m + 6) C_Reader "read_piece" ["self"] (spRPX (A8.mk C_Condition C_CauseIs C_ThingIs C_DaysIn C_Over C_Not C_All C_Some) C_NoWords C_TooDeep C_Reader m) := fun m D => ⟨⟨_, _, ok_Reader_read_piece F_Reader_read_piece T L Mahead Mstep D KNoWords Mread_name Mread_days Mread_amount NCondition KCauseIs KThingIs KOver, B_Reader_read_piece, H_Reader_read_piece⟩, L.cl_Reader⟩
    have rows : ∀ m, MCalX l.prog w K mg base (5 * m + 5) C_Reader "read_deeper" ["self", "word"] (spRDX (A8.mk C_Condition C_CauseIs C_ThingIs C_DaysIn C_Over C_Not C_All C_Some) C_NoWords C_TooDeep C_Reader m) → MCalX l.prog w K mg base (5 * m + 8) C_Reader "read_rows" ["self"] (spRRsX (A8.mk C_Condition C_CauseIs C_ThingIs C_DaysIn C_Over C_Not C_All C_Some) C_NoWords C_TooDeep C_Reader m) := fun m D => ⟨⟨_, _, ok_Reader_read_rows F_Reader_read_rows T L Mgoes_on ⟨⟨_, _, ok_Reader_read_row F_Reader_read_row T L Mgoes_on (piece m D) KAll, B_Reader_read_row, H_Reader_read_row⟩, L.cl_Reader⟩ KSome, B_Reader_read_rows, H_Reader_read_rows⟩, L.cl_Reader⟩
    intro m
    refine ⟨?_, rows m⟩
    induction m with
    | zero => exact ⟨⟨_, _, ok_deeper0 F_Reader_read_deeper T L Z Mstep ⟨⟨_, _, vac fun _ _ _ _ z => z, B_Reader_read_piece, H_Reader_read_piece⟩, L.cl_Reader⟩ ⟨⟨_, _, vac fun _ _ _ _ z => z, B_Reader_read_bracket, H_Reader_read_bracket⟩, L.cl_Reader⟩ KNot, B_Reader_read_deeper, H_Reader_read_deeper⟩, L.cl_Reader⟩
    | succ m ih =>
      have B : MCalX l.prog w K mg base (5 * m + 9) C_Reader "read_bracket" ["self"] (spRBX (A8.mk C_Condition C_CauseIs C_ThingIs C_DaysIn C_Over C_Not C_All C_Some) C_NoWords C_TooDeep C_Reader m) := ⟨⟨_, _, ok_Reader_read_bracket F_Reader_read_bracket T L Mahead Mstep (rows m ih) KNoWords, B_Reader_read_bracket, H_Reader_read_bracket⟩, L.cl_Reader⟩
      exact ⟨⟨_, _, ok_Reader_read_deeper F_Reader_read_deeper T L Z Mstep (piece m ih) B KNot, B_Reader_read_deeper, H_Reader_read_deeper⟩, L.cl_Reader⟩
  have Mread_rows : MCalX l.prog w K mg base (5 * 6 + 8) C_Reader "read_rows" ["self"] (spRRsX (A8.mk C_Condition C_CauseIs C_ThingIs C_DaysIn C_Over C_Not C_All C_Some) C_NoWords C_TooDeep C_Reader 6) := (lev 6).2 (lev 6).1
  have KReader : KCal l.prog w K mg base 1 "Reader" C_Reader ["self", "row"] (spRInit C_Reader) := ⟨_, _, H_Reader_make, ok_Reader___init__ F_Reader___init__ L, B_Reader___init__, L.mg_Reader⟩
  have Xread_condition : CalX l.prog w K mg base 40 "read_condition" ["text"] (spRCX (A8.mk C_Condition C_CauseIs C_ThingIs C_DaysIn C_Over C_Not C_All C_Some) C_NoWords C_TooDeep) := D_read_condition.calX fun f fd F => ok_read_condition F T L KReader Mread_rows KNoWords
  have Cread_condition : Cal l.prog w K mg base 40 "read_condition" ["text"] (fun vs H Q _ => spRCX (A8.mk C_Condition C_CauseIs C_ThingIs C_DaysIn C_Over C_Not C_All C_Some) C_NoWords C_TooDeep vs H Q E0) := D_read_condition.cal fun f fd F => FnOk.ofX (ok_read_condition F T L KReader Mread_rows KNoWords)
  have C_law_whole : Cal l.prog w K mg base 1 "_law_whole" ["_law_found"] (spWhole K) := D__law_whole.cal fun f fd F => ok__law_whole F T
  have C_law_refused : Cal l.prog w K mg base 42 "_law_refused" ["_law_thing"] spRef := D__law_refused.cal fun f fd F => ok__law_refused F T Z Xread_condition
  have C_law_refused_at : Cal l.prog w K mg base 43 "_law_refused_at" ["_law_thing", "_law_due"] spRefAt := D__law_refused_at.cal fun f fd F => ok__law_refused_at F T C_law_whole C_law_refused
  have C_law_atom : Cal l.prog w K mg base 1 "_law_atom" ["_law_number"] spAtom := D__law_atom.cal fun f fd F => ok__law_atom F T
  have C_law_opened : Cal l.prog w K mg base 1 "_law_opened" ["_law_number", "_law_size"] spOpened := D__law_opened.cal fun f fd F => ok__law_opened F T
  have C_law_holds : Cal l.prog w K mg base 42 "_law_holds" ["_law_text"] spHold := D__law_holds.cal fun f fd F => ok__law_holds F Cread_condition (Mholds 20)
  have C_law_nested : Cal l.prog w K mg base 44 "_law_nested" ["_law_script", "_law_k"] (spPart K) := D__law_nested.cal fun f fd F => ok__law_nested F T C_law_cell C_law_mix C_law_opened C_law_atom C_law_refused C_law_refused_at C_law_holds C_law_truth
  have C_law_row : Cal l.prog w K mg base 44 "_law_row" ["_law_script", "_law_k"] (spPart K) := D__law_row.cal fun f fd F => ok__law_row F T C_law_cell C_law_mix C_law_opened C_law_atom C_law_refused_at C_law_holds C_law_truth
  have C_law_long : Cal l.prog w K mg base 44 "_law_long" ["_law_script", "_law_k"] (spPart K) := D__law_long.cal fun f fd F => ok__law_long F T C_law_cell C_law_mix C_law_refused_at C_law_holds C_law_truth
  exact ok_law F22 T C_law_nested C_law_row C_law_long
theorem walk {l : PySem.W.OpenLaw} {q : Program} {loose : List Str} {XP : (Str → Option Value) → Heap → Prop} {YP : World → Heap → Prop} {d : DefRec} {K : Params → PySem.W.Frag} (hn : l.most = some 63) (hdf : d.params.defaults = [])
    (hY : ∀ (w : World) (h : Heap), YP w h → (K w.params).In h)
    (F : ∀ (w : World) (mg : Str → Option Value) (fa : Addr) (h : Heap), (K w.params).In h → h.Ns mainGlobals mg → mg d.name = some (.ref fa) →
      ∃ fd : FuncData, (∀ (s : Shared) (u : Value), BindsTo s fd ⟨[u], []⟩ [("_law_script", u)]) ∧ ∀ base : Heap, (K w.params).In base → base.Ns mainGlobals mg → FnOk l.prog w (K w.params) mg base CX0 45 fa fd ["_law_script"] (spLaw (K w.params))) :
    PySem.W.WalkO q loose XP YP l.row.toRowW d [] (fun f vs => PySem.call f vs) :=
  L2.walk_of (n := 63) (k := 45) (x := "_law_script") (CX := fun _ => CX0) (sp := fun w => spLaw (K w.params)) hn (by decide) hdf ⟨rfl, by decide, by decide⟩ hY F (fun _ _ a ns hl _ hS => ⟨a, ns, rfl, hS, hl, fun _ => rfl⟩) fun _ _ _ _ _ z => z
end CRL
open PySem PySem.W PyProof.Rows
def PySem.W.Fast.tw6845507150408366956 : Unit := ()
def PySem.W.Fast.tw7548471340050765667 : Unit := ()
def PySem.W.Fast.tw6733079043483034395 : Unit := ()
def PySem.W.Fast.tw17206633260637579910 : Unit := ()
def PySem.W.Fast.tw8974786864347344070 : Unit := ()
def PySem.W.Fast.tw9832145180050188526 : Unit := ()
def PySem.W.Fast.tw17617372004551516176 : Unit := ()
def PySem.W.Fast.tw6907316368757167314 : Unit := ()
def PySem.W.Fast.tw5675901359600409151 : Unit := ()
def PySem.W.Fast.tw13630427605237298674 : Unit := ()
def PySem.W.Fast.tw12380591521880331488 : Unit := ()
def PySem.W.Fast.tw6491834323402760150 : Unit := ()
def PySem.W.Fast.tw11420065408214861835 : Unit := ()
def PySem.W.Fast.tw17531238856324596063 : Unit := ()
def PySem.W.Fast.tw18232215368866079947 : Unit := ()
def PySem.W.Fast.tw6960402814125968394 : Unit := ()
def PySem.W.Fast.tw11070906861568464157 : Unit := ()
def PySem.W.Fast.tw17789113712342160006 : Unit := ()
def PySem.W.Fast.tw1749979124507107084 : Unit := ()
def PySem.W.Fast.tw6893472711199092356 : Unit := ()
def PySem.W.Fast.tw1430956269790578870 : Unit := ()
def PySem.W.Fast.tw7478275987168740305 : Unit := ()
def PySem.W.Fast.tw4130851627634075842 : Unit := ()
def PySem.W.Fast.tw7448808713853598813 : Unit := ()
def PySem.W.Fast.tw5552968361554229715 : Unit := ()
def PySem.W.Fast.tw10488311280392469742 : Unit := ()
def PySem.W.Fast.tw5736385388954925746 : Unit := ()
def PySem.W.Fast.tw17765360516053653394 : Unit := ()
def PySem.W.Fast.tw10522424825720692604 : Unit := ()
def PySem.W.Fast.tw6588536604831482195 : Unit := ()
def PySem.W.Fast.tw3377788115761198454 : Unit := ()
def PySem.W.Fast.tw9937090942840615167 : Unit := ()
def PySem.W.Fast.tw4829335233301298989 : Unit := ()
def PySem.W.Fast.tw8807992413822762889 : Unit := ()
def PySem.W.Fast.tw4344366964534422995 : Unit := ()
def PySem.W.Fast.tw17771445879936804033 : Unit := ()
def PySem.W.Fast.tw4388524213479179899 : Unit := ()
def PySem.W.Fast.tw11879425323906080973 : Unit := ()
def PySem.W.Fast.tw11992086994950989676 : Unit := ()
def PySem.W.Fast.tw13087792232177794437 : Unit := ()
def PySem.W.Fast.tw11631493420201649554 : Unit := ()
def PySem.W.Fast.tw7673585771981060684 : Unit := ()
def PySem.W.Fast.tw12340481123396497558 : Unit := ()
def PySem.W.Fast.tw13008207877204409017 : Unit := ()
def PySem.W.Fast.tw13586179055534410319 : Unit := ()
def PySem.W.Fast.tw17523195911229030337 : Unit := ()
def PySem.W.Fast.tw2788797625757353233 : Unit := ()
set_option maxRecDepth 100000 in
set_option maxHeartbeats 0 in
theorem PySem.Challenge.cw_coverroll_k28_bounds_of_words_holds : PySem.Challenge.rw_coverroll_k28_bounds_of_words.Holds := by
  w_on; o_law; k_head; (case hw => w_witness2)
  k_fill
  refine CRL.walk (l := PySem.Challenge.rw_coverroll_k28_bounds_of_words) rfl rfl (fun w h Y => PySem.W.kIn_of Y) ?F
  case F =>
    intro w mg fa h KX G hmg
    refine' CRL.all_mk KX G hmg ?a0 ?l0 ?c0 ?k0 ?a1 ?l1 ?c1 ?k1 ?a2 ?l2 ?c2 ?k2 ?a3 ?l3 ?c3 ?k3 ?a4 ?l4 ?c4 ?k4 ?a5 ?l5 ?c5 ?k5 ?a6 ?l6 ?c6 ?k6 ?a7 ?l7 ?c7 ?k7 ?a8 ?l8 ?c8 ?k8 ?a9 ?l9 ?c9 ?k9 ?a10 ?l10 ?c10 ?k10 ?a11 ?l11 ?c11 ?k11 ?a12 ?l12 ?c12 ?k12 ?a13 ?l13 ?c13 ?k13 ?a14 ?l14 ?c14 ?k14 ?a15 ?l15 ?c15 ?k15 ?a16 ?l16 ?c16 ?k16 ?a17 ?l17 ?c17 ?k17 ?a18 ?l18 ?c18 ?k18 ?a19 ?l19 ?c19 ?k19 ?a20 ?l20 ?c20 ?k20 ?a21 ?l21 ?c21 ?k21 ?a22 ?l22 ?c22 ?k22 ?q_Condition ?pg_Condition ?hd_Condition ?po_Condition ?sa_Condition ?mk_Condition ?kc_Condition ?q_CauseIs ?pg_CauseIs ?hd_CauseIs ?po_CauseIs ?sa_CauseIs ?mk_CauseIs ?kc_CauseIs ?na_CauseIs_name ?q_ThingIs ?pg_ThingIs ?hd_ThingIs ?po_ThingIs ?sa_ThingIs ?mk_ThingIs ?kc_ThingIs ?na_ThingIs_name ?q_DaysIn ?pg_DaysIn ?hd_DaysIn ?po_DaysIn ?sa_DaysIn ?mk_DaysIn ?kc_DaysIn ?na_DaysIn_first ?na_DaysIn_last ?q_Over ?pg_Over ?hd_Over ?po_Over ?sa_Over ?mk_Over ?kc_Over ?na_Over_cents ?q_Not ?pg_Not ?hd_Not ?po_Not ?sa_Not ?mk_Not ?kc_Not ?na_Not_part ?q_All ?pg_All ?hd_All ?po_All ?sa_All ?mk_All ?kc_All ?na_All_several ?q_Some ?pg_Some ?hd_Some ?po_Some ?sa_Some ?mk_Some ?kc_Some ?na_Some_several ?q_Reader ?pg_Reader ?hd_Reader ?po_Reader ?sa_Reader ?mk_Reader ?kc_Reader ?na_Reader_row ?na_Reader_place ?na_Reader_depth ?nd_C ?a_Condition_holds ?iCondition_holds ?lCondition_holds ?cCondition_holds ?kCondition_holds ?a_CauseIs___init__ ?iCauseIs___init__ ?lCauseIs___init__ ?cCauseIs___init__ ?kCauseIs___init__ ?a_CauseIs_holds ?iCauseIs_holds ?lCauseIs_holds ?cCauseIs_holds ?kCauseIs_holds ?a_ThingIs___init__ ?iThingIs___init__ ?lThingIs___init__ ?cThingIs___init__ ?kThingIs___init__ ?a_ThingIs_holds ?iThingIs_holds ?lThingIs_holds ?cThingIs_holds ?kThingIs_holds ?a_DaysIn___init__ ?iDaysIn___init__ ?lDaysIn___init__ ?cDaysIn___init__ ?kDaysIn___init__ ?a_DaysIn_holds ?iDaysIn_holds ?lDaysIn_holds ?cDaysIn_holds ?kDaysIn_holds ?a_Over___init__ ?iOver___init__ ?lOver___init__ ?cOver___init__ ?kOver___init__ ?a_Over_holds ?iOver_holds ?lOver_holds ?cOver_holds ?kOver_holds ?a_Not___init__ ?iNot___init__ ?lNot___init__ ?cNot___init__ ?kNot___init__ ?a_Not_holds ?iNot_holds ?lNot_holds ?cNot_holds ?kNot_holds ?a_All___init__ ?iAll___init__ ?lAll___init__ ?cAll___init__ ?kAll___init__ ?a_All_holds ?iAll_holds ?lAll_holds ?cAll_holds ?kAll_holds ?a_Some___init__ ?iSome___init__ ?lSome___init__ ?cSome___init__ ?kSome___init__ ?a_Some_holds ?iSome_holds ?lSome_holds ?cSome_holds ?kSome_holds ?a_Reader___init__ ?iReader___init__ ?lReader___init__ ?cReader___init__ ?kReader___init__ ?a_Reader_ahead ?iReader_ahead ?lReader_ahead ?cReader_ahead ?kReader_ahead ?a_Reader_step ?iReader_step ?lReader_step ?cReader_step ?kReader_step ?a_Reader_read_rows ?iReader_read_rows ?lReader_read_rows ?cReader_read_rows ?kReader_read_rows ?a_Reader_read_row ?iReader_read_row ?lReader_read_row ?cReader_read_row ?kReader_read_row ?a_Reader_goes_on ?iReader_goes_on ?lReader_goes_on ?cReader_goes_on ?kReader_goes_on ?a_Reader_read_piece ?iReader_read_piece ?lReader_read_piece ?cReader_read_piece ?kReader_read_piece ?a_Reader_read_deeper ?iReader_read_deeper ?lReader_read_deeper ?cReader_read_deeper ?kReader_read_deeper ?a_Reader_read_bracket ?iReader_read_bracket ?lReader_read_bracket ?cReader_read_bracket ?kReader_read_bracket ?a_Reader_read_name ?iReader_read_name ?lReader_read_name ?cReader_read_name ?kReader_read_name ?a_Reader_read_days ?iReader_read_days ?lReader_read_days ?cReader_read_days ?kReader_read_days ?a_Reader_read_day ?iReader_read_day ?lReader_read_day ?cReader_read_day ?kReader_read_day ?a_Reader_read_amount ?iReader_read_amount ?lReader_read_amount ?cReader_read_amount ?kReader_read_amount ?ni_Condition ?z_CAUSE ?z_CENTS ?z_DAY ?z_FIGURES ?z_LAST_DAY ?z_LETTERS ?z_LONGEST_NAME ?z_MOST_DAY_FIGURES ?z_MOST_IN_ROW ?z_MOST_OPEN ?z_MOST_WHOLE_FIGURES ?z_MOST_WORDS ?z_THING ?z_ValueError ?z_bool ?z_int ?z_isinstance ?z_len ?z_list ?z_range ?z_str ?q_CoverError ?q_NoAmount ?q_NoWords ?q_TooDeep ?q_NoText ?aINoWords ?iINoWords ?lINoWords ?cINoWords ?kINoWords ?w_NoWords ?kp_NoWords ?sa_NoWords ?ov_NoWords ?fi_NoWords ?ga_NoWords ?gt_NoWords ?cl_NoWords ?ob_NoWords ?sb_NoWords ?ic_NoWords ?hd_NoWords ?gs ?tk ?v_NoWords ?k_NoWords_NoWords ?k_NoWords_TooDeep ?k_NoWords_NoText ?k_NoWords_NoAmount ?h_NoWords_CoverError ?r_TooDeep ?ga_TooDeep ?gt_TooDeep ?cl_TooDeep ?ob_TooDeep ?sb_TooDeep ?ic_TooDeep ?hd_TooDeep ?v_TooDeep ?k_TooDeep_NoWords ?k_TooDeep_TooDeep ?k_TooDeep_NoText ?k_TooDeep_NoAmount ?h_TooDeep_CoverError
    (case a0 => k_is)
    (case l0 => k_is)
    (case c0 => k_is)
    (case k0 => k_is)
    (case a1 => k_is)
    (case l1 => k_is)
    (case c1 => k_is)
    (case k1 => k_is)
    (case a2 => k_is)
    (case l2 => k_is)
    (case c2 => k_is)
    (case k2 => k_is)
    (case a3 => k_is)
    (case l3 => k_is)
    (case c3 => k_is)
    (case k3 => k_is)
    (case a4 => k_is)
    (case l4 => k_is)
    (case c4 => k_is)
    (case k4 => k_is)
    (case a5 => k_is)
    (case l5 => k_is)
    (case c5 => k_is)
    (case k5 => k_is)
    (case a6 => k_is)
    (case l6 => k_is)
    (case c6 => k_is)
    (case k6 => k_is)
    (case a7 => k_is)
    (case l7 => k_is)
    (case c7 => k_is)
    (case k7 => k_is)
    (case a8 => k_is)
    (case l8 => k_is)
    (case c8 => k_is)
    (case k8 => k_is)
    (case a9 => k_is)
    (case l9 => k_is)
    (case c9 => k_is)
    (case k9 => k_is)
    (case a10 => k_is)
    (case l10 => k_is)
    (case c10 => k_is)
    (case k10 => k_is)
    (case a11 => k_is)
    (case l11 => k_is)
    (case c11 => k_is)
    (case k11 => k_is)
    (case a12 => k_is)
    (case l12 => k_is)
    (case c12 => k_is)
    (case k12 => k_is)
    (case a13 => k_is)
    (case l13 => k_is)
    (case c13 => k_is)
    (case k13 => k_is)
    (case a14 => k_is)
    (case l14 => k_is)
    (case c14 => k_is)
    (case k14 => k_is)
    (case a15 => k_is)
    (case l15 => k_is)
    (case c15 => k_is)
    (case k15 => k_is)
    (case a16 => k_is)
    (case l16 => k_is)
    (case c16 => k_is)
    (case k16 => k_is)
    (case a17 => k_is)
    (case l17 => k_is)
    (case c17 => k_is)
    (case k17 => k_is)
    (case a18 => k_is)
    (case l18 => k_is)
    (case c18 => k_is)
    (case k18 => k_is)
    (case a19 => k_is)
    (case l19 => k_is)
    (case c19 => k_is)
    (case k19 => k_is)
    (case a20 => k_is)
    (case l20 => k_is)
    (case c20 => k_is)
    (case k20 => k_is)
    (case a21 => k_is)
    (case l21 => k_is)
    (case c21 => k_is)
    (case k21 => k_is)
    (case a22 => k_is)
    (case l22 => k_is)
    (case c22 => k_is)
    (case k22 => k_is)
    (case q_Condition => k_is)
    (case pg_Condition => k_is)
    (case hd_Condition => k_is)
    (case po_Condition => k_is)
    (case sa_Condition => k_is)
    (case mk_Condition => k_is)
    (case kc_Condition => k_is)
    (case q_CauseIs => k_is)
    (case pg_CauseIs => k_is)
    (case hd_CauseIs => k_is)
    (case po_CauseIs => k_is)
    (case sa_CauseIs => k_is)
    (case mk_CauseIs => k_is)
    (case kc_CauseIs => k_is)
    (case na_CauseIs_name => k_is)
    (case q_ThingIs => k_is)
    (case pg_ThingIs => k_is)
    (case hd_ThingIs => k_is)
    (case po_ThingIs => k_is)
    (case sa_ThingIs => k_is)
    (case mk_ThingIs => k_is)
    (case kc_ThingIs => k_is)
    (case na_ThingIs_name => k_is)
    (case q_DaysIn => k_is)
    (case pg_DaysIn => k_is)
    (case hd_DaysIn => k_is)
    (case po_DaysIn => k_is)
    (case sa_DaysIn => k_is)
    (case mk_DaysIn => k_is)
    (case kc_DaysIn => k_is)
    (case na_DaysIn_first => k_is)
    (case na_DaysIn_last => k_is)
    (case q_Over => k_is)
    (case pg_Over => k_is)
    (case hd_Over => k_is)
    (case po_Over => k_is)
    (case sa_Over => k_is)
    (case mk_Over => k_is)
    (case kc_Over => k_is)
    (case na_Over_cents => k_is)
    (case q_Not => k_is)
    (case pg_Not => k_is)
    (case hd_Not => k_is)
    (case po_Not => k_is)
    (case sa_Not => k_is)
    (case mk_Not => k_is)
    (case kc_Not => k_is)
    (case na_Not_part => k_is)
    (case q_All => k_is)
    (case pg_All => k_is)
    (case hd_All => k_is)
    (case po_All => k_is)
    (case sa_All => k_is)
    (case mk_All => k_is)
    (case kc_All => k_is)
    (case na_All_several => k_is)
    (case q_Some => k_is)
    (case pg_Some => k_is)
    (case hd_Some => k_is)
    (case po_Some => k_is)
    (case sa_Some => k_is)
    (case mk_Some => k_is)
    (case kc_Some => k_is)
    (case na_Some_several => k_is)
    (case q_Reader => k_is)
    (case pg_Reader => k_is)
    (case hd_Reader => k_is)
    (case po_Reader => k_is)
    (case sa_Reader => k_is)
    (case mk_Reader => k_is)
    (case kc_Reader => k_is)
    (case na_Reader_row => k_is)
    (case na_Reader_place => k_is)
    (case na_Reader_depth => k_is)
    (case nd_C => decide)
    (case a_Condition_holds => k_is)
    (case iCondition_holds => k_is)
    (case lCondition_holds => k_is)
    (case cCondition_holds => k_is)
    (case kCondition_holds => k_is)
    (case a_CauseIs___init__ => k_is)
    (case iCauseIs___init__ => k_is)
    (case lCauseIs___init__ => k_is)
    (case cCauseIs___init__ => k_is)
    (case kCauseIs___init__ => k_is)
    (case a_CauseIs_holds => k_is)
    (case iCauseIs_holds => k_is)
    (case lCauseIs_holds => k_is)
    (case cCauseIs_holds => k_is)
    (case kCauseIs_holds => k_is)
    (case a_ThingIs___init__ => k_is)
    (case iThingIs___init__ => k_is)
    (case lThingIs___init__ => k_is)
    (case cThingIs___init__ => k_is)
    (case kThingIs___init__ => k_is)
    (case a_ThingIs_holds => k_is)
    (case iThingIs_holds => k_is)
    (case lThingIs_holds => k_is)
    (case cThingIs_holds => k_is)
    (case kThingIs_holds => k_is)
    (case a_DaysIn___init__ => k_is)
    (case iDaysIn___init__ => k_is)
    (case lDaysIn___init__ => k_is)
    (case cDaysIn___init__ => k_is)
    (case kDaysIn___init__ => k_is)
    (case a_DaysIn_holds => k_is)
    (case iDaysIn_holds => k_is)
    (case lDaysIn_holds => k_is)
    (case cDaysIn_holds => k_is)
    (case kDaysIn_holds => k_is)
    (case a_Over___init__ => k_is)
    (case iOver___init__ => k_is)
    (case lOver___init__ => k_is)
    (case cOver___init__ => k_is)
    (case kOver___init__ => k_is)
    (case a_Over_holds => k_is)
    (case iOver_holds => k_is)
    (case lOver_holds => k_is)
    (case cOver_holds => k_is)
    (case kOver_holds => k_is)
    (case a_Not___init__ => k_is)
    (case iNot___init__ => k_is)
    (case lNot___init__ => k_is)
    (case cNot___init__ => k_is)
    (case kNot___init__ => k_is)
    (case a_Not_holds => k_is)
    (case iNot_holds => k_is)
    (case lNot_holds => k_is)
    (case cNot_holds => k_is)
    (case kNot_holds => k_is)
    (case a_All___init__ => k_is)
    (case iAll___init__ => k_is)
    (case lAll___init__ => k_is)
    (case cAll___init__ => k_is)
    (case kAll___init__ => k_is)
    (case a_All_holds => k_is)
    (case iAll_holds => k_is)
    (case lAll_holds => k_is)
    (case cAll_holds => k_is)
    (case kAll_holds => k_is)
    (case a_Some___init__ => k_is)
    (case iSome___init__ => k_is)
    (case lSome___init__ => k_is)
    (case cSome___init__ => k_is)
    (case kSome___init__ => k_is)
    (case a_Some_holds => k_is)
    (case iSome_holds => k_is)
    (case lSome_holds => k_is)
    (case cSome_holds => k_is)
    (case kSome_holds => k_is)
    (case a_Reader___init__ => k_is)
    (case iReader___init__ => k_is)
    (case lReader___init__ => k_is)
    (case cReader___init__ => k_is)
    (case kReader___init__ => k_is)
    (case a_Reader_ahead => k_is)
    (case iReader_ahead => k_is)
    (case lReader_ahead => k_is)
    (case cReader_ahead => k_is)
    (case kReader_ahead => k_is)
    (case a_Reader_step => k_is)
    (case iReader_step => k_is)
    (case lReader_step => k_is)
    (case cReader_step => k_is)
    (case kReader_step => k_is)
    (case a_Reader_read_rows => k_is)
    (case iReader_read_rows => k_is)
    (case lReader_read_rows => k_is)
    (case cReader_read_rows => k_is)
    (case kReader_read_rows => k_is)
    (case a_Reader_read_row => k_is)
    (case iReader_read_row => k_is)
    (case lReader_read_row => k_is)
    (case cReader_read_row => k_is)
    (case kReader_read_row => k_is)
    (case a_Reader_goes_on => k_is)
    (case iReader_goes_on => k_is)
    (case lReader_goes_on => k_is)
    (case cReader_goes_on => k_is)
    (case kReader_goes_on => k_is)
    (case a_Reader_read_piece => k_is)
    (case iReader_read_piece => k_is)
    (case lReader_read_piece => k_is)
    (case cReader_read_piece => k_is)
    (case kReader_read_piece => k_is)
    (case a_Reader_read_deeper => k_is)
    (case iReader_read_deeper => k_is)
    (case lReader_read_deeper => k_is)
    (case cReader_read_deeper => k_is)
    (case kReader_read_deeper => k_is)
    (case a_Reader_read_bracket => k_is)
    (case iReader_read_bracket => k_is)
    (case lReader_read_bracket => k_is)
    (case cReader_read_bracket => k_is)
    (case kReader_read_bracket => k_is)
    (case a_Reader_read_name => k_is)
    (case iReader_read_name => k_is)
    (case lReader_read_name => k_is)
    (case cReader_read_name => k_is)
    (case kReader_read_name => k_is)
    (case a_Reader_read_days => k_is)
    (case iReader_read_days => k_is)
    (case lReader_read_days => k_is)
    (case cReader_read_days => k_is)
    (case kReader_read_days => k_is)
    (case a_Reader_read_day => k_is)
    (case iReader_read_day => k_is)
    (case lReader_read_day => k_is)
    (case cReader_read_day => k_is)
    (case kReader_read_day => k_is)
    (case a_Reader_read_amount => k_is)
    (case iReader_read_amount => k_is)
    (case lReader_read_amount => k_is)
    (case cReader_read_amount => k_is)
    (case kReader_read_amount => k_is)
    (case ni_Condition => k_is)
    (case z_CAUSE => k_is)
    (case z_CENTS => k_is)
    (case z_DAY => k_is)
    (case z_FIGURES => k_is)
    (case z_LAST_DAY => k_is)
    (case z_LETTERS => k_is)
    (case z_LONGEST_NAME => k_is)
    (case z_MOST_DAY_FIGURES => k_is)
    (case z_MOST_IN_ROW => k_is)
    (case z_MOST_OPEN => k_is)
    (case z_MOST_WHOLE_FIGURES => k_is)
    (case z_MOST_WORDS => k_is)
    (case z_THING => k_is)
    (case z_ValueError => k_is)
    (case z_bool => k_is)
    (case z_int => k_is)
    (case z_isinstance => k_is)
    (case z_len => k_is)
    (case z_list => k_is)
    (case z_range => k_is)
    (case z_str => k_is)
    (case q_CoverError => k_is)
    (case q_NoAmount => k_is)
    (case q_NoWords => k_is)
    (case q_TooDeep => k_is)
    (case q_NoText => k_is)
    (case aINoWords => k_is)
    (case iINoWords => k_is)
    (case lINoWords => k_is)
    (case cINoWords => k_is)
    (case kINoWords => k_is)
    (case w_NoWords => kernel_rfl)
    (case kp_NoWords => k_is)
    (case sa_NoWords => k_is)
    (case ov_NoWords => kernel_rfl)
    (case fi_NoWords => k_is)
    (case ga_NoWords => k_is)
    (case gt_NoWords => k_is)
    (case cl_NoWords => k_is)
    (case ob_NoWords => k_is)
    (case sb_NoWords => k_is)
    (case ic_NoWords => k_is)
    (case hd_NoWords => k_is)
    (case gs => k_is)
    (case tk => k_is)
    (case v_NoWords => kit_is)
    (case k_NoWords_NoWords => kit_is)
    (case k_NoWords_TooDeep => kit_is)
    (case k_NoWords_NoText => kit_is)
    (case k_NoWords_NoAmount => kit_is)
    (case h_NoWords_CoverError => kts_exm)
    (case r_TooDeep => k_exc)
    (case ga_TooDeep => k_is)
    (case gt_TooDeep => k_is)
    (case cl_TooDeep => k_is)
    (case ob_TooDeep => k_is)
    (case sb_TooDeep => k_is)
    (case ic_TooDeep => k_is)
    (case hd_TooDeep => k_is)
    (case v_TooDeep => kit_is)
    (case k_TooDeep_NoWords => kit_is)
    (case k_TooDeep_TooDeep => kit_is)
    (case k_TooDeep_NoText => kit_is)
    (case k_TooDeep_NoAmount => kit_is)
    (case h_TooDeep_CoverError => kts_exm)
