import PyProof.Rows.All
import Wide.All
import OpenK.AllK
import Wide.FinOn
import Lean
import PyProof.EqAt
import PyProof.EqKinds
import PyProof.TupleCall
import PySem.Challenge.RW_coverroll_k38_no_covers
set_option Elab.async false
set_option linter.all false
set_option maxRecDepth 100000
set_option maxHeartbeats 4000000
/-! THE HAND LAYER, for ints, bools, texts, own classes, LISTS and tuples (index, slices, in, append, pop ..), calls, loops. Paste it whole ahead of your own text; what your proof does not reach may be deleted. -/
namespace L2
open PySem PySem.Spec PyProof.Rows

/-- a key: an int or a str -/
abbrev Key := Sum Int Str
def keyIs : Key → Value → Bool
  | .inl k, v => Value.isInt k v
  | .inr x, v => Value.isStrOf x v
def keyH (w : World) : Key → Int
  | .inl k => hashInt k
  | .inr x => hashStr w x
theorem keyIs_shape : ∀ {k : Key} {v : Value}, keyIs k v = true → (∃ i t, k = Sum.inl i ∧ v = Value.int i t) ∨ (∃ x t, k = Sum.inr x ∧ v = Value.str x t)
  | .inl i, v, h => by
    obtain ⟨t, e⟩ := Value.isInt_shape (k := i) (v := v) h
    exact .inl ⟨i, t, rfl, e⟩
  | .inr x, v, h => by
    obtain ⟨t, e⟩ := Value.isStrOf_shape (x := x) (v := v) h
    exact .inr ⟨x, t, rfl, e⟩
theorem key_ll (a b : Int) : decide ((Sum.inl a : Key) = Sum.inl b) = (a == b) := by
  by_cases e : a = b
  · subst e; simp
  · have h : ¬ (Sum.inl a : Key) = Sum.inl b := fun q => e (Sum.inl.inj q)
    rw [decide_eq_false h]
    exact (beq_eq_false_iff_ne.mpr e).symm
theorem key_rr (a b : Str) : decide ((Sum.inr a : Key) = Sum.inr b) = decide (a = b) := by
  by_cases e : a = b
  · subst e; simp
  · have h : ¬ (Sum.inr a : Key) = Sum.inr b := fun q => e (Sum.inr.inj q)
    rw [decide_eq_false h, decide_eq_false e]
theorem key_lr (a : Int) (b : Str) : decide ((Sum.inl a : Key) = Sum.inr b) = false := decide_eq_false (fun q => nomatch q)
theorem key_rl (a : Str) (b : Int) : decide ((Sum.inr a : Key) = Sum.inl b) = false := decide_eq_false (fun q => nomatch q)

def mixKind (prog : Program) (w : World) : PySem.KeyKind prog w Key where
  is := keyIs
  hash := keyH w
  inj := fun v a b ha hb => by
    rcases keyIs_shape ha with ⟨i, t, rfl, rfl⟩ | ⟨x, t, rfl, rfl⟩
    · rcases keyIs_shape hb with ⟨j, u, rfl, e⟩ | ⟨y, u, rfl, e⟩
      · injection e with e1 _; rw [e1]
      · exact nomatch e
    · rcases keyIs_shape hb with ⟨j, u, rfl, e⟩ | ⟨y, u, rfl, e⟩
      · exact nomatch e
      · injection e with e1 _; rw [e1]
  byValue := fun k v h => by
    rcases keyIs_shape h with ⟨i, t, rfl, rfl⟩ | ⟨x, t, rfl, rfl⟩ <;> rfl
  pyHash := fun hv h => by
    rcases keyIs_shape hv with ⟨i, t, rfl, rfl⟩ | ⟨x, t, rfl, rfl⟩
    · exact wpAny_pyHash_int h
    · exact wpAny_pyHash_str h
  eqBool := fun hu hv h => by
    rcases keyIs_shape hu with ⟨i, t, rfl, rfl⟩ | ⟨x, t, rfl, rfl⟩
    · rcases keyIs_shape hv with ⟨j, u, rfl, rfl⟩ | ⟨y, u, rfl, rfl⟩
      · rw [key_ll] at h; exact wpAny_eqBool_int h
      · rw [key_lr] at h; exact SeqAt.EqAt.int_str i t y u _ _ _ _ h
    · rcases keyIs_shape hv with ⟨j, u, rfl, rfl⟩ | ⟨y, u, rfl, rfl⟩
      · rw [key_rl] at h; exact SeqAt.EqAt.str_int x t j u _ _ _ _ h
      · rw [key_rr] at h; exact wpAny_eqBool_str h
  «strs» := fun k x t v h => by
    rcases keyIs_shape h with ⟨i, u, rfl, e⟩ | ⟨y, u, rfl, e⟩
    · exact nomatch e
    · injection e with e1 _
      subst e1
      cases v <;> rfl

end L2

namespace L2
open PySem PySem.Spec PyProof.Rows

/-- a value, without the heap -/
inductive V where
  | non | bl (b : Bool) | int (i : Int) | str (x : Str) | byt (b : Array UInt8) | flt (b : UInt64) | ref (a : Addr) | ty (n : String)
  deriving DecidableEq

def RelV : V → Value → Prop
  | .non, u => u = Value.none
  | .bl b, u => u = Value.bool b
  | .int i, u => ∃ t, u = Value.int i t
  | .str x, u => ∃ t, u = Value.str x t
  | .byt b, u => ∃ t, u = Value.bytes b t
  | .flt b, u => ∃ t, u = Value.float b t
  | .ref a, u => u = Value.ref a
  | .ty n, u => u = Value.type n

abbrev Vals : List V → List Value → Prop := Paired RelV
theorem Vals.length {xs : List V} {us : List Value} (r : Vals xs us) : xs.length = us.length := Paired.length r
theorem Vals.get : ∀ {xs : List V} {us : List Value} {i : Nat} {x : V}, Vals xs us → xs[i]? = some x → ∃ u, us[i]? = some u ∧ RelV x u
  | _, _, _, _, .nil, e => by simp at e
  | _, _, 0, _, .cons r _, e => by simp at e; subst e; exact ⟨_, rfl, r⟩
  | _, _, i + 1, x, .cons _ t, e => by
    obtain ⟨u, h1, h2⟩ := Vals.get (i := i) (x := x) t (by simpa using e)
    exact ⟨u, by simpa using h1, h2⟩
theorem Vals.set {x : V} {u : Value} (r : RelV x u) : ∀ {xs : List V} {us : List Value} (i : Nat), Vals xs us → Vals (xs.set i x) (us.set i u)
  | _, _, _, .nil => .nil
  | _, _, 0, .cons _ t => .cons r t
  | _, _, i + 1, .cons q t => .cons q (Vals.set r i t)
theorem Vals.append : ∀ {xs ys : List V} {us ws : List Value}, Vals xs us → Vals ys ws → Vals (xs ++ ys) (us ++ ws)
  | _, _, _, _, .nil, s => s
  | _, _, _, _, .cons r t, s => .cons r (Vals.append t s)
theorem Vals.take : ∀ {xs : List V} {us : List Value} (n : Nat), Vals xs us → Vals (xs.take n) (us.take n)
  | _, _, 0, _ => .nil
  | _, _, _ + 1, .nil => .nil
  | _, _, n + 1, .cons r t => .cons r (Vals.take n t)
theorem Vals.drop : ∀ {xs : List V} {us : List Value} (n : Nat), Vals xs us → Vals (xs.drop n) (us.drop n)
  | _, _, 0, r => r
  | _, _, _ + 1, .nil => .nil
  | _, _, n + 1, .cons _ t => Vals.drop n t
theorem Vals.none_of : ∀ {xs : List V} {us : List Value} {i : Nat}, Vals xs us → xs[i]? = none → us[i]? = none := fun {xs us i} r e => by
  have h1 := r.length
  have h2 : xs.length ≤ i := List.getElem?_eq_none_iff.mp e
  exact List.getElem?_eq_none_iff.mpr (by omega)

def RelO : Option V → Option Value → Prop
  | some v, some u => RelV v u
  | none, none => True
  | _, _ => False
def KV {κ : Type} : List (κ × V) → List (κ × Value) → Prop := Paired fun (p : κ × V) (q : κ × Value) => p.1 = q.1 ∧ RelV p.2 q.2

/-- a key of a dict (00_mix): an int or a text -/
def kV : Key → V
  | .inl i => .int i
  | .inr x => .str x

/-- what stands at a tracked address -/
inductive HO where
  /-- a list -/
  | lst (xs : List V)
  /-- a tuple (never changes) -/
  | tup (xs : List V)
  /-- a dict whose keys are ints and texts; one whose keys are tuples of ints and texts (the empty one is both) -/
  | dK (kvs : List (Key × V)) | dT (kvs : List (List Key × V))
  /-- a set of ints: its members, its size -/
  | set (S : Int → Bool) (n : Nat)
  /-- an instance of the class at C, its dict at dx, its attributes -/
  | ins (C dx : Addr) (fs : List (Str × V))
  /-- the dict of the instance at x -/
  | own (x : Addr)
  /-- the dict of an exception -/
  | xd (fs : List (Str × V))
  /-- a bound method, f of x -/
  | met (f x : Addr)
  /-- a range object lo, lo + 1, .. below hi -/
  | rng (lo hi : Int)
  /-- a thing that is known to the object (the script; a dict while a loop walks it): read, never written while it is so -/
  | frz (o : Obj) (u : HO)
  /-- a code object's table -/
  | tbl (ps : Array Value)
  /-- any other thing, by what is true of its one object (a def of one's own: SetO a S n := HO.ext fun h => ..) -/
  | ext (φ : Heap → Prop)

abbrev Hp := Addr → Option HO
def upd (H : Hp) (a : Addr) (o : HO) : Hp := fun b => if b = a then some o else H b
theorem upd_same {H : Hp} {a : Addr} {o : HO} : upd H a o a = some o := by unfold upd; rw [if_pos rfl]
theorem upd_ne {H : Hp} {a b : Addr} {o : HO} (h : b ≠ a) : upd H a o b = H b := by unfold upd; rw [if_neg h]
/-- two objects of different content stand apart -/
theorem ne_of {H : Hp} {a b : Addr} {o u : HO} (h : H a = some o) (h' : H b = some u) (d : o ≠ u) : a ≠ b := by
  intro e; subst e; rw [h] at h'; exact d (Option.some.inj h')
theorem ne_of_none {H : Hp} {a b : Addr} {o : HO} (h : H a = some o) (h' : H b = none) : a ≠ b := by
  intro e; subst e; rw [h] at h'; cases h'

section
variable (P : Program) (w : World)
def ObjOk (H : Hp) (h : Heap) (a : Addr) : HO → Prop
  | .lst xs => xs.length ≤ sizeLine ∧ ∃ (its : List Value) (n : Nat), Vals xs its ∧ h.get? a = some { cls := .type "list", data := .seq its.toArray n }
  | .tup xs => xs.length ≤ sizeLine ∧ ∃ its : List Value, Vals xs its ∧ IsTup h a its.toArray
  | .dK kvs => kvs.length ≤ sizeLine ∧ (a == sysModules) = false ∧ ∃ vs, KV kvs vs ∧ h.DictOf (mixKind P w) a vs
  | .dT kvs => kvs.length ≤ sizeLine ∧ (a == sysModules) = false ∧ ∃ xs : List (List Key × Addr × Value),
      Paired (fun (p : List Key × V) (q : List Key × Addr × Value) => p.1 = q.1 ∧ H q.2.1 = some (.tup (p.1.map kV)) ∧ RelV p.2 q.2.2) kvs xs ∧
      ∃ o es ep, h.get? a = some o ∧ o.ExactDict ∧ o.data = .dict es ep ∧ es.toList = xs.map (entryOfKey (tupleKind (mixKind P w))) ∧ (xs.map (·.1)).Nodup
  | .set S n => h.SetOf (intKind P w) a S n
  | .ins C dx fs => H dx = some (.own a) ∧ fs.length ≤ 1000 ∧ dx ≠ a ∧ h.get? a = some (PySem.W.instObj C dx) ∧
      ∃ mA, h.Ns1 dx mA ∧ (∀ f, RelO (fs.lookup f) (mA f)) ∧ PySem.Within mA (fs.map (·.1))
  | .own _ => ∃ o, h.get? a = some o
  | .xd fs => ∃ mA, h.Ns1 a mA ∧ ∀ f, RelO (fs.lookup f) (mA f)
  | .rng lo hi => ∃ t u v, h.get? a = some { cls := .type "range", data := .fields #[.int lo t, .int hi u, .int 1 v] }
  | .frz o u => h.get? a = some o ∧ ObjOk H h a u
  | .tbl ps => h.get? a = some { cls := .none, data := .fields ps }
  | .met f x => h.get? a = some (PySem.W.methodObj (.ref f) (.ref x))
  | .ext φ => φ h ∧ (∃ o, h.get? a = some o) ∧ ∀ h1 h2 : Heap, φ h1 → (∀ o, h1.get? a = some o → h2.get? a = some o) → φ h2
/-- the abstract heap is held -/
def HOk (H : Hp) (h : Heap) : Prop := ∀ a o, H a = some o → ObjOk P w H h a o
end

section
variable {P : Program} {w : World} {H H' : Hp} {h h' : Heap} {a : Addr} {o : HO}
theorem ObjOk.lt (x : ObjOk P w H h a o) : a < h.objs.size := by
  cases o with
  | lst xs => obtain ⟨_, _, _, _, e⟩ := x; exact Heap.lt_size e
  | tup xs => obtain ⟨_, _, _, p⟩ := x; exact p.lt
  | dK kvs => obtain ⟨_, _, _, _, o, _, _, e, _⟩ := x; exact Heap.lt_size e
  | dT kvs => obtain ⟨_, _, _, _, o, _, _, e, _⟩ := x; exact Heap.lt_size e
  | set S n => obtain ⟨o, _, _, _, e, _⟩ := x; exact Heap.lt_size e
  | ins C dx fs => obtain ⟨_, _, _, e, _⟩ := x; exact Heap.lt_size e
  | own y => obtain ⟨_, e⟩ := x; exact Heap.lt_size e
  | xd fs => obtain ⟨_, ⟨_, _, _, e, _⟩, _⟩ := x; exact Heap.lt_size e
  | rng lo hi => obtain ⟨_, _, _, e⟩ := x; exact Heap.lt_size e
  | frz ob u => obtain ⟨e, _⟩ := x; exact Heap.lt_size e
  | tbl ps => exact Heap.lt_size (show h.get? a = some _ from x)
  | met f y => exact Heap.lt_size (show h.get? a = some _ from x)
  | ext φ => obtain ⟨_, ⟨_, e⟩, _⟩ := x; exact Heap.lt_size e
theorem Paired.mapP {α β : Type} {F G : α → β → Prop} : ∀ {l₁ : List α} {l₂ : List β}, Paired F l₁ l₂ → (∀ a b, F a b → G a b) → Paired G l₁ l₂
  | _, _, .nil, _ => .nil
  | _, _, .cons r t, f => .cons (f _ _ r) (Paired.mapP t f)
/-- what an object's description leans on: its own object, its own dict, the tuples -/
theorem ObjOk.stay (x : ObjOk P w H h a o) (k : ∀ b u, (b = a ∨ H b = some (.own a)) → h.get? b = some u → h'.get? b = some u)
    (ho : ∀ b, H b = some (.own a) → H' b = some (.own a)) (ht : ∀ b xs, H b = some (.tup xs) → H' b = some (.tup xs)) : ObjOk P w H' h' a o := by
  induction o with
  | lst xs => obtain ⟨z, its, n, r, e⟩ := x; exact ⟨z, its, n, r, k _ _ (.inl rfl) e⟩
  | tup xs => obtain ⟨z, its, r, ob, e, c⟩ := x; exact ⟨z, its, r, ob, k _ _ (.inl rfl) e, c⟩
  | dK kvs => obtain ⟨z, y, vs, r, ob, es, ep, e, c⟩ := x; exact ⟨z, y, vs, r, ob, es, ep, k _ _ (.inl rfl) e, c⟩
  | dT kvs =>
    obtain ⟨z, y, xs, r, ob, es, ep, e, c⟩ := x
    exact ⟨z, y, xs, Paired.mapP r fun p q z => ⟨z.1, ht _ _ z.2.1, z.2.2⟩, ob, es, ep, k _ _ (.inl rfl) e, c⟩
  | set S n => obtain ⟨ob, es, ep, t, e, c⟩ := x; exact ⟨ob, es, ep, t, k _ _ (.inl rfl) e, c⟩
  | ins C dx fs =>
    obtain ⟨d, z, ne, e, mA, ⟨od, es, ep, e2, c⟩, r⟩ := x
    exact ⟨ho _ d, z, ne, k _ _ (.inl rfl) e, mA, ⟨od, es, ep, k _ _ (.inr d) e2, c⟩, r⟩
  | own y => obtain ⟨ob, e⟩ := x; exact ⟨ob, k _ _ (.inl rfl) e⟩
  | xd fs => obtain ⟨mA, ⟨od, es, ep, e, c⟩, r⟩ := x; exact ⟨mA, ⟨od, es, ep, k _ _ (.inl rfl) e, c⟩, r⟩
  | rng lo hi => obtain ⟨t, u, v, e⟩ := x; exact ⟨t, u, v, k _ _ (.inl rfl) e⟩
  | frz ob u ih => obtain ⟨e, q⟩ := x; exact ⟨k _ _ (.inl rfl) e, ih q⟩
  | tbl ps =>
    have e : h.get? a = some { cls := .none, data := .fields ps } := x
    show h'.get? a = some { cls := .none, data := .fields ps }
    exact k a _ (.inl rfl) e
  | met f y =>
    have e : h.get? a = some (PySem.W.methodObj (.ref f) (.ref y)) := x
    show h'.get? a = some (PySem.W.methodObj (.ref f) (.ref y))
    exact k a _ (.inl rfl) e
  | ext φ => obtain ⟨p, ⟨o, e⟩, st⟩ := x; exact ⟨st _ _ p fun o q => k _ _ (.inl rfl) q, ⟨o, k _ _ (.inl rfl) e⟩, st⟩
theorem HOk.lt (x : HOk P w H h) (e : H a = some o) : a < h.objs.size := (x a o e).lt
theorem HOk.fresh (x : HOk P w H h) (e : h.objs.size ≤ a) : H a = none := by
  cases q : H a with
  | none => rfl
  | some u => exact absurd (Nat.lt_of_lt_of_le (x.lt q) e) (Nat.lt_irrefl _)
/-- every object of the heap is kept -/
theorem HOk.kept (x : HOk P w H h) (k : ∀ b u, h.get? b = some u → h'.get? b = some u) : HOk P w H h' := fun a o e =>
  (x a o e).stay (fun b u _ q => k b u q) (fun _ q => q) fun _ _ q => q
/-- a new object is laid and tracked -/
theorem HOk.laid (x : HOk P w H h) (k : ∀ b u, h.get? b = some u → h'.get? b = some u) (hp : h.objs.size ≤ a) (new : ObjOk P w (upd H a o) h' a o) : HOk P w (upd H a o) h' := fun b u e => by
  have hn := x.fresh hp
  by_cases hb : b = a
  · subst hb; rw [upd_same] at e; cases e; exact new
  · rw [upd_ne hb] at e
    exact (x b u e).stay (fun c v _ q => k c v q) (fun c q => by rw [upd_ne (ne_of_none q hn)]; exact q) fun c xs q => by rw [upd_ne (ne_of_none q hn)]; exact q
end

/-- what may be read as u: it is u, or a known u -/
def Rd (H : Hp) (a : Addr) (u : HO) : Prop := H a = some u ∨ ∃ o, H a = some (.frz o u)
theorem Rd.ok {P : Program} {w : World} {H : Hp} {h : Heap} {a : Addr} {u : HO} (r : Rd H a u) (x : HOk P w H h) : ObjOk P w H h a u := by
  rcases r with r | ⟨o, r⟩
  · exact x a u r
  · obtain ⟨_, q⟩ := x a _ r
    exact q
/-- what may be written -/
def Mut : Option HO → Prop
  | some (.lst _) => True
  | some (.dK _) => True
  | some (.dT _) => True
  | some (.set _ _) => True
  | some (.ins _ _ _) => True
  | some (.ext _) => True
  | _ => False
section
variable {P : Program} {w : World} {H : Hp} {h h' : Heap} {x e : Addr} {o' : HO}
/-- the object at e is changed: x itself, or the dict of the instance x -/
theorem HOk.write (ok : HOk P w H h) (mu : Mut (H x)) (he : e = x ∨ H e = some (.own x)) (k : ∀ b u, b ≠ e → h.get? b = some u → h'.get? b = some u) (heo : ∃ u, h'.get? e = some u)
    (new : ObjOk P w (upd H x o') h' x o') : HOk P w (upd H x o') h' := fun b u q => by
  have nown : ∀ c y, H c = some (.own y) → c ≠ x := fun c y r z => by subst z; rw [r] at mu; exact mu
  have ntup : ∀ c xs, H c = some (.tup xs) → c ≠ x := fun c xs r z => by subst z; rw [r] at mu; exact mu
  by_cases hb : b = x
  · subst hb; rw [upd_same] at q; cases q; exact new
  · rw [upd_ne hb] at q
    by_cases hbe : b = e
    · have q' : H b = some (.own x) := by
        rcases he with z | z
        · exact absurd (hbe.trans z) hb
        · rw [hbe]; exact z
      rw [q] at q'; cases q'
      obtain ⟨v, hv⟩ := heo
      exact ⟨v, by rw [hbe]; exact hv⟩
    · refine (ok b u q).stay (fun c v hc r => k c v ?_ r) (fun c r => by rw [upd_ne (nown c b r)]; exact r) fun c xs r => by rw [upd_ne (ntup c xs r)]; exact r
      rcases hc with rfl | hc
      · exact hbe
      · rintro rfl
        rcases he with z | z
        · exact nown c b hc z
        · rw [hc] at z; cases z; exact hb rfl
end

/-! ### kept unless tracked; of the frames at fs (the callers') the slots may change (an exception that passes writes there); of the records at ex (iterators) nothing is said -/
structure Un (fs ex : List Addr) (H H' : Hp) (h h' : Heap) : Prop where
  keep : ∀ b o, h.get? b = some o → H b = none → b ∉ fs → b ∉ ex → h'.get? b = some o
  slot : ∀ b o, h.get? b = some o → H b = none → b ∈ fs → b ∉ ex → ∃ sl, h'.get? b = some { o with slots := sl }
  free : ∀ b o, h.get? b = some o → H b = none → b ∉ ex → H' b = none
  there : ∀ b o, h.get? b = some o → b ∉ ex → ∃ o', h'.get? b = some o'
  tups : ∀ b xs, H b = some (.tup xs) → H' b = some (.tup xs)
  frzs : ∀ b o u, H b = some (.frz o u) → H' b = some (.frz o u)
  tbls : ∀ b ps, H b = some (.tbl ps) → ∃ more, H' b = some (.tbl (ps ++ more))
section
variable {fs fs' ex ex' : List Addr} {H H1 H2 : Hp} {h h1 h2 h' : Heap} {a x e : Addr} {o : HO}
theorem Un.any (u : Un fs ex H H1 h h1) {b : Addr} {ob : Obj} (q : h.get? b = some ob) (n : H b = none) (hx : b ∉ ex) : ∃ sl, h1.get? b = some { ob with slots := sl } := by
  by_cases hb : b ∈ fs
  · exact u.slot b ob q n hb hx
  · exact ⟨ob.slots, u.keep b ob q n hb hx⟩
theorem Un.kept (k : ∀ b u, h.get? b = some u → h'.get? b = some u) : Un fs ex H H h h' :=
  ⟨fun b ob q _ _ _ => k b ob q, fun b ob q _ _ _ => ⟨ob.slots, k b ob q⟩, fun _ _ _ n _ => n, fun b ob q _ => ⟨ob, k b ob q⟩, fun _ _ q => q, fun _ _ _ q => q, fun _ ps q => ⟨#[], by rw [q]; simp⟩⟩
theorem Un.refl : Un fs ex H H h h := Un.kept fun _ _ q => q
theorem Un.laid (k : ∀ b u, h.get? b = some u → h'.get? b = some u) (hp : h.objs.size ≤ a) (hn : H a = none) : Un fs ex H (upd H a o) h h' where
  keep := fun b u q _ _ _ => k b u q
  slot := fun b u q _ _ _ => ⟨u.slots, k b u q⟩
  free := fun b u q n _ => by rw [upd_ne (Nat.ne_of_lt (Nat.lt_of_lt_of_le (Heap.lt_size q) hp))]; exact n
  there := fun b u q _ => ⟨u, k b u q⟩
  tups := fun b xs q => by rw [upd_ne (ne_of_none q hn)]; exact q
  frzs := fun b u xs q => by rw [upd_ne (ne_of_none q hn)]; exact q
  tbls := fun b ps q => ⟨#[], by rw [upd_ne (ne_of_none q hn), q]; simp⟩
theorem Un.write (mu : Mut (H x)) (he : e = x ∨ H e = some (.own x)) (k : ∀ b u, b ≠ e → h.get? b = some u → h'.get? b = some u) (heo : ∃ u, h'.get? e = some u) : Un fs ex H (upd H x o) h h' := by
  have hx : ∀ b, H b = none → b ≠ x := fun b n z => by subst z; rw [n] at mu; exact mu
  have hb : ∀ b, H b = none → b ≠ e := fun b n z => by
    subst z
    rcases he with r | r
    · exact hx b n r
    · rw [n] at r; cases r
  have hm : ∀ b u, H b = some u → ¬ Mut (some u) → b ≠ x := fun b u q nm z => by subst z; rw [q] at mu; exact nm mu
  refine ⟨fun b u q n _ _ => k b u (hb b n) q, fun b u q n _ _ => ⟨u.slots, k b u (hb b n) q⟩, fun b u q n _ => by rw [upd_ne (hx b n)]; exact n, fun b u q _ => ?_,
    fun b xs q => by rw [upd_ne (hm b _ q fun z => z)]; exact q, fun b u xs q => by rw [upd_ne (hm b _ q fun z => z)]; exact q, fun b ps q => ⟨#[], by rw [upd_ne (hm b _ q fun z => z), q]; simp⟩⟩
  by_cases hbe : b = e
  · subst hbe; exact heo
  · exact ⟨u, k b u hbe q⟩
end

/-! ### the heap without what is tracked -/
def trk (h : Heap) (H : Hp) : List Addr := (List.range h.objs.size).filter fun a => (H a).isSome
def hidT (h : Heap) (H : Hp) : Heap := PySem.W.hideAll h (trk h H)
theorem hidT_size (h : Heap) (H : Hp) : (hidT h H).objs.size = h.objs.size := PySem.W.hideAll_size _ _
theorem hidT_get {h : Heap} {H : Hp} {b : Addr} {o : Obj} (e : h.get? b = some o) (n : H b = none) : (hidT h H).get? b = some o :=
  PySem.W.hideAll_get _ e fun hm => by
    have q : (H b).isSome = true := (List.mem_filter.mp hm).2
    rw [n] at q; simp at q
theorem of_hidT {h : Heap} {H : Hp} {b : Addr} {o : Obj} (e : (hidT h H).get? b = some o) : h.get? b = some o ∧ H b = none := by
  have e' : h.get? b = some o := PySem.W.of_hideAll (trk h H) e
  refine ⟨e', ?_⟩
  cases q : H b with
  | none => rfl
  | some x =>
    have hm : b ∈ trk h H := List.mem_filter.mpr ⟨List.mem_range.mpr (Heap.lt_size e'), by simp [q]⟩
    have z : (hidT h H).get? b = none := PySem.W.hideAll_none (trk h H) hm
    rw [z] at e; cases e

/-! ### OpenK's ledger, filled with every new object but one -/
end L2

namespace L2
open PySem PySem.Spec PyProof.Rows

/-- the module's facts, over the base: the heap at the law's entry without what is tracked there -/
structure Mod (K : PySem.W.Frag) (mg : Str → Option Value) (base : Heap) : Prop where
  kin : K.In base
  glob : base.Ns mainGlobals mg
  blt : ∃ mb, base.Ns builtinsNs mb ∧ ∀ x : Str, x ≠ "__name__" → mb x = bootBuiltins x
  nolimit : base.NoLimit

/-- the context: a def's body (or a comprehension's block) running. base: fixed through the whole law; s₀, H₀: the entry; outer: the frames whose slots others may change (a def's callers); stack: all frames that run;
   ex: iterators that were made ahead of the entry and are walked here (a comprehension's); fn: the names whose cells were made at the entry (a def: all; a comprehension's block: its own); calm: not within an except suite; pn: pins that every state bears; xe: what is wanted of an exception that leaves the code -/
structure Cx where
  prog : Program
  w : World
  K : PySem.W.Frag
  mg : Str → Option Value
  base : Heap
  A : Around
  N : List Str
  s₀ : Shared
  H₀ : Hp
  env : Env
  outer : List Env
  stack : List Env
  ex : List Addr
  fn : Str → Bool
  calm : Bool
  pn : List (Addr × Obj)
  xe : Value → Shared → Prop
/-- the callers' frames -/
def frs (l : List Env) : List Addr := l.filterMap (·.frame)
abbrev Cx.fs (X : Cx) : List Addr := frs X.outer

def Vis (sc : Scope) (x : Str) : Prop := sc.names.lookup x = some .local ∨ sc.names.lookup x = some .cell ∨ sc.names.lookup x = some .free
def Loc (sc : Scope) (x : Str) : Prop := sc.names.lookup x = some .local ∨ sc.names.lookup x = some .cell
def Look (env : Env) (h : Heap) (m : Str → Option Value) (x : Str) (u : Value) : Prop :=
  (env.kindOf x = some .local ∧ m x = some u) ∨ ((env.kindOf x = some .cell ∨ env.kindOf x = some .free) ∧ ∃ c, env.cells.lookup x = some c ∧ h.IsCell c (some u))

structure Cx.Ok (X : Cx) : Prop where
  mod : Mod X.K X.mg X.base
  kind : X.env.scope.kind = .function
  glob : X.env.globals = mainGlobals
  blt : X.env.builtins = builtinsNs
  above : X.s₀.heap.objs.size ≤ X.env.locals
  inj : ∀ x y c, X.env.cells.lookup x = some c → X.env.cells.lookup y = some c → x = y
  has : ∀ x, (X.env.kindOf x = some .cell ∨ X.env.kindOf x = some .free) → ∃ c, X.env.cells.lookup x = some c
  cab : ∀ x c, X.fn x = true → X.env.cells.lookup x = some c → X.s₀.heap.objs.size ≤ c
  hd : X.calm = true → X.A.handled = none
  frames : X.A.frames = some X.stack
  stk : X.stack = X.outer ∨ (X.stack = X.env :: X.outer ∧ X.env.frame = some X.env.locals)
  exf : ∀ b ∈ X.ex, b ≠ X.env.locals ∧ ∀ x c, X.env.cells.lookup x = some c → c ≠ b
  bs : ∀ b o, X.base.get? b = some o → X.s₀.heap.get? b = some o ∧ X.H₀ b = none
  bsz : X.base.objs.size ≤ X.s₀.heap.objs.size
  noex : ∀ b o, X.base.get? b = some o → b ∉ X.ex
  exfs : ∀ b ∈ X.ex, b ∉ X.fs
  funs : X.s₀.heap.FunFrames X.base X.outer
  frf : ∀ b ∈ X.fs, X.H₀ b = none

structure Inv (X : Cx) (pins : List (Addr × Obj)) (σ : List (Option V)) (H : Hp) (s : Shared) : Prop where
  ok : X.Ok
  os : s.os = X.s₀.os
  bare : AllBare s.gens
  base : Un X.fs X.ex X.H₀ H X.s₀.heap s.heap
  loc : ∃ m, s.heap.Ns X.env.locals m ∧ ∀ (i : Nat) (x : Str) (v : V), X.N[i]? = some x → σ[i]? = some (some v) → Vis X.env.scope x → ∃ u, RelV v u ∧ Look X.env s.heap m x u
  cell : ∀ x c, X.env.cells.lookup x = some c → ∃ v, s.heap.IsCell c v
  free : H X.env.locals = none
  freeC : ∀ x c, X.env.cells.lookup x = some c → H c = none
  pin : ∀ p ∈ X.pn ++ pins, s.heap.get? p.1 = some p.2 ∧ H p.1 = none ∧ p.1 ≠ X.env.locals ∧ p.1 ∉ X.fs ∧ ∀ v, p.2.data ≠ .cell v
  hok : HOk X.prog X.w H s.heap
  len : σ.length = X.N.length

section
variable {X : Cx} {pins : List (Addr × Obj)} {σ : List (Option V)} {H H' : Hp} {s : Shared} {h' : Heap}

theorem Cx.Ok.nofr (ok : X.Ok) {b : Addr} {o : Obj} (e : X.base.get? b = some o) : b ∉ X.fs := fun hb => by
  have := (ok.funs.mem hb).1
  rw [e] at this; cases this
theorem Inv.bs (I : Inv X pins σ H s) : ∀ b o, X.base.get? b = some o → s.heap.get? b = some o ∧ H b = none := fun b o e =>
  ⟨I.base.keep b o (I.ok.bs b o e).1 (I.ok.bs b o e).2 (I.ok.nofr e) (I.ok.noex b o e), I.base.free b o (I.ok.bs b o e).1 (I.ok.bs b o e).2 (I.ok.noex b o e)⟩
theorem Inv.bk (I : Inv X pins σ H s) : ∀ b o, X.base.get? b = some o → s.heap.get? b = some o := fun b o e => (I.bs b o e).1
theorem Inv.mod (I : Inv X pins σ H s) : Mod X.K X.mg X.base := I.ok.mod
theorem Inv.kIn (I : Inv X pins σ H s) : X.K.In s.heap := I.ok.mod.kin.keeps I.bk
theorem Inv.lt (I : Inv X pins σ H s) : X.env.locals < s.heap.objs.size := let ⟨_, hn, _⟩ := I.loc; hn.lt
theorem Inv.sz (I : Inv X pins σ H s) : X.s₀.heap.objs.size ≤ s.heap.objs.size := Nat.le_trans I.ok.above (Nat.le_of_lt I.lt)
theorem Inv.nofs (I : Inv X pins σ H s) {a : Addr} (h : s.heap.objs.size ≤ a) : a ∉ X.fs := fun hb => by
  obtain ⟨_, o, ho, _⟩ := I.ok.funs.mem hb
  exact absurd (Nat.lt_of_lt_of_le (Heap.lt_size ho) (Nat.le_trans I.sz h)) (Nat.lt_irrefl _)
theorem Inv.cne (I : Inv X pins σ H s) : ∀ x c, X.env.cells.lookup x = some c → c ≠ X.env.locals := fun x c e z => by
  obtain ⟨v, o, ho, hd⟩ := I.cell x c e
  obtain ⟨m, ⟨o', es, ep, ho', hd', _⟩, _⟩ := I.loc
  rw [z, ho'] at ho; cases ho; rw [hd'] at hd; cases hd
theorem Inv.funs (I : Inv X pins σ H s) : s.heap.FunFrames X.base X.outer := by
  have all : ∀ (l : List Env), (∀ b ∈ frs l, b ∈ X.fs) → X.s₀.heap.FunFrames X.base l → s.heap.FunFrames X.base l := by
    intro l
    induction l with
    | nil => intro _ _; trivial
    | cons env r ih =>
      intro hs hl
      obtain ⟨hk, ⟨L, o, hf, hn, ho, hd⟩, hr⟩ := hl
      have hL : L ∈ X.fs := hs L (by unfold frs; rw [List.filterMap_cons, hf]; exact List.mem_cons_self)
      obtain ⟨sl, e⟩ := I.base.slot L o ho (I.ok.frf L hL) hL fun z => I.ok.exfs L z hL
      exact ⟨hk, ⟨L, _, hf, hn, e, hd⟩, ih (fun b hb => hs b (by unfold frs; rw [List.filterMap_cons, hf]; exact List.mem_cons_of_mem _ hb)) hr⟩
  exact all X.outer (fun _ hb => hb) I.ok.funs

/-- the frames that run, for a call -/
theorem Inv.stack (I : Inv X pins σ H s) : s.heap.FunFrames X.base X.stack := by
  rcases I.ok.stk with e | ⟨e, hf⟩
  · rw [e]; exact I.funs
  · rw [e]
    obtain ⟨m, hn, _⟩ := I.loc
    refine .cons (by rw [I.ok.kind]; decide) hf hn ?_ I.funs
    exact Heap.get?_none_of_le (Nat.le_trans I.ok.bsz I.ok.above)
theorem Inv.stkSub (I : Inv X pins σ H s) : ∀ b ∈ frs X.stack, b ∈ X.env.locals :: X.fs := fun b hb => by
  rcases I.ok.stk with e | ⟨e, hf⟩
  · rw [e] at hb; exact List.mem_cons_of_mem _ hb
  · rw [e] at hb
    unfold frs at hb
    rw [List.filterMap_cons, hf] at hb
    exact hb
theorem Inv.stkFree (I : Inv X pins σ H s) : ∀ b ∈ frs X.stack, H b = none := fun b hb => by
  rcases List.mem_cons.mp (I.stkSub b hb) with e | hb
  · rw [e]; exact I.free
  · obtain ⟨_, o, ho, _⟩ := I.ok.funs.mem hb
    exact I.base.free b o ho (I.ok.frf b hb) fun z => I.ok.exfs b z hb

/-- THE STEP: the untracked objects but the frame and the records at ch are kept (the callers' frames up to slots), the frame's map is kept, the new abstract heap is held -/
theorem Inv.step {g' : Array GenState} {t' : Nat} {d' : Drawn} {ch : List Addr} (I : Inv X pins σ H s)
    (hch : ∀ b ∈ ch, (b ∈ X.ex ∨ X.s₀.heap.objs.size ≤ b) ∧ b ≠ X.env.locals ∧ (∀ x c, X.env.cells.lookup x = some c → c ≠ b) ∧ ∀ p ∈ X.pn ++ pins, p.1 ≠ b)
    (keep : ∀ b o, b ≠ X.env.locals → b ∉ X.fs → b ∉ ch → s.heap.get? b = some o → H b = none → h'.get? b = some o)
    (slot : ∀ b o, b ≠ X.env.locals → b ∈ X.fs → b ∉ ch → s.heap.get? b = some o → H b = none → ∃ sl, h'.get? b = some { o with slots := sl }) (free : ∀ b o, b ∉ ch → s.heap.get? b = some o → H b = none → H' b = none)
    (there : ∀ b o, b ∉ ch → s.heap.get? b = some o → ∃ o', h'.get? b = some o')
    (tups : ∀ b xs, H b = some (.tup xs) → H' b = some (.tup xs)) (frzs : ∀ b o u, H b = some (.frz o u) → H' b = some (.frz o u)) (tbls : ∀ b ps, H b = some (.tbl ps) → ∃ more, H' b = some (.tbl (ps ++ more)))
    (ns : ∀ m, s.heap.Ns X.env.locals m → h'.Ns X.env.locals m) (hok : HOk X.prog X.w H' h') (hg : AllBare g') :
    Inv X pins σ H' { s with heap := h', gens := g', drawn := d', toks := t' } := by
  have neL : ∀ b o, X.s₀.heap.get? b = some o → b ≠ X.env.locals := fun b o e => Nat.ne_of_lt (Nat.lt_of_lt_of_le (Heap.lt_size e) I.ok.above)
  have neC : ∀ b o, X.s₀.heap.get? b = some o → b ∉ X.ex → b ∉ ch := fun b o e hx hb => by
    rcases (hch b hb).1 with z | z
    · exact hx z
    · exact absurd (Nat.lt_of_lt_of_le (Heap.lt_size e) z) (Nat.lt_irrefl _)
  have cellK : ∀ x c, X.env.cells.lookup x = some c → ∀ v, s.heap.IsCell c v → h'.IsCell c v := fun x c e v ⟨o, ho, hd⟩ => by
    have nch : c ∉ ch := fun z => (hch c z).2.2.1 x c e rfl
    by_cases hc : c ∈ X.fs
    · obtain ⟨sl, q⟩ := slot c o (I.cne x c e) hc nch ho (I.freeC x c e)
      exact ⟨_, q, hd⟩
    · exact ⟨o, keep c o (I.cne x c e) hc nch ho (I.freeC x c e), hd⟩
  refine ⟨I.ok, I.os, hg, ⟨fun b o e n hb hx => ?_, fun b o e n hb hx => ?_, fun b o e n hx => ?_, fun b o e hx => ?_, fun b xs e => tups b xs (I.base.tups b xs e), fun b o xs e => frzs b o xs (I.base.frzs b o xs e), fun b ps e => ?_⟩, ?_, fun x c e => ?_, ?_, fun x c e => ?_, fun p hp => ?_, hok, I.len⟩
  · exact keep b o (neL b o e) hb (neC b o e hx) (I.base.keep b o e n hb hx) (I.base.free b o e n hx)
  · obtain ⟨sl, e1⟩ := I.base.slot b o e n hb hx
    obtain ⟨sl', e2⟩ := slot b _ (neL b o e) hb (neC b o e hx) e1 (I.base.free b o e n hx)
    exact ⟨sl', e2⟩
  · obtain ⟨o', e1⟩ := I.base.there b o e hx
    exact free b o' (neC b o e hx) e1 (I.base.free b o e n hx)
  · obtain ⟨o', e1⟩ := I.base.there b o e hx
    exact there b o' (neC b o e hx) e1
  · obtain ⟨m1, e1⟩ := I.base.tbls b ps e
    obtain ⟨m2, e2⟩ := tbls b _ e1
    exact ⟨m1 ++ m2, by rw [e2, Array.append_assoc]⟩
  · obtain ⟨m, hn, hl⟩ := I.loc
    refine ⟨m, ns m hn, fun i x v e1 e2 e3 => ?_⟩
    obtain ⟨u, r, l⟩ := hl i x v e1 e2 e3
    refine ⟨u, r, ?_⟩
    rcases l with l | ⟨k, c, e, z⟩
    · exact .inl l
    · exact .inr ⟨k, c, e, cellK x c e _ z⟩
  · obtain ⟨v, z⟩ := I.cell x c e
    exact ⟨v, cellK x c e v z⟩
  · obtain ⟨m, ⟨o, _, _, ho, _⟩, _⟩ := I.loc
    exact free _ o (fun z => (hch _ z).2.1 rfl) ho I.free
  · obtain ⟨v, o, ho, hd⟩ := I.cell x c e
    exact free c o (fun z => (hch c z).2.2.1 x c e rfl) ho (I.freeC x c e)
  · obtain ⟨e, n, ne, nf, d⟩ := I.pin p hp
    have nch : p.1 ∉ ch := fun z => (hch p.1 z).2.2.2 p hp rfl
    exact ⟨keep p.1 p.2 ne nf nch e n, free p.1 p.2 nch e n, ne, nf, d⟩
/-- .. where the frame's own object is kept too -/
theorem Inv.un {t' : Nat} (I : Inv X pins σ H s) (u : Un X.fs [] H H' s.heap h') (hok : HOk X.prog X.w H' h') : Inv X pins σ H' { s with heap := h', toks := t' } := by
  obtain ⟨m, ⟨o, es, ep, ho, r⟩, _⟩ := id I.loc
  obtain ⟨sl, hL⟩ := u.any ho I.free (by simp)
  exact I.step (g' := s.gens) (d' := s.drawn) (ch := []) (fun _ z => nomatch z) (fun b o _ hb _ e n => u.keep b o e n hb (by simp)) (fun b o _ hb _ e n => u.slot b o e n hb (by simp)) (fun b o _ e n => u.free b o e n (by simp)) (fun b o _ e => u.there b o e (by simp)) u.tups u.frzs u.tbls (fun m' hm => by
    obtain ⟨o', es', ep', ho', r'⟩ := hm
    rw [ho] at ho'; cases ho'
    exact ⟨_, es', ep', hL, r'⟩) hok I.bare
/-- behind a call (or a comprehension's block): the slots of this frame may have changed too, the records at ch may have turned -/
theorem Inv.call {g' : Array GenState} {t' : Nat} {d' : Drawn} {ch : List Addr} (I : Inv X pins σ H s) (u : Un (frs X.stack) ch H H' s.heap h') (hok : HOk X.prog X.w H' h') (hg : AllBare g')
    (hch : ∀ b ∈ ch, (b ∈ X.ex ∨ X.s₀.heap.objs.size ≤ b) ∧ b ≠ X.env.locals ∧ (∀ x c, X.env.cells.lookup x = some c → c ≠ b) ∧ ∀ p ∈ X.pn ++ pins, p.1 ≠ b) :
    Inv X pins σ H' { s with heap := h', gens := g', drawn := d', toks := t' } := by
  obtain ⟨m, ⟨o, es, ep, ho, r⟩, _⟩ := id I.loc
  obtain ⟨sl, hL⟩ := u.any ho I.free fun z => (hch _ z).2.1 rfl
  exact I.step (ch := ch) hch (fun b o hL hb hc e n => u.keep b o e n (fun z => (List.mem_cons.mp (I.stkSub b z)).elim hL hb) hc) (fun b o _ _ hc e n => u.any e n hc) (fun b o hc e n => u.free b o e n hc) (fun b o hc e => u.there b o e hc) u.tups u.frzs u.tbls (fun m' hm => by
    obtain ⟨o', es', ep', ho', r'⟩ := hm
    rw [ho] at ho'; cases ho'
    exact ⟨_, es', ep', hL, r'⟩) hok hg
/-- an untracked record of ours (an iterator) has turned -/
theorem Inv.turned {t' : Nat} {it : Addr} (I : Inv X pins σ H s) (k : ∀ b o, b ≠ it → s.heap.get? b = some o → h'.get? b = some o) (hn : H it = none) (hL : it ≠ X.env.locals)
    (h1 : it ∈ X.ex ∨ X.s₀.heap.objs.size ≤ it) (h2 : ∀ x c, X.env.cells.lookup x = some c → c ≠ it) (h3 : ∀ p ∈ X.pn ++ pins, p.1 ≠ it) : Inv X pins σ H { s with heap := h', toks := t' } := by
  have nit : ∀ b u, H b = some u → b ≠ it := fun b u e z => by rw [z, hn] at e; cases e
  refine I.step (g' := s.gens) (d' := s.drawn) (ch := [it]) (fun b hb => ?_) (fun b o _ _ hc e _ => k b o (fun z => hc (by simp [z])) e) (fun b o _ _ hc e _ => ⟨o.slots, k b o (fun z => hc (by simp [z])) e⟩) (fun _ _ _ _ n => n)
    (fun b o hc e => ⟨o, k b o (fun z => hc (by simp [z])) e⟩) (fun _ _ e => e) (fun _ _ _ e => e) (fun b ps e => ⟨#[], by rw [e]; simp⟩) (fun m hm => ?_) (fun b u e => ?_) I.bare
  · have e : b = it := by simpa using hb
    subst e
    exact ⟨h1, hL, h2, h3⟩
  · obtain ⟨o, es, ep, ho, r⟩ := hm
    exact ⟨o, es, ep, k _ o (Ne.symm hL) ho, r⟩
  · refine (I.hok b u e).stay (fun c v hc q => k c v ?_ q) (fun _ q => q) fun _ _ q => q
    rcases hc with z | z
    · rw [z]; exact nit b u e
    · exact nit c _ z
theorem Inv.tok (I : Inv X pins σ H s) (t : Nat) : Inv X pins σ H { s with toks := t } := I.un (h' := s.heap) (t' := t) Un.refl I.hok
/-- all objects kept -/
theorem Inv.kept {t' : Nat} (I : Inv X pins σ H s) (k : ∀ b u, s.heap.get? b = some u → h'.get? b = some u) : Inv X pins σ H { s with heap := h', toks := t' } := I.un (Un.kept k) (I.hok.kept k)
/-- a new object laid and tracked -/
theorem Inv.laid {a : Addr} {o : HO} {t' : Nat} (I : Inv X pins σ H s) (k : ∀ b u, s.heap.get? b = some u → h'.get? b = some u) (hp : s.heap.objs.size ≤ a) (new : ObjOk X.prog X.w (upd H a o) h' a o) :
    Inv X pins σ (upd H a o) { s with heap := h', toks := t' } := I.un (Un.laid k hp (I.hok.fresh hp)) (I.hok.laid k hp new)
/-- an object written -/
theorem Inv.write {x e : Addr} {o : HO} {t' : Nat} (I : Inv X pins σ H s) (mu : Mut (H x)) (he : e = x ∨ H e = some (.own x)) (k : ∀ b u, b ≠ e → s.heap.get? b = some u → h'.get? b = some u) (heo : ∃ u, h'.get? e = some u)
    (new : ObjOk X.prog X.w (upd H x o) h' x o) : Inv X pins σ (upd H x o) { s with heap := h', toks := t' } := I.un (Un.write mu he k heo) (I.hok.write mu he k heo new)
theorem Inv.pins_of {pins' : List (Addr × Obj)} (I : Inv X pins σ H s) (h : ∀ p ∈ pins', s.heap.get? p.1 = some p.2 ∧ H p.1 = none ∧ p.1 ≠ X.env.locals ∧ p.1 ∉ X.fs ∧ ∀ v, p.2.data ≠ .cell v) : Inv X pins' σ H s :=
  ⟨I.ok, I.os, I.bare, I.base, I.loc, I.cell, I.free, I.freeC, fun p hp => (List.mem_append.mp hp).elim (fun z => I.pin p (List.mem_append_left _ z)) (h p), I.hok, I.len⟩

theorem nodup_ix {N : List Str} (hN : N.Nodup) {i j : Nat} {x : Str} (a : N[i]? = some x) (b : N[j]? = some x) : i = j := by
  obtain ⟨h1, e1⟩ := List.getElem?_eq_some_iff.mp a
  obtain ⟨h2, e2⟩ := List.getElem?_eq_some_iff.mp b
  exact (List.getElem_inj hN).mp (e1.trans e2.symm)

/-- a name is stored; what changed -/
theorem store_ok2 {M : Model} {A : Around} {E : Value → Shared → Prop} {i : Nat} {x : Str} {v : V} {u : Value} {Q : Unit → Shared → Prop} (I : Inv X pins σ H s) (hN : X.N.Nodup) (hi : X.N[i]? = some x) (hx : Loc X.env.scope x) (r : RelV v u)
    (h : ∀ s', Inv X pins (σ.set i (some v)) H s' → (∃ a, Heap.SameBut a s.heap s'.heap ∧ (a = X.env.locals ∨ X.env.cells.lookup x = some a)) → Q () s') (hf : X.fn x = true ∨ X.env.scope.names.lookup x = some .local := by first | exact .inl rfl | exact .inr rfl | assumption) : wpAny M A (storeName X.env x u) Q E s := by
  obtain ⟨m, hn, hl⟩ := id I.loc
  have hcls : (X.env.scope.kind == .class || (X.env.scope.kind == .module && X.env.locals != X.env.globals)) = false := by rw [I.ok.kind]; rfl
  have hiσ : i < σ.length := by rw [I.len]; exact (List.getElem?_eq_some_iff.mp hi).1
  have cne := I.cne
  have tracked : ∀ {a : Addr} {h' : Heap}, (∃ o, s.heap.get? a = some o ∧ H a = none) → Heap.SameBut a s.heap h' → HOk X.prog X.w H h' := fun {a h'} ha hs b ob e => by
    obtain ⟨_, _, hfree⟩ := ha
    refine (I.hok b ob e).stay (fun c w' hc q => (hs.2 c ?_).trans q) (fun _ q => q) fun _ _ q => q
    rintro rfl
    rcases hc with rfl | hc
    · rw [hfree] at e; cases e
    · rw [hfree] at hc; cases hc
  rcases hx with hk | hk
  · refine wpAny_storeName_local hk hn (fun h' hn' hs => ?_) hcls
    obtain ⟨oL, _, _, hoL, _⟩ := id hn
    refine h _ ⟨I.ok, I.os, I.bare, ⟨fun b o e n hb hx => ?_, fun b o e n hb hx => ?_, I.base.free, fun b o e hx => ?_, I.base.tups, I.base.frzs, I.base.tbls⟩, ⟨_, hn', fun j y v' e1 e2 e3 => ?_⟩, fun y c e => ?_, I.free, I.freeC, fun p hp => ?_, tracked ⟨oL, hoL, I.free⟩ hs, by simpa using I.len⟩ ⟨_, hs, .inl rfl⟩
    · exact (hs.2 b (Nat.ne_of_lt (Nat.lt_of_lt_of_le (Heap.lt_size e) I.ok.above))).trans (I.base.keep b o e n hb hx)
    · obtain ⟨sl, e1⟩ := I.base.slot b o e n hb hx
      exact ⟨sl, (hs.2 b (Nat.ne_of_lt (Nat.lt_of_lt_of_le (Heap.lt_size e) I.ok.above))).trans e1⟩
    · obtain ⟨o', e1⟩ := I.base.there b o e hx
      exact ⟨o', (hs.2 b (Nat.ne_of_lt (Nat.lt_of_lt_of_le (Heap.lt_size e) I.ok.above))).trans e1⟩
    · by_cases hj : j = i
      · subst hj
        rw [hi] at e1; cases e1
        rw [List.getElem?_set_self hiσ] at e2
        cases e2
        exact ⟨u, r, .inl ⟨hk, by simp⟩⟩
      · rw [List.getElem?_set_ne (Ne.symm hj)] at e2
        obtain ⟨u', r', q⟩ := hl j y v' e1 e2 e3
        refine ⟨u', r', ?_⟩
        rcases q with ⟨k, e⟩ | ⟨k, c, e, z⟩
        · refine .inl ⟨k, ?_⟩
          have : y ≠ x := fun e => hj (nodup_ix hN e1 (e ▸ hi))
          simp [this, e]
        · exact .inr ⟨k, c, e, z.sameBut hs (cne y c e)⟩
    · obtain ⟨w', z⟩ := I.cell y c e
      exact ⟨w', z.sameBut hs (cne y c e)⟩
    · obtain ⟨e, n, ne, nf, d⟩ := I.pin p hp
      exact ⟨(hs.2 p.1 ne).trans e, n, ne, nf, d⟩
  · have hfn : X.fn x = true := by
      rcases hf with z | z
      · exact z
      · rw [z] at hk; cases hk
    obtain ⟨c, hc⟩ := I.ok.has x (.inl hk)
    obtain ⟨w', z⟩ := I.cell x c hc
    refine wpAny_storeName_cell I.ok.kind hk hc z (fun h' hc' hs => ?_)
    obtain ⟨oc, hoc, hocd⟩ := id z
    refine h { s with heap := h' } ⟨I.ok, I.os, I.bare, ⟨fun b o e n hb hx => ?_, fun b o e n hb hx => ?_, I.base.free, fun b o e hx => ?_, I.base.tups, I.base.frzs, I.base.tbls⟩, ⟨m, hn.sameBut hs (Ne.symm (cne x c hc)), fun j y v' e1 e2 e3 => ?_⟩, fun y c' e => ?_, I.free, I.freeC, fun p hp => ?_, tracked ⟨oc, hoc, I.freeC x c hc⟩ hs, by simpa using I.len⟩ ⟨c, hs, .inr hc⟩
    · exact (hs.2 b (Nat.ne_of_lt (Nat.lt_of_lt_of_le (Heap.lt_size e) (I.ok.cab x c hfn hc)))).trans (I.base.keep b o e n hb hx)
    · obtain ⟨sl, e1⟩ := I.base.slot b o e n hb hx
      exact ⟨sl, (hs.2 b (Nat.ne_of_lt (Nat.lt_of_lt_of_le (Heap.lt_size e) (I.ok.cab x c hfn hc)))).trans e1⟩
    · obtain ⟨o', e1⟩ := I.base.there b o e hx
      exact ⟨o', (hs.2 b (Nat.ne_of_lt (Nat.lt_of_lt_of_le (Heap.lt_size e) (I.ok.cab x c hfn hc)))).trans e1⟩
    · by_cases hj : j = i
      · subst hj
        rw [hi] at e1; cases e1
        rw [List.getElem?_set_self hiσ] at e2
        cases e2
        exact ⟨u, r, .inr ⟨.inl hk, c, hc, hc'⟩⟩
      · rw [List.getElem?_set_ne (Ne.symm hj)] at e2
        obtain ⟨u', r', q⟩ := hl j y v' e1 e2 e3
        refine ⟨u', r', ?_⟩
        rcases q with q | ⟨k, c', e, z'⟩
        · exact .inl q
        · refine .inr ⟨k, c', e, z'.sameBut hs ?_⟩
          rintro rfl
          exact hj (nodup_ix hN e1 (I.ok.inj _ _ _ e hc ▸ hi))
    · by_cases hcc : c' = c
      · subst hcc; exact ⟨_, hc'⟩
      · obtain ⟨w2, z2⟩ := I.cell y c' e
        exact ⟨w2, z2.sameBut hs hcc⟩
    · obtain ⟨e, n, ne, nf, d⟩ := I.pin p hp
      refine ⟨(hs.2 p.1 ?_).trans e, n, ne, nf, d⟩
      intro q
      rw [q, hoc] at e
      have q' : oc = p.2 := Option.some.inj e
      exact d w' (by rw [← q']; exact hocd)
theorem store_ok {M : Model} {A : Around} {E : Value → Shared → Prop} {i : Nat} {x : Str} {v : V} {u : Value} {Q : Unit → Shared → Prop} (I : Inv X pins σ H s) (hN : X.N.Nodup) (hi : X.N[i]? = some x) (hx : Loc X.env.scope x) (r : RelV v u)
    (h : ∀ s', Inv X pins (σ.set i (some v)) H s' → Q () s') (hf : X.fn x = true ∨ X.env.scope.names.lookup x = some .local := by first | exact .inl rfl | exact .inr rfl | assumption) : wpAny M A (storeName X.env x u) Q E s :=
  store_ok2 I hN hi hx r (fun s' I' _ => h s' I') hf
/-- behind a call or a block, the state as it is -/
theorem Inv.call' {s' : Shared} {ch : List Addr} (I : Inv X pins σ H s) (ho : s'.os = s.os) (u : Un (frs X.stack) ch H H' s.heap s'.heap) (hok : HOk X.prog X.w H' s'.heap) (hg : AllBare s'.gens)
    (hch : ∀ b ∈ ch, (b ∈ X.ex ∨ X.s₀.heap.objs.size ≤ b) ∧ b ≠ X.env.locals ∧ (∀ x c, X.env.cells.lookup x = some c → c ≠ b) ∧ ∀ p ∈ X.pn ++ pins, p.1 ≠ b) : Inv X pins σ H' s' := by
  obtain ⟨h', g', d', t', o'⟩ := s'
  have e : o' = s.os := ho
  subst e
  exact I.call (g' := g') (t' := t') (d' := d') u hok hg hch
end

/-! ### the judgements -/
/-- an exception: its class, its own dict's address (where it has one), the abstract heap behind it -/
abbrev XK := Value → Option Addr → Hp → Prop
abbrev St := List (Option V)
abbrev VK := V → Hp → Prop
/-- an expression's reading; a test's; an argument list's -/
abbrev TE := St → Hp → VK → Prop
abbrev TT := St → Hp → (Bool → Hp → Prop) → Prop
abbrev TA := St → Hp → (List V → Hp → Prop) → Prop
/-- what is wanted behind a statement -/
structure Ends where
  nx : St → Hp → Prop
  rt : VK
  bk : St → Hp → Prop := fun _ _ => False
  ct : St → Hp → Prop := fun _ _ => False
abbrev TS := Ends → St → Hp → Prop

def EP (X : Cx) (pins : List (Addr × Obj)) (σ : St) (Q : VK) (u : Value) (s' : Shared) : Prop := ∃ v H', Inv X pins σ H' s' ∧ RelV v u ∧ Q v H'
def TP (X : Cx) (pins : List (Addr × Obj)) (σ : St) (Q : Bool → Hp → Prop) (b : Bool) (s' : Shared) : Prop := ∃ H', Inv X pins σ H' s' ∧ Q b H'
def AP (X : Cx) (pins : List (Addr × Obj)) (σ : St) (Q : List V → Hp → Prop) (us : List Value) (s' : Shared) : Prop := ∃ vs H', Inv X pins σ H' s' ∧ Vals vs us ∧ Q vs H'
def SP (X : Cx) (pins : List (Addr × Obj)) (D : Ends) (f : Flow) (s' : Shared) : Prop :=
  match f with
  | .next => ∃ σ' H', Inv X pins σ' H' s' ∧ D.nx σ' H'
  | .brk => ∃ σ' H', Inv X pins σ' H' s' ∧ D.bk σ' H'
  | .cont => ∃ σ' H', Inv X pins σ' H' s' ∧ D.ct σ' H'
  | .ret u => ∃ v σ' H', Inv X pins σ' H' s' ∧ RelV v u ∧ D.rt v H'

def PE (X : Cx) (e : Expr) (t : TE) : Prop :=
  ∀ (pins : List (Addr × Obj)) (s : Shared) (σ : St) (H : Hp) (Q : VK), Inv X pins σ H s → t σ H Q → wpAny (model X.prog X.w) X.A (eval e X.env) (EP X pins σ Q) X.xe s
def PT (X : Cx) (e : Expr) (t : TT) : Prop :=
  ∀ (pins : List (Addr × Obj)) (s : Shared) (σ : St) (H : Hp) (Q : Bool → Hp → Prop), Inv X pins σ H s → t σ H Q → wpAny (model X.prog X.w) X.A (isTrue e X.env (eval e X.env)) (TP X pins σ Q) X.xe s
/-- a test whatever its 'whole' is (and, or) -/
def PW (X : Cx) (e : Expr) (t : TT) : Prop :=
  ∀ (whole : Sem Value) (pins : List (Addr × Obj)) (s : Shared) (σ : St) (H : Hp) (Q : Bool → Hp → Prop), Inv X pins σ H s → t σ H Q → wpAny (model X.prog X.w) X.A (isTrue e X.env whole) (TP X pins σ Q) X.xe s
theorem PW.pt {X : Cx} {e : Expr} {t : TT} (h : PW X e t) : PT X e t := h _
/-- an argument list (no star), from the left -/
def PA (X : Cx) (es : List Expr) (t : TA) : Prop :=
  ∀ (pos : Pos) (pins : List (Addr × Obj)) (s : Shared) (σ : St) (H : Hp) (Q : List V → Hp → Prop), Inv X pins σ H s → t σ H Q → wpAny (model X.prog X.w) X.A (spliced (backTo pos (starEach es X.env))) (AP X pins σ Q) X.xe s
def PS (X : Cx) (st : Stmt) (t : TS) : Prop :=
  ∀ (pins : List (Addr × Obj)) (s : Shared) (σ : St) (H : Hp) (D : Ends), Inv X pins σ H s → t D σ H → wpAny (model X.prog X.w) X.A (exec st X.env) (SP X pins D) X.xe s
def PSs (X : Cx) (st : List Stmt) (t : TS) : Prop :=
  ∀ (pins : List (Addr × Obj)) (s : Shared) (σ : St) (H : Hp) (D : Ends), Inv X pins σ H s → t D σ H → wpAny (model X.prog X.w) X.A (execs st X.env) (SP X pins D) X.xe s
/-- weaken the end -/
theorem thn {α : Type} {t : Sem α} {Q Q' : α → Shared → Prop} {M : Model} {A : Around} {E : Value → Shared → Prop} {s : Shared} (h : wpAny M A t Q E s) (hQ : ∀ a s, Q a s → Q' a s) : wpAny M A t Q' E s := wpAny_mono h hQ fun _ _ x => x
end L2

namespace L2
open PySem PySem.Spec PyProof.Rows
section
variable {X : Cx}

/-- two expressions in a row -/
theorem bin {a b : Expr} {ta tb : TE} (ha : PE X a ta) (hb : PE X b tb) {pins : List (Addr × Obj)} {s : Shared} {σ : St} {H : Hp} {R : V → V → Hp → Prop} (I : Inv X pins σ H s) (h : ta σ H fun x H1 => tb σ H1 fun y H2 => R x y H2)
    {α : Type} {Q : α → Shared → Prop} {f : Value → Value → Sem α}
    (hf : ∀ v u s2 x y H2, Inv X pins σ H2 s2 → RelV x v → RelV y u → R x y H2 → wpAny (model X.prog X.w) X.A (f v u) Q X.xe s2) :
    wpAny (model X.prog X.w) X.A (eval a X.env) (fun v s₁ => wpAny (model X.prog X.w) X.A (eval b X.env) (fun u s₂ => wpAny (model X.prog X.w) X.A (f v u) Q X.xe s₂) X.xe s₁) X.xe s := by
  refine thn (ha pins s σ H _ I h) fun v s1 ⟨x, H1, I1, r1, q1⟩ => ?_
  refine thn (hb pins s1 σ H1 _ I1 q1) fun u s2 ⟨y, H2, I2, r2, q2⟩ => ?_
  exact hf v u s2 x y H2 I2 r1 r2 q2

/-! ### names and constants -/
def tVar (i : Nat) : TE := fun σ H Q => ∃ v, σ[i]? = some (some v) ∧ Q v H
def tC (v : V) : TE := fun _ H Q => Q v H
theorem pe_var {i : Nat} {x : Str} {pos : Pos} (hN : X.N[i]? = some x) (hv : Vis X.env.scope x) (hd : (x == ("__debug__" : Str)) = false := by decide) (hcd : (x == ("__classdict__" : Str)) = false := by decide) : PE X (.Name x pos) (tVar i) := by
  intro pins s σ H Q I h
  obtain ⟨v, e, h⟩ := h
  obtain ⟨m, hn, hl⟩ := I.loc
  obtain ⟨u, r, l⟩ := hl i x v hN e hv
  have fin : EP X pins σ Q u s := ⟨v, H, I, r, h⟩
  rcases l with ⟨hk, hm⟩ | ⟨hk, c, hc, hcell⟩
  · exact wpAny_Name (wpAny_loadName_local I.ok.kind hk hn hm fin) hd
  · rcases hk with hk | hk
    · exact wpAny_Name (wpAny_loadName_cell I.ok.kind hk hc hcell fin) hd
    · exact wpAny_Name (wpAny_loadName_free I.ok.kind hk hc hcell fin hcd) hd
theorem pe_int {i j pos} : PE X (.Constant (.int i) j pos) (tC (.int i)) := fun _ _ _ H _ I h => wpAny_Constant_int ⟨.int i, H, I.tok _, ⟨_, rfl⟩, h⟩
theorem pe_bl {b j pos} : PE X (.Constant (.bool b) j pos) (tC (.bl b)) := fun _ _ _ H _ I h => Constant_bool ⟨.bl b, H, I, rfl, h⟩
theorem pe_non {j pos} : PE X (.Constant .none j pos) (tC .non) := fun _ _ _ H _ I h => Constant_none ⟨.non, H, I, rfl, h⟩
theorem pe_str {x j pos} : PE X (.Constant (.str x) j pos) (tC (.str x)) := fun _ _ _ H _ I h => Calls.Constant_str ⟨.str x, H, I.tok _, ⟨_, rfl⟩, h⟩

/-- a global name of the def -/
def Gl (X : Cx) (x : Str) : Prop := X.env.kindOf x = some .globalImplicit
theorem ld_glob {E : Value → Shared → Prop} {pins : List (Addr × Obj)} {s : Shared} {σ : St} {H : Hp} {x : Str} {u : Value} {pos : Pos} {Q : Value → Shared → Prop} (I : Inv X pins σ H s) (hg : Gl X x) (hm : X.mg x = some u) (h : Q u s)
    (hd : (x == ("__debug__" : Str)) = false := by decide) : wpAny (model X.prog X.w) X.A (eval (.Name x pos) X.env) Q E s :=
  Calls.Name_function_global I.ok.kind hg (Calls.loadGlobal_global (by rw [I.ok.glob]; exact I.mod.glob.keeps I.bk) hm h) hd
theorem ld_blt {E : Value → Shared → Prop} {pins : List (Addr × Obj)} {s : Shared} {σ : St} {H : Hp} {x : Str} {u : Value} {pos : Pos} {Q : Value → Shared → Prop} (I : Inv X pins σ H s) (hg : Gl X x) (hm : X.mg x = none) (hv : bootBuiltins x = some u) (h : Q u s)
    (hn : x ≠ "__name__" := by decide) (hd : (x == ("__debug__" : Str)) = false := by decide) : wpAny (model X.prog X.w) X.A (eval (.Name x pos) X.env) Q E s := by
  obtain ⟨mb, h1, h2⟩ := I.mod.blt
  exact Calls.Name_function_global I.ok.kind hg (Calls.loadGlobal_builtin (by rw [I.ok.glob]; exact I.mod.glob.keeps I.bk) hm (by rw [I.ok.blt]; exact h1.keeps I.bk) ((h2 x hn).trans hv) h) hd
/-- a module's constant, a class, a function, as a value -/
theorem pe_glob {x : Str} {v : V} {u : Value} {pos : Pos} (hg : Gl X x) (hm : X.mg x = some u) (r : RelV v u) (hd : (x == ("__debug__" : Str)) = false := by decide) : PE X (.Name x pos) (tC v) :=
  fun _ _ _ H _ I h => ld_glob I hg hm ⟨v, H, I, r, h⟩ hd
theorem pe_bltn {x : Str} {v : V} {u : Value} {pos : Pos} (hg : Gl X x) (hm : X.mg x = none) (hv : bootBuiltins x = some u) (r : RelV v u) (hn : x ≠ "__name__" := by decide) (hd : (x == ("__debug__" : Str)) = false := by decide) : PE X (.Name x pos) (tC v) :=
  fun _ _ _ H _ I h => ld_blt I hg hm hv ⟨v, H, I, r, h⟩ hn hd

/-! ### arithmetic -/
variable {a b : Expr} {ta tb : TE} {pos : Pos}

/-! ### comparisons -/
def PC (X : Cx) (op : CmpOp) (a b : Expr) (t : TE) : Prop :=
  ∀ (pins : List (Addr × Obj)) (s : Shared) (σ : St) (H : Hp) (Q : VK), Inv X pins σ H s → t σ H Q →
    wpAny (model X.prog X.w) X.A (eval a X.env) (fun v s₁ => wpAny (model X.prog X.w) X.A (eval b X.env) (fun u s₂ => wpAny (model X.prog X.w) X.A (compareOp op v u) (EP X pins σ Q) X.xe s₂) X.xe s₁) X.xe s
/-- a comparison as a value, as a test -/
def tB (t : TE) : TT := fun σ H Q => t σ H fun x H1 => ∃ c, x = .bl c ∧ Q c H1
theorem pt_cmp {op : CmpOp} {t : TE} (h : PC X op a b t) (h1 : behindInMarks op b = false := by first | exact nobehind _ (by decide) (by decide) | rfl) : PT X (.Compare a [op] [b] pos) (tB t) := by
  intro pins s σ H Q I hw
  refine wpAny_isTrue_Compare1 (thn (h pins s σ H _ I hw) fun v s1 h1 => thn h1 fun u s2 h2 => thn h2 fun c s3 ⟨x, H1, I1, r1, q1⟩ => ?_) h1
  obtain ⟨d, rfl, q⟩ := q1
  cases r1
  exact wpAny_truthy_bool ⟨H1, I1, q⟩
/-- an expression whose value is a bool, as a test -/
theorem pt_val {e : Expr} {t : TE} (h : PE X e t) (he : ∀ whole, isTrue e X.env whole = (do let v ← whole; standAt e.pos; holding [v] (truthy v)) := by intro _; rfl) : PT X e (tB t) := by
  intro pins s σ H Q I hw
  refine isTrue_plain (thn (h pins s σ H _ I hw) fun v s1 ⟨x, H1, I1, r1, q1⟩ => ?_) (he _)
  obtain ⟨d, rfl, q⟩ := q1
  cases r1
  exact wpAny_truthy_bool ⟨H1, I1, q⟩

/-! ### and, or, not -/
variable {tA tB' : TT} {rest : List Expr}
def tOr (t u : TT) : TT := fun σ H Q => t σ H fun c H1 => if c = true then Q true H1 else u σ H1 Q
def tNot (t : TT) : TT := fun σ H Q => t σ H fun c H1 => Q (!c) H1
theorem pw_or1 (ha : PT X a tA) : PW X (.BoolOp .Or [a] pos) tA := by
  intro wh pins s σ H Q I h
  refine isTrue_or (thn (ha pins s σ H Q I h) fun c s1 e => ?_)
  cases c with
  | false => exact isTrue_or_nil e
  | true => exact e
theorem pw_or (ha : PT X a tA) (hb : PW X (.BoolOp .Or (b :: rest) pos) tB') : PW X (.BoolOp .Or (a :: b :: rest) pos) (tOr tA tB') := by
  intro wh pins s σ H Q I h
  refine isTrue_or (thn (ha pins s σ H _ I h) fun c s1 ⟨H1, I1, q1⟩ => ?_)
  cases c with
  | true => exact ⟨H1, I1, q1⟩
  | false => exact hb wh pins s1 σ H1 Q I1 q1
theorem pt_not (ha : PT X a tA) : PT X (.UnaryOp .Not a pos) (tNot tA) := by
  intro pins s σ H Q I h
  exact isTrue_not (ha pins s σ H (fun c H1 => Q (!c) H1) I h)
/-- .. as values (bools) -/
def tAndV (ta tb : TE) : TE := fun σ H Q => ta σ H fun x H1 => ∃ c, x = .bl c ∧ if c = true then tb σ H1 Q else Q (.bl false) H1
def tNotV (ta : TE) : TE := fun σ H Q => ta σ H fun x H1 => ∃ c, x = .bl c ∧ Q (.bl (!c)) H1
theorem pe_one {op} {t : TE} (h : PE X a t) : PE X (.BoolOp op [a] pos) t := fun pins s σ H Q I hw => BoolOp_one (h pins s σ H Q I hw)
theorem pe_and (ha : PE X a ta) (hb : PE X (.BoolOp .And (b :: rest) pos) tb) : PE X (.BoolOp .And (a :: b :: rest) pos) (tAndV ta tb) := by
  intro pins s σ H Q I h
  refine BoolOp_and (thn (ha pins s σ H _ I h) fun v s1 ⟨x, H1, I1, r1, q1⟩ => ?_)
  obtain ⟨c, rfl, q1⟩ := q1
  cases r1
  refine wpAny_truthy_bool ?_
  cases c with
  | true => exact hb pins s1 σ H1 Q I1 q1
  | false => exact ⟨.bl false, H1, I1, rfl, q1⟩
theorem pe_not (ha : PE X a ta) : PE X (.UnaryOp .Not a pos) (tNotV ta) := by
  intro pins s σ H Q I h
  refine UnaryOp_ (thn (ha pins s σ H _ I h) fun v s1 ⟨x, H1, I1, r1, q1⟩ => ?_)
  obtain ⟨c, rfl, q1⟩ := q1
  cases r1
  exact not_of (wpAny_truthy_bool ⟨.bl (!c), H1, I1, rfl, q1⟩)
/-- a if t else b -/
def tIf (t : TT) (ta tb : TE) : TE := fun σ H Q => t σ H fun c H1 => if c = true then ta σ H1 Q else tb σ H1 Q
theorem pe_ifExp {c : Expr} (hc : PT X c tA) (ha : PE X a ta) (hb : PE X b tb) : PE X (.IfExp c a b pos) (tIf tA ta tb) := by
  intro pins s σ H Q I h
  refine wpAny_IfExp (thn (hc pins s σ H _ I h) fun d s1 ⟨H1, I1, q1⟩ => ?_)
  cases d with
  | true => exact ha pins s1 σ H1 Q I1 q1
  | false => exact hb pins s1 σ H1 Q I1 q1
end
end L2

namespace L2
open PySem PySem.Spec PyProof.Rows

/-! ### a list, a tuple that is read: tracked, frozen, or an object of the module -/
def SqL (K : PySem.W.Frag) (H : Hp) (a : Addr) (xs : List V) : Prop :=
  Rd H a (.lst xs) ∨
    ∃ (o : Obj) (its : Array Value) (n : Nat), K.lookup a = some o ∧ o.cls = .type "list" ∧ o.dict = none ∧ o.data = .seq its n ∧ its.size ≤ sizeLine ∧ Vals xs its.toList
def SqT (K : PySem.W.Frag) (H : Hp) (a : Addr) (xs : List V) : Prop :=
  Rd H a (.tup xs) ∨
    ∃ (o : Obj) (its : Array Value) (n : Nat), K.lookup a = some o ∧ o.cls = .type "tuple" ∧ o.data = .seq its n ∧ its.size ≤ sizeLine ∧ Vals xs its.toList
def absV : Value → Option V
  | .none => some .non
  | .bool b => some (.bl b)
  | .int i _ => some (.int i)
  | .str x _ => some (.str x)
  | .bytes b _ => some (.byt b)
  | .float b _ => some (.flt b)
  | .ref a => some (.ref a)
  | .type n => some (.ty n)
  | _ => none
theorem RelV.abs {x : V} {u : Value} (r : RelV x u) : absV u = some x := by
  cases x with
  | non => cases r; rfl
  | bl _ => cases r; rfl
  | int _ => obtain ⟨t, rfl⟩ := r; rfl
  | str _ => obtain ⟨t, rfl⟩ := r; rfl
  | byt _ => obtain ⟨t, rfl⟩ := r; rfl
  | flt _ => obtain ⟨t, rfl⟩ := r; rfl
  | ref _ => cases r; rfl
  | ty _ => cases r; rfl
theorem RelV.inj {x y : V} {u : Value} (r : RelV x u) (q : RelV y u) : x = y := Option.some.inj (r.abs.symm.trans q.abs)
theorem Vals.inj : ∀ {xs ys : List V} {us : List Value}, Vals xs us → Vals ys us → xs = ys
  | _, _, _, .nil, .nil => rfl
  | _, _, _, .cons r t, .cons r' t' => by rw [r.inj r', Vals.inj t t']
section
variable {X : Cx} {pins : List (Addr × Obj)} {σ : St} {H : Hp} {s : Shared} {a : Addr} {xs ys : List V}
theorem SqL.of {K : PySem.W.Frag} (h : H a = some (.lst xs)) : SqL K H a xs := .inl (.inl h)
theorem SqT.of {K : PySem.W.Frag} (h : H a = some (.tup xs)) : SqT K H a xs := .inl (.inl h)
theorem Inv.list (I : Inv X pins σ H s) (h : SqL X.K H a xs) : ∃ its : List Value, Vals xs its ∧ PlainL s.heap a its.toArray ∧ xs.length ≤ sizeLine := by
  rcases h with h | ⟨o, its, n, hk, hc, hd, hs, hz, r⟩
  · obtain ⟨z, its, n, r, e⟩ := h.ok I.hok
    exact ⟨its, r, ⟨_, n, e, rfl, rfl, rfl⟩, z⟩
  · refine ⟨its.toList, r, ⟨o, n, I.kIn a o hk, hc, hd, by simpa using hs⟩, ?_⟩
    have e := r.length
    simp only [Array.length_toList] at e
    omega
theorem Inv.tuple (I : Inv X pins σ H s) (h : SqT X.K H a xs) : ∃ its : List Value, Vals xs its ∧ IsTup s.heap a its.toArray ∧ xs.length ≤ sizeLine := by
  rcases h with h | ⟨o, its, n, hk, hc, hs, hz, r⟩
  · obtain ⟨z, its, r, p⟩ := h.ok I.hok
    exact ⟨its, r, p, z⟩
  · refine ⟨its.toList, r, ⟨o, I.kIn a o hk, hc, n, by simpa using hs⟩, ?_⟩
    have e := r.length
    simp only [Array.length_toList] at e
    omega
theorem Inv.list_inj (I : Inv X pins σ H s) (h : SqL X.K H a xs) (h' : SqL X.K H a ys) : xs = ys := by
  obtain ⟨its, r, ⟨o, n, e, _, _, d⟩, _⟩ := I.list h
  obtain ⟨its', r', ⟨o', n', e', _, _, d'⟩, _⟩ := I.list h'
  rw [e] at e'; cases e'
  rw [d] at d'
  injection d' with d1 _
  have : its = its' := by simpa using congrArg Array.toList d1
  subst this
  exact r.inj r'
theorem Inv.tuple_inj (I : Inv X pins σ H s) (h : SqT X.K H a xs) (h' : SqT X.K H a ys) : xs = ys := by
  obtain ⟨its, r, ⟨o, e, _, n, d⟩, _⟩ := I.tuple h
  obtain ⟨its', r', ⟨o', e', _, n', d'⟩, _⟩ := I.tuple h'
  rw [e] at e'; cases e'
  rw [d] at d'
  injection d' with d1 _
  have : its = its' := by simpa using congrArg Array.toList d1
  subst this
  exact r.inj r'
end

/-! ### another wish about exceptions -/
abbrev Cx.wish (X : Cx) (E : Value → Shared → Prop) : Cx := { X with xe := E }
/-- no exception leaves -/
abbrev Cx.nox (X : Cx) : Cx := X.wish fun _ _ => False
theorem Cx.Ok.wish {X : Cx} (ok : X.Ok) (E : Value → Shared → Prop) : (X.wish E).Ok :=
  ⟨ok.mod, ok.kind, ok.glob, ok.blt, ok.above, ok.inj, ok.has, ok.cab, ok.hd, ok.frames, ok.stk, ok.exf, ok.bs, ok.bsz, ok.noex, ok.exfs, ok.funs, ok.frf⟩
theorem Cx.Ok.unwish {X : Cx} {E : Value → Shared → Prop} (ok : (X.wish E).Ok) : X.Ok :=
  ⟨ok.mod, ok.kind, ok.glob, ok.blt, ok.above, ok.inj, ok.has, ok.cab, ok.hd, ok.frames, ok.stk, ok.exf, ok.bs, ok.bsz, ok.noex, ok.exfs, ok.funs, ok.frf⟩
section
variable {X : Cx} {pins : List (Addr × Obj)} {σ : St} {H : Hp} {s : Shared} {E : Value → Shared → Prop}
theorem Inv.wish (I : Inv X pins σ H s) (E : Value → Shared → Prop) : Inv (X.wish E) pins σ H s := ⟨I.ok.wish E, I.os, I.bare, I.base, I.loc, I.cell, I.free, I.freeC, I.pin, I.hok, I.len⟩
theorem Inv.unwish (I : Inv (X.wish E) pins σ H s) : Inv X pins σ H s := ⟨I.ok.unwish, I.os, I.bare, I.base, I.loc, I.cell, I.free, I.freeC, I.pin, I.hok, I.len⟩
theorem SP.unwish {D : Ends} {f : Flow} {s' : Shared} (h : SP (X.wish E) pins D f s') : SP X pins D f s' := by
  cases f with
  | next => obtain ⟨σ', H', I, q⟩ := h; exact ⟨σ', H', I.unwish, q⟩
  | brk => obtain ⟨σ', H', I, q⟩ := h; exact ⟨σ', H', I.unwish, q⟩
  | cont => obtain ⟨σ', H', I, q⟩ := h; exact ⟨σ', H', I.unwish, q⟩
  | ret u => obtain ⟨v, σ', H', I, r, q⟩ := h; exact ⟨v, σ', H', I.unwish, r, q⟩
theorem PSs.nox {st : List Stmt} {t : TS} (h : PSs X.nox st t) : PSs X st t := fun pins s σ H D I hw =>
  wpAny_mono (h pins s σ H D (I.wish _) hw) (fun _ _ q => q.unwish) fun _ _ z => False.elim z
end

/-! ### blocks and small statements -/
section
variable {X : Cx} {st : Stmt} {rest : List Stmt} {t u : TS} {e : Expr} {te : TE} {pos : Pos}
def tNext : TS := fun D σ H => D.nx σ H
def tSeq (t u : TS) : TS := fun D σ H => t { D with nx := u D } σ H
theorem pss_nil : PSs X [] tNext := fun _ _ σ H _ I h => wpAny_execs_nil ⟨σ, H, I, h⟩
theorem pss_cons (h1 : PS X st t) (h2 : PSs X rest u) : PSs X (st :: rest) (tSeq t u) := by
  intro pins s σ H D I h
  refine wpAny_execs_cons (thn (h1 pins s σ H { D with nx := u D } I h) fun f s1 q => ?_)
  cases f with
  | next =>
    obtain ⟨σ', H', I', q⟩ := q
    exact h2 pins s1 σ' H' D I' q
  | ret v => exact q
  | brk => exact q
  | cont => exact q
theorem pss_one (h1 : PS X st t) : PSs X [st] t := by
  intro pins s σ H D I h
  refine wpAny_execs_cons (thn (h1 pins s σ H D I h) fun f s1 q => ?_)
  cases f with
  | next => exact wpAny_execs_nil q
  | ret v => exact q
  | brk => exact q
  | cont => exact q
/-- in a def's body nothing is shown -/
theorem Inv.quiet {pins : List (Addr × Obj)} {σ : St} {H : Hp} {s : Shared} (I : Inv X pins σ H s) : interactive X.env = false := by simp [interactive, I.ok.kind]
/-- an expression whose value is dropped -/
def tDrop (te : TE) : TS := fun D σ H => te σ H fun _ H1 => D.nx σ H1
theorem ps_expr (he : PE X e te) (hs : swapsWith e none pos.line X.env = pure false := by rfl) : PS X (.Expr e pos) (tDrop te) := by
  intro pins s σ H D I h
  exact wpAny_Expr_any (thn (he pins s σ H _ I h) fun v s1 ⟨x, H1, I1, r1, q1⟩ => ⟨σ, H1, I1, q1⟩) I.quiet hs
def tRet (te : TE) : TS := fun D σ H => te σ H D.rt
theorem ps_ret (he : PE X e te) : PS X (.Return (some e) pos) (tRet te) := by
  intro pins s σ H D I h
  exact wpAny_Return_some (thn (he pins s σ H _ I h) fun v s1 ⟨x, H1, I1, r1, q1⟩ => ⟨x, σ, H1, I1, r1, q1⟩)
def tIfS (c : TT) (t u : TS) : TS := fun D σ H => c σ H fun b H1 => if b = true then t D σ H1 else u D σ H1
theorem ps_if {c : Expr} {a b : List Stmt} {tc : TT} (hc : PT X c tc) (ha : PSs X a t) (hb : PSs X b u) : PS X (.If c a b pos) (tIfS tc t u) := by
  intro pins s σ H D I h
  refine wpAny_If (thn (hc pins s σ H _ I h) fun d s1 ⟨H1, I1, q1⟩ => ?_)
  cases d with
  | true => exact ha pins s1 σ H1 D I1 q1
  | false => exact hb pins s1 σ H1 D I1 q1
/-- code that the proof never comes to -/
def tNever : TS := fun _ _ _ => False
theorem ps_never : PS X st tNever := fun _ _ _ _ _ _ h => h.elim
end

/-! ### targets -/
abbrev TG := V → St → Hp → (St → Hp → Prop) → Prop
abbrev TGs := List V → St → Hp → (St → Hp → Prop) → Prop
def PG (X : Cx) (target : Expr) (t : TG) : Prop :=
  ∀ (pins : List (Addr × Obj)) (s : Shared) (σ : St) (H : Hp) (v : V) (u : Value) (Q : St → Hp → Prop), Inv X pins σ H s → RelV v u → t v σ H Q →
    wpAny (model X.prog X.w) X.A (assign target X.env u) (fun _ s' => ∃ σ' H', Inv X pins σ' H' s' ∧ Q σ' H') X.xe s
/-- several targets, one after another -/
def PGs (X : Cx) (ts : List Expr) (t : TGs) : Prop :=
  ∀ (pins : List (Addr × Obj)) (s : Shared) (σ : St) (H : Hp) (vs : List V) (us : List Value) (Q : St → Hp → Prop), Inv X pins σ H s → Vals vs us → t vs σ H Q →
    wpAny (model X.prog X.w) X.A (assignInOrder ((assignEach ts X.env).map (·.2)) us) (fun _ s' => ∃ σ' H', Inv X pins σ' H' s' ∧ Q σ' H') X.xe s
/-- o[i] = v, by values -/
abbrev TSet := V → V → V → Hp → (Hp → Prop) → Prop
def PSet (X : Cx) (t : TSet) : Prop :=
  ∀ (pins : List (Addr × Obj)) (s : Shared) (σ : St) (H : Hp) (o i v : V) (ov iv u : Value) (Q : Hp → Prop), Inv X pins σ H s → RelV o ov → RelV i iv → RelV v u → t o i v H Q →
    wpAny (model X.prog X.w) X.A (setItem ov iv u) (fun _ s' => ∃ H', Inv X pins σ H' s' ∧ Q H') X.xe s
section
variable {X : Cx} {pos : Pos}
def gName (i : Nat) : TG := fun v σ H Q => Q (σ.set i (some v)) H
theorem pg_name {i : Nat} {x : Str} (hN : X.N.Nodup) (hi : X.N[i]? = some x) (hx : Loc X.env.scope x) (hf : X.fn x = true ∨ X.env.scope.names.lookup x = some .local := by first | exact .inl rfl | exact .inr rfl | assumption) : PG X (.Name x pos) (gName i) := by
  intro pins s σ H v u Q I r h
  exact wpAny_assign_Name (store_ok I hN hi hx r (fun s' I' => ⟨_, H, I', h⟩) hf)
def gNil : TGs := fun vs σ H Q => vs = [] ∧ Q σ H
def gCons (t : TG) (u : TGs) : TGs := fun vs σ H Q => ∃ v r, vs = v :: r ∧ t v σ H fun σ' H' => u r σ' H' Q
theorem pgs_nil : PGs X [] gNil := by
  intro pins s σ H vs us Q I r h
  obtain ⟨e, h⟩ := h
  subst e
  cases r
  exact assignInOrder_nil ⟨σ, H, I, h⟩
theorem pgs_cons {e : Expr} {es : List Expr} {t : TG} {u : TGs} (h1 : PG X e t) (h2 : PGs X es u)
    (hs : (assignEach (e :: es) X.env).map (·.2) = assign e X.env :: (assignEach es X.env).map (·.2) := by rfl) : PGs X (e :: es) (gCons t u) := by
  intro pins s σ H vs us Q I r h
  obtain ⟨v, vr, e1, h⟩ := h
  subst e1
  cases r with
  | cons r rr =>
    rw [hs]
    refine assignInOrder_cons (thn (h1 pins s σ H _ _ _ I r h) fun _ s1 ⟨σ1, H1, I1, q1⟩ => ?_)
    exact h2 pins s1 σ1 H1 _ _ Q I1 rr q1
/-- (a, b, ..) = a tuple of that length -/
def gTup (K : PySem.W.Frag) (n : Nat) (t : TGs) : TG := fun v σ H Q => ∃ a xs, v = .ref a ∧ SqT K H a xs ∧ xs.length = n ∧ t xs σ H Q
theorem pg_tup {es : List Expr} {k : Nat} {t : TGs} {n : Nat} (hc : X.calm = true) (h : PGs X es t)
    (hn : (assignEach es X.env).length = n := by rfl) (hst : (assignEach es X.env).findIdx? (·.1) = none := by rfl) : PG X (.Tuple es k pos) (gTup X.K n t) := by
  intro pins s σ H v u Q I r hw
  obtain ⟨a, xs, e1, hq, hl, hw⟩ := hw
  subst e1
  cases r
  obtain ⟨its, rv, ht, hz⟩ := I.tuple hq
  refine assign_Tuple_tuple (I.ok.hd hc) ht (by simp [hn, ← hl, rv.length]) hst fun h' hx => ?_
  have I1 : Inv X pins σ H { s with heap := h' } := I.kept (t' := s.toks) fun b o e => hx b o (Nat.ne_of_lt (Heap.lt_size e)) e
  exact h pins _ σ H xs _ Q I1 (by simpa using rv) hw
/-- o[i] = .. -/
def gSub (to ti : TE) (t : TSet) : TG := fun v σ H Q => to σ H fun o H1 => ti σ H1 fun i H2 => t o i v H2 fun H3 => Q σ H3
theorem pg_sub {o i : Expr} {to ti : TE} {t : TSet} (ho : PE X o to) (hi : PE X i ti) (hs : PSet X t)
    (ha : ∀ v, assign (.Subscript o i pos) X.env v = (do
      let ov ← holding [v] (eval o X.env)
      let iv ← holding [v, ov] (eval i X.env)
      standAt pos
      holding [v, ov, iv] (setItem ov iv v)
      release [v, ov, iv] []) := by intro _; rfl) : PG X (.Subscript o i pos) (gSub to ti t) := by
  intro pins s σ H v u Q I r h
  rw [ha]
  refine wpAny_bind (wpAny_holding (thn (ho pins s σ H _ I h) fun ov s1 ⟨x, H1, I1, r1, q1⟩ => ?_))
  refine wpAny_bind (wpAny_holding (thn (hi pins s1 σ H1 _ I1 q1) fun iv s2 ⟨y, H2, I2, r2, q2⟩ => ?_))
  refine wpAny_bind (wpAny_standAt (wpAny_bind (wpAny_holding (thn (hs pins s2 σ H2 x y v ov iv u _ I2 r1 r2 r q2) fun _ s3 ⟨H3, I3, q3⟩ => ?_))))
  exact wpAny_release ⟨σ, H3, I3, q3⟩
/-- target = value -/
def tAsg (te : TE) (g : TG) : TS := fun D σ H => te σ H fun x H1 => g x σ H1 D.nx
theorem ps_asg {tg e : Expr} {te : TE} {g : TG} (he : PE X e te) (hg : PG X tg g) (hs : swapsWithSole [tg] e pos.line X.env = pure false := by rfl) (hw : swappedStores [tg] e X.env = pure none := by rfl)
    (h1 : (assignEach [tg] X.env).map (·.2) = [assign tg X.env] := by rfl) : PS X (.Assign [tg] e pos) (tAsg te g) := by
  intro pins s σ H D I h
  refine wpAny_Assign_stores (thn (he pins s σ H _ I h) fun v s1 ⟨x, H1, I1, r1, q1⟩ => ?_) hs hw
  rw [h1]
  exact thn (hg pins s1 σ H1 x v _ I1 r1 q1) fun _ s2 q => q
/-- name = value -/
theorem ps_set {i : Nat} {x : Str} {e : Expr} {te : TE} {pos' : Pos} (hN : X.N.Nodup) (hi : X.N[i]? = some x) (hx : Loc X.env.scope x) (he : PE X e te) (hs : swapsWith e (some (.Name x pos')) pos.line X.env = pure false := by rfl) (hf : X.fn x = true ∨ X.env.scope.names.lookup x = some .local := by first | exact .inl rfl | exact .inr rfl | assumption) :
    PS X (.Assign [.Name x pos'] e pos) (tAsg te (gName i)) := by
  intro pins s σ H D I h
  refine wpAny_Assign_Name (thn (he pins s σ H _ I h) fun v s1 ⟨y, H1, I1, r1, q1⟩ => ?_) hs
  exact store_ok I1 hN hi hx r1 (fun s2 I2 => ⟨_, H1, I2, q1⟩) hf
end

/-! ### while -/
section
variable {X : Cx} {pos : Pos}
end

/-! ### what a loop or a comprehension walks -/
/-- at turn i: it yields x (the heap may grow), or it stops -/
structure It where
  go : Nat → Hp → Prop
  yld : Nat → Hp → V → Hp → Prop
  stop : Nat → Hp → Prop
/-- the iterator's own objects may turn: they are not the frame's, not pinned, younger than the entry (or a comprehension's own) -/
def FpOk (X : Cx) (pins : List (Addr × Obj)) (H : Hp) (b : Addr) : Prop :=
  H b = none ∧ b ≠ X.env.locals ∧ b ∉ X.fs ∧ (b ∈ X.ex ∨ X.s₀.heap.objs.size ≤ b) ∧ (∀ x c, X.env.cells.lookup x = some c → c ≠ b) ∧ ∀ p ∈ X.pn ++ pins, p.1 ≠ b
theorem Inv.fpOk {X : Cx} {pins : List (Addr × Obj)} {σ : St} {H H' : Hp} {s : Shared} {b : Addr} (I : Inv X pins σ H s) (hb : s.heap.objs.size ≤ b) (hn : H' b = none) : FpOk X pins H' b := by
  refine ⟨hn, Nat.ne_of_gt (Nat.lt_of_lt_of_le I.lt hb), I.nofs hb, .inr (Nat.le_trans I.sz hb), fun x c e z => ?_, fun p hp z => ?_⟩
  · obtain ⟨v, q⟩ := I.cell x c e
    exact absurd (Nat.lt_of_lt_of_le q.lt (by rw [z]; exact hb)) (Nat.lt_irrefl _)
  · exact absurd (Nat.lt_of_lt_of_le (Heap.lt_size (I.pin p hp).1) (by rw [z]; exact hb)) (Nat.lt_irrefl _)
structure Turn (P : Program) (w : World) (K : PySem.W.Frag) (tg : Expr) (J : It) (fp : List Addr) (it : Addr) (tn : Nat → Heap → Prop) : Prop where
  mem : it ∈ fp
  obj : ∀ i h, tn i h → ∀ b ∈ fp, ∃ o, h.get? b = some o ∧ ∀ v, o.data ≠ .cell v
  keep : ∀ i h h', tn i h → (∀ b ∈ fp, ∀ o, h.get? b = some o → h'.get? b = some o) → tn i h'
  item : ∀ (X : Cx), X.prog = P → X.w = w → X.K = K → X.calm = true → ∀ (i : Nat) (pins : List (Addr × Obj)) (s : Shared) (σ : St) (H : Hp) (E : Value → Shared → Prop), Inv X pins σ H s → (∀ b ∈ fp, FpOk X pins H b) → tn i s.heap → J.go i H →
    wpAny (model P w) X.A (pyNext (.ref it)) (fun r s1 => ∃ u, r = some u ∧
      wpAny (model P w) X.A (letOwnedTupleGo tg (.ref it) u) (fun _ s2 => ∃ x H', Inv X pins σ H' s2 ∧ RelV x u ∧ J.yld i H x H' ∧ tn (i + 1) s2.heap ∧ ∀ b ∈ fp, H' b = none) E s1) E s
  done : ∀ (X : Cx), X.prog = P → X.w = w → X.K = K → X.calm = true → ∀ (i : Nat) (pins : List (Addr × Obj)) (s : Shared) (σ : St) (H : Hp) (E : Value → Shared → Prop), Inv X pins σ H s → (∀ b ∈ fp, FpOk X pins H b) → tn i s.heap → J.stop i H →
    wpAny (model P w) X.A (pyNext (.ref it)) (fun r s1 => r = none ∧ Inv X pins σ H s1) E s
  self : ∀ (A : Around) (i : Nat) (s : Shared) (Q : Value → Shared → Prop) (E : Value → Shared → Prop), tn i s.heap → Q (.ref it) s → wpAny (model P w) A (pyIter (.ref it)) Q E s
abbrev TI := St → Hp → (It → Hp → Prop) → Prop
/-- an iterator has come -/
def PIE (X : Cx) (pins : List (Addr × Obj)) (σ : St) (tg : Expr) (R : It → Hp → Prop) (itv : Value) (s2 : Shared) : Prop :=
  ∃ (it : Addr) (fp : List Addr) (tn : Nat → Heap → Prop) (J : It) (H' : Hp), itv = .ref it ∧ Inv X pins σ H' s2 ∧ Turn X.prog X.w X.K tg J fp it tn ∧ tn 0 s2.heap ∧ (∀ b ∈ fp, FpOk X pins H' b) ∧ R J H'
def PI (X : Cx) (tg iter : Expr) (wi : TI) : Prop :=
  ∀ (pins : List (Addr × Obj)) (s : Shared) (σ : St) (H : Hp) (R : It → Hp → Prop), Inv X pins σ H s → wi σ H R →
    wpAny (model X.prog X.w) X.A (eval iter X.env) (fun v s1 => wpAny (model X.prog X.w) X.A (pyIter v) (PIE X pins σ tg R) X.xe s1) X.xe s

/-- the step ahead of the store is nothing for an iterator that keeps no tuple -/
theorem go_of {M : Model} {A : Around} {E : Value → Shared → Prop} {s : Shared} {tg : Expr} {it : Addr} {u : Value} {o : Obj} {n : String} {vs : Array Value} {Q : Unit → Shared → Prop} (ho : s.heap.get? it = some o) (hc : o.cls = .type n) (hd : o.data = .fields vs)
    (hn : ["enumerate", "zip", "dict_itemiterator", "dict_reverseitemiterator", "odict_iterator", "itertools.zip_longest", "itertools.pairwise"].contains n = false) (hQ : Q () s) : wpAny M A (letOwnedTupleGo tg (.ref it) u) Q E s := by
  unfold letOwnedTupleGo
  cases tg <;> first
    | exact wpAny_pure hQ
    | (cases u <;> first
        | exact wpAny_pure hQ
        | (refine wpAny_bind (wpAny_load ho ?_)
           rw [hc, hd]
           show wpAny M A (if (["enumerate", "zip", "dict_itemiterator", "dict_reverseitemiterator", "odict_iterator", "itertools.zip_longest", "itertools.pairwise"].contains n && vs[0]? == some (rawInt _)) = true then _ else _) Q E s
           rw [if_neg (by intro h; rw [hn, Bool.false_and] at h; cases h)]
           exact wpAny_pure hQ))

/-- the list at a, as it stands at each turn (a loop may append to it) -/
def Itl (K : PySem.W.Frag) (a : Addr) : It :=
  ⟨fun i H => ∃ xs x, SqL K H a xs ∧ xs[i]? = some x, fun i H x H' => H' = H ∧ ∀ xs, SqL K H a xs → xs[i]? = some x, fun i H => ∃ xs, SqL K H a xs ∧ xs.length ≤ i⟩
/-- lo, lo + 1, .. (n of them) -/
def Itr (lo : Int) (n : Nat) : It := ⟨fun i _ => i < n, fun i H x H' => H' = H ∧ x = .int (lo + i), fun i _ => n ≤ i⟩
theorem turn_list {P : Program} {w : World} {K : PySem.W.Frag} {tg : Expr} (a it : Addr) : Turn P w K tg (Itl K a) [it] it (fun i h => h.IsListIter it a i) where
  mem := by simp
  obj := fun i h st b hb => by
    have e : b = it := by simpa using hb
    subst e
    obtain ⟨o, e, c, d⟩ := st
    exact ⟨o, e, fun v z => by rw [d] at z; cases z⟩
  keep := fun i h h' st k => st.at fun o e => k it (by simp) o e
  item := by
    intro X hP hw hK hc i pins s σ H E I hf st hg
    subst hP hw hK
    obtain ⟨xs, x, hq, hx⟩ := hg
    obtain ⟨its, rv, p, hz⟩ := I.list hq
    obtain ⟨u, hu, ru⟩ := rv.get hx
    obtain ⟨f0, f1, f2, f3, f4, f5⟩ := hf it (by simp)
    refine wpAny_pyNext_list_item st p.isList (x := u) (by simpa using hu) fun h' st' sb => ?_
    have I1 : Inv X pins σ H { s with heap := h' } := I.turned (t' := s.toks) (fun b o hb e => (sb.2 b hb).trans e) f0 f1 f3 f4 f5
    obtain ⟨o, e, c, d⟩ := id st'
    exact ⟨u, rfl, go_of (s := { s with heap := h' }) e c d (by decide) ⟨x, H, I1, ru, ⟨rfl, fun ys hy => by rw [I.list_inj hy hq]; exact hx⟩, st', fun b hb => (hf b hb).1⟩⟩
  done := by
    intro X hP hw hK hc i pins s σ H E I hf st hg
    subst hP hw hK
    obtain ⟨xs, hq, hx⟩ := hg
    obtain ⟨its, rv, p, hz⟩ := I.list hq
    obtain ⟨f0, f1, f2, f3, f4, f5⟩ := hf it (by simp)
    have hl := rv.length
    exact wpAny_pyNext_list_end (I.ok.hd hc) st p.isList (by simp; omega) fun h' eb => ⟨rfl, I.turned (t' := s.toks) (fun b o hb e => eb b o hb e) f0 f1 f3 f4 f5⟩
  self := fun _ _ _ _ _ st h => wpAny_pyIter_listiter st h
theorem turn_range {P : Program} {w : World} {K : PySem.W.Frag} {tg : Expr} (it : Addr) (lo : Int) (n : Nat) : Turn P w K tg (Itr lo n) [it] it (fun i h => IsRangeIter h it (lo + (i : Nat) * 1) ((n : Int) - (i : Nat)) 1) where
  mem := by simp
  obj := fun i h st b hb => by
    have e : b = it := by simpa using hb
    subst e
    exact ⟨_, st, fun v z => by
      have z' : Data.fields _ = Data.cell v := z
      cases z'⟩
  keep := fun i h h' st k => k it (by simp) _ st
  item := by
    intro X hP hw hK hc i pins s σ H E I hf st hg
    subst hP hw hK
    obtain ⟨f0, f1, f2, f3, f4, f5⟩ := hf it (by simp)
    have W := Walks.range (prog := X.prog) (w := X.w) (I.ok.hd hc) it lo 1 n
    refine W.item i s _ _ hg st fun v h' tk hv st' kk => ?_
    obtain ⟨t, rfl⟩ := hv
    have I1 : Inv X pins σ H { s with heap := h', toks := tk } := I.turned (fun b o hb e => kk b o (by simpa using hb) e) f0 f1 f3 f4 f5
    refine ⟨_, rfl, go_of (s := { s with heap := h', toks := tk }) (n := "range_iterator") st' rfl rfl (by decide) ⟨.int (lo + i), H, I1, ⟨t, ?_⟩, ⟨rfl, rfl⟩, st', fun b hb => (hf b hb).1⟩⟩
    rw [Int.mul_one]
  done := by
    intro X hP hw hK hc i pins s σ H E I hf st hg
    subst hP hw hK
    obtain ⟨f0, f1, f2, f3, f4, f5⟩ := hf it (by simp)
    exact wpAny_pyNext_range_end (I.ok.hd hc) st (by have : n ≤ i := hg; omega) fun h' eb => ⟨rfl, I.turned (t' := s.toks) (fun b o hb e => eb b o hb e) f0 f1 f3 f4 f5⟩
  self := fun _ _ _ _ _ st h => wpAny_pyIter_rangeiter st h
end L2

namespace L2
open PySem PySem.Spec PyProof.Rows
section
variable {X : Cx} {tg : Expr}
def iList (K : PySem.W.Frag) (tl : TE) : TI := fun σ H R => tl σ H fun x H1 => ∃ a, x = .ref a ∧ (∃ xs, SqL K H1 a xs) ∧ R (Itl K a) H1
theorem pi_list {l : Expr} {tl : TE} (hl : PE X l tl) : PI X tg l (iList X.K tl) := by
  intro pins s σ H R I h
  refine thn (hl pins s σ H _ I h) fun v s1 ⟨x, H1, I1, r1, q1⟩ => ?_
  obtain ⟨a, e, ⟨xs, hq⟩, q⟩ := q1
  subst e
  cases r1
  obtain ⟨its, rv, p, hz⟩ := I1.list hq
  refine wpAny_pyIter_list p.isList ?_
  refine ⟨s1.heap.objs.size, [s1.heap.objs.size], _, _, H1, rfl, I1.kept (t' := s1.toks) fun b o e => Heap.get?_push_of_some _ e, turn_list a _, ⟨_, Heap.get?_push_size _ rfl, rfl, rfl⟩, fun b hb => ?_, q⟩
  have e : b = s1.heap.objs.size := by simpa using hb
  subst e
  exact I1.fpOk (Nat.le_refl _) (I1.hok.fresh (Nat.le_refl _))
/-- a range object just made, walked -/
theorem range_it {pins : List (Addr × Obj)} {σ : St} {H : Hp} {s : Shared} {R : It → Hp → Prop} {E : Value → Shared → Prop} {lo hi : Int} {t u v : Tok} {tk : Nat} (I : Inv X pins σ H s) (h1 : -(2 ^ 62) ≤ lo) (h2 : lo < 2 ^ 62) (h3 : -(2 ^ 62) ≤ hi) (h4 : hi < 2 ^ 62)
    (q : R (Itr lo (hi - lo).toNat) H) : wpAny (model X.prog X.w) X.A (pyIter (.ref s.heap.objs.size)) (PIE X pins σ tg R) E { s with heap := s.heap.push { cls := .type "range", data := .fields #[.int lo t, .int hi u, .int 1 v] }, toks := tk } := by
  refine wpAny_pyIter_range (IsRange.new ..) (small_one h1 h2 h3 h4) ?_
  have I1 : Inv X pins σ H { s with heap := s.heap.push { cls := .type "range", data := .fields #[.int lo t, .int hi u, .int 1 v] }, toks := tk } := I.kept fun b o e => Heap.get?_push_of_some _ e
  refine ⟨(s.heap.push { cls := .type "range", data := .fields #[.int lo t, .int hi u, .int 1 v] }).objs.size, [(s.heap.push { cls := .type "range", data := .fields #[.int lo t, .int hi u, .int 1 v] }).objs.size], _, _, H, rfl,
    I1.kept (t' := tk) fun b o e => Heap.get?_push_of_some _ e, turn_range _ lo (hi - lo).toNat, ?_, fun b hb => ?_, q⟩
  · have e1 : lo + ((0 : Nat) : Int) * 1 = lo := by simp
    have e2 : (((hi - lo).toNat : Nat) : Int) - ((0 : Nat) : Int) = Builtin.Range.rangeSize lo hi 1 := by rw [rangeSize_one]; split <;> omega
    show IsRangeIter _ _ (lo + ((0 : Nat) : Int) * 1) ((((hi - lo).toNat : Nat) : Int) - ((0 : Nat) : Int)) 1
    rw [e1, e2]
    exact Heap.get?_push_size _ rfl
  · have e : b = (s.heap.push { cls := .type "range", data := .fields #[.int lo t, .int hi u, .int 1 v] }).objs.size := by simpa using hb
    subst e
    exact I1.fpOk (Nat.le_refl _) (I1.hok.fresh (Nat.le_refl _))
def iRng1 (ta : TA) : TI := fun σ H R => ta σ H fun vs H1 => ∃ j : Int, vs = [.int j] ∧ -(2 ^ 62) ≤ j ∧ j < 2 ^ 62 ∧ R (Itr 0 j.toNat) H1
theorem pi_range1 {a : Expr} {ta : TA} {p pos : Pos} (hg : Gl X "range") (hm : X.mg "range" = none) (ha : PA X [a] ta) (hs : starEach [a] X.env = [(false, eval a X.env)] := by rfl) : PI X tg (.Call (.Name "range" p) [a] [] pos) (iRng1 ta) := by
  intro pins s σ H R I h
  refine Call_ (ld_blt I hg hm boot_range (PyProof.Rows.callWith_type1 (thn (ha pos pins s σ H _ I h) fun us s1 ⟨vs, H1, I1, r1, q1⟩ => ?_) hs rfl))
  obtain ⟨j, e, q1, q2, q⟩ := q1
  subst e
  cases r1 with
  | cons r rr =>
    cases rr
    obtain ⟨t, rfl⟩ := r
    exact call_range_1 (range_it I1 (by omega) (by omega) q1 q2 (by simpa using q))

/-! ### for -/
/-- W: the invariant by the turn and a measure; N: what the body is to reach -/
def tFor (wi : TI) (g : TG) (tb : TS) : TS := fun D σ H => wi σ H fun J H1 => ∃ W : Nat → Nat → St → Hp → Prop, (∃ m, W 0 m σ H1) ∧ ∀ i m σ H, W i m σ H →
  (J.stop i H ∧ D.nx σ H) ∨ (J.go i H ∧ ∃ N : St → Hp → Prop, (∀ σ' H', N σ' H' → ∃ m', m' < m ∧ W (i + 1) m' σ' H') ∧ ∀ x H', J.yld i H x H' → g x σ H' fun σ2 H2 => tb { D with nx := N, ct := N, bk := D.nx } σ2 H2)
/-- the records at fp as they stand -/
def pinsAt (fp : List Addr) (h : Heap) : List (Addr × Obj) := fp.filterMap fun b => (h.get? b).map fun o => (b, o)
theorem mem_pinsAt {fp : List Addr} {h : Heap} {b : Addr} {o : Obj} (hb : b ∈ fp) (e : h.get? b = some o) : (b, o) ∈ pinsAt fp h := List.mem_filterMap.mpr ⟨b, hb, by rw [e]; rfl⟩
theorem of_pinsAt {fp : List Addr} {h : Heap} {p : Addr × Obj} (hp : p ∈ pinsAt fp h) : p.1 ∈ fp ∧ h.get? p.1 = some p.2 := by
  obtain ⟨b, hb, e⟩ := List.mem_filterMap.mp hp
  cases q : h.get? b with
  | none => rw [q] at e; cases e
  | some o =>
    rw [q] at e
    have e' : (b, o) = p := Option.some.inj e
    subst e'
    exact ⟨hb, q⟩
theorem Inv.pinned {pins : List (Addr × Obj)} {σ : St} {H : Hp} {s : Shared} {fp : List Addr} (I : Inv X pins σ H s) (hf : ∀ b ∈ fp, FpOk X pins H b) (ho : ∀ b ∈ fp, ∃ o, s.heap.get? b = some o ∧ ∀ v, o.data ≠ .cell v) : Inv X (pins ++ pinsAt fp s.heap) σ H s :=
  I.pins_of fun p hp => (List.mem_append.mp hp).elim (fun z => I.pin p (List.mem_append_right _ z)) fun z => by
    obtain ⟨hb, e⟩ := of_pinsAt z
    obtain ⟨f0, f1, f2, _⟩ := hf p.1 hb
    obtain ⟨o, e', d⟩ := ho p.1 hb
    rw [e] at e'; cases e'
    exact ⟨e, f0, f1, f2, d⟩
theorem Inv.unpinned {pins pl : List (Addr × Obj)} {σ : St} {H : Hp} {s : Shared} (I : Inv X (pins ++ pl) σ H s) : Inv X pins σ H s := I.pins_of fun p hp => I.pin p (List.mem_append_right _ (List.mem_append_left _ hp))
theorem ps_for {iter : Expr} {body : List Stmt} {wi : TI} {g : TG} {tb : TS} {pos : Pos} (hp : PassesOwn (model X.prog X.w) X.A X.env X.xe) (hc : X.calm = true) (hi : PI X tg iter wi) (hg : PG X tg g) (hb : PSs X body tb)
    (hs : ∀ x, foldedSetIterable iter X.env x = pure x := by intro _; rfl) : PS X (.For tg iter body [] pos) (tFor wi g tb) := by
  intro pins s σ H D I h
  refine wpAny_For (thn (hi pins s σ H _ I h) fun v s1 h1 => thn h1 fun itv s2 h2 => ?_) hs
  obtain ⟨it, fp, tn, J, H2, e, I2, T, st2, f2, W, ⟨m0, w0⟩, turn⟩ := h2
  subst e
  -- what stays true of the iterator's objects through the loop
  have stat : ∀ {H' : Hp}, (∀ b ∈ fp, H' b = none) → ∀ b ∈ fp, FpOk X pins H' b := fun hn b hb => ⟨hn b hb, (f2 b hb).2⟩
  refine codeAny_forLoop_any (fun n s' => ∃ i σ' H', Inv X pins σ' H' s' ∧ tn i s'.heap ∧ (∀ b ∈ fp, H' b = none) ∧ W i n σ' H') ?_ m0 ⟨0, σ, H2, I2, st2, fun b hb => (f2 b hb).1, w0⟩
  rintro n s3 ⟨i, σ3, H3, I3, st3, fr3, w3⟩
  rcases turn i n σ3 H3 w3 with ⟨stop, qn⟩ | ⟨go, N, hN, step⟩
  · refine wpAny_passesOwn hp (thn (T.done X rfl rfl rfl hc i pins s3 σ3 H3 X.xe I3 (stat fr3) st3 stop) fun r s4 ⟨hr, I4⟩ => ?_)
    subst hr
    exact wpAny_execs_nil ⟨σ3, H3, I4, qn⟩
  · refine wpAny_passesOwn hp (thn (T.item X rfl rfl rfl hc i pins s3 σ3 H3 X.xe I3 (stat fr3) st3 go) fun r s4 ⟨u, hr, h4⟩ => ?_)
    subst hr
    refine wpAny_passesOwn hp (thn h4 fun _ s5 ⟨x, H5, I5, r5, y5, st5, fr5⟩ => ?_)
    have I5' := I5.pinned (stat fr5) (T.obj _ _ st5)
    refine wpAny_passesOwn hp (thn (hg _ s5 σ3 H5 x u _ I5' r5 (step x H5 y5)) fun _ s6 ⟨σ6, H6, I6, q6⟩ => ?_)
    refine wpAny_passesOwn hp (thn (hb _ s6 σ6 H6 _ I6 q6) fun f s7 q7 => ?_)
    have again : ∀ {σ7 : St} {H7 : Hp}, Inv X (pins ++ pinsAt fp s5.heap) σ7 H7 s7 → N σ7 H7 → ∃ m, m < n ∧ ∃ i σ' H', Inv X pins σ' H' s7 ∧ tn i s7.heap ∧ (∀ b ∈ fp, H' b = none) ∧ W i m σ' H' := fun {σ7 H7} I7 n7 => by
      obtain ⟨m', hm, w7⟩ := hN σ7 H7 n7
      refine ⟨m', hm, i + 1, σ7, H7, I7.unpinned, T.keep _ _ _ st5 fun b hb o e => (I7.pin (b, o) (List.mem_append_right _ (List.mem_append_right _ (mem_pinsAt hb e)))).1, fun b hb => ?_, w7⟩
      obtain ⟨o, e, d⟩ := T.obj _ _ st5 b hb
      exact (I7.pin (b, o) (List.mem_append_right _ (List.mem_append_right _ (mem_pinsAt hb e)))).2.1
    cases f with
    | next => obtain ⟨σ7, H7, I7, n7⟩ := q7; exact again I7 n7
    | cont => obtain ⟨σ7, H7, I7, n7⟩ := q7; exact again I7 n7
    | brk => obtain ⟨σ7, H7, I7, q7⟩ := q7; exact ⟨σ7, H7, I7.unpinned, q7⟩
    | ret v => obtain ⟨x7, σ7, H7, I7, r7, q7⟩ := q7; exact ⟨x7, σ7, H7, I7.unpinned, r7, q7⟩
end

/-! ### the forms one uses -/
/-- over a list that the body leaves as it is -/
theorem for_list {K : PySem.W.Frag} {a : Addr} {xs : List V} {g : TG} {tb : TS} {D : Ends} {σ : St} {H : Hp} (Pv : Nat → St → Hp → Prop) (h0 : Pv 0 σ H) (hl : ∀ i σ H, i ≤ xs.length → Pv i σ H → SqL K H a xs)
    (hs : ∀ i x σ H, xs[i]? = some x → Pv i σ H → g x σ H fun σ2 H2 => tb { D with nx := Pv (i + 1), ct := Pv (i + 1), bk := D.nx } σ2 H2) (hd : ∀ σ H, Pv xs.length σ H → D.nx σ H) :
    ∃ W : Nat → Nat → St → Hp → Prop, (∃ m, W 0 m σ H) ∧ ∀ i m σ H, W i m σ H →
      ((Itl K a).stop i H ∧ D.nx σ H) ∨ ((Itl K a).go i H ∧ ∃ N : St → Hp → Prop, (∀ σ' H', N σ' H' → ∃ m', m' < m ∧ W (i + 1) m' σ' H') ∧ ∀ x H', (Itl K a).yld i H x H' → g x σ H' fun σ2 H2 => tb { D with nx := N, ct := N, bk := D.nx } σ2 H2) := by
  refine ⟨fun i m σ H => m = xs.length - i ∧ i ≤ xs.length ∧ Pv i σ H, ⟨xs.length, by simp, Nat.zero_le _, h0⟩, ?_⟩
  rintro i m σ H ⟨rfl, hi, p⟩
  have q := hl i σ H hi p
  by_cases hlt : i < xs.length
  · refine .inr ⟨⟨xs, xs[i], q, by simp [hlt]⟩, Pv (i + 1), fun σ' H' p' => ⟨xs.length - (i + 1), by omega, rfl, hlt, p'⟩, fun x H' y => ?_⟩
    obtain ⟨e, y⟩ := y
    subst e
    exact hs i x σ _ (y xs q) p
  · have e : i = xs.length := by omega
    subst e
    exact .inl ⟨⟨xs, q, Nat.le_refl _⟩, hd σ H p⟩
theorem for_range {lo : Int} {n : Nat} {g : TG} {tb : TS} {D : Ends} {σ : St} {H : Hp} (Pv : Nat → St → Hp → Prop) (h0 : Pv 0 σ H)
    (hs : ∀ i σ H, i < n → Pv i σ H → g (.int (lo + i)) σ H fun σ2 H2 => tb { D with nx := Pv (i + 1), ct := Pv (i + 1), bk := D.nx } σ2 H2) (hd : ∀ σ H, Pv n σ H → D.nx σ H) :
    ∃ W : Nat → Nat → St → Hp → Prop, (∃ m, W 0 m σ H) ∧ ∀ i m σ H, W i m σ H →
      ((Itr lo n).stop i H ∧ D.nx σ H) ∨ ((Itr lo n).go i H ∧ ∃ N : St → Hp → Prop, (∀ σ' H', N σ' H' → ∃ m', m' < m ∧ W (i + 1) m' σ' H') ∧ ∀ x H', (Itr lo n).yld i H x H' → g x σ H' fun σ2 H2 => tb { D with nx := N, ct := N, bk := D.nx } σ2 H2) := by
  refine ⟨fun i m σ H => m = n - i ∧ i ≤ n ∧ Pv i σ H, ⟨n, by simp, Nat.zero_le _, h0⟩, ?_⟩
  rintro i m σ H ⟨rfl, hi, p⟩
  by_cases hlt : i < n
  · refine .inr ⟨hlt, Pv (i + 1), fun σ' H' p' => ⟨n - (i + 1), by omega, rfl, hlt, p'⟩, fun x H' y => ?_⟩
    obtain ⟨e, y⟩ := y
    subst e y
    exact hs i σ _ hlt p
  · have e : i = n := by omega
    subst e
    exact .inl ⟨Nat.le_refl _, hd σ H p⟩
end L2

namespace L2
open PySem PySem.Spec PyProof.Rows

abbrev R2 := V → V → Hp → VK → Prop
/-- a two-place operation on values: f is binaryOp op, inplaceOp op or compareOp op -/
def OpR (X : Cx) (f : Value → Value → Sem Value) (r : R2) : Prop :=
  ∀ (pins : List (Addr × Obj)) (s : Shared) (σ : St) (H : Hp) (x y : V) (v u : Value) (Q : VK), Inv X pins σ H s → RelV x v → RelV y u → r x y H Q →
    wpAny (model X.prog X.w) X.A (f v u) (EP X pins σ Q) X.xe s
/-- a one-place operation -/
def UnR (X : Cx) (f : Value → Sem Value) (r : V → Hp → VK → Prop) : Prop :=
  ∀ (pins : List (Addr × Obj)) (s : Shared) (σ : St) (H : Hp) (x : V) (v : Value) (Q : VK), Inv X pins σ H s → RelV x v → r x H Q →
    wpAny (model X.prog X.w) X.A (f v) (EP X pins σ Q) X.xe s
/-- a call of a value that is known (a builtin, a type) with values -/
def CallR (X : Cx) (f : Value) (r : List V → Hp → VK → Prop) : Prop :=
  ∀ (pins : List (Addr × Obj)) (s : Shared) (σ : St) (H : Hp) (xs : List V) (us : List Value) (Q : VK), Inv X pins σ H s → Vals xs us → r xs H Q →
    wpAny (model X.prog X.w) X.A (call f us) (EP X pins σ Q) X.xe s

def tOp (r : R2) (ta tb : TE) : TE := fun σ H Q => ta σ H fun x H1 => tb σ H1 fun y H2 => r x y H2 Q
def tUn (r : V → Hp → VK → Prop) (ta : TE) : TE := fun σ H Q => ta σ H fun x H1 => r x H1 Q
/-- ints in, under C, and a value out -/
def rI (C : Int → Int → Prop) (g : Int → Int → V) : R2 := fun x y H Q => ∃ i j, x = .int i ∧ y = .int j ∧ C i j ∧ Q (g i j) H
def rI0 (g : Int → Int → V) : R2 := fun x y H Q => ∃ i j, x = .int i ∧ y = .int j ∧ Q (g i j) H
def rU (g : Int → V) : V → Hp → VK → Prop := fun x H Q => ∃ i, x = .int i ∧ Q (g i) H

section
variable {X : Cx} {a b c : Expr} {ta tb tc : TE} {pos : Pos}

theorem binT (ha : PE X a ta) (hb : PE X b tb) {pins : List (Addr × Obj)} {s : Shared} {σ : St} {H : Hp} {R : V → V → Hp → Prop} (I : Inv X pins σ H s)
    (h : ta σ H fun x H1 => tb σ H1 fun y H2 => R x y H2) {Q : Value → Shared → Prop} {f : Value → Value → Sem Value}
    (hf : ∀ v u s2 x y H2, Inv X pins σ H2 s2 → RelV x v → RelV y u → R x y H2 → wpAny (model X.prog X.w) X.A (f v u) Q X.xe s2) :
    wpAny (model X.prog X.w) X.A (eval a X.env) (fun v s₁ => wpAny (model X.prog X.w) X.A (eval b X.env) (fun u s₂ => wpAny (model X.prog X.w) X.A (f v u) Q X.xe s₂) X.xe s₁) X.xe s := by
  refine thn (ha pins s σ H _ I h) fun v s1 ⟨x, H1, I1, r1, q1⟩ => ?_
  refine thn (hb pins s1 σ H1 _ I1 q1) fun u s2 ⟨y, H2, I2, r2, q2⟩ => ?_
  exact hf v u s2 x y H2 I2 r1 r2 q2

theorem pe_op {op : Operator} {r : R2} (ho : OpR X (binaryOp op) r) (ha : PE X a ta) (hb : PE X b tb) : PE X (.BinOp a op b pos) (tOp r ta tb) := by
  intro pins s σ H Q I h
  exact wpAny_BinOp (binT ha hb I h fun v u s2 x y H2 I2 rx ry q => ho pins s2 σ H2 x y v u Q I2 rx ry q)
theorem pe_un {op : UnaryOp} {r : V → Hp → VK → Prop} (ho : UnR X (unaryOp op) r) (ha : PE X a ta) : PE X (.UnaryOp op a pos) (tUn r ta) := by
  intro pins s σ H Q I h
  exact UnaryOp_ (thn (ha pins s σ H _ I h) fun v s1 ⟨x, H1, I1, r1, q1⟩ => ho pins s1 σ H1 x v Q I1 r1 q1)

/-! ### ints -/
theorem opI {f : Value → Value → Sem Value} {C : Int → Int → Prop} {g : Int → Int → Int}
    (rule : ∀ (i j : Int) (t u : Tok) (s : Shared) (Q : Value → Shared → Prop) (E : Value → Shared → Prop), C i j → Q (.int (g i j) s.toks) { s with toks := s.toks + 1 } → wpAny (model X.prog X.w) X.A (f (.int i t) (.int j u)) Q E s) :
    OpR X f (rI C fun i j => .int (g i j)) := by
  intro pins s σ H x y v u Q I rx ry h
  obtain ⟨i, j, rfl, rfl, hc, q⟩ := h
  obtain ⟨t, rfl⟩ := rx
  obtain ⟨t', rfl⟩ := ry
  exact rule i j t t' s _ _ hc ⟨.int (g i j), H, I.tok _, ⟨_, rfl⟩, q⟩
theorem opI0 {f : Value → Value → Sem Value} {g : Int → Int → Int}
    (rule : ∀ (i j : Int) (t u : Tok) (s : Shared) (Q : Value → Shared → Prop) (E : Value → Shared → Prop), Q (.int (g i j) s.toks) { s with toks := s.toks + 1 } → wpAny (model X.prog X.w) X.A (f (.int i t) (.int j u)) Q E s) :
    OpR X f (rI0 fun i j => .int (g i j)) := by
  intro pins s σ H x y v u Q I rx ry h
  obtain ⟨i, j, rfl, rfl, q⟩ := h
  obtain ⟨t, rfl⟩ := rx
  obtain ⟨t', rfl⟩ := ry
  exact rule i j t t' s _ _ ⟨.int (g i j), H, I.tok _, ⟨_, rfl⟩, q⟩
theorem opB0 {f : Value → Value → Sem Value} {g : Int → Int → Bool}
    (rule : ∀ (i j : Int) (t u : Tok) (s : Shared) (Q : Value → Shared → Prop) (E : Value → Shared → Prop), Q (.bool (g i j)) s → wpAny (model X.prog X.w) X.A (f (.int i t) (.int j u)) Q E s) :
    OpR X f (rI0 fun i j => .bl (g i j)) := by
  intro pins s σ H x y v u Q I rx ry h
  obtain ⟨i, j, rfl, rfl, q⟩ := h
  obtain ⟨t, rfl⟩ := rx
  obtain ⟨t', rfl⟩ := ry
  exact rule i j t t' s _ _ ⟨.bl (g i j), H, I, rfl, q⟩

def CDiv (i j : Int) : Prop := 0 < j ∧ j < 1073741824
def CPow (i j : Int) : Prop := 0 ≤ j ∧ j ≤ 1000000 ∧ i.natAbs < 2 ^ 64
def CMul (i j : Int) : Prop := (-(2 ^ 64) < i ∧ i < 2 ^ 64) ∨ (-(2 ^ 64) < j ∧ j < 2 ^ 64)
theorem CMul.ok {i j : Int} (h : CMul i j) : IntMulOk i j := by
  rcases h with ⟨h1, h2⟩ | ⟨h1, h2⟩
  · exact .of_left (intBits_le_64 h1 h2)
  · exact .of_right (intBits_le_64 h1 h2)

theorem op_add : OpR X (binaryOp .Add) (rI0 fun i j => .int (i + j)) := opI0 fun _ _ _ _ _ _ _ q => add_int q
theorem op_sub : OpR X (binaryOp .Sub) (rI0 fun i j => .int (i - j)) := opI0 fun _ _ _ _ _ _ _ q => sub_int q
theorem op_mul : OpR X (binaryOp .Mult) (rI CMul fun i j => .int (i * j)) := opI fun _ _ _ _ _ _ _ hc q => mul_int q hc.ok
/-- // by a positive divisor -/
theorem op_fdiv : OpR X (binaryOp .FloorDiv) (rI CDiv fun i j => .int (i / j)) := opI fun i j _ _ _ _ _ hc q => by
  have h1 : (0 : Int) < j := hc.1
  have h2 : j < 1073741824 := hc.2
  exact floordiv_int (by omega) (by rw [Int.fdiv_eq_ediv_of_nonneg i (by omega)]; exact q) (.inl (PyProof.noPylong_small (by omega)))
/-- % by a positive divisor of any size -/
theorem op_mod : OpR X (binaryOp .Mod) (rI (fun _ j => 0 < j) fun i j => .int (i % j)) := opI fun i j _ _ _ _ _ hc q => by
  have h1 : (0 : Int) < j := hc
  exact mod_int' (by omega) (by rw [Int.fmod_eq_emod_of_nonneg i (by omega)]; exact q)
theorem op_pow : OpR X (binaryOp .Pow) (rI CPow fun i j => .int (i ^ j.toNat)) := opI fun _ _ _ _ _ _ _ hc q => pow_int_small hc.1 hc.2.1 hc.2.2 q


theorem unI {f : Value → Sem Value} {g : Int → Int}
    (rule : ∀ (i : Int) (t : Tok) (s : Shared) (Q : Value → Shared → Prop) (E : Value → Shared → Prop), Q (.int (g i) s.toks) { s with toks := s.toks + 1 } → wpAny (model X.prog X.w) X.A (f (.int i t)) Q E s) :
    UnR X f (rU fun i => .int (g i)) := by
  intro pins s σ H x v Q I rx h
  obtain ⟨i, rfl, q⟩ := h
  obtain ⟨t, rfl⟩ := rx
  exact rule i t s _ _ ⟨.int (g i), H, I.tok _, ⟨_, rfl⟩, q⟩
theorem un_neg : UnR X (unaryOp .USub) (rU fun i => .int (-i)) := unI fun _ _ _ _ _ q => neg_int q

/-! ### bools among ints: n += (a < b) -/
end

/-! ### comparisons -/
/-- the scalars that == tells apart as data does -/
def scal : V → V → Bool
  | .non, .non => true | .non, .int _ => true | .int _, .non => true | .non, .bl _ => true | .bl _, .non => true | .non, .str _ => true | .str _, .non => true
  | .int _, .int _ => true | .bl _, .bl _ => true | .str _, .str _ => true | .byt _, .byt _ => true
  | .int _, .str _ => true | .str _, .int _ => true | .bl _, .str _ => true | .str _, .bl _ => true
  | _, _ => false
def rEq : R2 := fun x y H Q => scal x y = true ∧ Q (.bl (decide (x = y))) H
def rNe : R2 := fun x y H Q => scal x y = true ∧ Q (.bl (!decide (x = y))) H

theorem dec_int {i j : Int} : decide (V.int i = V.int j) = (i == j) := by
  rw [Bool.eq_iff_iff]
  simp
theorem dec_bl {i j : Bool} : decide (V.bl i = V.bl j) = (i == j) := by
  rw [Bool.eq_iff_iff]
  simp
theorem dec_str {i j : Str} : decide (V.str i = V.str j) = (i == j) := by
  rw [Bool.eq_iff_iff]
  simp
theorem dec_byt {i j : Array UInt8} : decide (V.byt i = V.byt j) = (i.toList == j.toList) := by
  rw [Bool.eq_iff_iff]
  cases i
  cases j
  simp

section
variable {X : Cx} {a b c : Expr} {ta tb tc : TE} {pos : Pos}
theorem fin_bl {pins : List (Addr × Obj)} {σ : St} {H : Hp} {s : Shared} {Q : VK} {k k' : Bool} (I : Inv X pins σ H s) (q : Q (.bl k) H) (e : k = k') : EP X pins σ Q (.bool k') s := by
  subst e
  exact ⟨.bl k, H, I, rfl, q⟩
theorem op_eq : OpR X (compareOp .Eq) rEq := by
  intro pins s σ H x y v u Q I rx ry h
  obtain ⟨hs, q⟩ := h
  cases x with
  | non =>
    cases rx
    cases y with
    | non => cases ry; exact PySem.EqNone.eq_none_none (fin_bl I q (by simp))
    | bl j => cases ry; exact PySem.EqNone.eq_none_bool (fin_bl I q (by simp))
    | int j => obtain ⟨t', rfl⟩ := ry; exact PySem.EqNone.eq_none_int (fin_bl I q (by simp))
    | str j => obtain ⟨t', rfl⟩ := ry; exact PySem.EqNone.eq_none_str (fin_bl I q (by simp))
    | _ => exact absurd (show false = true from hs) Bool.false_ne_true
  | bl i =>
    cases rx
    cases y with
    | non => cases ry; exact PySem.EqNone.eq_bool_none (fin_bl I q (by simp))
    | bl j => cases ry; exact eq_bool (fin_bl I q dec_bl)
    | str j => obtain ⟨t', rfl⟩ := ry; exact PySem.EqMixed.eq_bool_str (fin_bl I q (by simp))
    | _ => exact absurd (show false = true from hs) Bool.false_ne_true
  | int i =>
    obtain ⟨t, rfl⟩ := rx
    cases y with
    | non => cases ry; exact PySem.EqNone.eq_int_none (fin_bl I q (by simp))
    | int j => obtain ⟨t', rfl⟩ := ry; exact eq_int (fin_bl I q dec_int)
    | str j => obtain ⟨t', rfl⟩ := ry; exact PySem.EqMixed.eq_int_str (fin_bl I q (by simp))
    | _ => exact absurd (show false = true from hs) Bool.false_ne_true
  | str i =>
    obtain ⟨t, rfl⟩ := rx
    cases y with
    | non => cases ry; exact PySem.EqNone.eq_str_none (fin_bl I q (by simp))
    | bl j => cases ry; exact PySem.EqMixed.eq_str_bool (fin_bl I q (by simp))
    | int j => obtain ⟨t', rfl⟩ := ry; exact PySem.EqMixed.eq_str_int (fin_bl I q (by simp))
    | str j => obtain ⟨t', rfl⟩ := ry; exact eq_str (fin_bl I q dec_str)
    | _ => exact absurd (show false = true from hs) Bool.false_ne_true
  | byt i =>
    obtain ⟨t, rfl⟩ := rx
    cases y with
    | byt j => obtain ⟨t', rfl⟩ := ry; exact PySem.W.eq_bytes (fin_bl I q dec_byt)
    | _ => exact absurd (show false = true from hs) Bool.false_ne_true
  | _ => cases y <;> exact absurd (show false = true from hs) Bool.false_ne_true
theorem op_ne : OpR X (compareOp .NotEq) rNe := by
  intro pins s σ H x y v u Q I rx ry h
  obtain ⟨hs, q⟩ := h
  cases x with
  | non =>
    cases rx
    cases y with
    | non => cases ry; exact PySem.EqNone.ne_none_none (fin_bl I q (by simp))
    | bl j => cases ry; exact PySem.EqNone.ne_none_bool (fin_bl I q (by simp))
    | int j => obtain ⟨t', rfl⟩ := ry; exact PySem.EqNone.ne_none_int (fin_bl I q (by simp))
    | str j => obtain ⟨t', rfl⟩ := ry; exact PySem.EqNone.ne_none_str (fin_bl I q (by simp))
    | _ => exact absurd (show false = true from hs) Bool.false_ne_true
  | bl i =>
    cases rx
    cases y with
    | non => cases ry; exact PySem.EqNone.ne_bool_none (fin_bl I q (by simp))
    | bl j => cases ry; exact ne_bool (fin_bl I q (congrArg not dec_bl))
    | str j => obtain ⟨t', rfl⟩ := ry; exact PySem.EqMixed.ne_bool_str (fin_bl I q (by simp))
    | _ => exact absurd (show false = true from hs) Bool.false_ne_true
  | int i =>
    obtain ⟨t, rfl⟩ := rx
    cases y with
    | non => cases ry; exact PySem.EqNone.ne_int_none (fin_bl I q (by simp))
    | int j => obtain ⟨t', rfl⟩ := ry; exact ne_int (fin_bl I q (congrArg not dec_int))
    | str j => obtain ⟨t', rfl⟩ := ry; exact PySem.EqMixed.ne_int_str (fin_bl I q (by simp))
    | _ => exact absurd (show false = true from hs) Bool.false_ne_true
  | str i =>
    obtain ⟨t, rfl⟩ := rx
    cases y with
    | non => cases ry; exact PySem.EqNone.ne_str_none (fin_bl I q (by simp))
    | bl j => cases ry; exact PySem.EqMixed.ne_str_bool (fin_bl I q (by simp))
    | int j => obtain ⟨t', rfl⟩ := ry; exact PySem.EqMixed.ne_str_int (fin_bl I q (by simp))
    | str j => obtain ⟨t', rfl⟩ := ry; exact ne_str (fin_bl I q (congrArg not dec_str))
    | _ => exact absurd (show false = true from hs) Bool.false_ne_true
  | byt i =>
    obtain ⟨t, rfl⟩ := rx
    cases y with
    | byt j => obtain ⟨t', rfl⟩ := ry; exact PySem.W.ne_bytes (fin_bl I q (congrArg not dec_byt))
    | _ => exact absurd (show false = true from hs) Bool.false_ne_true
  | _ => cases y <;> exact absurd (show false = true from hs) Bool.false_ne_true

theorem op_lt : OpR X (compareOp .Lt) (rI0 fun i j => .bl (decide (i < j))) := opB0 fun _ _ _ _ _ _ _ q => lt_int q
theorem op_le : OpR X (compareOp .LtE) (rI0 fun i j => .bl (decide (i ≤ j))) := opB0 fun _ _ _ _ _ _ _ q => le_int q
theorem op_gt : OpR X (compareOp .Gt) (rI0 fun i j => .bl (decide (j < i))) := opB0 fun _ _ _ _ _ _ _ q => gt_int q

/-- is None, is not None: the right side a value none -/
theorem op_isN : OpR X (compareOp .Is) (fun x y H Q => y = .non ∧ Q (.bl (decide (x = .non))) H) := by
  intro pins s σ H x y v u Q I rx ry h
  obtain ⟨rfl, q⟩ := h
  cases ry
  refine is_none_gen (fin_bl I q ?_)
  cases x <;> first
    | (cases rx; rfl)
    | (obtain ⟨t, rfl⟩ := rx; rfl)



theorem nomark (b : Expr) {op : CmpOp} (h : op ≠ .In := by decide) (h2 : op ≠ .NotIn := by decide) : behindInMarks op b = false := by
  have e1 : (op == CmpOp.In) = false := by cases op <;> first | rfl | exact absurd rfl h
  have e2 : (op == CmpOp.NotIn) = false := by cases op <;> first | rfl | exact absurd rfl h2
  cases b <;> simp [behindInMarks, e1, e2]
/-- a comparison as a value; hm: nomark b, or (for in, not in) by with_unfolding_all rfl -/
theorem pe_cmpR {op : CmpOp} {r : R2} (ho : OpR X (compareOp op) r) (ha : PE X a ta) (hb : PE X b tb) (hm : behindInMarks op b = false) : PE X (.Compare a [op] [b] pos) (tOp r ta tb) := by
  intro pins s σ H Q I h
  exact wpAny_Compare1 (binT ha hb I h fun v u s2 x y H2 I2 rx ry q => ho pins s2 σ H2 x y v u Q I2 rx ry q) hm
/-- a reading of a value as a test -/
def tTest (t : TE) : TT := fun σ H Q => t σ H fun x H' => ∃ k, x = .bl k ∧ Q k H'
theorem pt_cmpR {op : CmpOp} {r : R2} (ho : OpR X (compareOp op) r) (ha : PE X a ta) (hb : PE X b tb) (hm : behindInMarks op b = false) : PT X (.Compare a [op] [b] pos) (tTest (tOp r ta tb)) := by
  intro pins s σ H Q I h
  refine wpAny_isTrue_Compare1 (thn (ha pins s σ H _ I h) fun v s1 ⟨x, H1, I1, r1, q1⟩ => thn (hb pins s1 σ H1 _ I1 q1) fun u s2 ⟨y, H2, I2, r2, q2⟩ =>
    thn (ho pins s2 σ H2 x y v u _ I2 r1 r2 q2) fun c s3 ⟨z, H3, I3, r3, k, e, q3⟩ => ?_) hm
  subst e
  cases r3
  exact wpAny_truthy_bool ⟨H3, I3, q3⟩
/-- a op1 b op2 c -/
def tChain (r r' : R2) (ta tb tc : TE) : TE := fun σ H Q => ta σ H fun x H1 => tb σ H1 fun y H2 => r x y H2 fun z H3 => ∃ k, z = .bl k ∧
  (if k = true then tc σ H3 fun w' H4 => r' y w' H4 Q else Q (.bl false) H3)
theorem pe_chain {op op' : CmpOp} {r r' : R2} (ho : OpR X (compareOp op) r) (ho' : OpR X (compareOp op') r') (ha : PE X a ta) (hb : PE X b tb) (hc : PE X c tc)
    (hm : lastMarks [op, op'] [b, c] = false := by with_unfolding_all rfl) : PE X (.Compare a [op, op'] [b, c] pos) (tChain r r' ta tb tc) := by
  intro pins s σ H Q I h
  refine Compare_chain (thn (ha pins s σ H _ I h) fun v s1 ⟨x, H1, I1, r1, q1⟩ => chain_link (thn (hb pins s1 σ H1 _ I1 q1) fun u s2 ⟨y, H2, I2, r2, q2⟩ =>
    thn (ho pins s2 σ H2 x y v u _ I2 r1 r2 q2) fun d s3 ⟨z, H3, I3, r3, k, e, q3⟩ => ?_)) hm
  subst e
  cases r3
  refine wpAny_truthy_bool ?_
  cases k with
  | false => exact ite_ff ⟨.bl false, H3, I3, rfl, q3⟩
  | true => exact ite_tt (chain_last (thn (hc pins s3 σ H3 _ I3 q3) fun w' s4 ⟨z', H4, I4, r4, q4⟩ => ho' pins s4 σ H4 y z' u w' Q I4 r2 r4 q4))

/-! ### truth -/
theorem line63 : (sizeLine : Nat) < 2 ^ 63 := by rw [sizeLine_eq]; decide

/-! ### strs and bytes -/
theorem op_add_str : OpR X (binaryOp .Add) (fun x y H Q => ∃ i j, x = .str i ∧ y = .str j ∧ i.length + j.length ≤ sizeLine ∧ Q (.str (i ++ j)) H) := by
  intro pins s σ H x y v u Q I rx ry h
  obtain ⟨i, j, rfl, rfl, hz, q⟩ := h
  obtain ⟨t, rfl⟩ := rx
  obtain ⟨t', rfl⟩ := ry
  exact add_str (fun t' tk => ⟨.str (i ++ j), H, I.tok _, ⟨_, rfl⟩, q⟩) hz


/-! ### scalar builtins, by CallR -/
theorem vals1 {x : V} {us : List Value} (r : Vals [x] us) : ∃ u, us = [u] ∧ RelV x u := by
  cases r with
  | cons r1 r2 => cases r2; exact ⟨_, rfl, r1⟩
theorem vals2 {x y : V} {us : List Value} (r : Vals [x, y] us) : ∃ u w', us = [u, w'] ∧ RelV x u ∧ RelV y w' := by
  cases r with
  | cons r1 r2 =>
    cases r2 with
    | cons r3 r4 => cases r4; exact ⟨_, _, rfl, r1, r3⟩
theorem call_min2 (hc : X.calm = true) : CallR X (.builtin "min") (fun xs H Q => ∃ i j, xs = [.int i, .int j] ∧ Q (.int (if j < i then j else i)) H) := by
  intro pins s σ H xs us Q I r h
  obtain ⟨i, j, rfl, q⟩ := h
  obtain ⟨u, w', rfl, ⟨t, rfl⟩, ⟨t', rfl⟩⟩ := vals2 r
  refine min_two_ints (I.ok.hd hc) fun h' tk k => ⟨_, H, I.kept k, ?_, q⟩
  by_cases hj : j < i
  · rw [if_pos hj, if_pos hj]; exact ⟨_, rfl⟩
  · rw [if_neg hj, if_neg hj]; exact ⟨_, rfl⟩
theorem call_int1 : CallR X (.type "int") (fun xs H Q => (∃ i, xs = [.int i] ∧ Q (.int i) H) ∨ ∃ k, xs = [.bl k] ∧ Q (.int (if k then 1 else 0)) H) := by
  intro pins s σ H xs us Q I r h
  rcases h with ⟨i, rfl, q⟩ | ⟨k, rfl, q⟩
  · obtain ⟨u, rfl, t, rfl⟩ := vals1 r
    exact call_int_int ⟨.int i, H, I, ⟨_, rfl⟩, q⟩
  · obtain ⟨u, rfl, r1⟩ := vals1 r
    cases r1
    exact call_int_bool ⟨.int (if k then 1 else 0), H, I.tok _, ⟨_, rfl⟩, q⟩
theorem call_str_int : CallR X (.type "str") (fun xs H Q => ∃ i, xs = [.int i] ∧ i.natAbs.log2 < 1920 ∧ Q (.str (toString i)) H) := by
  intro pins s σ H xs us Q I r h
  obtain ⟨i, rfl, hz, q⟩ := h
  obtain ⟨u, rfl, t, rfl⟩ := vals1 r
  exact PySem.P.str_of_int hz ⟨.str _, H, I.tok _, ⟨_, rfl⟩, q⟩
end
end L2

namespace L2
open PySem PySem.Spec PyProof.Rows

/-! ### an instance, its attributes a map -/
structure ObjM (h : Heap) (x dx C : Addr) (mA : Str → Option Value) : Prop where
  obj : h.get? x = some (PySem.W.instObj C dx)
  ns : h.Ns1 dx mA
  ne : dx ≠ x

theorem lookIn_ns {h : Heap} {dx : Addr} {mA : Str → Option Value} (n : h.Ns1 dx mA) : ∃ od, h.get? dx = some od ∧ ∀ name, PySem.W.lookIn name od = some (mA name) := by
  obtain ⟨o, es, ep, ho, hd, hk, _, hm⟩ := n
  refine ⟨o, ho, fun name => ?_⟩
  have e := hm name
  unfold nsFind findBy at e
  rw [← Array.find?_toList] at e
  unfold PySem.W.lookIn
  rw [hd]
  dsimp only
  split
  · rename_i y q
    rw [q] at e
    exact congrArg some e
  · rename_i q
    rw [q] at e
    have a : es.toList.any (·.refKey) = false := by
      rw [List.any_eq_false]
      intro y hy
      obtain ⟨z, t, hkey⟩ := hk y (Array.mem_toList_iff.mp hy)
      simp [DictEntry.refKey, hkey]
    have a' : ¬ es.toList.any (·.refKey) = true := by rw [a]; exact Bool.false_ne_true
    rw [if_neg a']
    exact congrArg some e

theorem ObjM.look {h : Heap} {x dx C : Addr} {mA : Str → Option Value} (I : ObjM h x dx C mA) : ∃ od, PySem.W.InstAt h x (PySem.W.instObj C dx) C (some od) ∧ ∀ name, PySem.W.lookIn name od = some (mA name) :=
  let ⟨od, ho, hl⟩ := lookIn_ns I.ns
  ⟨od, ⟨I.obj, rfl, rfl, ho⟩, hl⟩

section
variable {prog : Program} {w : World} {A : Around} {E : Value → Shared → Prop} {s : Shared} {K : PySem.W.Frag} {x dx C f : Addr} {mA : Str → Option Value} {name : Str} {v : Value}

theorem get_map {expr : Bool} {Q : Value → Shared → Prop} (X : K.In s.heap) (I : ObjM s.heap x dx C mA) (hg : PySem.W.plainGet K C name = true) (hh : PySem.W.hasDictIn K C = true)
    (ha : PySem.W.findIn K (.ref C) name = some none) (hv : mA name = some v) (hv' : PySem.W.handedIn v = true) (h : Q v { s with toks := s.toks + 1 }) :
    wpAny (model prog w) A (getAttr (.ref x) name expr) Q E s := by
  obtain ⟨od, J, hl⟩ := I.look
  exact PySem.W.get_value X J (PySem.W.plainGet_of hg).1 (PySem.W.findObj_own hh ha rfl (by rw [hl, hv])) hv' h


theorem get_meth {pl : Sem Bool} {Q : Value × List Value → Shared → Prop} (X : K.In s.heap) (I : ObjM s.heap x dx C mA) (hg : PySem.W.plainGet K C name = true)
    (hf : PySem.W.findIn K (.ref C) name = some (some (.ref f))) (ht : PySem.W.isFn K (.ref f) = true) (hv : mA name = none) (h : Q (.ref f, [.ref x]) s) :
    wpAny (model prog w) A (getMethod (.ref x) name pl) Q E s := by
  obtain ⟨od, J, hl⟩ := I.look
  exact PySem.W.method_fn X J (PySem.W.plainGet_of hg).1 (PySem.W.plainGet_of hg).2 hf (beq_iff_eq.mp ht) (by show (PySem.W.lookIn name od).map (·.isSome) = some false; rw [hl, hv]; rfl) h

theorem set_map {ns : List Str} {Q : Unit → Shared → Prop} (X : K.In s.heap) (I : ObjM s.heap x dx C mA)
    (hs : PySem.W.findIn K (.ref C) "__setattr__" = some (some (.builtin "object.__setattr__"))) (hp : PySem.W.plainOver K C = true) (ht : PySem.W.takerIn K C name = some none) (hh : PySem.W.hasDictIn K C = true)
    (hw : PySem.Within mA ns) (hsz : ns.length ≤ sizeLine)
    (h : ∀ h', ObjM h' x dx C (fun y => if y = name then some v else mA y) → Heap.SameBut dx s.heap h' → Q () { s with heap := h', toks := s.toks + 2 }) :
    wpAny (model prog w) A (setAttr (.ref x) name v) Q E s := by
  obtain ⟨od, J, hl⟩ := I.look
  refine PySem.W.set_plain X J hs (PySem.W.osa_open (s := { s with toks := s.toks + 1 }) (r := none) X J hp ht fun b => ?_)
  obtain ⟨cd, hc, hd'⟩ := PySem.W.any_some hh
  have hx : s.heap.get? x = some ⟨.ref C, some dx, .plain, #[]⟩ := I.obj
  refine wpAny_bind (wpAny_pure (wpAny_bind (wpAny_bind (wpAny_loadPart hx (wpAny_bind (PySem.W.Looks.here (s := { s with toks := s.toks + 1 }) (PySem.W.looks_clsIn X hc) ?_))))))
  rw [hd']
  refine wpAny_pure (a := some dx) (wpAny_bind (wpAny_pure (wpAny_bind ?_)))
  refine wpAny_nsSet1 (s := { s with toks := s.toks + 1 }) I.ns fun h' hn2 hs2 => ?_
  obtain ⟨oD, esD, epD, hoD, hdD, hcD⟩ := hn2.count (PySem.Within.cons name v hw)
  refine wpAny_bind (wpAny_lookBehind hoD (by rw [hdD]; exact pastItsLine_dict (Nat.le_trans hcD (by rw [List.length_cons]; omega))) ?_)
  exact wpAny_pure (h _ ⟨(hs2.2 _ (Ne.symm I.ne)).trans I.obj, hn2, I.ne⟩ hs2)

/-- C(..): the dict at the heap's end, the instance behind it; then its __init__ -/
theorem make_map {R : Result → Shared → Prop} {vs : List Value} {kw : List (Str × Value)} (X : K.In s.heap) (hm : PySem.W.makesIn K C = true)
    (hi : PySem.W.findIn K (.ref C) "__init__" = some (some (.ref f))) (hf : PySem.W.typeIn K (.ref f) = some (.type "function"))
    (h : codeAny (model prog w) (A.under (.builtin "type.__call__" ⟨.ref C :: vs, kw⟩)) (.call (.ref f) ⟨.ref (s.heap.objs.size + 1) :: vs, kw⟩) (PySem.W.InitBack (s.heap.objs.size + 1) R)
      { s with heap := (s.heap.push PySem.W.emptyDict).push (PySem.W.instObj C s.heap.objs.size) }) :
    codeAny (model prog w) A (.call (.ref C) ⟨vs, kw⟩) R s := by
  obtain ⟨hh, g, d, t, os⟩ := s
  exact PySem.W.make_core (PySem.W.makes_of X hm) (PySem.W.looks_findIn X hi) (fun self => PySem.W.bind_fn X self hf) (.inl rfl) h
end

/-! ### the attributes as a list of pairs -/
def putF (f : Str) (v : V) : List (Str × V) → List (Str × V)
  | [] => [(f, v)]
  | (g, x) :: r => if g = f then (g, v) :: r else (g, x) :: putF f v r
theorem lookup_putF (f g : Str) (v : V) : ∀ fs : List (Str × V), (putF f v fs).lookup g = if g = f then some v else fs.lookup g
  | [] => by
    show List.lookup g [(f, v)] = _
    by_cases h : g = f
    · have hb : (g == f) = true := beq_iff_eq.mpr h
      simp only [List.lookup, hb, if_pos h]
    · have hb : (g == f) = false := beq_eq_false_iff_ne.mpr h
      simp only [List.lookup, hb, if_neg h]
  | (k, x) :: r => by
    have ih := lookup_putF f g v r
    rw [show putF f v ((k, x) :: r) = (if k = f then (k, v) :: r else (k, x) :: putF f v r) from rfl]
    by_cases hk : k = f
    · rw [if_pos hk]
      by_cases h : g = k
      · have hb : (g == k) = true := beq_iff_eq.mpr h
        simp only [List.lookup, hb, if_pos (h.trans hk)]
      · have hb : (g == k) = false := beq_eq_false_iff_ne.mpr h
        simp only [List.lookup, hb, if_neg (fun e : g = f => h (e.trans hk.symm))]
    · rw [if_neg hk]
      by_cases h : g = k
      · have hb : (g == k) = true := beq_iff_eq.mpr h
        simp only [List.lookup, hb, if_neg (fun e : g = f => hk (h.symm.trans e))]
      · have hb : (g == k) = false := beq_eq_false_iff_ne.mpr h
        simp only [List.lookup, hb]
        exact ih
theorem keys_putF (f : Str) (v : V) : ∀ fs : List (Str × V), f ∈ (putF f v fs).map (·.1) ∧ ∀ g, g ∈ fs.map (·.1) → g ∈ (putF f v fs).map (·.1)
  | [] => ⟨by simp [putF], fun g h => by simp at h⟩
  | (k, x) :: r => by
    obtain ⟨i1, i2⟩ := keys_putF f v r
    rw [show putF f v ((k, x) :: r) = (if k = f then (k, v) :: r else (k, x) :: putF f v r) from rfl]
    by_cases hk : k = f
    · rw [if_pos hk]
      subst hk
      exact ⟨by simp, fun g h => by simpa using h⟩
    · rw [if_neg hk]
      refine ⟨?_, fun g h => ?_⟩
      · rw [List.map_cons]
        exact List.mem_cons_of_mem _ i1
      · rw [List.map_cons] at h ⊢
        rcases List.mem_cons.mp h with e | e
        · exact List.mem_cons.mpr (.inl e)
        · exact List.mem_cons_of_mem _ (i2 g e)
theorem length_putF (f : Str) (v : V) : ∀ fs : List (Str × V), (putF f v fs).length ≤ fs.length + 1
  | [] => by simp [putF]
  | (k, x) :: r => by
    have ih := length_putF f v r
    rw [show putF f v ((k, x) :: r) = (if k = f then (k, v) :: r else (k, x) :: putF f v r) from rfl]
    by_cases hk : k = f
    · rw [if_pos hk, List.length_cons, List.length_cons]; omega
    · rw [if_neg hk, List.length_cons, List.length_cons]; omega

theorem RelO.some_of {v : V} {o : Option Value} (r : RelO (some v) o) : ∃ u, o = some u ∧ RelV v u := by
  cases o with
  | none => exact (show False from r).elim
  | some u => exact ⟨u, rfl, r⟩
theorem RelO.none_of {o : Option Value} (r : RelO none o) : o = none := by
  cases o with
  | none => rfl
  | some u => exact (show False from r).elim
theorem handed_of {v : V} {u : Value} (r : RelV v u) : PySem.W.handedIn u = true := by
  cases v with
  | non => cases (show u = Value.none from r); rfl
  | bl b => cases (show u = Value.bool b from r); rfl
  | int i => obtain ⟨t, e⟩ := (show ∃ t, u = Value.int i t from r); cases e; rfl
  | str x => obtain ⟨t, e⟩ := (show ∃ t, u = Value.str x t from r); cases e; rfl
  | byt b => obtain ⟨t, e⟩ := (show ∃ t, u = Value.bytes b t from r); cases e; rfl
  | flt b => obtain ⟨t, e⟩ := (show ∃ t, u = Value.float b t from r); cases e; rfl
  | ref a => cases (show u = Value.ref a from r); rfl
  | ty n => cases (show u = Value.type n from r); rfl

section
variable {P : Program} {w : World} {H H' : Hp} {h h' : Heap} {a C dx : Addr} {fs fs' : List (Str × V)}
theorem ins_get (hok : HOk P w H h) (e : H a = some (.ins C dx fs)) : ∃ mA, ObjM h a dx C mA ∧ (∀ f, RelO (fs.lookup f) (mA f)) ∧ PySem.Within mA (fs.map (·.1)) ∧ fs.length ≤ 1000 ∧ H dx = some (.own a) := by
  obtain ⟨d, z, ne, ob, mA, n, r, q⟩ := (show ObjOk P w H h a (.ins C dx fs) from hok a _ e)
  exact ⟨mA, ⟨ob, n, ne⟩, r, q, z, d⟩
end

/-! ### what of the text a class must have -/
structure Cls (K : PySem.W.Frag) (C : Addr) : Prop where
  pg : PySem.W.plainGet K C Str.empty = true
  hd : PySem.W.hasDictIn K C = true
  po : PySem.W.plainOver K C = true
  sa : PySem.W.findIn K (.ref C) "__setattr__" = some (some (.builtin "object.__setattr__"))
theorem Cls.get {K : PySem.W.Frag} {C : Addr} (c : Cls K C) (f : Str) : PySem.W.plainGet K C f = true := c.pg
/-- no class of it has the name -/
def NoAttr (K : PySem.W.Frag) (C : Addr) (f : Str) : Prop := PySem.W.findIn K (.ref C) f = some none
theorem NoAttr.taker {K : PySem.W.Frag} {C : Addr} {f : Str} (n : NoAttr K C f) : PySem.W.takerIn K C f = some none := by
  unfold PySem.W.takerIn
  rw [show PySem.W.findIn K (.ref C) f = some none from n]
  rfl
/-- a method: a plain def of the class or of one above it -/
structure Meth (K : PySem.W.Frag) (C : Addr) (m : Str) (f : Addr) : Prop where
  at_ : PySem.W.findIn K (.ref C) m = some (some (.ref f))
  fn : PySem.W.isFn K (.ref f) = true
  kp : PySem.W.keepIn K (.ref f) = true

section
variable {X : Cx} {pins : List (Addr × Obj)} {σ : St} {H : Hp} {s : Shared} {a C dx : Addr} {fs : List (Str × V)} {f : Str} {v : V} {A : Around} {E : Value → Shared → Prop}

theorem getattr_ok {b : Bool} {Q : Value → Shared → Prop} (I : Inv X pins σ H s) (e : H a = some (.ins C dx fs)) (c : Cls X.K C) (n : NoAttr X.K C f) (l : fs.lookup f = some v)
    (h : ∀ u s', Inv X pins σ H s' → RelV v u → Q u s') : wpAny (model X.prog X.w) A (getAttr (.ref a) f b) Q E s := by
  obtain ⟨mA, O, r, _, _, _⟩ := ins_get I.hok e
  obtain ⟨u, hu, ru⟩ := RelO.some_of (v := v) (o := mA f) (by rw [← l]; exact r f)
  exact get_map I.kIn O (c.get f) c.hd n hu (handed_of ru) (h u _ (I.tok _) ru)


theorem getmeth_ok {m : Str} {g : Addr} {pl : Sem Bool} {Q : Value × List Value → Shared → Prop} (I : Inv X pins σ H s) (e : H a = some (.ins C dx fs)) (c : Cls X.K C) (k : Meth X.K C m g) (l : fs.lookup m = none)
    (h : Q (.ref g, [.ref a]) s) : wpAny (model X.prog X.w) A (getMethod (.ref a) m pl) Q E s := by
  obtain ⟨mA, O, r, _, _, _⟩ := ins_get I.hok e
  have hn : mA m = none := RelO.none_of (by rw [← l]; exact r m)
  exact get_meth I.kIn O (c.get m) k.at_ k.fn hn h

theorem setattr_ok {y : V} {u : Value} {Q : Unit → Shared → Prop} (I : Inv X pins σ H s) (e : H a = some (.ins C dx fs)) (c : Cls X.K C) (n : NoAttr X.K C f) (hl : fs.length < 1000) (ry : RelV y u)
    (h : ∀ s', Inv X pins σ (upd H a (.ins C dx (putF f y fs))) s' → Q () s') : wpAny (model X.prog X.w) A (setAttr (.ref a) f u) Q E s := by
  obtain ⟨mA, O, r, wi, _, ho⟩ := ins_get I.hok e
  have hz : (fs.map (·.1)).length ≤ sizeLine := by rw [List.length_map, sizeLine_eq]; omega
  refine set_map I.kIn O c.sa c.po n.taker c.hd wi hz fun h' O' sb => h _ ?_
  have hd : ∃ o, h'.get? dx = some o := let ⟨o, _, _, e', _⟩ := O'.ns; ⟨o, e'⟩
  refine I.write (x := a) (e := dx) (by rw [e]; exact True.intro) (.inr ho) (fun b q hb z => (sb.2 b hb).trans z) hd ?_
  refine ⟨by rw [upd_ne O.ne]; exact ho, ?_, O.ne, O'.obj, _, O'.ns, fun g => ?_, fun g hg => ?_⟩
  · have := length_putF f y fs; omega
  · show RelO ((putF f y fs).lookup g) (if g = f then some u else mA g)
    rw [lookup_putF]
    by_cases q : g = f
    · rw [if_pos q, if_pos q]; exact ry
    · rw [if_neg q, if_neg q]; exact r g
  · by_cases q : g = f
    · rw [q]; exact (keys_putF f y fs).1
    · refine (keys_putF f y fs).2 g (wi g fun z => hg ?_)
      show (if g = f then some u else mA g) = none
      rw [if_neg q]; exact z

/-- a new instance, tracked, without attributes -/
theorem Inv.made (I : Inv X pins σ H s) : Inv X pins σ (upd (upd H s.heap.objs.size (.own (s.heap.objs.size + 1))) (s.heap.objs.size + 1) (.ins C s.heap.objs.size []))
    { s with heap := (s.heap.push PySem.W.emptyDict).push (PySem.W.instObj C s.heap.objs.size) } := by
  have e1 : (s.heap.push PySem.W.emptyDict).get? s.heap.objs.size = some PySem.W.emptyDict := Heap.get?_push_size s.heap rfl
  have e2 : ((s.heap.push PySem.W.emptyDict).push (PySem.W.instObj C s.heap.objs.size)).get? (s.heap.objs.size + 1) = some (PySem.W.instObj C s.heap.objs.size) := by
    have := Heap.get?_push_size (s.heap.push PySem.W.emptyDict) (o := PySem.W.instObj C s.heap.objs.size) rfl
    rwa [Heap.size_push] at this
  have e3 : (s.heap.push PySem.W.emptyDict).Ns s.heap.objs.size (fun _ => none) := ⟨PySem.W.emptyDict, #[], _, e1, rfl, (fun e he => absurd he (by simp)), fun _ => rfl⟩
  have I1 := I.laid (a := s.heap.objs.size) (o := .own (s.heap.objs.size + 1)) (h' := s.heap.push PySem.W.emptyDict) (t' := s.toks) (fun b u q => Heap.get?_push_of_some _ q) (Nat.le_refl _) ⟨_, e1⟩
  refine I1.laid (a := s.heap.objs.size + 1) (o := .ins C s.heap.objs.size []) (t' := s.toks) (fun b u q => Heap.get?_push_of_some _ q) (Nat.le_of_eq (Heap.size_push _ _)) ?_
  have ne : s.heap.objs.size ≠ s.heap.objs.size + 1 := Nat.ne_of_lt (Nat.lt_succ_self _)
  refine ⟨by rw [upd_ne ne, upd_same], Nat.zero_le _, ne, e2, fun _ => none, (Heap.Ns1.of_empty e3).at fun o q => Heap.get?_push_of_some _ q, fun _ => True.intro, fun y hy => absurd rfl hy⟩

/-- e.f where nothing but the object is asked: through attributeBase (super) and the last hold -/
theorem attr_of {prog : Program} {w : World} {env : Env} {e : Expr} {f : Str} {pos : Pos} {s : Shared} {Q : Value → Shared → Prop} (hb : attributeBase e f env (eval e env) = eval e env)
    (h : wpAny (model prog w) A (eval e env) (fun o s₁ => wpAny (model prog w) A (getAttr o f true) Q E s₁) E s) : wpAny (model prog w) A (eval (.Attribute e f pos) env) Q E s :=
  Attribute_any_ h (by rw [arm_eval_Attribute, hb])
end

/-! ### readings and rules -/
/-- e.f, an attribute of the instance -/
def tFld (K : PySem.W.Frag) (ta : TE) (f : Str) : TE := fun σ H Q => ta σ H fun x H1 => ∃ a C dx fs v, x = .ref a ∧ H1 a = some (.ins C dx fs) ∧ Cls K C ∧ NoAttr K C f ∧ fs.lookup f = some v ∧ Q v H1
/-- e.f = value -/
def sFld (K : PySem.W.Frag) (ta tv : TE) (f : Str) : TS := fun D σ H => tv σ H fun y H1 => ta σ H1 fun x H2 => ∃ a C dx fs, x = .ref a ∧ H2 a = some (.ins C dx fs) ∧ Cls K C ∧ NoAttr K C f ∧ fs.length < 1000 ∧
  D.nx σ (upd H2 a (.ins C dx (putF f y fs)))

section
variable {X : Cx} {o e value : Expr} {f : Str} {pos pos' tpos : Pos} {ta tv : TE}
theorem pe_fld (he : PE X e ta) (hb : attributeBase e f X.env (eval e X.env) = eval e X.env) : PE X (.Attribute e f pos) (tFld X.K ta f) := by
  intro pins s σ H Q I h
  refine attr_of hb (thn (he pins s σ H _ I h) fun u s1 ⟨x, H1, I1, rx, a, C, dx, fs, v, ex, ea, c, n, l, q⟩ => ?_)
  subst ex
  obtain rfl : u = Value.ref a := rx
  exact getattr_ok I1 ea c n l fun u' s2 I2 ru => ⟨v, H1, I2, ru, q⟩
theorem ps_fld (ha : PE X o ta) (hv : PE X value tv) (hs : swapsWith value (some (.Attribute o f pos')) pos.line X.env = pure false) : PS X (.Assign [.Attribute o f pos'] value pos) (sFld X.K ta tv f) := by
  intro pins s σ H D I h
  refine plainObj_wpAny_Assign_Attribute (thn (hv pins s σ H _ I h) fun u s1 ⟨y, H1, I1, ry, q⟩ => thn (ha pins s1 σ H1 _ I1 q) fun ov s2 ⟨x, H2, I2, rx, a, C, dx, fs, ex, ea, c, n, l, q2⟩ => ?_) hs
  subst ex
  obtain rfl : ov = Value.ref a := rx
  exact setattr_ok I2 ea c n l ry fun s3 I3 => ⟨σ, _, I3, q2⟩

/-- what is between an instance and its method: the tree of a method call -/
theorem methcall_of {pl : Sem Bool} {m : Str} {apos : Pos} {args : List Expr} {pins : List (Addr × Obj)} {s : Shared} {σ : St} {H : Hp} {Q : Value → Shared → Prop} {te : TE} (he : PE X e te) (I : Inv X pins σ H s)
    (h : te σ H fun x H1 => ∃ a C dx fs g, x = .ref a ∧ H1 a = some (.ins C dx fs) ∧ Cls X.K C ∧ Meth X.K C m g ∧ fs.lookup m = none ∧
      ∀ s1, Inv X pins σ H1 s1 → wpAny (model X.prog X.w) X.A (callWith pos (.ref g) [.ref a] (backTo pos (starEach args X.env)) (backToKw pos (keywordEach [] X.env))) Q X.xe s1)
    (ht : eval (.Call (.Attribute e m apos) args [] pos) X.env = (do
      let ov ← eval e X.env
      standAt apos.atName
      let (f, first) ← holding [ov] (getMethod ov m pl)
      callWith pos f first (backTo pos (starEach args X.env)) (backToKw pos (keywordEach [] X.env)))) :
    wpAny (model X.prog X.w) X.A (eval (.Call (.Attribute e m apos) args [] pos) X.env) Q X.xe s := by
  refine PySem.W.methodCall_KW (pl := pl) (thn (he pins s σ H _ I h) fun u s1 ⟨x, H1, I1, rx, a, C, dx, fs, g, ex, ea, c, k, l, q⟩ => ?_) ht
  subst ex
  obtain rfl : u = Value.ref a := rx
  exact getmeth_ok I1 ea c k l (q s1 I1)
end

/-! ### isinstance -/
section
variable {X : Cx} {pins : List (Addr × Obj)} {σ : St} {H : Hp} {s : Shared} {A : Around} {E : Value → Shared → Prop} {Q : Value → Shared → Prop} {c : Value} {b : Bool}
/-- the type of a value, as the fragment's deciders take it; for an instance its class -/
inductive TyOf (K : PySem.W.Frag) (H : Hp) : V → Value → Prop where
  | non : TyOf K H .non (.type "NoneType")
  | bl (x : Bool) : TyOf K H (.bl x) (.type "bool")
  | int (i : Int) : TyOf K H (.int i) (.type "int")
  | str (x : Str) : TyOf K H (.str x) (.type "str")
  | flt (x : UInt64) : TyOf K H (.flt x) (.type "float")
  | lst {a : Addr} {xs : List V} (e : H a = some (.lst xs)) : TyOf K H (.ref a) (.type "list")
  | frz {a : Addr} {o : Obj} {xs : List V} (e : H a = some (.frz o (.lst xs))) : TyOf K H (.ref a) (.type "list")
  | tup {a : Addr} {xs : List V} (e : H a = some (.tup xs)) : TyOf K H (.ref a) (.type "tuple")
  | dK {a : Addr} {kvs : List (Key × V)} (e : H a = some (.dK kvs)) : TyOf K H (.ref a) (.type "dict")
  | dT {a : Addr} {kvs : List (List Key × V)} (e : H a = some (.dT kvs)) : TyOf K H (.ref a) (.type "dict")
  | ins {a C dx : Addr} {fs : List (Str × V)} (e : H a = some (.ins C dx fs)) (cl : Cls K C) (ha : PySem.W.findIn K (.ref C) "__class__" = some (some (.builtin "object.__class__")))
      (hn : PySem.W.specialIn K (.builtin "object.__class__") "__get__" = some (some (.builtin "getset_descriptor.__get__"))) (htk : PySem.W.takesIn K (.builtin "object.__class__") = some true)
      (hm : PySem.W.mroIn K C (.type "object") = some true) : TyOf K H (.ref a) (.ref C)
/-- isinstance(x, c) for one class c, a built-in or an own one: kitOne's answer -/
theorem isinst_ok {x : V} {u t : Value} (I : Inv X pins σ H s) (rx : RelV x u) (ty : TyOf X.K H x t) (e : PySem.W.kitOne X.K t c = some b) (h : ∀ tk, Q (.bool b) { s with toks := tk }) :
    wpAny (model X.prog X.w) A (call (.builtin "isinstance") [u, c]) Q E s := by
  cases ty with
  | non => cases (show u = Value.none from rx); exact PySem.W.kia_one PySem.W.kitx_none I.kIn True.intro e (fun z => nomatch z) h
  | bl y => cases (show u = Value.bool y from rx); exact PySem.W.kia_one PySem.W.kitx_bool I.kIn True.intro e (fun z => nomatch z) h
  | int i => obtain ⟨t, q⟩ := (show ∃ t, u = Value.int i t from rx); cases q; exact PySem.W.kia_one PySem.W.kitx_int I.kIn True.intro e (fun z => nomatch z) h
  | str y => obtain ⟨t, q⟩ := (show ∃ t, u = Value.str y t from rx); cases q; exact PySem.W.kia_one PySem.W.kitx_str I.kIn True.intro e (fun z => nomatch z) h
  | flt y => obtain ⟨t, q⟩ := (show ∃ t, u = Value.float y t from rx); cases q; exact PySem.W.kia_one PySem.W.kitx_float I.kIn True.intro e (fun z => nomatch z) h
  | @lst a xs ea =>
    cases (show u = Value.ref a from rx)
    obtain ⟨_, _, n, _, h1⟩ := (show ObjOk X.prog X.w H s.heap a (.lst xs) from I.hok a _ ea)
    exact PySem.W.kia_one PySem.W.kitx_list I.kIn ⟨_, h1, rfl⟩ e (fun z => nomatch z) h
  | @frz a ob xs ea =>
    cases (show u = Value.ref a from rx)
    obtain ⟨_, _, _, n, _, h1⟩ := (show ObjOk X.prog X.w H s.heap a (.frz ob (.lst xs)) from I.hok a _ ea)
    exact PySem.W.kia_one PySem.W.kitx_list I.kIn ⟨_, h1, rfl⟩ e (fun z => nomatch z) h
  | @tup a xs ea =>
    cases (show u = Value.ref a from rx)
    obtain ⟨_, _, _, p⟩ := (show ObjOk X.prog X.w H s.heap a (.tup xs) from I.hok a _ ea)
    obtain ⟨o, h1, h2, _⟩ := p
    exact PySem.W.kia_one PySem.W.kitx_tuple I.kIn ⟨o, h1, h2⟩ e (fun z => nomatch z) h
  | @dK a kvs ea =>
    cases (show u = Value.ref a from rx)
    obtain ⟨_, _, vs, _, p⟩ := (show ObjOk X.prog X.w H s.heap a (.dK kvs) from I.hok a _ ea)
    obtain ⟨o, es, ep, h1, h2, _⟩ := p
    exact PySem.W.kia_one PySem.W.kitx_dict I.kIn ⟨o, h1, h2.1⟩ e (fun z => nomatch z) h
  | @dT a kvs ea =>
    cases (show u = Value.ref a from rx)
    obtain ⟨_, _, xs, _, o, es, ep, h1, h2, _⟩ := (show ObjOk X.prog X.w H s.heap a (.dT kvs) from I.hok a _ ea)
    exact PySem.W.kia_one PySem.W.kitx_dict I.kIn ⟨o, h1, h2.1⟩ e (fun z => nomatch z) h
  | @ins a C dx fs ea cl ha hn htk hm =>
    cases (show u = Value.ref a from rx)
    obtain ⟨mA, O, _⟩ := ins_get I.hok ea
    obtain ⟨od, J, _⟩ := O.look
    exact PySem.W.kia_one (PySem.W.kitx_own (cl.get _) cl.hd ha hn htk hm) I.kIn J e (fun z => nomatch z) h
end
end L2

namespace L2
open PySem PySem.Spec PyProof.Rows

/-! ### room -/
structure Room (k : Nat) (A : Around) : Prop where
  hd : A.handled = none
  dp : A.depth + 3 * k + 5 < recursionLimit
  un : A.units + 16 * k + 200 < cLine
theorem Room.mono {j k : Nat} {A : Around} (r : Room k A) (h : j ≤ k) : Room j A := ⟨r.hd, by have := r.dp; omega, by have := r.un; omega⟩
theorem Room.deeper {k : Nat} {A : Around} (r : Room (k + 1) A) (env : Env) : Room k (A.deeper env) :=
  ⟨r.hd, by have := r.dp; show A.depth + 1 + 3 * k + 5 < _; omega, by have := r.un; show A.units + 3 + 16 * k + 200 < _; omega⟩
theorem make_depth {A : Around} {C : Addr} {us : List Value} {kw : List (Str × Value)} : (A.under (.builtin "type.__call__" ⟨.ref C :: us, kw⟩)).depth = A.depth + 1 := by
  first | rfl | simp [Around.under, Code.weight, Code.isCreation, Code.isGuard, Code.isCaller, Code.frames, Code.isFrame, guardIds]
theorem make_units {A : Around} {C : Addr} {us : List Value} {kw : List (Str × Value)} : (A.under (.builtin "type.__call__" ⟨.ref C :: us, kw⟩)).units = A.units + 1 := by
  first | rfl | simp [Around.under, Code.cUnits, Code.frames, Code.isFrame]
theorem Room.make {k : Nat} {A : Around} (r : Room (k + 1) A) (C : Addr) (us : List Value) (kw : List (Str × Value)) : Room k (A.under (.builtin "type.__call__" ⟨.ref C :: us, kw⟩)) :=
  ⟨r.hd, by have := r.dp; rw [make_depth]; omega, by have := r.un; rw [make_units]; omega⟩
theorem Room.depth {k : Nat} {A : Around} (r : Room k A) : A.depth < recursionLimit := by have := r.dp; omega
theorem Room.units {k : Nat} {A : Around} (r : Room k A) : A.units + 64 < cLine := by have := r.un; omega
theorem Room.units0 {k : Nat} {A : Around} (r : Room k A) : A.units < cLine := by have := r.un; omega

/-! ### argument lists and displays -/
def tNil : TA := fun _ H Q => Q [] H
def tCons (ta : TE) (tr : TA) : TA := fun σ H Q => ta σ H fun x H1 => tr σ H1 fun xs H2 => Q (x :: xs) H2
section
variable {X : Cx} {e : Expr} {es : List Expr} {te : TE} {t : TA} {pos : Pos}
theorem pa_nil : PA X [] tNil := fun _ _ _ _ H Q I h => Calls.spliced_nil ⟨[], H, I, .nil, h⟩
theorem pa_cons (ha : PE X e te) (hr : PA X es t) (hs : starEach (e :: es) X.env = (false, eval e X.env) :: starEach es X.env := by rfl) : PA X (e :: es) (tCons te t) := by
  intro pos pins s σ H Q I h
  rw [hs]
  show wpAny _ _ (spliced ((false, eval e X.env) :: backTo pos (starEach es X.env))) _ _ s
  refine Calls.spliced_cons (thn (ha pins s σ H _ I h) fun u s1 ⟨x, H1, I1, r1, q1⟩ => ?_)
  exact thn (hr pos pins s1 σ H1 _ I1 q1) fun us s2 ⟨xs, H2, I2, r2, q2⟩ => ⟨x :: xs, H2, I2, .cons r1 r2, q2⟩

/-- a tuple, a list of written items -/
def tTup (t : TA) : TE := fun σ H Q => t σ H fun xs H1 => xs.length ≤ sizeLine ∧ ∀ p, H1 p = none → Q (.ref p) (upd H1 p (.tup xs))
def tLst (t : TA) : TE := fun σ H Q => t σ H fun xs H1 => xs.length ≤ sizeLine ∧ ∀ p, H1 p = none → Q (.ref p) (upd H1 p (.lst xs))
theorem pe_tup {x1} (h : PA X es t) : PE X (.Tuple es x1 pos) (tTup t) := by
  intro pins s σ H Q I hq
  refine wpAny_Tuple_spliced (thn (h pos pins s σ H _ I hq) fun us s1 ⟨xs, H1, I1, r, z, q⟩ => ⟨by rw [← r.length]; exact z, ?_⟩)
  have hf : H1 s1.heap.objs.size = none := I1.hok.fresh (Nat.le_refl _)
  refine ⟨.ref s1.heap.objs.size, upd H1 s1.heap.objs.size (.tup xs), I1.laid (t' := s1.toks) (fun b u e => Heap.get?_push_of_some _ e) (Nat.le_refl _) ?_, rfl, q _ hf⟩
  exact ⟨z, us, r, ⟨_, Heap.get?_push_size _ rfl, rfl, _, rfl⟩⟩
theorem pe_lst (h : PA X es t) : PE X (.List es pos) (tLst t) := by
  intro pins s σ H Q I hq
  refine wpAny_List_spliced (thn (h pos pins s σ H _ I hq) fun us s1 ⟨xs, H1, I1, r, z, q⟩ => ⟨by rw [← r.length]; exact z, ?_⟩)
  have hf : H1 s1.heap.objs.size = none := I1.hok.fresh (Nat.le_refl _)
  refine ⟨.ref s1.heap.objs.size, upd H1 s1.heap.objs.size (.lst xs), I1.laid (t' := s1.toks) (fun b u e => Heap.get?_push_of_some _ e) (Nat.le_refl _) ?_, rfl, q _ hf⟩
  exact ⟨z, us, 0, r, Heap.get?_push_size _ rfl⟩
end

/-! ### what a def promises -/
/-- a def's promise: the bound arguments in the parameters' order, the heap, the wanted end, the wanted exception -/
abbrev Sp := List V → Hp → VK → XK → Prop
/-- how an exception lies behind a call (file 08 gives it): the callers' frames, abstract heap and state ahead of the call, the wish, the exception, the state -/
abbrev CXT := List Env → Hp → Shared → XK → Value → Shared → Prop

/-- the state at a call -/
structure Env0 (P : Program) (w : World) (K : PySem.W.Frag) (mg : Str → Option Value) (base : Heap) (A : Around) (outer : List Env) (s : Shared) (H : Hp) : Prop where
  frames : A.frames = some outer
  mod : Mod K mg base
  bs : ∀ b o, base.get? b = some o → s.heap.get? b = some o ∧ H b = none
  bsz : base.objs.size ≤ s.heap.objs.size
  funs : s.heap.FunFrames base outer
  frf : ∀ b ∈ frs outer, H b = none
  hok : HOk P w H s.heap
  bare : AllBare s.gens
/-- a call's end -/
def CE (outer : List Env) (P : Program) (w : World) (H : Hp) (s : Shared) (Q : VK) (u : Value) (s' : Shared) : Prop :=
  ∃ v H', s'.os = s.os ∧ AllBare s'.gens ∧ Un (frs outer) [] H H' s.heap s'.heap ∧ HOk P w H' s'.heap ∧ RelV v u ∧ Q v H'
def CR (CX : CXT) (outer : List Env) (P : Program) (w : World) (H : Hp) (s : Shared) (Q : VK) (E : XK) (r : Result) (s' : Shared) : Prop :=
  match r with
  | .ok (.ret u) => CE outer P w H s Q u s'
  | .ok _ => False
  | .error e => CX outer H s E e s'
structure FnOk (P : Program) (w : World) (K : PySem.W.Frag) (mg : Str → Option Value) (base : Heap) (CX : CXT) (k : Nat) (f : Addr) (fd : FuncData) (ps : List Str) (sp : Sp) : Prop where
  len : ∀ vs H Q E, sp vs H Q E → vs.length = ps.length
  run : ∀ (A : Around) (outer : List Env) (s : Shared) (H : Hp) (args : Args) (us : List Value) (vs : List V) (Q : VK) (E : XK), Room k A → Env0 P w K mg base A outer s H → BindsTo s fd args (ps.zip us) → Vals vs us → sp vs H Q E →
    codeAny (model P w) A (.call (.ref f) args) (CR CX outer P w H s Q E) s

theorem Env0.make {P : Program} {w : World} {K : PySem.W.Frag} {mg : Str → Option Value} {base : Heap} {A : Around} {outer : List Env} {s : Shared} {H : Hp} (e : Env0 P w K mg base A outer s H) (C : Addr) (us : List Value) (kw : List (Str × Value)) :
    Env0 P w K mg base (A.under (.builtin "type.__call__" ⟨.ref C :: us, kw⟩)) outer s H := ⟨by first | exact e.frames | (simpa [Around.under, Code.envs, Code.isFrame, pushEnvs] using e.frames), e.mod, e.bs, e.bsz, e.funs, e.frf, e.hok, e.bare⟩

section
variable {X : Cx} {pins : List (Addr × Obj)} {σ : St} {H : Hp} {s s' : Shared}
/-- from a body: what a callee wants -/
theorem Inv.env0 (I : Inv X pins σ H s) : Env0 X.prog X.w X.K X.mg X.base X.A X.stack s H :=
  ⟨I.ok.frames, I.ok.mod, I.bs, Nat.le_trans I.ok.bsz I.sz, I.stack, I.stkFree, I.hok, I.bare⟩
/-- behind a call -/
theorem Inv.after {Q : VK} {u : Value} (I : Inv X pins σ H s) (h : CE X.stack X.prog X.w H s Q u s') : EP X pins σ Q u s' := by
  obtain ⟨v, H', os, bare, un, hok, r, q⟩ := h
  obtain ⟨hh, g, d, t, os'⟩ := s'
  obtain rfl : os' = s.os := os
  exact ⟨v, H', I.call (h' := hh) (g' := g) (d' := d) (t' := t) (ch := []) un hok bare (fun b z => absurd z (by simp)), r, q⟩
end

/-! ### calls -/
/-- f(..): the written arguments, then the defaults dvs; E: what is wanted of an exception -/
def tCall (sp : Sp) (dvs : List V) (E : XK) (t : TA) : TE := fun σ H Q => t σ H fun vs H1 => sp (vs ++ dvs) H1 Q E
/-- o.m(..) of an instance of the class at C -/
def tMeth (C : Addr) (m : Str) (sp : Sp) (dvs : List V) (E : XK) (ta : TE) (t : TA) : TE := fun σ H Q => ta σ H fun x H1 => ∃ a dx fs, x = .ref a ∧ H1 a = some (.ins C dx fs) ∧ fs.lookup m = none ∧
  t σ H1 fun vs H2 => sp (x :: (vs ++ dvs)) H2 Q E
/-- C(..): a new instance and its dict, then __init__ -/
def tMake (C : Addr) (sp : Sp) (dvs : List V) (E : XK) (t : TA) : TE := fun σ H Q => t σ H fun vs H1 => ∀ x dx, H1 x = none → H1 dx = none → dx ≠ x →
  sp (.ref x :: (vs ++ dvs)) (upd (upd H1 dx (.own x)) x (.ins C dx [])) (fun v H2 => v = .non ∧ Q (.ref x) H2) E

/-- how the parameters are bound: us the positional arguments, kw the keywords' values by name, ds the defaults that fill up -/
def Binds (K : PySem.W.Frag) (fd : FuncData) (ps : List Str) (ds : List Value) : Prop :=
  ∀ (s : Shared) (us : List Value), K.In s.heap → (us ++ ds).length = ps.length → BindsTo s fd ⟨us, []⟩ (ps.zip (us ++ ds))
/-- every parameter is given -/
theorem Binds.all {K : PySem.W.Frag} {fd : FuncData} {ps : List Str} (h : ∀ us : List Value, us.length = ps.length → bindArgs fd ⟨us, []⟩ = pure (ps.zip us)) : Binds K fd ps [] := fun s us _ hl => by
  rw [List.append_nil] at hl ⊢
  exact .of_eq (h us hl)

/-- an exception of a callee reaches what this body wants of exceptions -/
def Passes (CX : CXT) (X : Cx) (E : XK) : Prop := ∀ (pins : List (Addr × Obj)) (σ : St) (H : Hp) (s : Shared) (e : Value) (s' : Shared), Inv X pins σ H s → CX X.stack H s E e s' → X.xe e s'

section
variable {X : Cx} {CX : CXT} {k : Nat} {f C : Addr} {fd : FuncData} {ps : List Str} {sp : Sp} {dvs : List V} {ds : List Value} {E : XK} {x m : Str} {p pos apos : Pos} {e o : Expr} {es : List Expr} {ta : TE} {t : TA}

/-- the callee runs -/
theorem run_fn {pins : List (Addr × Obj)} {σ : St} {H : Hp} {s : Shared} {Q : VK} {us : List Value} {vs : List V} (F : FnOk X.prog X.w X.K X.mg X.base CX k f fd ps sp) (hr : Room k X.A) (hb : Binds X.K fd ps ds) (hd : Vals dvs ds) (hx : Passes CX X E)
    (I : Inv X pins σ H s) (r : Vals vs us) (h : sp (vs ++ dvs) H Q E) : wpAny (model X.prog X.w) X.A (call (.ref f) us) (EP X pins σ Q) X.xe s := by
  have r2 : Vals (vs ++ dvs) (us ++ ds) := r.append hd
  have hl : (us ++ ds).length = ps.length := by rw [← r2.length]; exact F.len _ _ _ _ h
  refine wpAny_call (codeAny_mono (F.run X.A X.stack s H ⟨us, []⟩ (us ++ ds) (vs ++ dvs) Q E hr I.env0 (hb s us I.kIn hl) r2 h) fun r s' hq => ?_)
  cases r with
  | error e => exact hx pins σ H s e s' I hq
  | ok fl =>
    cases fl with
    | ret u => exact I.after hq
    | next => exact False.elim hq
    | brk => exact False.elim hq
    | cont => exact False.elim hq

theorem pe_call (F : FnOk X.prog X.w X.K X.mg X.base CX k f fd ps sp) (hr : Room k X.A) (hg : Gl X x) (hm : X.mg x = some (.ref f)) (hk : PySem.W.keepIn X.K (.ref f) = true) (hb : Binds X.K fd ps ds) (hd : Vals dvs ds) (hx : Passes CX X E)
    (ha : PA X (e :: es) t) (hdb : (x == ("__debug__" : Str)) = false := by decide) (he : starEach (e :: es) X.env = (false, eval e X.env) :: starEach es X.env := by rfl) (hpl : (backTo pos (starEach es X.env)).any (·.1) = false := by rfl) :
    PE X (.Call (.Name x p) (e :: es) [] pos) (tCall sp dvs E t) := by
  intro pins s σ H Q I h
  refine wpAny_Call_Name_kw (ld_glob I hg hm ?_ hdb)
  refine PySem.W.callWith_K (h₀ := X.base) I.ok.mod.kin hk (thn (ha pos pins s σ H _ I h) fun us s1 ⟨vs, H1, I1, r, q⟩ => ⟨I1.kIn, ?_⟩) he hpl
  exact run_fn F hr hb hd hx I1 r q

/-- o.m(e, ..) -/
theorem pe_meth {pl : Sem Bool} (he : PE X o ta) (c : Cls X.K C) (hm : Meth X.K C m f) (F : FnOk X.prog X.w X.K X.mg X.base CX k f fd ps sp) (hr : Room k X.A) (hb : Binds X.K fd ps ds) (hd : Vals dvs ds) (hx : Passes CX X E) (ha : PA X (e :: es) t)
    (hst : starEach (e :: es) X.env = (false, eval e X.env) :: starEach es X.env := by rfl) (hpl : (backTo pos (starEach es X.env)).any (·.1) = false := by rfl)
    (ht : eval (.Call (.Attribute o m apos) (e :: es) [] pos) X.env = (do
      let ov ← eval o X.env
      standAt apos.atName
      let (f, first) ← holding [ov] (getMethod ov m pl)
      callWith pos f first (backTo pos (starEach (e :: es) X.env)) (backToKw pos (keywordEach [] X.env))) := by rfl) :
    PE X (.Call (.Attribute o m apos) (e :: es) [] pos) (tMeth C m sp dvs E ta t) := by
  intro pins s σ H Q I h
  refine PySem.W.methodCall_KW (pl := pl) (thn (he pins s σ H _ I h) fun u s1 ⟨x, H1, I1, rx, a, dx, fs, ex, ea, l, q⟩ => ?_) ht
  subst ex
  obtain rfl : u = Value.ref a := rx
  refine getmeth_ok I1 ea c hm l ?_
  refine PySem.W.callWith_K (first := [.ref a]) (h₀ := X.base) I.ok.mod.kin hm.kp (thn (ha pos pins s1 σ H1 _ I1 q) fun us s2 ⟨vs, H2, I2, r, q2⟩ => ⟨I2.kIn, ?_⟩) hst hpl
  exact run_fn (us := .ref a :: us) (vs := .ref a :: vs) F hr hb hd hx I2 (.cons rfl r) q2

/-- what a class must have to be made -/
structure Mk (K : PySem.W.Frag) (C f : Addr) : Prop where
  makes : PySem.W.makesIn K C = true
  init : PySem.W.findIn K (.ref C) "__init__" = some (some (.ref f))
  fn : PySem.W.isFn K (.ref f) = true
  kp : PySem.W.keepIn K (.ref C) = true

theorem run_make {pins : List (Addr × Obj)} {σ : St} {H : Hp} {s : Shared} {Q : VK} {us : List Value} {vs : List V} (M : Mk X.K C f) (F : FnOk X.prog X.w X.K X.mg X.base CX k f fd ps sp) (hr : Room (k + 1) X.A) (hb : Binds X.K fd ps ds) (hd : Vals dvs ds)
    (hx : Passes CX X E) (I : Inv X pins σ H s) (r : Vals vs us)
    (h : ∀ x dx, H x = none → H dx = none → dx ≠ x → sp (.ref x :: (vs ++ dvs)) (upd (upd H dx (.own x)) x (.ins C dx [])) (fun v H2 => v = .non ∧ Q (.ref x) H2) E) :
    wpAny (model X.prog X.w) X.A (call (.ref C) us) (EP X pins σ Q) X.xe s := by
  have hq := h (s.heap.objs.size + 1) s.heap.objs.size (I.hok.fresh (Nat.le_succ _)) (I.hok.fresh (Nat.le_refl _)) (Nat.ne_of_lt (Nat.lt_succ_self _))
  have I2 := Inv.made (C := C) I
  have r2 : Vals (V.ref (s.heap.objs.size + 1) :: (vs ++ dvs)) (Value.ref (s.heap.objs.size + 1) :: (us ++ ds)) := .cons rfl (r.append hd)
  have hl : (Value.ref (s.heap.objs.size + 1) :: us ++ ds).length = ps.length := by
    have e := r2.length
    rw [F.len _ _ _ _ hq] at e
    exact e.symm
  refine wpAny_call (make_map (f := f) I.kIn M.makes M.init (beq_iff_eq.mp M.fn) (codeAny_mono (F.run _ X.stack _ _ ⟨Value.ref (s.heap.objs.size + 1) :: us, []⟩ (Value.ref (s.heap.objs.size + 1) :: (us ++ ds)) _ _ E (hr.make C us [])
    (I2.env0.make C us []) (hb _ (Value.ref (s.heap.objs.size + 1) :: us) I2.kIn hl) r2 hq) fun r s' hq' => ?_))
  cases r with
  | error e => exact hx pins σ _ _ e s' I2 hq'
  | ok fl =>
    cases fl with
    | ret u =>
      obtain ⟨v, H', I3, rv, ev, q3⟩ := I2.after hq'
      subst ev
      exact ⟨rv, ⟨V.ref (s.heap.objs.size + 1), H', I3, rfl, q3⟩⟩
    | next => exact False.elim hq'
    | brk => exact False.elim hq'
    | cont => exact False.elim hq'
theorem pe_make (M : Mk X.K C f) (F : FnOk X.prog X.w X.K X.mg X.base CX k f fd ps sp) (hr : Room (k + 1) X.A) (hg : Gl X x) (hm : X.mg x = some (.ref C)) (hb : Binds X.K fd ps ds) (hd : Vals dvs ds) (hx : Passes CX X E)
    (ha : PA X (e :: es) t) (hdb : (x == ("__debug__" : Str)) = false := by decide) (he : starEach (e :: es) X.env = (false, eval e X.env) :: starEach es X.env := by rfl) (hpl : (backTo pos (starEach es X.env)).any (·.1) = false := by rfl) :
    PE X (.Call (.Name x p) (e :: es) [] pos) (tMake C sp dvs E t) := by
  intro pins s σ H Q I h
  refine wpAny_Call_Name_kw (ld_glob I hg hm ?_ hdb)
  refine PySem.W.callWith_K (h₀ := X.base) I.ok.mod.kin M.kp (thn (ha pos pins s σ H _ I h) fun us s1 ⟨vs, H1, I1, r, q⟩ => ⟨I1.kIn, ?_⟩) he hpl
  exact run_make M F hr hb hd hx I1 r q
end

/-! ### keywords -/
section
variable {X : Cx} {CX : CXT} {k : Nat} {f C : Addr} {fd : FuncData} {ps ks : List Str} {sp : Sp} {E : XK} {x m : Str} {p pos apos kpos : Pos} {e o : Expr} {es : List Expr} {kws : List Keyword} {te ta : TE} {t tk : TA} {nm : Option Str}

variable {g : List Value → List Value → List Value} {gV : List V → List V → List V}
end

/-! ### a def's body keeps its promise -/
/-- names: the parameters first -/
structure FnScope (N P : List Str) (sc : Scope) : Prop where
  kind : sc.kind = .function
  co : sc.isCoroutine = false
  gen : sc.isGenerator = false
  nd : N.Nodup
  pre : N.take P.length = P
  par : ∀ x ∈ P, sc.names.lookup x = some .local ∨ sc.names.lookup x = some .cell
  nofree : ∀ y ∈ sc.names, y.2 ≠ .free

theorem bindL_out {kindOf : Str → Option NameKind} {x : Str} : ∀ {binds : List (Str × Value)} {m : Str → Option Value}, (∀ v, (x, v) ∉ binds) → bindL kindOf binds m x = m x
  | [], _, _ => rfl
  | (n, v) :: r, m, h => by
    unfold bindL
    rw [bindL_out fun w hw => h w (List.mem_cons_of_mem _ hw)]
    split
    · have : x ≠ n := by rintro rfl; exact h v List.mem_cons_self
      simp [this]
    · rfl
theorem bindC_out {kindOf : Str → Option NameKind} {x : Str} : ∀ {binds : List (Str × Value)} {m : Str → Option Value}, (∀ v, (x, v) ∉ binds) → bindC kindOf binds m x = m x
  | [], _, _ => rfl
  | (n, v) :: r, m, h => by
    unfold bindC
    rw [bindC_out fun w hw => h w (List.mem_cons_of_mem _ hw)]
    split
    · rfl
    · have : x ≠ n := by rintro rfl; exact h v List.mem_cons_self
      simp [this]
theorem bindL_get {kindOf : Str → Option NameKind} {x : Str} {v : Value} : ∀ {P : List Str} {vs : List Value} {i : Nat} {m : Str → Option Value}, P.Nodup → P[i]? = some x → vs[i]? = some v → kindOf x = some .local →
    bindL kindOf (P.zip vs) m x = some v
  | [], _, _, _, _, h, _, _ => by simp at h
  | _ :: _, [], _, _, _, _, h, _ => by simp at h
  | p :: P, w :: vs, 0, m, nd, h1, h2, hk => by
    simp at h1 h2; subst h1; subst h2
    show bindL kindOf ((p, w) :: P.zip vs) m p = _
    unfold bindL
    rw [bindL_out fun v hv => (List.nodup_cons.mp nd).1 (List.of_mem_zip hv).1, if_pos hk]
    simp
  | p :: P, w :: vs, i + 1, m, nd, h1, h2, hk => by
    show bindL kindOf ((p, w) :: P.zip vs) m x = _
    unfold bindL
    exact bindL_get (i := i) (List.nodup_cons.mp nd).2 (by simpa using h1) (by simpa using h2) hk
theorem bindC_get {kindOf : Str → Option NameKind} {x : Str} {v : Value} : ∀ {P : List Str} {vs : List Value} {i : Nat} {m : Str → Option Value}, P.Nodup → P[i]? = some x → vs[i]? = some v → kindOf x ≠ some .local →
    bindC kindOf (P.zip vs) m x = some v
  | [], _, _, _, _, h, _, _ => by simp at h
  | _ :: _, [], _, _, _, _, h, _ => by simp at h
  | p :: P, w :: vs, 0, m, nd, h1, h2, hk => by
    simp at h1 h2; subst h1; subst h2
    show bindC kindOf ((p, w) :: P.zip vs) m p = _
    unfold bindC
    rw [bindC_out fun v hv => (List.nodup_cons.mp nd).1 (List.of_mem_zip hv).1, if_neg hk]
    simp
  | p :: P, w :: vs, i + 1, m, nd, h1, h2, hk => by
    show bindC kindOf ((p, w) :: P.zip vs) m x = _
    unfold bindC
    exact bindC_get (i := i) (List.nodup_cons.mp nd).2 (by simpa using h1) (by simpa using h2) hk

/-- the names' values at the entry -/
def start (N : List Str) (vs : List V) : St := vs.map some ++ List.replicate (N.length - vs.length) none

/-- the context of a def's body, at its entry; an exception leaves the frame, then lies as CX says -/
def cxOf (CX : CXT) (P : Program) (w : World) (K : PySem.W.Frag) (mg : Str → Option Value) (base : Heap) (N : List Str) (qual : Str) (scope : Scope) (f : Addr) (cd : Value) (A : Around) (outer : List Env) (s : Shared) (H : Hp) (E : XK) : Cx where
  prog := P
  w := w
  K := K
  mg := mg
  base := base
  A := A.deeper (envOfC qual scope s.heap.objs.size f cd)
  N := N
  s₀ := s
  H₀ := H
  env := envOfC qual scope s.heap.objs.size f cd
  outer := outer
  stack := envOfC qual scope s.heap.objs.size f cd :: outer
  ex := []
  calm := true
  fn := fun _ => true
  pn := []
  xe := fun e s' => wpAny (model P w) (A.deeper (envOfC qual scope s.heap.objs.size f cd)) (leaving (envOfC qual scope s.heap.objs.size f cd) e) (fun _ s'' => CX outer H s E e s'') (fun e' s'' => CX outer H s E e' s'') s'

theorem cell_has {sc : Scope} {n : Nat} {x : Str} (h : sc.names.lookup x = some .cell) : ∃ c, (cellsFrom n sc.names []).lookup x = some c := by
  have q := PySem.W.cellsFrom_some sc.names n [] (.inl h)
  exact Option.isSome_iff_exists.mp q

theorem inv_start {CX : CXT} {P : Program} {w : World} {K : PySem.W.Frag} {mg : Str → Option Value} {base : Heap} {N ps : List Str} {qual : Str} {scope : Scope} {f : Addr} {cd : Value} {A : Around} {outer : List Env} {s s1 : Shared} {H : Hp} {E : XK} {us : List Value} {vs : List V}
    (S : FnScope N ps scope) (hd : A.handled = none) (e0 : Env0 P w K mg base A outer s H) (hl : vs.length = ps.length) (r : Vals vs us)
    (x : InCallC s s.heap.objs.size (bindL (envOfC qual scope s.heap.objs.size f cd).kindOf (ps.zip us) fun _ => none) (cellsFrom (s.heap.objs.size + 1) scope.names []) (bindC (envOfC qual scope s.heap.objs.size f cd).kindOf (ps.zip us) fun _ => none) s1) :
    Inv (cxOf CX P w K mg base N qual scope f cd A outer s H E) [] (start N vs) H s1 := by
  have hpl : ps.length ≤ N.length := by have := congrArg List.length S.pre; rw [List.length_take] at this; omega
  obtain ⟨h1, tk, rfl, hk⟩ := x.done
  have noA : ∀ b : Addr, b ∉ (cxOf CX P w K mg base N qual scope f cd A outer s H E).ex := fun b z => absurd (show b ∈ ([] : List Addr) from z) (by simp)
  refine ⟨⟨e0.mod, S.kind, rfl, rfl, Nat.le_refl _, fun y z c h1 h2 => ?_, fun y hy => ?_, fun y c _ h => ?_, fun _ => hd, Around.frames_deeper e0.frames, .inr ⟨rfl, rfl⟩, fun b z => absurd z (noA b), e0.bs, e0.bsz, fun b _ _ => noA b, fun b z => absurd z (noA b), e0.funs, e0.frf⟩,
    rfl, e0.bare, Un.kept hk, ⟨_, x.toInCall.ns, fun i y v h1 h2 h3 => ?_⟩, fun y c h => ⟨_, x.cell y c h⟩, e0.hok.fresh (Nat.le_refl _), fun y c h => ?_, fun p hp => absurd (show p ∈ ([] : List (Addr × Obj)) from hp) (by simp), e0.hok.kept hk, ?_⟩
  · exact name_of_addr x.apart (PySem.mem_of_lookup h1) (PySem.mem_of_lookup h2)
  · have hy : scope.names.lookup y = some .cell ∨ scope.names.lookup y = some .free := hy
    rcases hy with hy | hy
    · exact cell_has hy
    · exact absurd rfl (S.nofree _ (PySem.mem_of_lookup hy))
  · exact Nat.le_of_lt (x.above y c (PySem.mem_of_lookup h))
  · have hi : i < vs.length := by
      unfold start at h2
      by_cases hi : i < vs.length
      · exact hi
      · rw [List.getElem?_append_right (by simpa using hi)] at h2
        rw [List.getElem?_replicate] at h2
        split at h2 <;> cases h2
    have ha : vs[i]? = some v := by
      unfold start at h2
      rw [List.getElem?_append_left (by simpa using hi), List.getElem?_map] at h2
      cases e : vs[i]? with
      | none => rw [e] at h2; cases h2
      | some a => rw [e] at h2; cases h2; rfl
    obtain ⟨u, hu, rv⟩ := r.get ha
    have hp : ps[i]? = some y := by
      rw [← S.pre, List.getElem?_take_of_lt (by omega)]; exact h1
    have ndP : ps.Nodup := by rw [← S.pre]; exact S.nd.sublist (List.take_sublist _ _)
    refine ⟨u, rv, ?_⟩
    rcases S.par y (List.mem_of_getElem? hp) with k | k
    · exact .inl ⟨k, bindL_get ndP hp hu k⟩
    · obtain ⟨c, e⟩ := cell_has (n := s.heap.objs.size + 1) k
      refine .inr ⟨.inl k, c, e, ?_⟩
      have q := x.cell y c e
      rw [bindC_get ndP hp hu (by show scope.names.lookup y ≠ _; rw [k]; decide)] at q
      exact q
  · exact e0.hok.fresh (Nat.le_of_lt (x.above y c (PySem.mem_of_lookup h)))
  · unfold start
    show _ = N.length
    rw [List.length_append, List.length_map, List.length_replicate]
    omega

/-- THE RULE: a def (or a method) of the text, by its body. The body's reading t is chosen for each entry; it is run at the parameters' values -/
theorem fn_of {CX : CXT} {P : Program} {w : World} {K : PySem.W.Frag} {mg : Str → Option Value} {base : Heap} {k : Nat} {f : Addr} {name qual : Str} {params : Arguments} {body : List Stmt} {scope : Scope} {dV kV doc pm cdv ct oc : Value} {an od : Option Addr}
    {osl : Array (Option Value)} {N ps : List Str} {sp : Sp} (lk : K.lookup f = some ⟨oc, od, .func (PySem.W.fnOf name qual params body scope dV kV doc pm an cdv ct), osl⟩) (hcd : PySem.W.codeIn K cdv qual = true) (S : FnScope N ps scope)
    (len : ∀ vs H Q E, sp vs H Q E → vs.length = ps.length)
    (hbody : ∀ (A : Around) (outer : List Env) (s : Shared) (H : Hp) (vs : List V) (Q : VK) (E : XK), Room k (A.deeper (envOfC qual scope s.heap.objs.size f cdv)) → sp vs H Q E →
      ∃ t, PSs (cxOf CX P w K mg base N qual scope f cdv A outer s H E) body t ∧ t { nx := fun _ H' => Q .non H', rt := Q } (start N vs) H) :
    FnOk P w K mg base CX (k + 1) f (PySem.W.fnOf name qual params body scope dV kV doc pm an cdv ct) ps sp := by
  refine ⟨len, fun A outer s H args us vs Q E hr e0 hb r hsp => ?_⟩
  have hl := len _ _ _ _ hsp
  have KX : K.In s.heap := e0.mod.kin.keeps fun b o e => (e0.bs b o e).1
  have lim : s.heap.NoLimit := e0.mod.nolimit.keeps fun b o e => (e0.bs b o e).1
  have hkind : ∀ y ∈ ps.zip us, scope.names.lookup y.1 = some .local ∨ (scope.names.lookup y.1 = some .cell ∧ ((cellsFrom (s.heap.objs.size + 1) scope.names []).lookup y.1).isSome = true) := fun ⟨n, v⟩ hy => by
    rcases S.par n (List.of_mem_zip hy).1 with q | q
    · exact .inl q
    · exact .inr ⟨q, PySem.W.cellsFrom_some _ _ _ (.inl q)⟩
  refine codeAny_call_function hr.depth (KX _ _ lk) rfl S.co S.gen rfl (PySem.W.codeRec_of KX hcd) (hb _ _ _ _ ?_)
  refine wpAny_newFunctionEnv_cells S.kind hkind fun env he s1 x => ?_
  subst he
  refine ⟨lim.keeps x.toInCall.keep, codeAny_func ?_⟩
  obtain ⟨t, ht, hq⟩ := hbody A outer s H vs Q E (hr.deeper _) hsp
  have I : Inv (cxOf CX P w K mg base N qual scope f cdv A outer s H E) [] (start N vs) H s1 := inv_start S hr.hd e0 hl r x
  refine wpAny_mono (ht [] s1 (start N vs) H _ I hq) (fun fl s' hs => ?_) fun e s' hs => hs
  have fin : ∀ {σ' : St} {H' : Hp} {v : V} {u : Value}, Inv (cxOf CX P w K mg base N qual scope f cdv A outer s H E) [] σ' H' s' → RelV v u → Q v H' → CE outer P w H s Q u s' :=
    fun {σ' H' v u} J rv q => ⟨v, H', J.os, J.bare, J.base, J.hok, rv, q⟩
  cases fl with
  | ret u =>
    obtain ⟨v, σ', H', J, rv, q⟩ := hs
    exact fin J rv q
  | next =>
    obtain ⟨σ', H', J, q⟩ := hs
    exact fin (v := V.non) (u := Value.none) J rfl q
  | brk =>
    obtain ⟨_, _, _, q⟩ := hs
    exact False.elim q
  | cont =>
    obtain ⟨_, _, _, q⟩ := hs
    exact False.elim q
end L2

namespace L2
open PySem PySem.Spec PyProof.Rows
section
variable {X : Cx} {x : Str} {p pos : Pos} {e : Expr} {es : List Expr} {t : TA} {id T : String} {r : List V → Hp → VK → Prop}

def tCB (r : List V → Hp → VK → Prop) (t : TA) : TE := fun σ H Q => t σ H fun vs H1 => r vs H1 Q
/-- f(e, ..), f a built-in function -/
theorem pe_callB (hc : CallR X (.builtin id) r) (hg : Gl X x) (hm : X.mg x = none) (hv : bootBuiltins x = some (.builtin id)) (ha : PA X (e :: es) t) (hn : x ≠ "__name__" := by decide) (hdb : (x == ("__debug__" : Str)) = false := by decide)
    (he : starEach (e :: es) X.env = (false, eval e X.env) :: starEach es X.env := by rfl) (hpl : (backTo pos (starEach es X.env)).any (·.1) = false := by rfl) : PE X (.Call (.Name x p) (e :: es) [] pos) (tCB r t) := by
  intro pins s σ H Q I h
  refine wpAny_Call_Name_kw (ld_blt I hg hm hv ?_ hn hdb)
  exact PyProof.Rows.callWith_builtin1 (thn (ha pos pins s σ H _ I h) fun us s1 ⟨vs, H1, I1, r1, q1⟩ => hc pins s1 σ H1 vs us Q I1 r1 q1) he hpl
/-- T(e, ..), T a built-in type -/
theorem pe_callTy (hc : CallR X (.type T) r) (hg : Gl X x) (hm : X.mg x = none) (hv : bootBuiltins x = some (.type T)) (ha : PA X (e :: es) t) (hn : x ≠ "__name__" := by decide) (hdb : (x == ("__debug__" : Str)) = false := by decide)
    (he : starEach (e :: es) X.env = (false, eval e X.env) :: starEach es X.env := by rfl) (hpl : (backTo pos (starEach es X.env)).any (·.1) = false := by rfl) : PE X (.Call (.Name x p) (e :: es) [] pos) (tCB r t) := by
  intro pins s σ H Q I h
  refine wpAny_Call_Name_kw (ld_blt I hg hm hv ?_ hn hdb)
  exact PyProof.Rows.callWith_type1 (thn (ha pos pins s σ H _ I h) fun us s1 ⟨vs, H1, I1, r1, q1⟩ => hc pins s1 σ H1 vs us Q I1 r1 q1) he hpl
end
end L2

namespace HT
open PySem PyProof.Rows



section
open PySem.SeqAt
open PySem.AutoSeq1 (wpAny_loadPart')
open PySem.MeetsSeq PySem.MeetsSeq2 PySem.MeetsSeq3

end

section
variable {prog : Program} {w : World} {A : Around} {E : Value → Shared → Prop} {s : Shared}



/-! ### t[a:b], not the whole -/
/-- a slice's bound as a place among n (d where it is left out) -/
def sIx (n d : Nat) : Option Int → Nat
  | none => d
  | some v => if v < 0 then (v + (n : Int)).toNat else min v.toNat n
theorem sIx_none (n d : Nat) : sIx n d none = d := rfl
theorem sIx_nat (n d k : Nat) : sIx n d (some (k : Int)) = min k n := by
  show (if (k : Int) < 0 then ((k : Int) + (n : Int)).toNat else min (k : Int).toNat n) = min k n
  rw [if_neg (by omega), Int.toNat_natCast]

end
end HT

namespace L2
open PySem PySem.Spec PyProof.Rows

/-! ### the parts of a slice -/
abbrev TO := St → Hp → (Option Int → Hp → Prop) → Prop
/-- a slice's part (left out, or an int) -/
def PO (X : Cx) (e : Option Expr) (t : TO) : Prop :=
  ∀ (pins : List (Addr × Obj)) (s : Shared) (σ : St) (H : Hp) (Q : Option Int → Hp → Prop), Inv X pins σ H s → t σ H Q →
    wpAny (model X.prog X.w) X.A (evalPart e X.env) (fun u s' => ∃ o H', Inv X pins σ H' s' ∧ IsPart u o ∧ Q o H') X.xe s
def tNoPart : TO := fun _ H Q => Q none H
def tPart (t : TE) : TO := fun σ H Q => t σ H fun x H1 => ∃ i, x = .int i ∧ Q (some i) H1

theorem intsAre_of {ns : List Int} : ∀ {us : List Value}, Vals (ns.map V.int) us → IntsAre us ns := by
  induction ns with
  | nil => intro us r; rw [List.map_nil] at r; cases r; exact .nil
  | cons n ns ih =>
    intro us r
    rw [List.map_cons] at r
    cases r with
    | cons r1 r2 =>
      obtain ⟨t, e⟩ := r1
      subst e
      exact .cons n t (ih r2)

section
variable {X : Cx} {e : Expr} {te : TE} {lo hi : Option Expr} {tl th : TO} {pos p2 : Pos}

theorem po_none : PO X none tNoPart := by
  intro pins s σ H Q I h
  rw [evalPart_none]
  exact wpAny_pure ⟨none, H, I, .none, h⟩
theorem po_some (h : PE X e te) : PO X (some e) (tPart te) := by
  intro pins s σ H Q I hw
  rw [evalPart_some]
  refine thn (h pins s σ H _ I hw) fun u s1 ⟨x, H1, I1, r1, q1⟩ => ?_
  obtain ⟨i, rfl, q⟩ := q1
  obtain ⟨t, rfl⟩ := r1
  exact ⟨some i, H1, I1, .int i t, q⟩

/-- what a slice of a value is, by values: the slice object stands at sl -/
def SlR (X : Cx) (r : V → Option Int → Option Int → Hp → VK → Prop) : Prop :=
  ∀ (pins : List (Addr × Obj)) (s : Shared) (σ : St) (H : Hp) (x : V) (v vl vu : Value) (lo hi : Option Int) (sl : Addr) (Q : VK), Inv X pins σ H s → RelV x v → s.heap.IsSliceOf sl vl vu .none → IsPart vl lo → IsPart vu hi → r x lo hi H Q →
    ∃ T id, typeLookup (.type T) "__getitem__" = pure (some (.builtin id)) ∧ s.TypeIs v T ∧ wpAny (model X.prog X.w) X.A (getItem v (.ref sl)) (EP X pins σ Q) X.xe s
def tSl (r : V → Option Int → Option Int → Hp → VK → Prop) (te : TE) (tl th : TO) : TE := fun σ H Q => te σ H fun x H1 => tl σ H1 fun l H2 => th σ H2 fun u H3 => r x l u H3 Q
/-- a[lo:hi], any a -/
theorem pe_slice {r : V → Option Int → Option Int → Hp → VK → Prop} (hr : SlR X r) (he : PE X e te) (hl : PO X lo tl) (hu : PO X hi th) : PE X (.Subscript e (.Slice lo hi none p2) pos) (tSl r te tl th) := by
  intro pins s σ H Q I h
  refine Subscript_ (thn (he pins s σ H _ I h) fun v s1 ⟨x, H1, I1, r1, q1⟩ => ?_)
  refine wpAny_Slice (thn (hl pins s1 σ H1 _ I1 q1) fun vl s2 ⟨l, H2, I2, pl, q2⟩ => thn (hu pins s2 σ H2 _ I2 q2) fun vu s3 ⟨u, H3, I3, pu, q3⟩ => ?_)
  rw [evalPart_none]
  refine wpAny_pure ?_
  have I4 : Inv X pins σ H3 { s3 with heap := s3.heap.push { cls := .type "slice", data := .fields #[vl, vu, .none] } } := I3.kept (t' := s3.toks) fun b ob q => Heap.get?_push_of_some _ q
  obtain ⟨T, id, hT, ht, hg⟩ := hr pins { s3 with heap := s3.heap.push { cls := .type "slice", data := .fields #[vl, vu, .none] } } σ H3 x v vl vu l u s3.heap.objs.size Q I4 r1 (Heap.IsSliceOf.new ..) pl pu q3
  show wpAny (model X.prog X.w) X.A (subscriptTail e (.Slice lo hi none p2) v (.ref s3.heap.objs.size)) (EP X pins σ Q) X.xe { s3 with heap := s3.heap.push { cls := .type "slice", data := .fields #[vl, vu, .none] } }
  exact tail_any (ops := [.ref s3.heap.objs.size, v]) ht hT hg (by with_unfolding_all rfl)

/-- the items of xs[lo:hi] -/
def cutV (xs : List V) (lo hi : Option Int) : List V := (xs.drop (HT.sIx xs.length 0 lo)).take (HT.sIx xs.length xs.length hi - HT.sIx xs.length 0 lo)
theorem cutV_length (xs : List V) (lo hi : Option Int) : (cutV xs lo hi).length ≤ xs.length := by
  unfold cutV
  rw [List.length_take, List.length_drop]
  omega

/-! ### t < u, t + u -/
end
end L2

namespace L2
open PySem PySem.Spec PyProof.Rows

/-! ### places -/
/-- the place that an index of any sign means -/
def ixN (n : Nat) (i : Int) : Option Nat := if 0 ≤ i then (if i < n then some i.toNat else none) else if -(n : Int) ≤ i then some (i + n).toNat else none
def atI {α : Type} (xs : List α) (i : Int) : Option α := (ixN xs.length i).bind fun j => xs[j]?
theorem ixN_seq {n : Nat} {i : Int} {j : Nat} (h : ixN n i = some j) : seqIndex? i n = some j ∧ j < n ∧ -(n : Int) ≤ i ∧ i < n := by
  unfold ixN at h
  by_cases h0 : 0 ≤ i
  · rw [if_pos h0] at h
    by_cases h1 : i < n
    · rw [if_pos h1] at h
      have e : i.toNat = j := Option.some.inj h
      exact ⟨by rw [seqIndex_of h0 h1, e], by omega, by omega, h1⟩
    · rw [if_neg h1] at h; cases h
  · rw [if_neg h0] at h
    by_cases h1 : -(n : Int) ≤ i
    · rw [if_pos h1] at h
      have e : (i + n).toNat = j := Option.some.inj h
      exact ⟨by rw [seqIndex_neg (by omega) h1, e], by omega, h1, by omega⟩
    · rw [if_neg h1] at h; cases h
theorem atI_get {α : Type} {xs : List α} {i : Int} {v : α} (h : atI xs i = some v) : ∃ j, seqIndex? i xs.length = some j ∧ xs[j]? = some v ∧ j < xs.length ∧ -(xs.length : Int) ≤ i ∧ i < xs.length := by
  unfold atI at h
  cases e : ixN xs.length i with
  | none => rw [e] at h; cases h
  | some j =>
    rw [e] at h
    obtain ⟨h1, h2, h3, h4⟩ := ixN_seq e
    exact ⟨j, h1, h, h2, h3, h4⟩
theorem atI_nat {α : Type} {xs : List α} {j : Nat} {v : α} (h : xs[j]? = some v) : atI xs (j : Int) = some v := by
  have hj : j < xs.length := (List.getElem?_eq_some_iff.mp h).1
  have e : ixN xs.length (j : Int) = some j := by
    unfold ixN
    rw [if_pos (by omega), if_pos (by omega)]; simp
  unfold atI; rw [e]; exact h

/-! ### what may be subscripted -/
/-- what stands as an index of a plain subscript -/
def PlainIx (b : Expr) : Prop := ∀ o i, subscripted b false o i = operate [o, i] (getItem o i)
/-- a subscript by values -/
def IxR (X : Cx) (r : R2) : Prop :=
  ∀ (value slice : Expr) (pins : List (Addr × Obj)) (s : Shared) (σ : St) (H : Hp) (x y : V) (v u : Value) (Q : VK), Inv X pins σ H s → RelV x v → RelV y u → r x y H Q →
    subscripted slice false v u = operate [v, u] (getItem v u) → wpAny (model X.prog X.w) X.A (subscriptTail value slice v u) (EP X pins σ Q) X.xe s
/-- a call of a builtin's method by values: the receiver, the arguments -/
def MtR (X : Cx) (id : String) (r : V → List V → Hp → VK → Prop) : Prop :=
  ∀ (pins : List (Addr × Obj)) (s : Shared) (σ : St) (H : Hp) (x : V) (xs : List V) (v : Value) (us : List Value) (Q : VK), Inv X pins σ H s → RelV x v → Vals xs us → r x xs H Q →
    wpAny (model X.prog X.w) X.A (call (.builtin id) (v :: us)) (EP X pins σ Q) X.xe s
section
variable {X : Cx} {a b : Expr} {ta tb : TE} {pos : Pos}
/-- a[b] -/
theorem pe_ix {r : R2} (hr : IxR X r) (ha : PE X a ta) (hb : PE X b tb) (hs : PlainIx b) : PE X (.Subscript a b pos) (tOp r ta tb) := by
  intro pins s σ H Q I h
  exact Subscript_ (binT ha hb I h fun v u s2 x y H2 I2 rx ry q => hr a b pins s2 σ H2 x y v u Q I2 rx ry q (hs _ _))

def rIxL (K : PySem.W.Frag) : R2 := fun x y H Q => ∃ p xs i v, x = .ref p ∧ y = .int i ∧ SqL K H p xs ∧ atI xs i = some v ∧ Q v H
def rIxT (K : PySem.W.Frag) : R2 := fun x y H Q => ∃ p xs i v, x = .ref p ∧ y = .int i ∧ SqT K H p xs ∧ atI xs i = some v ∧ Q v H
def rIxS : R2 := fun x y H Q => ∃ z i c, x = .str z ∧ y = .int i ∧ z.length ≤ sizeLine ∧ atI z.cps.toList i = some c ∧ Q (.str ⟨#[c]⟩) H
theorem ix_list : IxR X (rIxL X.K) := by
  intro value slice pins s σ H x y v u Q I rx ry h hs
  obtain ⟨p, xs, i, z, rfl, rfl, hq, he, q⟩ := h
  cases rx
  obtain ⟨t, rfl⟩ := ry
  obtain ⟨its, r, pl, hz⟩ := I.list hq
  obtain ⟨j, h1, h2, h3, h4, h5⟩ := atI_get he
  obtain ⟨w, ew, rw'⟩ := r.get h2
  have hl := r.length
  have hn := line63
  have fin : EP X pins σ Q w s := ⟨z, H, I, rw', q⟩
  by_cases h0 : 0 ≤ i
  · have hj : i.toNat = j := by
      rw [seqIndex_of h0 h5] at h1
      exact Option.some.inj h1
    exact item_listR pl.isList h0 (by omega) (by rw [hj]; simpa using ew) fin hs
  · have hj : (i + (its.toArray.size : Int)).toNat = j := by
      rw [seqIndex_neg (by omega) h4] at h1
      rw [List.size_toArray, ← hl]
      exact Option.some.inj h1
    exact subscriptTail_builtinR (x := w) pl.isList.typeIs slot_list_getitem.lookup
      (wpAny_getItem_list_neg (Q := fun r s' => r = w ∧ EP X pins σ Q r s') pl.isList (by omega) (by rw [List.size_toArray] <;> omega) (by omega) (by rw [hj]; simpa using ew) ⟨rfl, fin⟩) hs
theorem ix_tup : IxR X (rIxT X.K) := by
  intro value slice pins s σ H x y v u Q I rx ry h hs
  obtain ⟨p, xs, i, z, rfl, rfl, hq, he, q⟩ := h
  cases rx
  obtain ⟨t, rfl⟩ := ry
  obtain ⟨its, r, pl, hz⟩ := I.tuple hq
  obtain ⟨j, h1, h2, h3, h4, h5⟩ := atI_get he
  obtain ⟨w, ew, rw'⟩ := r.get h2
  have hl := r.length
  have hn := line63
  have fin : EP X pins σ Q w s := ⟨z, H, I, rw', q⟩
  exact subscriptTail_builtinR (x := w) pl.typeIs slot_tuple_getitem.lookup
    (getItem_tuple (j := j) (Q := fun r s' => r = w ∧ EP X pins σ Q r s') pl (by omega) (by omega) (by rw [List.size_toArray, ← hl]; exact h1) (by simpa using ew) ⟨rfl, fin⟩) hs
theorem ix_str : IxR X rIxS := by
  intro value slice pins s σ H x y v u Q I rx ry h hs
  obtain ⟨z, i, c, rfl, rfl, hz, he, q⟩ := h
  obtain ⟨t, rfl⟩ := rx
  obtain ⟨t', rfl⟩ := ry
  obtain ⟨j, h1, h2, h3, h4, h5⟩ := atI_get he
  have hl : z.cps.toList.length = z.length := by simp [Str.length]
  rw [hl] at h1 h4 h5
  have hn := line63
  exact tail_any (typeIs_str s z t) slot_str_getitem.lookup (getItem_str (c := c) (by
    have e1 : decide (i < -(2 ^ 63 : Int)) = false := decide_eq_false (by omega)
    have e2 : decide (i ≥ 2 ^ 63) = false := decide_eq_false (by omega)
    rw [e1, e2, Bool.or_false]) (by rw [h1]; simpa using h2) ⟨.str ⟨#[c]⟩, H, I.tok _, ⟨_, rfl⟩, q⟩) hs

/-! ### xs[i] = v, any sign -/
/-- the list's object behind a store -/
theorem mapSeq_set (its : List Value) (n j : Nat) (u : Value) : Obj.mapSeq (·.setIfInBounds j u) { cls := .type "list", data := .seq its.toArray n } = { cls := .type "list", data := .seq (its.set j u).toArray n } := by
  simp [Obj.mapSeq]
theorem Inv.lst {pins : List (Addr × Obj)} {σ : St} {H : Hp} {s : Shared} {p : Addr} {xs : List V} (I : Inv X pins σ H s) (h : H p = some (.lst xs)) :
    ∃ (its : List Value) (n : Nat), Vals xs its ∧ s.heap.get? p = some { cls := .type "list", data := .seq its.toArray n } ∧ xs.length ≤ sizeLine := by
  obtain ⟨z, its, n, r, e⟩ := I.hok p _ h
  exact ⟨its, n, r, e, z⟩
/-- the list at p is written by an update of its object -/
theorem Inv.lstUpd {pins : List (Addr × Obj)} {σ : St} {H : Hp} {s : Shared} {p : Addr} {xs ys : List V} {its its' : List Value} {n n' : Nat} {f : Obj → Obj} (I : Inv X pins σ H s) (h : H p = some (.lst xs))
    (ho : s.heap.get? p = some { cls := .type "list", data := .seq its.toArray n }) (hf : f { cls := .type "list", data := .seq its.toArray n } = { cls := .type "list", data := .seq its'.toArray n' }) (r : Vals ys its') (hz : ys.length ≤ sizeLine) (t : Nat) :
    Inv X pins σ (upd H p (.lst ys)) { s with heap := s.heap.update p f, toks := t } := by
  have e : (s.heap.update p f).get? p = some { cls := .type "list", data := .seq its'.toArray n' } := by
    rw [Heap.get?_update_self f ho (by rw [hf] <;> rfl), hf]
  refine I.write (x := p) (e := p) (by rw [h]; trivial) (.inl rfl) (fun b u hb q => (Heap.get?_update_other _ _ (Ne.symm hb)).trans q) ⟨_, e⟩ ?_
  exact ⟨hz, its', n', r, e⟩
def rSetL : V → V → V → Hp → (Hp → Prop) → Prop := fun o i v H Q => ∃ p xs k j, o = .ref p ∧ i = .int k ∧ H p = some (.lst xs) ∧ ixN xs.length k = some j ∧ Q (upd H p (.lst (xs.set j v)))
theorem set_list : PSet X rSetL := by
  intro pins s σ H o i v ov iv u Q I ro ri rv h
  obtain ⟨p, xs, k, j, rfl, rfl, hp, hj, q⟩ := h
  cases ro
  obtain ⟨t, rfl⟩ := ri
  obtain ⟨its, n, r, ho, hz⟩ := I.lst hp
  obtain ⟨h1, h2, h3, h4⟩ := ixN_seq hj
  have hl := r.length
  have hn := line63
  have I' : Inv X pins σ (upd H p (.lst (xs.set j v))) { s with heap := s.heap.update p (Obj.mapSeq (·.setIfInBounds j u)) } :=
    I.lstUpd hp ho (mapSeq_set its n j u) (r.set rv j) (by rw [List.length_set]; exact hz) s.toks
  by_cases h0 : 0 ≤ k
  · have hk : k.toNat = j := by
      rw [seqIndex_of h0 h4] at h1
      exact Option.some.inj h1
    exact PySem.W.ki_setAt ho h0 (by omega) (by rw [List.size_toArray, ← hl]; exact h4) (by rw [hk]; exact ⟨_, I', q⟩)
  · have hk : (k + (its.toArray.size : Int)).toNat = j := by
      rw [seqIndex_neg (by omega) h3] at h1
      rw [List.size_toArray, ← hl]
      exact Option.some.inj h1
    exact PySem.W.ki_setBack ho (by omega) (by rw [List.size_toArray, ← hl]; exact h3) (by omega) (by rw [hk]; exact ⟨_, I', q⟩)

/-! ### slices -/
theorem slice_bounds (lo hi : Option Int) (n : Nat) : (sliceBounds lo hi none n).1 = ((HT.sIx n 0 lo : Nat) : Int) ∧ (sliceBounds lo hi none n).2.1 = ((HT.sIx n n hi : Nat) : Int) ∧ (sliceBounds lo hi none n).2.2 = 1 := by
  refine ⟨?_, ?_, rfl⟩
  · cases lo with
    | none => simp [sliceBounds, HT.sIx]
    | some i =>
      simp only [sliceBounds, HT.sIx, Option.getD_none, show (1 : Int) > 0 by decide, if_true]
      by_cases h : i < 0
      · simp only [h, if_true] <;> omega
      · simp only [h, if_false] <;> omega
  · cases hi with
    | none => simp [sliceBounds, HT.sIx]
    | some i =>
      simp only [sliceBounds, HT.sIx, Option.getD_none, show (1 : Int) > 0 by decide, if_true]
      by_cases h : i < 0
      · simp only [h, if_true] <;> omega
      · simp only [h, if_false] <;> omega
theorem slicePick_cut (its : List Value) (lo hi : Option Int) : slicePick its.toArray lo hi none = ((its.drop (HT.sIx its.length 0 lo)).take (HT.sIx its.length its.length hi - HT.sIx its.length 0 lo)).toArray := by
  obtain ⟨h1, h2, h3⟩ := slice_bounds lo hi its.toArray.size
  unfold slicePick
  rw [h1, h2, h3]
  simp only [sliceRange_one, pick_run, List.size_toArray] <;> rfl
/-- xs[lo:hi] of a list: a new list -/
def rSlL (K : PySem.W.Frag) : V → Option Int → Option Int → Hp → VK → Prop := fun x lo hi H Q => ∃ a xs, x = .ref a ∧ SqL K H a xs ∧ ∀ p, H p = none → Q (.ref p) (upd H p (.lst (cutV xs lo hi)))
theorem sl_list : SlR X (rSlL X.K) := by
  intro pins s σ H x v vl vu lo hi sl Q I rx hs pl pu h
  obtain ⟨a, xs, rfl, hx, q⟩ := h
  cases rx
  obtain ⟨its, r, ht, hz⟩ := I.list hx
  have hlen := r.length
  refine ⟨"list", _, slot_list_getitem.lookup, ht.isList.typeIs, ?_⟩
  refine wpAny_getItem_list_slice ht.isList hs pl pu .none (by simp) ?_ (by rw [List.size_toArray] <;> omega)
  rw [slicePick_cut, ← hlen]
  refine ⟨.ref s.heap.objs.size, _, I.laid (t' := s.toks) (o := .lst (cutV xs lo hi)) (fun b ob q => Heap.get?_push_of_some _ q) (Nat.le_refl _) ?_, rfl, q _ (I.hok.fresh (Nat.le_refl _))⟩
  exact ⟨Nat.le_trans (cutV_length xs lo hi) hz, _, 0, (r.drop (HT.sIx xs.length 0 lo)).take (HT.sIx xs.length xs.length hi - HT.sIx xs.length 0 lo), Heap.get?_push_size _ rfl⟩

/-! ### in, not in: flat items -/
def flatV : V → Bool
  | .non => true
  | .bl _ => true
  | .int _ => true
  | .str _ => true
  | _ => false
/-- == of flat values -/
def eqV : V → V → Bool
  | .non, .non => true
  | .bl a, .bl b => a == b
  | .bl a, .int b => (if a then 1 else 0) == b
  | .int a, .bl b => a == (if b then 1 else 0)
  | .int a, .int b => a == b
  | .str a, .str b => a == b
  | _, _ => false
theorem eqAt_V {A : Around} {s : Shared} {y x : V} {u v : Value} (ry : RelV y u) (rx : RelV x v) (fy : flatV y = true) (fx : flatV x = true) : SeqAt.EqAt A s u v (eqV y x) := by
  cases y with
  | non =>
    cases ry
    cases x with
    | non => cases rx; exact SeqAt.EqAt.same _
    | bl b => cases rx; exact SeqAt.EqAt.none_bool b
    | int b => obtain ⟨t, rfl⟩ := rx; exact SeqAt.EqAt.none_int b t
    | str b => obtain ⟨t, rfl⟩ := rx; exact SeqAt.EqAt.none_str b t
    | _ => exact absurd (show false = true from fx) Bool.false_ne_true
  | bl a =>
    cases ry
    cases x with
    | non => cases rx; exact SeqAt.EqAt.bool_none a
    | bl b => cases rx; exact SeqAt.EqAt.bool_bool a b
    | int b => obtain ⟨t, rfl⟩ := rx; exact SeqAt.EqAt.bool_int a b t
    | str b => obtain ⟨t, rfl⟩ := rx; exact SeqAt.EqAt.bool_str a b t
    | _ => exact absurd (show false = true from fx) Bool.false_ne_true
  | int a =>
    obtain ⟨t', rfl⟩ := ry
    cases x with
    | non => cases rx; exact SeqAt.EqAt.int_none a t'
    | bl b => cases rx; exact SeqAt.EqAt.int_bool a t' b
    | int b => obtain ⟨t, rfl⟩ := rx; exact SeqAt.EqAt.int_int a t' b t
    | str b => obtain ⟨t, rfl⟩ := rx; exact SeqAt.EqAt.int_str a t' b t
    | _ => exact absurd (show false = true from fx) Bool.false_ne_true
  | str a =>
    obtain ⟨t', rfl⟩ := ry
    cases x with
    | non => cases rx; exact SeqAt.EqAt.str_none a t'
    | bl b => cases rx; exact SeqAt.EqAt.str_bool a t' b
    | int b => obtain ⟨t, rfl⟩ := rx; exact SeqAt.EqAt.str_int a t' b t
    | str b => obtain ⟨t, rfl⟩ := rx; exact SeqAt.EqAt.str_str a t' b t
    | _ => exact absurd (show false = true from fx) Bool.false_ne_true
  | _ => exact absurd (show false = true from fy) Bool.false_ne_true
/-- the items' answers, read off the values (a value's own answer does not lean on its token) -/
def eqU (x : V) (u : Value) : Bool := match u with
  | .none => eqV .non x
  | .bool b => eqV (.bl b) x
  | .int i _ => eqV (.int i) x
  | .str z _ => eqV (.str z) x
  | _ => false
theorem eqU_of {x y : V} {u : Value} (r : RelV y u) (f : flatV y = true) : eqU x u = eqV y x := by
  cases y with
  | non => cases r; rfl
  | bl b => cases r; rfl
  | int i => obtain ⟨t, rfl⟩ := r; rfl
  | str z => obtain ⟨t, rfl⟩ := r; rfl
  | _ => exact absurd (show false = true from f) Bool.false_ne_true
theorem any_eqU {x : V} : ∀ {xs : List V} {us : List Value}, Vals xs us → xs.all flatV = true → us.any (eqU x) = xs.any fun y => eqV y x
  | _, _, .nil, _ => rfl
  | y :: xs, u :: us, .cons r t, f => by
    rw [List.all_cons, Bool.and_eq_true] at f
    rw [List.any_cons, List.any_cons, eqU_of r f.1, any_eqU t f.2]
theorem mem_eqAt {A : Around} {s : Shared} {x : V} {v : Value} (rx : RelV x v) (fx : flatV x = true) : ∀ {xs : List V} {us : List Value}, Vals xs us → xs.all flatV = true → ∀ u ∈ us, SeqAt.EqAt A s u v (eqU x u)
  | _, _, .nil, _ => fun u hu => by cases hu
  | y :: xs, u :: us, .cons r t, f => fun u' hu => by
    rw [List.all_cons, Bool.and_eq_true] at f
    rcases List.mem_cons.mp hu with rfl | hu
    · rw [eqU_of r f.1]; exact eqAt_V r rx f.1 fx
    · exact mem_eqAt rx fx t f.2 u' hu
def inV (x : V) (xs : List V) : Bool := xs.any fun y => eqV y x
/-- x in a list or tuple of flat items -/
def rIn (K : PySem.W.Frag) (neg : Bool) : R2 := fun x y H Q => ∃ p xs, y = .ref p ∧ (SqL K H p xs ∨ SqT K H p xs) ∧ flatV x = true ∧ xs.all flatV = true ∧ Q (.bl (if neg then !inV x xs else inV x xs)) H
theorem op_in_seq : OpR X (compareOp .In) (rIn X.K false) := by
  intro pins s σ H x y v u Q I rx ry h
  obtain ⟨p, xs, rfl, hq, fx, fs, q⟩ := h
  cases ry
  rcases hq with hq | hq
  · obtain ⟨its, r, pl, hz⟩ := I.list hq
    refine SeqAt.in_listAt (eqU x) pl.isList (fun w hw => mem_eqAt rx fx r fs w (by simpa using hw)) ⟨.bl _, H, I, rfl, ?_⟩
    rw [show its.toArray.any (eqU x) = its.any (eqU x) by simp, any_eqU r fs]
    exact q
  · obtain ⟨its, r, pl, hz⟩ := I.tuple hq
    refine SeqAt.in_tupleAt (eqU x) pl (fun w hw => mem_eqAt rx fx r fs w (by simpa using hw)) ⟨.bl _, H, I, rfl, ?_⟩
    rw [show its.toArray.any (eqU x) = its.any (eqU x) by simp, any_eqU r fs]
    exact q
theorem op_notIn_seq : OpR X (compareOp .NotIn) (rIn X.K true) := by
  intro pins s σ H x y v u Q I rx ry h
  obtain ⟨p, xs, rfl, hq, fx, fs, q⟩ := h
  cases ry
  rcases hq with hq | hq
  · obtain ⟨its, r, pl, hz⟩ := I.list hq
    refine SeqAt.notIn_listAt (eqU x) pl.isList (fun w hw => mem_eqAt rx fx r fs w (by simpa using hw)) ⟨.bl _, H, I, rfl, ?_⟩
    rw [show its.toArray.any (eqU x) = its.any (eqU x) by simp, any_eqU r fs]
    exact q
  · obtain ⟨its, r, pl, hz⟩ := I.tuple hq
    refine SeqAt.notIn_tupleAt (eqU x) pl (fun w hw => mem_eqAt rx fx r fs w (by simpa using hw)) ⟨.bl _, H, I, rfl, ?_⟩
    rw [show its.toArray.any (eqU x) = its.any (eqU x) by simp, any_eqU r fs]
    exact q
theorem op_notIn_str : OpR X (compareOp .NotIn) (fun x y H Q => ∃ i j, x = .str i ∧ y = .str j ∧ Q (.bl (!(!(Builtin.Str.occurrences j i 0 j.length 1).isEmpty))) H) := by
  intro pins s σ H x y v u Q I rx ry h
  obtain ⟨i, j, rfl, rfl, q⟩ := h
  obtain ⟨t, rfl⟩ := rx
  obtain ⟨t', rfl⟩ := ry
  exact notIn_str ⟨.bl _, H, I, rfl, q⟩

/-! ### len, list(x), tuple(x) of any list or tuple that is read -/
theorem call_len_seq : CallR X (.builtin "len") (fun xs H Q => ∃ p ys, xs = [.ref p] ∧ (SqL X.K H p ys ∨ SqT X.K H p ys) ∧ Q (.int ys.length) H) := by
  intro pins s σ H xs us Q I r h
  obtain ⟨p, ys, rfl, hq, q⟩ := h
  obtain ⟨u, rfl, rx⟩ := vals1 r
  cases rx
  have hn := line63
  rcases hq with hq | hq
  · obtain ⟨its, r', pl, hz⟩ := I.list hq
    have hlen := r'.length
    exact Calls.call_len_list pl.isList (by simp only [List.size_toArray] <;> omega) ⟨.int ys.length, H, I.tok _, ⟨s.toks + 1, by rw [List.size_toArray, hlen]⟩, q⟩
  · obtain ⟨its, r', pl, hz⟩ := I.tuple hq
    have hlen := r'.length
    exact len_tuple pl (by simp only [List.size_toArray] <;> omega) ⟨.int ys.length, H, I.tok _, ⟨s.toks + 1, by rw [List.size_toArray, hlen]⟩, q⟩
theorem call_len_str : CallR X (.builtin "len") (fun xs H Q => ∃ z, xs = [.str z] ∧ z.length ≤ sizeLine ∧ Q (.int z.length) H) := by
  intro pins s σ H xs us Q I r h
  obtain ⟨z, rfl, hz, q⟩ := h
  obtain ⟨u, rfl, t, rfl⟩ := vals1 r
  have hn := line63
  exact len_str (by omega) ⟨.int z.length, H, I.tok _, ⟨_, rfl⟩, q⟩
theorem call_list_of : CallR X (.type "list") (fun xs H Q => ∃ p ys, xs = [.ref p] ∧ (SqL X.K H p ys ∨ SqT X.K H p ys) ∧ ∀ l, H l = none → Q (.ref l) (upd H l (.lst ys))) := by
  intro pins s σ H xs us Q I r h
  obtain ⟨p, ys, rfl, hq, q⟩ := h
  obtain ⟨u, rfl, rx⟩ := vals1 r
  cases rx
  have fin : ∀ (its : List Value), Vals ys its → ys.length ≤ sizeLine → ∀ (h' : Heap) (c' : Nat), (∀ b o', s.heap.get? b = some o' → h'.get? b = some o') →
      h'.get? s.heap.objs.size = some { cls := .type "list", dict := none, data := .seq its.toArray c', slots := #[] } → EP X pins σ Q (.ref s.heap.objs.size) { s with heap := h' } := fun its r' hz h' c' kp e =>
    ⟨.ref s.heap.objs.size, _, I.laid (t' := s.toks) kp (Nat.le_refl _) (show ObjOk X.prog X.w _ h' _ (.lst ys) from ⟨hz, its, c', r', e⟩), rfl, q _ (I.hok.fresh (Nat.le_refl _))⟩
  rcases hq with hq | hq
  · obtain ⟨its, r', pl, hz⟩ := I.list hq
    have hlen := r'.length
    obtain ⟨o, ho, hc, n, hd⟩ := pl.isList
    exact call_list_seq p (.inl rfl) ho hc hd (fun h' c' kp e => fin its r' hz h' c' kp e) (by simp only [List.size_toArray] <;> omega)
  · obtain ⟨its, r', pl, hz⟩ := I.tuple hq
    have hlen := r'.length
    obtain ⟨o, ho, hc, n, hd⟩ := pl
    exact call_list_seq p (.inr rfl) ho hc hd (fun h' c' kp e => fin its r' hz h' c' kp e) (by simp only [List.size_toArray] <;> omega)

/-! ### the call of a builtin's method: o.m(..) -/
/-- the value is of that builtin type -/
def tyV (K : PySem.W.Frag) (T : String) (x : V) (H : Hp) : Prop := match x with
  | .str _ => T = "str"
  | .int _ => T = "int"
  | .ref p => (T = "list" ∧ ∃ xs, SqL K H p xs) ∨ (T = "tuple" ∧ ∃ o, K.lookup p = some o ∧ o.cls = .type "tuple" ∧ o.dict = none) ∨
      (T = "dict" ∧ ((∃ kvs, H p = some (.dK kvs)) ∨ ∃ kvs, H p = some (.dT kvs))) ∨ (T = "set" ∧ ∃ S n, H p = some (.set S n))
  | _ => False
theorem tyV_is {pins : List (Addr × Obj)} {σ : St} {H : Hp} {s : Shared} {T : String} {x : V} {v : Value} (I : Inv X pins σ H s) (r : RelV x v) (ty : tyV X.K T x H) :
    s.TypeIs v T ∧ ∀ a, v = .ref a → ∃ ob, s.heap.get? a = some ob ∧ ob.dict = none := by
  cases x with
  | str z =>
    obtain ⟨t, rfl⟩ := r
    cases (show T = "str" from ty)
    exact ⟨typeIs_str s z t, fun _ e => nomatch e⟩
  | int i =>
    obtain ⟨t, rfl⟩ := r
    cases (show T = "int" from ty)
    exact ⟨typeIs_int s i t, fun _ e => nomatch e⟩
  | ref p =>
    cases r
    rcases ty with ⟨rfl, xs, hq⟩ | ⟨rfl, o, hk, hc, hd⟩ | ⟨rfl, hk⟩ | ⟨rfl, S, n, hk⟩
    · obtain ⟨its, _, pl, _⟩ := I.list hq
      refine ⟨pl.isList.typeIs, fun a e => ?_⟩
      cases e
      obtain ⟨o, n, e, c, hd, _⟩ := pl
      exact ⟨o, e, hd⟩
    · refine ⟨⟨o, I.kIn p o hk, hc⟩, fun a e => ?_⟩
      cases e
      exact ⟨o, I.kIn _ o hk, hd⟩
    · have z : ∃ o, s.heap.get? p = some o ∧ o.ExactDict := by
        rcases hk with ⟨kvs, hk⟩ | ⟨kvs, hk⟩
        · obtain ⟨_, _, _, _, o, _, _, e, ex, _⟩ := I.hok p _ hk
          exact ⟨o, e, ex⟩
        · obtain ⟨_, _, _, _, o, _, _, e, ex, _⟩ := I.hok p _ hk
          exact ⟨o, e, ex⟩
      obtain ⟨o, e, ex⟩ := z
      refine ⟨⟨o, e, ex.1⟩, fun a e2 => ?_⟩
      cases e2
      exact ⟨o, e, ex.2.1⟩
    · obtain ⟨o, _, _, _, e, ex, _⟩ := I.hok p _ hk
      refine ⟨⟨o, e, ex.1⟩, fun a e2 => ?_⟩
      cases e2
      exact ⟨o, e, ex.2.1⟩
  | _ => exact False.elim ty
def tBM (K : PySem.W.Frag) (T : String) (r : V → List V → Hp → VK → Prop) (to : TE) (t : TA) : TE := fun σ H Q => to σ H fun x H1 => tyV K T x H1 ∧ t σ H1 fun xs H2 => r x xs H2 Q
variable {o e : Expr} {es : List Expr} {to : TE} {t : TA} {name : Str} {apos cpos : Pos} {T id : String} {r : V → List V → Hp → VK → Prop}
theorem pe_bm (pa : PlainAttrs T) (slot : Slot T name id) (hty : typeOf (.builtin id) = pure (.type "method_descriptor")) (hm : MtR X id r) (ho : PE X o to) (ha : PA X (e :: es) t)
    (hbase : attributeBase o name X.env (eval o X.env) = eval o X.env := by rfl)
    (hfew : ((backTo cpos (starEach (e :: es) X.env)).all (fun x => !x.1) && (backToKw cpos (keywordEach [] X.env)).all (fun x => x.1.isSome)
      && decide ((e :: es).length + ([] : List Keyword).length + (if ([] : List Keyword).isEmpty then 0 else 1) < 30)) = true := by rfl)
    (hline : (apos.endLine == cpos.line) = true := by rfl) (hs : starEach (e :: es) X.env = (false, eval e X.env) :: starEach es X.env := by rfl) (hplain : (backTo cpos (starEach es X.env)).any (·.1) = false := by rfl) :
    PE X (.Call (.Attribute o name apos) (e :: es) [] cpos) (tBM X.K T r to t) := by
  intro pins s σ H Q I h
  refine wpAny_Call_method_late hbase hfew hline rfl (thn (ho pins s σ H _ I h) fun v s1 ⟨x, H1, I1, r1, ty, q1⟩ => ?_)
  obtain ⟨h1, h2⟩ := tyV_is I1 r1 ty
  refine ⟨T, id, pa, slot, hty, h1, h2, ?_⟩
  have hA := ha cpos pins s1 σ H1 _ I1 q1
  rw [hs] at hA ⊢
  refine Calls.callWith_builtin (by show (false || (backTo cpos (starEach es X.env)).any (·.1)) = false; rw [hplain] <;> rfl) (Calls.evalArgs_plain ?_)
  exact thn hA fun us s2 ⟨vs, H2, I2, r2, q2⟩ => hm pins s2 σ H2 x vs v us Q I2 r1 r2 q2
/- xs.append(e), list.index on a module's tuple .. are MtR facts of 06m -/
end
end L2

namespace L2
open PySem PySem.Spec PyProof.Rows

def MtM (X : Cx) (id : String) (r : V → List V → Hp → VK → Prop) : Prop :=
  ∀ (pins : List (Addr × Obj)) (s : Shared) (σ : St) (H : Hp) (x : V) (xs : List V) (v : Value) (us : List Value) (Q : VK), Inv X pins σ H s → RelV x v → Vals xs us → r x xs H Q →
    wpAny (model X.prog X.w) X.A (call (.builtin id) (v :: us)) (EP X pins σ Q) X.xe s

/-! ### lists of values -/
theorem Vals.one : ∀ {x : V} {us : List Value}, Vals [x] us → ∃ u, us = [u] ∧ RelV x u
  | _, _, .cons r .nil => ⟨_, rfl, r⟩
theorem Vals.rep {xs : List V} {us : List Value} (h : Vals xs us) : ∀ k : Nat, Vals (List.replicate k xs).flatten (List.replicate k us).flatten
  | 0 => .nil
  | k + 1 => by
    rw [List.replicate_succ, List.replicate_succ, List.flatten_cons, List.flatten_cons]
    exact Vals.append h (Vals.rep h k)
theorem foldl_rep (its : List Value) : ∀ (k : Nat) (acc : List Value),
    List.foldl (fun x1 x2 => x1 ++ x2) acc.toArray (List.replicate k its.toArray) = (acc ++ (List.replicate k its).flatten).toArray
  | 0, acc => by simp
  | k + 1, acc => by
    have e : acc.toArray ++ its.toArray = (acc ++ its).toArray := by simp
    have e2 : (acc ++ its) ++ (List.replicate k its).flatten = acc ++ (List.replicate (k + 1) its).flatten := by
      rw [List.replicate_succ, List.flatten_cons, List.append_assoc]
    rw [← e2, ← foldl_rep its k (acc ++ its), ← e, List.replicate_succ, List.foldl_cons]

section
variable {X : Cx} {pins : List (Addr × Obj)} {σ : St} {H : Hp} {s : Shared} {l b : Addr} {xs ys zs : List V}

/-! ### the two steps: a tracked list is rewritten, a new list is laid -/
theorem Inv.lset {its its' : List Value} {n : Nat} {f : Array Value → Array Value} {t' : Nat} (I : Inv X pins σ H s) (hH : H l = some (.lst xs))
    (e : s.heap.get? l = some { cls := .type "list", data := .seq its.toArray n }) (hf : f its.toArray = its'.toArray) (hv : Vals ys its') (hz : ys.length ≤ sizeLine) :
    Inv X pins σ (upd H l (.lst ys)) { s with heap := s.heap.update l (Obj.mapSeq f), toks := t' } := by
  have q := PySem.IsL.update e f
  rw [hf] at q
  refine I.write (x := l) (e := l) (by rw [hH]; exact trivial) (.inl rfl) (fun b' u hb hu => (Heap.get?_update_other s.heap (Obj.mapSeq f) (Ne.symm hb)).trans hu) ⟨_, q⟩ ?_
  exact ⟨hz, its', _, hv, q⟩
theorem Inv.lnew {its : List Value} {t' : Nat} (I : Inv X pins σ H s) (hv : Vals ys its) (hz : ys.length ≤ sizeLine) :
    Inv X pins σ (upd H s.heap.objs.size (.lst ys)) { s with heap := s.heap.push { cls := .type "list", data := .seq its.toArray }, toks := t' } :=
  I.laid (fun _ _ q => Heap.get?_push_of_some _ q) (Nat.le_refl _) ⟨hz, its, 0, hv, Heap.get?_push_size _ rfl⟩
theorem Inv.fresh (I : Inv X pins σ H s) : H s.heap.objs.size = none := I.hok.fresh (Nat.le_refl _)
theorem Inv.lstM (I : Inv X pins σ H s) (hH : H l = some (.lst xs)) : xs.length ≤ sizeLine ∧ ∃ (its : List Value) (n : Nat), Vals xs its ∧ xs.length = its.length ∧ s.heap.get? l = some { cls := .type "list", data := .seq its.toArray n } := by
  obtain ⟨z, its, n, r, e⟩ := I.hok l _ hH
  exact ⟨z, its, n, r, r.length, e⟩

theorem notLongL {n : Nat} (h : n ≤ sizeLine) : Builtin.List.listTooLong n = false := by
  unfold Builtin.List.listTooLong
  exact decide_eq_false (by omega)
end

section
variable {X : Cx}

/-! ### methods -/
def rAppend : V → List V → Hp → VK → Prop := fun x vs H Q => ∃ l xs y, x = .ref l ∧ vs = [y] ∧ H l = some (.lst xs) ∧ xs.length < sizeLine ∧ Q .non (upd H l (.lst (xs ++ [y])))
theorem mt_append : MtM X "list.append" rAppend := by
  intro pins s σ H x vs v us Q I rx rv h
  obtain ⟨l, xs, y, rfl, rfl, hH, hz, q⟩ := h
  cases rx
  obtain ⟨u, rfl, ru⟩ := rv.one
  obtain ⟨z, its, n, r, hl, e⟩ := I.lstM hH
  refine call_meets F.slot_list_append ⟨_, e, rfl⟩ F.entry_list_append (F.args_list_append_2 _ _) (PySem.list_append l its.toArray n u (by rw [List.size_toArray]; omega)) ⟨e, ?_⟩
  refine ⟨.non, _, I.lset (its' := its ++ [u]) hH e (by simp) (r.append (.cons ru .nil)) ?_, rfl, q⟩
  rw [List.length_append, List.length_singleton]
  omega

def rExtend : V → List V → Hp → VK → Prop := fun x vs H Q => ∃ l b xs zs, x = .ref l ∧ vs = [.ref b] ∧ H l = some (.lst xs) ∧ H b = some (.lst zs) ∧ xs.length + zs.length ≤ sizeLine ∧ Q .non (upd H l (.lst (xs ++ zs)))
theorem mt_extend : MtM X "list.extend" rExtend := by
  intro pins s σ H x vs v us Q I rx rv h
  obtain ⟨l, b, xs, zs, rfl, rfl, hH, hB, hz, q⟩ := h
  cases rx
  obtain ⟨u, rfl, ru⟩ := rv.one
  cases ru
  obtain ⟨z, its, n, r, hl, e⟩ := I.lstM hH
  obtain ⟨z2, its2, n2, r2, hl2, e2⟩ := I.lstM hB
  have hsz : its.toArray.size + its2.toArray.size ≤ sizeLine := by rw [List.size_toArray, List.size_toArray]; omega
  have hlong : ¬ (!its.toArray.isEmpty && Builtin.List.listTooLong (its.toArray.size + its2.toArray.size)) = true := by
    rw [notLongL hsz, Bool.and_false]
    exact Bool.false_ne_true
  refine call_meets F.slot_list_extend ⟨_, e, rfl⟩ F.entry_list_extend (F.args_list_extend_2 _ _)
    (AutoSeq1.list_extend_list_list_0 l its.toArray n b its2.toArray n2 hlong (by rw [List.size_toArray]; omega) (by omega)) ⟨e, e2, ?_⟩
  refine ⟨.non, _, I.lset (its' := its ++ its2) hH e (by simp) (r.append r2) ?_, rfl, q⟩
  rw [List.length_append]
  omega





/-! ### list + list, list += list, list * int -/
def rCat : R2 := fun x y H Q => ∃ l b xs zs, x = .ref l ∧ y = .ref b ∧ H l = some (.lst xs) ∧ H b = some (.lst zs) ∧ xs.length + zs.length ≤ sizeLine ∧ ∀ p, H p = none → Q (.ref p) (upd H p (.lst (xs ++ zs)))
theorem op_cat : OpR X (binaryOp .Add) rCat := by
  intro pins s σ H x y v u Q I rx ry h
  obtain ⟨l, b, xs, zs, rfl, rfl, hH, hB, hz, q⟩ := h
  cases rx
  cases ry
  obtain ⟨z, its, n, r, hl, e⟩ := I.lstM hH
  obtain ⟨z2, its2, n2, r2, hl2, e2⟩ := I.lstM hB
  refine PySem.P.add_list e e2 ?_ (by rw [List.size_toArray, List.size_toArray]; omega)
  have ea : its.toArray ++ its2.toArray = (its ++ its2).toArray := by simp
  rw [ea]
  exact ⟨.ref _, _, I.lnew (t' := s.toks) (r.append r2) (by rw [List.length_append]; omega), rfl, q _ I.fresh⟩
/-- a list times an int (a negative one is nothing) -/
def rRep : R2 := fun x y H Q => ∃ l k xs, x = .ref l ∧ y = .int k ∧ H l = some (.lst xs) ∧ -(2 ^ 63) ≤ k ∧ k < 2 ^ 63 ∧ xs.length * k.toNat ≤ sizeLine ∧
  ∀ p, H p = none → Q (.ref p) (upd H p (.lst (List.replicate k.toNat xs).flatten))
theorem len_rep {α : Type} (xs : List α) (k : Nat) : (List.replicate k xs).flatten.length = k * xs.length := by
  induction k with
  | zero => simp
  | succ k ih => rw [List.replicate_succ, List.flatten_cons, List.length_append, ih, Nat.succ_mul, Nat.add_comm]
theorem op_rep : OpR X (binaryOp .Mult) rRep := by
  intro pins s σ H x y v u Q I rx ry h
  obtain ⟨l, k, xs, rfl, rfl, hH, h1, h2, hz, q⟩ := h
  cases rx
  obtain ⟨t, rfl⟩ := ry
  obtain ⟨z, its, n, r, hl, e⟩ := I.lstM hH
  have hlen : its.toArray.size * k.toNat ≤ sizeLine := by rw [List.size_toArray, ← hl]; exact hz
  have hcap : ¬ its.toArray.size * k.toNat > (2 ^ 63 - 1) / 8 := by
    have : (sizeLine : Nat) ≤ (2 ^ 63 - 1) / 8 := by decide
    omega
  have hfit : ¬ (!Builtin.List.listFitsIndex k) = true := by
    rw [fitsIndex_both h1 h2]
    exact Bool.false_ne_true
  have hlong : ¬ Builtin.List.listTooLong (its.toArray.size * k.toNat) = true := by
    rw [notLongL hlen]
    exact Bool.false_ne_true
  have hnew : List.foldl (fun x1 x2 => x1 ++ x2) #[] (List.replicate (if its.toArray.isEmpty = true then 0 else k.toNat) its.toArray) = (List.replicate k.toNat its).flatten.toArray := by
    have f0 : ∀ m : Nat, List.foldl (fun x1 x2 => x1 ++ x2) #[] (List.replicate m its.toArray) = (List.replicate m its).flatten.toArray := fun m => by
      have := foldl_rep its m []
      rw [List.nil_append] at this
      exact this
    rw [f0]
    cases its with
    | nil => simp
    | cons a r' => rw [if_neg (by simp)]
  refine wpAny_binaryOp_repeat_ref (T := "list") (U := "int") (by decide) ⟨_, e, rfl⟩ (fun s' => typeIs_int s' k t) noFill_list_mul F.fills_int_mul F.slot_int_rmul repeat_list F.slot_int_index.lookup
    (call_meets F.slot_int_rmul (typeIs_int s k t) F.entry_int_rmul (F.args_int_rmul_2 _ _) (int___rmul___int_list k t l its.toArray n)
      ⟨e, rfl, ⟨_, e, rfl⟩, call_meets F.slot_list_mul ⟨_, e, rfl⟩ F.entry_list_mul (F.args_list_mul_2 _ _) (AutoListH.list___mul___list_int_3 l its.toArray n k t hfit hcap hlong) ⟨e, ?_⟩⟩)
  rw [hnew]
  exact ⟨.ref _, _, I.lnew (t' := s.toks) (r.rep k.toNat) (by rw [len_rep, Nat.mul_comm]; exact hz), rfl, q _ I.fresh⟩

/-! ### del xs[i] -/
end

/-! ### xs[a:b] = ys -/
section
variable {prog : Program} {w : World} {A : Around} {E : Value → Shared → Prop} {s : Shared}
end

section
variable {X : Cx}
end
end L2

namespace Att
open PySem PySem.W PySem.Calls PyProof.Rows

/-! ### the script -/
theorem ints_of_wellAll {P : Params} {h : Heap} : ∀ (ns : List Int) (vs : List Value), WellAll P h vs (ns.map WData.int) → IntsAre vs ns := by
  intro ns
  induction ns with
  | nil =>
    intro vs w
    rw [List.map_nil] at w
    cases w
    exact .nil
  | cons n ns ih =>
    intro vs w
    rw [List.map_cons] at w
    cases w with
    | cons a b =>
      cases a
      exact .cons _ _ (ih _ b)

theorem script_of {l : OpenLaw} {n : Nat} (hn : l.most = some n) {P : Params} {h : Heap} {args : List WData} {vals : List Value}
    (hpre : l.row.toRowW.claim.pre args = true) (hwl : WellAll P h vals args) :
    ∃ a vs ns, vals = [Value.ref a] ∧ args = [WData.list (ns.map WData.int)] ∧ h.get? a = some { cls := .type "list", data := .seq vs.toArray } ∧ IntsAre vs ns ∧ ns.length ≤ n := by
  have hsh : WShape.hasAll [] args [.list .int] = true := (pre_splitW hpre).1
  have hc : l.pre.holds [] { args := args } = true := (pre_splitW hpre).2
  obtain ⟨d, r, rfl, h1, h2⟩ := hasAllW_cons hsh
  obtain rfl := hasAllW_nil h2
  obtain ⟨xs, rfl, h3⟩ := hasW_list h1
  obtain ⟨ns, rfl⟩ := items_int h3
  have hlen : ns.length ≤ n := by
    unfold OpenLaw.pre at hc
    have h4 : (WTm.not (.lt (.lit (.int (n : Int))) (.len (.arg 0)))).holds [] { args := [.list (ns.map .int)] } = true := by
      have h4 := (holds_andW hc).1
      rw [hn] at h4
      exact h4
    have h5 := condW_of h4 (w_not (w_lt w_lit (w_len_list (w_arg rfl))))
    rw [List.length_map] at h5
    refine Nat.le_of_not_lt fun q => ?_
    have q' : (n : Int) < ((ns.length : Nat) : Int) := by omega
    first
      | (rw [decide_eq_true q'] at h5; exact absurd h5 (by decide))
      | (simp at h5; omega)
  cases hwl with
  | cons w1 w2 =>
    cases w2
    cases w1 with
    | list ho hall => exact ⟨_, _, ns, rfl, rfl, ho, ints_of_wellAll ns _ hall, hlen⟩

theorem post_true (l : OpenLaw) (args : List WData) : l.row.toRowW.claim.post args (.bool true) args = true :=
  postW_of (r := l.row.toRowW) (X := (true == true))
    (show WShape.has [] (.bool true) .bool = true by first | rfl | decide | simp [WShape.has, WShape.arms, WShape.armsAll])
    (show (WTm.eq .res (.lit (.bool true))).value [] { args := args, res := some (.bool true), after := args } = some (.bool (true == true)) from w_eq_bool (w_res rfl) w_lit) rfl

/-! ### the attachment: holds_open's last premise (the goal 'hc' behind k_head) from a wpAny of the law's body -/

/-- the same from a codeAny of the CALL (for a layer whose function contracts speak of calls) -/
theorem attach_call {l : OpenLaw} {n : Nat} {q : Program} {loose : List Str} {XP : (Str → Option Value) → Heap → Prop} {YP : World → Heap → Prop} {d : DefRec}
    (hn : l.most = some n) (hdf : d.params.defaults = [])
    (call : ∀ (w : World) (s₀ s₁ : Shared) (mg mb : Str → Option Value) (fa : Addr) (o : Obj) (pm cd doc : Value) (a : Addr) (vs : List Value) (ns : List Int),
      Ground q loose [] XP w s₀ mg mb s₁.heap → YP w s₁.heap →
      s₁.heap.get? fa = some o → o.data = .func (docDef d.name d.params d.body d.scope pm cd doc) → s₁.heap.CodeRec cd d.name → mg d.name = some (.ref fa) →
      s₁.heap.get? a = some { cls := .type "list", data := .seq vs.toArray } → IntsAre vs ns → ns.length ≤ n → s₁.gens = #[] →
      codeAny (model l.prog w) callerA (.call (.ref fa) ⟨[.ref a], []⟩) (fun r s' => r = .ok (.ret (.bool true)) ∧ OldK s₁.heap s'.heap ∧ s'.os = s₁.os ∧ AllBare s'.gens) s₁) :
    WalkO q loose XP YP l.row.toRowW d [] (fun f vs => PySem.call f vs) := by
  intro w s₀ s₁ mg mb G Y fa o pm cd doc dV kV ho hd hcd hD hmg hg args vals as hpre hlay hrd hwl hlo
  obtain rfl : dV = .none := Dflts.none hD hdf
  obtain rfl : kV = .none := Dflts.noKw hD
  obtain ⟨a, vs, ns, rfl, rfl, hobj, hints, hlen⟩ := script_of hn hpre hwl
  refine enter_call (codeAny_mono (call w s₀ s₁ mg mb fa o pm cd doc a vs ns G Y ho (fd_plain hd) hcd hmg hobj hints hlen hg) fun r s' hq => ?_)
  obtain ⟨rfl, h2, h3, h4⟩ := hq
  exact ⟨.inl ⟨.bool true, .bool true, [], rfl, fun _ => rfl, .bool true, post_true l _, fun _ => ⟨List.Pairwise.nil, fun _ hm => (nomatch hm)⟩⟩, h2, h3, h4⟩


/-! ### rules over ANY heap (no ledger) from facts about the written part K: the library's own take a ledger (News) for what they write -/
section
variable {prog : Program} {w : World} {A : Around} {E : Value → Shared → Prop} {s : Shared} {K : Frag}





/-! the whole heap as the ledger: makes every rule that writes through a ledger a rule over any heap -/

end
end Att

namespace L2
open PySem PySem.Spec PyProof.Rows

theorem vals_ints : ∀ {vs : List Value} {ns : List Int}, IntsAre vs ns → Vals (ns.map V.int) vs
  | _, _, .nil => .nil
  | _, _, .cons n t h => .cons ⟨t, rfl⟩ (vals_ints h)

/-- nothing is tracked but the script, known to the object (or it is an object of the module) -/
def Only (H : Hp) : Prop := ∀ b, H b = none ∨ ∃ o xs, H b = some (.frz o (.lst xs))

/-- THE HEAD: the law's promise, at the heap behind the top. F, the promise of the law's def, may use that base is part of the heap (so K.In base, base.Ns mainGlobals mg stand in Mod) -/
theorem law_call {P : Program} {w : World} {K : PySem.W.Frag} {mg mb : Str → Option Value} {CX : CXT} {k : Nat} {fa a : Addr} {fd : FuncData} {x : Str} {sp : Sp} {s₁ : Shared} {vs : List Value} {ns : List Int}
    (KX : K.In s₁.heap) (hns : s₁.heap.Ns mainGlobals mg) (hb : s₁.heap.Ns builtinsNs mb) (hbb : ∀ x : Str, x ≠ "__name__" → mb x = bootBuiltins x) (hlim : s₁.heap.NoLimit) (hg : s₁.gens = #[])
    (ha : s₁.heap.get? a = some { cls := .type "list", data := .seq vs.toArray }) (hi : IntsAre vs ns) (hl : ns.length ≤ sizeLine) (hr : Room k callerA)
    (F : ∀ base : Heap, K.In base → base.Ns mainGlobals mg → FnOk P w K mg base CX k fa fd [x] sp) (hbind : ∀ (s : Shared) (u : Value), BindsTo s fd ⟨[u], []⟩ [(x, u)])
    (hsp : ∀ H : Hp, Only H → SqL K H a (ns.map V.int) → sp [.ref a] H (fun v _ => v = .bl true) fun _ _ _ => False)
    (hCX : ∀ H e s', CX [] H s₁ (fun _ _ _ => False) e s' → False) :
    codeAny (model P w) callerA (.call (.ref fa) ⟨[.ref a], []⟩) (fun r s' => r = .ok (.ret (.bool true)) ∧ OldK s₁.heap s'.heap ∧ s'.os = s₁.os ∧ AllBare s'.gens) s₁ := by
  have rv := vals_ints hi
  have lenV := hi.length
  -- from an abstract heap in which nothing but the script may be tracked
  have core : ∀ H : Hp, Only H → SqL K H a (ns.map V.int) → HOk P w H s₁.heap → (∀ b, H b ≠ none → b = a) → (H a ≠ none → K.lookup a = none) →
      codeAny (model P w) callerA (.call (.ref fa) ⟨[.ref a], []⟩) (fun r s' => r = .ok (.ret (.bool true)) ∧ OldK s₁.heap s'.heap ∧ s'.os = s₁.os ∧ AllBare s'.gens) s₁ := by
    intro H hO hS hok hA hK
    have base_of : ∀ {b : Addr} {o : Obj}, s₁.heap.get? b = some o → H b = none → (hidT s₁.heap H).get? b = some o := fun e n => hidT_get e n
    have noA : ∀ {b : Addr} {o : Obj} {es : Array DictEntry} {ep : Nat}, s₁.heap.get? b = some o → o.data = .dict es ep → H b = none := fun {b o es ep} e d => by
      cases q : H b with
      | none => rfl
      | some u =>
        have e' : b = a := hA b (by rw [q]; simp)
        subst e'
        rw [ha] at e; cases e
        have d' : Data.seq vs.toArray _ = Data.dict es ep := d
        cases d'
    have nsK : ∀ {b : Addr} {m : Str → Option Value}, s₁.heap.Ns b m → (hidT s₁.heap H).Ns b m := fun {b m} ⟨o, es, ep, e, d, r⟩ => ⟨o, es, ep, base_of e (noA e d), d, r⟩
    have hKb : K.In (hidT s₁.heap H) := fun b o e => base_of (KX b o e) (by
      cases q : H b with
      | none => rfl
      | some u =>
        have e' : b = a := hA b (by rw [q]; simp)
        subst e'
        rw [hK (by rw [q]; simp)] at e; cases e)
    have hM : Mod K mg (hidT s₁.heap H) := ⟨hKb, nsK hns, ⟨mb, nsK hb, hbb⟩, let ⟨mc, h1, h2⟩ := hlim; ⟨mc, nsK h1, h2⟩⟩
    have e0 : Env0 P w K mg (hidT s₁.heap H) callerA [] s₁ H := ⟨rfl, hM, fun b o e => of_hidT e, Nat.le_of_eq (hidT_size _ _), trivial, fun b hb => absurd (show b ∈ ([] : List Addr) from hb) (by simp), hok, .of_eq hg⟩
    refine codeAny_mono ((F _ hKb (nsK hns)).run callerA [] s₁ H ⟨[.ref a], []⟩ [.ref a] [.ref a] _ _ hr e0 (hbind s₁ (.ref a)) (.cons rfl .nil) (hsp H hO hS)) fun r s' h => ?_
    cases r with
    | error e => exact (hCX H e s' h).elim
    | ok fl =>
      cases fl with
      | next => exact False.elim h
      | brk => exact False.elim h
      | cont => exact False.elim h
      | ret u =>
        obtain ⟨v, H', os, bare, un, hok', r', q⟩ := h
        have q' : v = .bl true := q
        subst q'
        obtain rfl : u = Value.bool true := r'
        refine ⟨rfl, OldK.of_keep fun b o e => ?_, os, bare⟩
        cases q : H b with
        | none => exact un.keep b o e q (by intro z; exact absurd (show b ∈ ([] : List Addr) from z) (by simp)) (by simp)
        | some u =>
          rcases hO b with z | ⟨ob, xs, z⟩
          · rw [q] at z; cases z
          · have z2 := un.frzs b ob _ z
            obtain ⟨e1, _⟩ := hok b _ z
            obtain ⟨e2, _⟩ := hok' b _ z2
            rw [e] at e1; cases e1
            exact e2
  cases hk : K.lookup a with
  | some o =>
    -- the script is one of the module's own objects
    have e := KX a o hk
    rw [ha] at e
    cases e
    refine core (fun _ => none) (fun _ => .inl rfl) (.inr ⟨_, vs.toArray, _, hk, rfl, rfl, rfl, by rw [List.size_toArray, lenV]; exact hl, by simpa using rv⟩) (fun b u z => by have z' : (none : Option HO) = some u := z; cases z') (fun b z => absurd rfl z) fun z => absurd rfl z
  | none =>
    refine core (fun b => if b = a then some (.frz { cls := .type "list", data := .seq vs.toArray } (.lst (ns.map V.int))) else none) (fun b => ?_) (.inl (.inr ⟨{ cls := .type "list", data := .seq vs.toArray }, if_pos rfl⟩)) (fun b u z => ?_) (fun b z => ?_) fun _ => hk
    · by_cases hb : b = a
      · exact .inr ⟨_, _, if_pos hb⟩
      · exact .inl (if_neg hb)
    · by_cases hb : b = a
      · have z' := (if_pos hb).symm.trans z
        cases z'
        subst hb
        exact ⟨ha, by rw [List.length_map]; exact hl, vs, _, rv, ha⟩
      · have z' := (if_neg hb).symm.trans z
        cases z'
    · by_cases hb : b = a
      · exact hb
      · exact absurd (if_neg hb) z
end L2

namespace L2
open PySem PySem.Spec PyProof.Rows


/-- the goal that k_head leaves (case hc), from the law's promise. F gives the function object fd (K's own) once, then the promise over every base -/
theorem walk_of {l : PySem.W.OpenLaw} {n k : Nat} {q : Program} {loose : List Str} {XP : (Str → Option Value) → Heap → Prop} {YP : World → Heap → Prop} {d : DefRec} {K : Params → PySem.W.Frag} {CX : World → CXT} {sp : World → Sp} {x : Str}
    (hn : l.most = some n) (hn2 : n ≤ sizeLine) (hdf : d.params.defaults = []) (hr : Room k callerA)
    (hY : ∀ (w : World) (h : Heap), YP w h → (K w.params).In h)
    (F : ∀ (w : World) (mg : Str → Option Value) (fa : Addr) (h : Heap), (K w.params).In h → h.Ns mainGlobals mg → mg d.name = some (.ref fa) →
      ∃ fd : FuncData, (∀ (s : Shared) (u : Value), BindsTo s fd ⟨[u], []⟩ [(x, u)]) ∧
        ∀ base : Heap, (K w.params).In base → base.Ns mainGlobals mg → FnOk l.prog w (K w.params) mg base (CX w) k fa fd [x] (sp w))
    (hsp : ∀ (w : World) (H : Hp) (a : Addr) (ns : List Int), ns.length ≤ n → Only H → SqL (K w.params) H a (ns.map V.int) → sp w [.ref a] H (fun v _ => v = .bl true) fun _ _ _ => False)
    (hCX : ∀ (w : World) (H : Hp) (s : Shared) (e : Value) (s' : Shared), CX w [] H s (fun _ _ _ => False) e s' → False) :
    PySem.W.WalkO q loose XP YP l.row.toRowW d [] (fun f vs => PySem.call f vs) := by
  refine Att.attach_call hn hdf fun w s₀ s₁ mg mb fa o pm cd doc a vs ns G Y ho hd hcd hmg hobj hints hlen hg => ?_
  have KX := hY w _ Y
  obtain ⟨fd, hb, hF⟩ := F w mg fa _ KX G.T.g hmg
  exact law_call KX G.T.g G.T.b G.T.builtins G.T.nolimit hg hobj hints (Nat.le_trans hlen hn2) hr hF hb (fun H hO hS => hsp w H a ns hlen hO hS) fun H e s' => hCX w H s₁ e s'
end L2

/- THE LAST THEOREM (shape; LID, My.* are yours):
   My.Adr: a structure of the addresses that your layer names (classes, functions); My.Txt K t: a structure (Prop) of the equations over K;
   My.txt_mk : {K} {implicit addresses ..} (e1 : nsIn K mainGlobals "law" = some (some (.ref f))) (e2 : K.lookup f = some ⟨oc, od, .func (fnOf "law" "law" params body scope dV kV doc pm an cdv ct), sl⟩) (e3 : codeIn K cdv "law" = true) .. : ∃ t, My.Txt K t

theorem PySem.Challenge.cw_LID_holds : PySem.Challenge.rw_LID.Holds := by
  w_on; o_law; k_head; (case hw => w_witness2)
  k_fill
  refine L2.walk_of (l := PySem.Challenge.rw_LID) (n := 63) (k := 40) (x := "script") (CX := fun w => ..) (sp := fun _ => My.sp_law) rfl (by decide) rfl ⟨rfl, by decide, by decide⟩ (fun w h Y => PySem.W.kIn_of Y) ?F ?S ?C
  case F =>
    intro w mg fa h KX G hmg
    have T : ∃ t, My.Txt (L2.KOf KX) t := by
      dsimp only [L2.KOf]                          -- K must stand as «<heap const> w.params» for k_is
      refine' My.txt_mk ?e1 ?e2 ?e3 ..
      (case e1 => PySem.W.k_is)                    -- in the order: a name -> its address -> its object -> its parts
      (case e2 => PySem.W.k_is)
      ..
    obtain ⟨t, T⟩ := T
    have e0 := hmg.symm.trans (PySem.W.mg_of KX G T.law)
    cases e0                                       -- fa is the law's own address
    exact ⟨_, fun s u => .of_eq rfl, fun base kb nb => My.law_fn T kb nb⟩     -- if «.of_eq rfl» comes too early: refine' ⟨_, ?b, fun base kb nb => My.law_fn T kb nb⟩; exact fun s u => .of_eq rfl
  case S => exact fun w H a ns hl hO hS => ..
  case C => exact ..
(the tactic k_is has no namespace: write k_is) -/

/-! SHORT WORDS over the layer: a def of the text, its body, what a loop and a test want. -/
namespace L2
open PySem PySem.Spec PyProof.Rows

/-! ### the text by places -/
/-- the j-th statement of a class's body -/
def inClass (s : Stmt) (j : Nat) : Stmt := match s with
  | .ClassDef _ _ _ body _ _ _ _ _ _ _ => body.getD j (.Pass ⟨0, 0, 0, 0⟩)
  | _ => .Pass ⟨0, 0, 0, 0⟩
def defArgs (s : Stmt) : Arguments := match s with
  | .FunctionDef _ a _ _ _ _ _ _ _ _ => a
  | _ => { posonlyargs := [], args := [], vararg := none, kwonlyargs := [], kw_defaults := [], kwarg := none, defaults := [] }
def defBody (s : Stmt) : List Stmt := match s with
  | .FunctionDef _ _ b _ _ _ _ _ _ _ => b
  | _ => []
def defScope (s : Stmt) : Scope := match s with
  | .FunctionDef _ _ _ _ _ _ sc _ _ _ => sc
  | _ => { kind := .function, names := [], isGenerator := false, isCoroutine := false }

/-! ### no exception leaves a def -/
abbrev CX0 : CXT := fun _ _ _ _ _ _ => False
abbrev E0 : XK := fun _ _ _ => False
theorem pass0 {X : Cx} : Passes CX0 X E0 := fun _ _ _ _ _ _ _ h => h.elim

/-! ### a def (or method) of the text as it stands behind the top -/
structure Fun (K : PySem.W.Frag) (x qual : Str) (st : Stmt) (f : Addr) (fd : FuncData) : Prop where
  ex : ∃ (oc : Value) (od : Option Addr) (kV doc pm : Value) (an : Option Addr) (cdv ct : Value) (osl : Array (Option Value)),
    fd = PySem.W.fnOf x qual (defArgs st) (defBody st) (defScope st) .none kV doc pm an cdv ct ∧ K.lookup f = some ⟨oc, od, .func fd, osl⟩ ∧ PySem.W.codeIn K cdv qual = true
  kp : PySem.W.keepIn K (.ref f) = true
section
variable {P : Program} {w : World} {K : PySem.W.Frag} {mg : Str → Option Value} {base : Heap}
/-- THE RULE for a def: its body as a term of rules, and the reading of that term -/
theorem Fun.ok {x qual : Str} {st : Stmt} {f : Addr} {fd : FuncData} {N ps : List Str} {k : Nat} {sp : Sp} (F : Fun K x qual st f fd) (S : FnScope N ps (defScope st)) (len : ∀ vs H Q E, sp vs H Q E → vs.length = ps.length)
    (hbody : ∀ (cdv : Value) (A : Around) (outer : List Env) (s : Shared) (H : Hp) (vs : List V) (Q : VK) (E : XK), Room k (A.deeper (envOfC qual (defScope st) s.heap.objs.size f cdv)) → sp vs H Q E →
      ∃ t, PSs (cxOf CX0 P w K mg base N qual (defScope st) f cdv A outer s H E).nox (defBody st) t ∧ t { nx := fun _ H' => Q .non H', rt := Q } (start N vs) H) : FnOk P w K mg base CX0 (k + 1) f fd ps sp := by
  obtain ⟨oc, od, kV, doc, pm, an, cdv, ct, osl, rfl, lk, hcd⟩ := F.ex
  refine fn_of lk hcd S len fun A outer s H vs Q E hr hsp => ?_
  obtain ⟨t, h, q⟩ := hbody cdv A outer s H vs Q E hr hsp
  exact ⟨t, h.nox, q⟩
/-- how its arguments bind (no defaults): h is «fun _ _ _ _ _ _ us hl => match us, hl with | [_, _], _ => rfl», one _ a parameter -/
theorem Fun.binds {x qual : Str} {st : Stmt} {f : Addr} {fd : FuncData} {ps : List Str} (F : Fun K x qual st f fd)
    (h : ∀ (kV doc pm : Value) (an : Option Addr) (cdv ct : Value) (us : List Value), us.length = ps.length → bindArgs (PySem.W.fnOf x qual (defArgs st) (defBody st) (defScope st) .none kV doc pm an cdv ct) ⟨us, []⟩ = pure (ps.zip us)) : Binds K fd ps [] := by
  obtain ⟨oc, od, kV, doc, pm, an, cdv, ct, osl, rfl, lk, hcd⟩ := F.ex
  exact .all (h kV doc pm an cdv ct)
theorem fun_mk {x qual : Str} {st : Stmt} {f : Addr} {oc : Value} {od an : Option Addr} {osl : Array (Option Value)} {kV doc pm cdv ct : Value} (l : K.lookup f = some ⟨oc, od, .func (PySem.W.fnOf x qual (defArgs st) (defBody st) (defScope st) .none kV doc pm an cdv ct), osl⟩)
    (c : PySem.W.codeIn K cdv qual = true) (k : PySem.W.keepIn K (.ref f) = true) : Fun K x qual st f (PySem.W.fnOf x qual (defArgs st) (defBody st) (defScope st) .none kV doc pm an cdv ct) := ⟨⟨oc, od, kV, doc, pm, an, cdv, ct, osl, rfl, l, c⟩, k⟩
end
theorem small1000 {n : Nat} (h : n ≤ 1000) : n < sizeLine := Nat.lt_of_le_of_lt h (by decide)

/-! ### expressions in short: the name that stands in the i-th slot -/
section
variable {X : Cx}
theorem pv (i : Nat) {x : Str} {pos : Pos} (hN : X.N[i]? = some x := by rfl) (hv : Vis X.env.scope x := by first | exact Or.inl rfl | exact Or.inr (Or.inl rfl) | exact Or.inr (Or.inr rfl)) (hd : (x == ("__debug__" : Str)) = false := by decide)
    (hcd : (x == ("__classdict__" : Str)) = false := by decide) : PE X (.Name x pos) (tVar i) := pe_var hN hv hd hcd
end

/-! ### tests -/
theorem iteF {A B : Prop} (h : B) : if false = true then A else B := by
  rw [if_neg Bool.false_ne_true]
  exact h
theorem iteT {A B : Prop} (h : A) : if true = true then A else B := by
  rw [if_pos rfl]
  exact h
theorem ite2 {c A B : Prop} [Decidable c] (h1 : c → A) (h2 : ¬ c → B) : if c then A else B := by
  by_cases h : c
  · rw [if_pos h]
    exact h1 h
  · rw [if_neg h]
    exact h2 h

/-! ### heaps -/
/-- all that was tracked is as it was -/
def Same (H H' : Hp) : Prop := ∀ b o, H b = some o → H' b = some o
theorem Same.refl (H : Hp) : Same H H := fun _ _ h => h
theorem Same.trans {H H1 H2 : Hp} (a : Same H H1) (b : Same H1 H2) : Same H H2 := fun c o h => b c o (a c o h)
theorem Same.free {H H' : Hp} (e : Same H H') {l : Addr} (h : H' l = Option.none) : H l = Option.none := by
  cases q : H l with
  | none => rfl
  | some o =>
    rw [e l o q] at h
    cases h
theorem Same.seq {K : PySem.W.Frag} {H H' : Hp} {a : Addr} {xs : List V} (e : Same H H') (h : SqL K H a xs) : SqL K H' a xs := by
  rcases h with (h | ⟨o, h⟩) | h
  · exact .inl (.inl (e _ _ h))
  · exact .inl (.inr ⟨o, e _ _ h⟩)
  · exact .inr h

end L2

namespace L2
open PySem PySem.Spec PyProof.Rows
/-! ### lists of pairs as tables -/
section
variable {κ : Type} [DecidableEq κ]



end


/-! ### a tracked dict, its keys ints and texts or tuples of these -/


section
variable {P : Program} {w : World} {H : Hp} {h : Heap} {a : Addr}
end



section
variable {X : Cx} {pins : List (Addr × Obj)} {σ : St} {H : Hp} {s : Shared} {a : Addr} {y v : V} {u r : Value} {o : Option V} {A : Around} {E : Value → Shared → Prop}


end

section
variable {X : Cx} {pins : List (Addr × Obj)} {σ : St} {H : Hp} {s : Shared} {a : Addr} {kvs : List (Key × V)} {k : Key} {u : Value} {A : Around} {E : Value → Shared → Prop}
end


/-! ### readings and rules -/



section
variable {X : Cx} {o i e value : Expr} {pos pos' tpos : Pos} {td ty tv : TE}
end


/-! ### displays -/
section
variable {X : Cx} {pos : Pos}
end




/-! ### methods -/


section
variable {X : Cx} {pins : List (Addr × Obj)} {σ : St} {H : Hp} {s : Shared} {a : Addr} {y d : V} {u r : Value} {o : Option V} {A : Around} {E : Value → Shared → Prop}
end

section
variable {X : Cx} {o e f : Expr} {apos cpos : Pos} {td ty tx : TE}
end

/-! ### dict(d): a copy -/
section
variable {X : Cx} {pins : List (Addr × Obj)} {σ : St} {H : Hp} {s : Shared} {a : Addr} {kvs : List (Key × V)} {A : Around} {E : Value → Shared → Prop}
end


section
variable {X : Cx} {pins : List (Addr × Obj)} {σ : St} {H : Hp} {s : Shared} {a : Addr} {y : V} {u : Value} {A : Around} {E : Value → Shared → Prop}
end
end L2

namespace L2
open PySem PySem.Spec PyProof.Rows
section
variable {X : Cx}
end

/-! ### a dict's pairs: keys that differ -/
section
variable {κ : Type} [DecidableEq κ]
end
end L2


namespace L2
open PySem PySem.Spec PyProof.Rows

/-! ### list comprehensions: one clause, tests, any target -/
/-- the cells that a block takes from the frame around it -/
def clo (cells : List (Str × Addr)) : List (Str × NameKind) → List (Str × Addr) → List (Str × Addr)
  | [], cs => cs
  | (n, k) :: r, cs => clo cells r (if k == NameKind.free then (match cells.lookup n with | some a => (n, a) :: cs | none => cs) else cs)
theorem clo_loop {env : Env} : ∀ (names : List (Str × NameKind)) (cs : List (Str × Addr)), (∀ y ∈ names, y.2 = .free → ∃ c, env.cells.lookup y.1 = some c) →
    (forIn names cs fun (x : Str × NameKind) (r : List (Str × Addr)) => if (x.2 == NameKind.free) = true then (do let a ← cellOf env x.1; pure (ForInStep.yield ((x.1, a) :: r))) else (pure (ForInStep.yield r) : Sem (ForInStep (List (Str × Addr)))))
      = (pure (clo env.cells names cs) : Sem (List (Str × Addr)))
  | [], cs, _ => rfl
  | (n, k) :: r, cs, h => by
    have ih := clo_loop (env := env) r
    rw [List.forIn_cons]
    unfold clo
    cases hk : (k == NameKind.free) with
    | false =>
      simp only [Bool.false_eq_true, if_false]
      show (forIn r cs _ : Sem _) = _
      exact ih cs fun y hy => h y (List.mem_cons_of_mem _ hy)
    | true =>
      obtain ⟨c, hc⟩ := h (n, k) List.mem_cons_self (by simpa using hk)
      have hc' : env.cells.lookup n = some c := hc
      have e : cellOf env n = pure c := by unfold cellOf; rw [hc']
      simp only [if_true, e, hc']
      show (forIn r ((n, c) :: cs) _ : Sem _) = _
      exact ih _ fun y hy => h y (List.mem_cons_of_mem _ hy)
theorem clo_is {scope : Scope} {env : Env} (h : ∀ y ∈ scope.names, y.2 = .free → ∃ c, env.cells.lookup y.1 = some c) : closureFor scope env = pure (clo env.cells scope.names []) := by
  unfold closureFor
  have q := clo_loop (env := env) scope.names [] h
  refine Eq.trans ?_ (congrArg (fun z : Sem (List (Str × Addr)) => z >>= fun cs => pure cs) q)
  rfl
theorem clo_mem {cells : List (Str × Addr)} : ∀ (names : List (Str × NameKind)) (cs : List (Str × Addr)), (∀ p ∈ cs, cells.lookup p.1 = some p.2) → ∀ p ∈ clo cells names cs, cells.lookup p.1 = some p.2
  | [], cs, h, p, hp => h p hp
  | (n, k) :: r, cs, h, p, hp => by
    unfold clo at hp
    refine clo_mem r _ (fun q hq => ?_) p hp
    split at hq
    · split at hq
      · rename_i a e
        rcases List.mem_cons.mp hq with rfl | hq
        · exact e
        · exact h q hq
      · exact h q hq
    · exact h q hq
theorem clo_sub {cells : List (Str × Addr)} {names : List (Str × NameKind)} {x : Str} {c : Addr} (e : (clo cells names []).lookup x = some c) : cells.lookup x = some c :=
  clo_mem names [] (fun _ z => nomatch z) (x, c) (PySem.mem_of_lookup e)
theorem clo_keeps {cells : List (Str × Addr)} : ∀ (names : List (Str × NameKind)) (cs : List (Str × Addr)) (p : Str × Addr), p ∈ cs → p ∈ clo cells names cs
  | [], cs, p, hp => hp
  | (n, k) :: r, cs, p, hp => by
    unfold clo
    refine clo_keeps r _ p ?_
    split
    · split
      · exact List.mem_cons_of_mem _ hp
      · exact hp
    · exact hp
theorem clo_has {cells : List (Str × Addr)} {x : Str} {c : Addr} (hc : cells.lookup x = some c) : ∀ (names : List (Str × NameKind)) (cs : List (Str × Addr)), (x, NameKind.free) ∈ names → (x, c) ∈ clo cells names cs
  | [], _, h => nomatch h
  | (n, k) :: r, cs, h => by
    unfold clo
    rcases List.mem_cons.mp h with e | h
    · cases e
      refine clo_keeps r _ _ ?_
      rw [hc]
      simp
    · exact clo_has hc r _ h
theorem lookup_some_of_mem {x : Str} {c : Addr} : ∀ {l : List (Str × Addr)}, (x, c) ∈ l → ∃ d, l.lookup x = some d
  | [], h => nomatch h
  | (y, d) :: r, h => by
    rw [List.lookup_cons]
    cases e : (x == y) with
    | true => exact ⟨d, rfl⟩
    | false =>
      rcases List.mem_cons.mp h with z | z
      · cases z
        simp at e
      · exact lookup_some_of_mem z
theorem relabel_look {env : Env} : ∀ {names : List (Str × NameKind)} {x : Str} {k : NameKind},
    (names.map fun (n, k) => if (k == NameKind.free && env.scope.kind == .function && env.kindOf n == some .cell) then (n, NameKind.cell) else (n, k)).lookup x = some k →
      names.lookup x = some k ∨ (k = .cell ∧ names.lookup x = some .free)
  | [], _, _, h => by simp at h
  | (n, k0) :: r, x, k, h => by
    have ih := @relabel_look env r x k
    rw [List.map_cons] at h
    rw [List.lookup_cons]
    by_cases c : (k0 == NameKind.free && env.scope.kind == .function && env.kindOf n == some .cell) = true
    · have h' := h
      simp only [c, if_true] at h'
      rw [List.lookup_cons] at h'
      cases e : (x == n) with
      | true =>
        rw [e] at h'
        have c1 : k0 = .free := by
          simp only [Bool.and_eq_true] at c
          simpa using c.1.1
        refine .inr ⟨(Option.some.inj h').symm, ?_⟩
        rw [c1]
      | false =>
        rw [e] at h'
        exact ih h'
    · have h' := h
      simp only [c, Bool.false_eq_true, if_false] at h'
      rw [List.lookup_cons] at h'
      cases e : (x == n) with
      | true =>
        rw [e] at h'
        exact .inl h'
      | false =>
        rw [e] at h'
        exact ih h'
theorem relabel_free {env : Env} : ∀ {names : List (Str × NameKind)} {x : Str}, names.lookup x = some .free →
    (names.map fun (n, k) => if (k == NameKind.free && env.scope.kind == .function && env.kindOf n == some .cell) then (n, NameKind.cell) else (n, k)).lookup x = some .cell ∨
    (names.map fun (n, k) => if (k == NameKind.free && env.scope.kind == .function && env.kindOf n == some .cell) then (n, NameKind.cell) else (n, k)).lookup x = some .free
  | [], _, h => by simp at h
  | (n, k0) :: r, x, h => by
    have ih := @relabel_free env r x
    rw [List.map_cons]
    rw [List.lookup_cons] at h
    by_cases c : (k0 == NameKind.free && env.scope.kind == .function && env.kindOf n == some .cell) = true
    · simp only [c, if_true, List.lookup_cons]
      cases e : (x == n) with
      | true => exact .inl rfl
      | false =>
        rw [e] at h
        exact ih h
    · simp only [c, Bool.false_eq_true, if_false, List.lookup_cons]
      cases e : (x == n) with
      | true =>
        rw [e] at h
        exact .inr h
      | false =>
        rw [e] at h
        exact ih h

/-- what a block's scope must be like: sc the frame's scope around it -/
def compOk (sc scope : Scope) : Bool :=
  scope.kind == .function && scope.names.all fun y => y.2 != .cell && (y.2 != .local || scope.names.lookup y.1 == some .local) && (y.2 != .free || (sc.names.lookup y.1 == some .cell || sc.names.lookup y.1 == some .free))
structure CompScope (sc scope : Scope) : Prop where
  kind : scope.kind = .function
  cell : ∀ y ∈ scope.names, y.2 ≠ .cell
  own : ∀ y ∈ scope.names, y.2 = .local → scope.names.lookup y.1 = some .local
  free : ∀ y ∈ scope.names, y.2 = .free → sc.names.lookup y.1 = some .cell ∨ sc.names.lookup y.1 = some .free
theorem CompScope.of {sc scope : Scope} (h : compOk sc scope = true) : CompScope sc scope := by
  unfold compOk at h
  rw [Bool.and_eq_true, List.all_eq_true] at h
  obtain ⟨h1, h2⟩ := h
  have h3 : ∀ y ∈ scope.names, (y.2 ≠ .cell ∧ (y.2 ≠ .local ∨ scope.names.lookup y.1 = some .local)) ∧ (y.2 ≠ .free ∨ (sc.names.lookup y.1 = some .cell ∨ sc.names.lookup y.1 = some .free)) := fun y hy => by
    have q := h2 y hy
    simpa [Bool.and_eq_true, Bool.or_eq_true] using q
  refine ⟨by simpa using h1, fun y hy => (h3 y hy).1.1, fun y hy e => ?_, fun y hy e => ?_⟩
  · exact (h3 y hy).1.2.resolve_left fun n => n e
  · exact (h3 y hy).2.resolve_left fun n => n e

/-- the context of a block -/
def cxB (X : Cx) (NC : List Str) (scope : Scope) (s3 : Shared) (H3 : Hp) (fp : List Addr) : Cx :=
  { X with N := NC, s₀ := s3, H₀ := H3, env := compEnvC scope (clo X.env.cells scope.names []) s3.heap.objs.size X.env, outer := X.stack, ex := fp, fn := fun _ => false, pn := [], xe := fun _ _ => False }
/-- the names at a block's entry: its own (none yet), then those of the frame, by their places there -/
def capt (own : Nat) (ix : List Nat) (σ : St) : St := List.replicate own none ++ ix.map fun j => (σ[j]?).getD none
/-- the caught names cs stand at the places ix of the frame -/
def Caps (X : Cx) (scope : Scope) : List Str → List Nat → Prop
  | [], [] => True
  | x :: cs, j :: js => (X.N[j]? = some x ∧ (X.env.kindOf x = some .cell ∨ X.env.kindOf x = some .free) ∧ scope.names.lookup x = some .free) ∧ Caps X scope cs js
  | _, _ => False
theorem Caps.len {X : Cx} {scope : Scope} : ∀ {cs : List Str} {js : List Nat}, Caps X scope cs js → cs.length = js.length
  | [], [], _ => rfl
  | _ :: _, _ :: _, h => by rw [List.length_cons, List.length_cons, Caps.len h.2]
  | [], _ :: _, h => h.elim
  | _ :: _, [], h => h.elim
theorem Caps.at {X : Cx} {scope : Scope} : ∀ {cs : List Str} {js : List Nat} {i : Nat} {x : Str}, Caps X scope cs js → cs[i]? = some x →
    ∃ j, js[i]? = some j ∧ X.N[j]? = some x ∧ (X.env.kindOf x = some .cell ∨ X.env.kindOf x = some .free) ∧ scope.names.lookup x = some .free
  | [], [], _, _, _, e => by simp at e
  | x :: _, j :: _, 0, _, h, e => by simp at e; subst e; exact ⟨j, rfl, h.1⟩
  | _ :: _, _ :: _, i + 1, _, h, e => by
    obtain ⟨j, e1, r⟩ := Caps.at (i := i) h.2 (by simpa using e)
    exact ⟨j, by simpa using e1, r⟩
  | [], _ :: _, _, _, h, _ => h.elim
  | _ :: _, [], _, _, h, _ => h.elim

/-- the tests of a clause -/
def tTrue : TT := fun _ H Q => Q true H
def PTs (Y : Cx) (ifs : List Expr) (t : TT) : Prop :=
  ∀ (pins : List (Addr × Obj)) (s : Shared) (σ : St) (H : Hp) (Q : Bool → Hp → Prop), Inv Y pins σ H s → t σ H Q →
    wpAny (model Y.prog Y.w) Y.A (forIn ifs true fun c r => if r = true then do let ok ← isTrue c Y.env (eval c Y.env); pure (ForInStep.yield ok) else pure (ForInStep.yield r)) (TP Y pins σ Q) Y.xe s
theorem pts_nil {Y : Cx} : PTs Y [] tTrue := fun _ _ _ H _ I h => wpAny_tests_nil ⟨H, I, h⟩
theorem pts_one {Y : Cx} {c : Expr} {t : TT} (h : PT Y c t) : PTs Y [c] t := fun pins s σ H Q I q => wpAny_tests_one (h pins s σ H Q I q)

/-- what is asked of a comprehension whose iterator has come and whose list stands at p: W the word by the turn, a measure, the list so far, the block's names, the heap; N what a turn is to reach -/
def CompW (g : TG) (tc : TT) (te : TE) (own : Nat) (ix : List Nat) (σ : St) (J : It) (p : Addr) (H1 : Hp) (QQ : Hp → Prop) : Prop :=
  ∃ W : Nat → Nat → List V → St → Hp → Prop, (∃ m, W 0 m [] (capt own ix σ) (upd H1 p (.lst []))) ∧ ∀ i m ys σ2 H2, W i m ys σ2 H2 → H2 p = some (.lst ys) ∧
    ((J.stop i H2 ∧ QQ H2) ∨ (J.go i H2 ∧ ys.length < sizeLine ∧ ∀ x H3, J.yld i H2 x H3 → ∃ N : List V → St → Hp → Prop, (∀ ys' σ' H', N ys' σ' H' → ∃ m', m' < m ∧ W (i + 1) m' ys' σ' H') ∧
      g x σ2 H3 fun σ4 H4 => tc σ4 H4 fun b H5 => if b = true then te σ4 H5 fun y H6 => H6 p = some (.lst ys) ∧ N (ys ++ [y]) σ4 (upd H6 p (.lst (ys ++ [y]))) else N ys σ4 H5))
/-- a list comprehension's reading -/
def tComp (wi : TI) (g : TG) (tc : TT) (te : TE) (own : Nat) (ix : List Nat) : TE := fun σ H Q => wi σ H fun J H1 => ∀ p, H1 p = none → CompW g tc te own ix σ J p H1 (Q (.ref p))

/-- a turn of the loop, the store of the target among it -/
theorem comp_loop {prog : Program} {w : World} {A : Around} {R : Result → Shared → Prop} {s : Shared} {elt target iter : Expr} {ifs : List Expr} {scope : Scope} {pos : Pos} {it acc : Value} {env : Env} (I : Nat → Shared → Prop)
    (turn : ∀ n s, I n s → wpAny (model prog w) A (pyNext it) (fun r s₁ => (r = none ∧ R (.ok .next) s₁) ∨ ∃ v, r = some v ∧
      wpAny (model prog w) A (letOwnedTupleGo target it v) (fun _ s₂ => wpAny (model prog w) A (assign target env v) (fun _ s₃ =>
        wpAny (model prog w) A (forIn ifs true fun c r => if r = true then do let ok ← isTrue c env (eval c env); pure (ForInStep.yield ok) else pure (ForInStep.yield r)) (fun ok s₄ =>
          (ok = true ∧ wpAny (model prog w) A (eval elt env) (fun x s₅ => wpAny (model prog w) A (call (.builtin "list.append") [acc, x]) (fun _ s₆ => ∃ m, m < n ∧ I m s₆) (fun _ _ => False) s₅) (fun _ _ => False) s₄) ∨
          (ok = false ∧ ∃ m, m < n ∧ I m s₄)) (fun _ _ => False) s₃) (fun _ _ => False) s₂) (fun _ _ => False) s₁) (fun _ _ => False) s)
    (n : Nat) (h : I n s) : codeAny (model prog w) A (.compLoop (.ListComp elt [⟨target, iter, ifs, 0⟩] scope pos) 0 it acc env) R s := by
  refine codeAny_loop rfl I (fun n s hI => ?_) n h
  show wpAny _ A ((compTurn (.ListComp elt [⟨target, iter, ifs, 0⟩] scope pos) 0 it acc env).onRaise (fun x => do noteFrame x env; theTreesLotGoes x)) _ _ s
  refine wpAny_noted ?_
  rw [compTurn_list]
  have no : ∀ (e : Value) (s' : Shared), False → notedBy (model prog w) A env (fun e s' => R (.error e) s') e s' := fun _ _ f => f.elim
  refine wpAny_bind (wpAny_standAt (wpAny_bind (wpAny_mono (turn n s hI) (fun r s₁ h₁ => ?_) no)))
  rcases h₁ with ⟨rfl, h₁⟩ | ⟨v, rfl, h₁⟩
  · exact wpAny_pure h₁
  refine wpAny_bind (wpAny_mono h₁ (fun _ s₂ h₂ => ?_) no)
  refine wpAny_bind (wpAny_mono h₂ (fun _ s₃ h₃ => ?_) no)
  refine wpAny_bind (wpAny_mono h₃ (fun ok s₄ h₄ => ?_) no)
  rcases h₄ with ⟨rfl, h₄⟩ | ⟨rfl, h₄⟩
  · refine wpAny_bind (wpAny_bind (wpAny_mono h₄ (fun x s₅ h₅ => ?_) no))
    exact wpAny_bind (wpAny_mono h₅ (fun _ s₆ h₆ => wpAny_pure (wpAny_pure ⟨rfl, h₆⟩)) no)
  · exact wpAny_pure ⟨rfl, h₄⟩

section
variable {X : Cx} {pins : List (Addr × Obj)} {σ : St} {H H' : Hp} {s s' : Shared}
/-- a block's entry: s3 the state with the new list laid, h4 the heap with the block's own names laid behind it -/
theorem block_start {NC own cs : List Str} {ix : List Nat} {scope : Scope} {fp : List Addr} {h4 : Heap} {t4 : Nat} (I : Inv X pins σ H s) (S : CompScope X.env.scope scope) (hN : NC = own ++ cs) (hc : Caps X scope cs ix)
    (hf : ∀ b ∈ fp, FpOk X pins H b) (hl : ∀ b ∈ fp, b < s.heap.objs.size) (hns : h4.Ns s.heap.objs.size fun _ => none) (hk : ∀ b o, s.heap.get? b = some o → h4.get? b = some o) :
    Inv (cxB X NC scope s H fp) [] (capt own.length ix σ) H { s with heap := h4, toks := t4 } := by
  have cs_has : ∀ y ∈ scope.names, y.2 = .free → ∃ c, X.env.cells.lookup y.1 = some c := fun y hy e => I.ok.has y.1 (S.free y hy e)
  have len := hc.len
  refine ⟨⟨I.ok.mod, S.kind, I.ok.glob, I.ok.blt, Nat.le_refl _, fun x y c e1 e2 => I.ok.inj x y c (clo_sub e1) (clo_sub e2), fun x hx => ?_, fun _ _ z => (nomatch z), I.ok.hd, I.ok.frames, .inl rfl, fun b hb => ⟨Nat.ne_of_lt (hl b hb), fun x c e => (hf b hb).2.2.2.2.1 x c (clo_sub e)⟩,
      I.bs, Nat.le_trans I.ok.bsz I.sz, fun b o e hb => ?_, fun b hb z => ?_, I.stack, I.stkFree⟩, rfl, I.bare, Un.kept hk, ⟨_, hns, fun i x v e1 e2 e3 => ?_⟩, fun x c e => ?_, I.hok.fresh (Nat.le_refl _), fun x c e => I.freeC x c (clo_sub e), fun p hp => ?_, I.hok.kept hk, ?_⟩
  · -- a cell for each caught name
    have hx' : (relabel scope X.env).names.lookup x = some .cell ∨ (relabel scope X.env).names.lookup x = some .free := hx
    have q : scope.names.lookup x = some .free := by
      rcases hx' with h | h
      · rcases relabel_look h with h | ⟨_, h⟩
        · exact absurd rfl (S.cell _ (PySem.mem_of_lookup h))
        · exact h
      · rcases relabel_look h with h | ⟨z, _⟩
        · exact h
        · cases z
    obtain ⟨c, hc'⟩ := cs_has (x, .free) (PySem.mem_of_lookup q) rfl
    exact lookup_some_of_mem (clo_has hc' scope.names [] (PySem.mem_of_lookup q))
  · rcases (hf b hb).2.2.2.1 with z | z
    · exact I.ok.noex b o e z
    · exact absurd (Nat.lt_of_lt_of_le (Heap.lt_size e) (Nat.le_trans I.ok.bsz z)) (Nat.lt_irrefl _)
  · rcases List.mem_cons.mp (I.stkSub b z) with z | z
    · exact (hf b hb).2.1 z
    · exact (hf b hb).2.2.1 z
  · -- the caught names' values
    have e1' : (own ++ cs)[i]? = some x := hN ▸ e1
    have hi : own.length ≤ i := by
      by_cases hi : own.length ≤ i
      · exact hi
      · unfold capt at e2
        rw [List.getElem?_append_left (by rw [List.length_replicate]; omega), List.getElem?_replicate, if_pos (by omega)] at e2
        cases e2
    rw [List.getElem?_append_right hi] at e1'
    obtain ⟨j, ej, en, kx, fx⟩ := hc.at e1'
    have e2' : (σ[j]?).getD none = some v := by
      unfold capt at e2
      rw [List.getElem?_append_right (by rw [List.length_replicate]; omega), List.length_replicate, List.getElem?_map, ej] at e2
      exact Option.some.inj e2
    have e2'' : σ[j]? = some (some v) := by
      cases z : σ[j]? with
      | none => rw [z] at e2'; cases e2'
      | some o => rw [z] at e2'; exact congrArg some e2'
    obtain ⟨m, _, hl'⟩ := I.loc
    obtain ⟨u, ru, l⟩ := hl' j x v en e2'' (kx.elim (fun z => .inr (.inl z)) fun z => .inr (.inr z))
    refine ⟨u, ru, .inr ⟨relabel_free fx, ?_⟩⟩
    rcases l with ⟨k, _⟩ | ⟨_, c, e, z⟩
    · rcases kx with k' | k' <;> rw [k] at k' <;> cases k'
    · obtain ⟨d, hd⟩ := lookup_some_of_mem (clo_has e scope.names [] (PySem.mem_of_lookup fx))
      have e' := clo_sub hd
      rw [e] at e'
      cases e'
      obtain ⟨o, ho, dd⟩ := z
      exact ⟨c, hd, o, hk c o ho, dd⟩
  · obtain ⟨v, o, ho, dd⟩ := I.cell x c (clo_sub e)
    exact ⟨v, o, hk c o ho, dd⟩
  · exact absurd (show p ∈ ([] : List (Addr × Obj)) from hp) (by simp)
  · show (capt own.length ix σ).length = NC.length
    rw [hN]
    unfold capt
    rw [List.length_append, List.length_append, List.length_replicate, List.length_map, len]
/-- .. and its end: the frame around it goes on -/
theorem block_end {NC : List Str} {scope : Scope} {fp : List Addr} {σ' : St} {h' : Heap} (I : Inv X pins σ H s) (hf : ∀ b ∈ fp, FpOk X pins H b) (J : Inv (cxB X NC scope s H fp) [] σ' H' s') (hs : Heap.SameBut s.heap.objs.size s'.heap h') : Inv X pins σ H' { s' with heap := h' } := by
  obtain ⟨hh, g, d, t, os⟩ := s'
  have hos : os = s.os := J.os
  subst hos
  have nC : H' s.heap.objs.size = none := J.free
  have un : Un (frs X.stack) fp H H' s.heap hh := J.base
  have out : ∀ b o, s.heap.get? b = some o → b ≠ s.heap.objs.size := fun b o e => Nat.ne_of_lt (Heap.lt_size e)
  have un' : Un (frs X.stack) fp H H' s.heap h' := ⟨fun b o e n hb hx => (hs.2 b (out b o e)).trans (un.keep b o e n hb hx), fun b o e n hb hx => let ⟨sl, q⟩ := un.slot b o e n hb hx; ⟨sl, (hs.2 b (out b o e)).trans q⟩, un.free,
    fun b o e hx => let ⟨o', q⟩ := un.there b o e hx; ⟨o', (hs.2 b (out b o e)).trans q⟩, un.tups, un.frzs, un.tbls⟩
  have hok : HOk X.prog X.w H' h' := fun b u e => by
    refine (J.hok b u e).stay (fun c v hc q => (hs.2 c ?_).trans q) (fun _ q => q) fun _ _ q => q
    rintro rfl
    rcases hc with rfl | hc
    · rw [nC] at e; cases e
    · rw [nC] at hc; cases hc
  have q := Inv.call (s := s) (h' := h') (g' := g) (d' := d) (t' := t) (ch := fp) I un' hok J.bare fun b hb => ⟨(hf b hb).2.2.2.1, (hf b hb).2.1, (hf b hb).2.2.2.2.1, (hf b hb).2.2.2.2.2⟩
  exact q
end
/-- the block from the new list on: what is wanted behind its last turn is told by fin -/
theorem comp_core {X : Cx} {elt tg iter : Expr} {ifs : List Expr} {scope : Scope} {pos : Pos} {NC own cs : List Str} {ix : List Nat} {g : TG} {tc : TT} {te : TE} (hc : X.calm = true) (S : CompScope X.env.scope scope) (hN : NC = own ++ cs) (hcap : Caps X scope cs ix)
    (hg : ∀ s3 H3 fp, PG (cxB X NC scope s3 H3 fp) tg g) (ht : ∀ s3 H3 fp, PTs (cxB X NC scope s3 H3 fp) ifs tc) (he : ∀ s3 H3 fp, PE (cxB X NC scope s3 H3 fp) elt te)
    {pins : List (Addr × Obj)} {σ : St} {H2 : Hp} {s2 : Shared} {it : Addr} {fp : List Addr} {tn : Nat → Heap → Prop} {J : It} (I2 : Inv X pins σ H2 s2) (T : Turn X.prog X.w X.K tg J fp it tn) (st2 : tn 0 s2.heap) (f2 : ∀ b ∈ fp, FpOk X pins H2 b) {QQ : Addr → Hp → Prop} {E : Value → Shared → Prop}
    {RR : Value → Addr → Result → Shared → Prop}
    (h2 : ∀ p, H2 p = none → CompW g tc te own.length ix σ J p H2 (QQ p))
    (fin : ∀ s3 H3 σ5 H5 s6, Inv X pins σ H3 s3 → (∀ b ∈ fp, FpOk X pins H3 b) → Inv (cxB X NC scope s3 H3 fp) [] σ5 H5 s6 → QQ s2.heap.objs.size H5 → RR (.ref s2.heap.objs.size) s3.heap.objs.size (.ok .next) s6) :
    wpAny (model X.prog X.w) X.A (newList []) (fun acc s3 => wpAny (model X.prog X.w) X.A (newFunctionEnv scope X.env.globals (clo X.env.cells scope.names []) [] X.env.qual none .none (some X.env)) (fun cenv s4 =>
      codeAny (model X.prog X.w) X.A (.compStart (.ListComp elt [⟨tg, iter, ifs, 0⟩] scope pos) 0 (.ref it) acc { cenv with scope := relabel scope X.env }) (RR acc cenv.locals) s4) E s3) E s2 := by
  have lt2 : ∀ b ∈ fp, b < s2.heap.objs.size := fun b hb => let ⟨_, e, _⟩ := T.obj _ _ st2 b hb; Heap.lt_size e
  obtain ⟨W, ⟨m0, w0⟩, turn⟩ := h2 _ I2.fresh
  refine wpAny_newObj_type ?_
  have I3 : Inv X pins σ (upd H2 s2.heap.objs.size (.lst [])) { s2 with heap := s2.heap.push { cls := .type "list", dict := none, data := .seq ([] : List Value).toArray } } := I2.lnew (t' := s2.toks) .nil (Nat.zero_le _)
  have f3 : ∀ b ∈ fp, FpOk X pins (upd H2 s2.heap.objs.size (.lst [])) b := fun b hb => ⟨by rw [upd_ne (Nat.ne_of_lt (lt2 b hb))]; exact (f2 b hb).1, (f2 b hb).2⟩
  have st3 : tn 0 (s2.heap.push { cls := .type "list", dict := none, data := .seq ([] : List Value).toArray }) := T.keep _ _ _ st2 fun b hb o e => Heap.get?_push_of_some _ e
  have lt3 : ∀ b ∈ fp, b < (s2.heap.push { cls := .type "list", dict := none, data := .seq ([] : List Value).toArray }).objs.size := fun b hb => by rw [Heap.size_push]; exact Nat.lt_succ_of_lt (lt2 b hb)
  refine wpAny_newFunctionEnv S.cell (fun _ z => nomatch z) (fun h4 hns hsb => ?_) S.kind
  dsimp only at hns hsb ⊢
  have hk4 : ∀ b o, (s2.heap.push { cls := .type "list", dict := none, data := .seq ([] : List Value).toArray }).get? b = some o → h4.get? b = some o := fun b o e =>
    hsb.extBut b o (Nat.ne_of_lt (Heap.lt_size e)) (Heap.get?_push_of_some _ e)
  have J0 := block_start (t4 := s2.toks + ([] : List (Str × Value)).length) I3 S hN hcap f3 lt3 hns hk4
  have st4 : tn 0 h4 := T.keep _ _ _ st3 fun b hb o e => hk4 b o e
  have fB : ∀ {H' : Hp}, (∀ b ∈ fp, H' b = none) → ∀ b ∈ fp, FpOk (cxB X NC scope { s2 with heap := s2.heap.push { cls := .type "list", dict := none, data := .seq ([] : List Value).toArray } } (upd H2 s2.heap.objs.size (.lst [])) fp) [] H' b := fun hn b hb => by
    refine ⟨hn b hb, Nat.ne_of_lt (lt3 b hb), fun z => ?_, .inl hb, fun x c e => (f3 b hb).2.2.2.2.1 x c (clo_sub e), fun p hp => absurd (show p ∈ ([] : List (Addr × Obj)) from hp) (by simp)⟩
    rcases List.mem_cons.mp (I3.stkSub b z) with z | z
    · exact (f3 b hb).2.1 z
    · exact (f3 b hb).2.2.1 z
  have loop : ∀ s4 : Shared, s4 = { s2 with heap := h4, toks := s2.toks + ([] : List (Str × Value)).length } →
      codeAny (model X.prog X.w) X.A (.compLoop (.ListComp elt [⟨tg, iter, ifs, 0⟩] scope pos) 0 (.ref it) (.ref s2.heap.objs.size) (compEnvC scope (clo X.env.cells scope.names []) (s2.heap.push { cls := .type "list", dict := none, data := .seq ([] : List Value).toArray }).objs.size X.env))
        (RR (.ref s2.heap.objs.size) (s2.heap.push { cls := .type "list", dict := none, data := .seq ([] : List Value).toArray }).objs.size) s4 := by
    rintro s4 rfl
    refine comp_loop (fun n s' => ∃ i ys σ' H', Inv (cxB X NC scope { s2 with heap := s2.heap.push { cls := .type "list", dict := none, data := .seq ([] : List Value).toArray } } (upd H2 s2.heap.objs.size (.lst [])) fp) [] σ' H' s' ∧ tn i s'.heap ∧ (∀ b ∈ fp, H' b = none) ∧ W i n ys σ' H') ?_ m0
      ⟨0, [], _, _, J0, st4, fun b hb => (f3 b hb).1, w0⟩
    rintro n s5 ⟨i, ys, σ5, H5, J5, st5, fr5, w5⟩
    obtain ⟨hp5, alt⟩ := turn i n ys σ5 H5 w5
    rcases alt with ⟨stop, qn⟩ | ⟨go, hz, step⟩
    · refine thn (T.done (cxB X NC scope _ _ fp) rfl rfl rfl hc i [] s5 σ5 H5 _ J5 (fB fr5) st5 stop) fun r s6 ⟨hr, J6⟩ => .inl ⟨hr, ?_⟩
      exact fin _ _ _ _ _ I3 f3 J6 qn
    · refine thn (T.item (cxB X NC scope _ _ fp) rfl rfl rfl hc i [] s5 σ5 H5 _ J5 (fB fr5) st5 go) fun r s6 ⟨u, hr, h6⟩ => .inr ⟨u, hr, ?_⟩
      refine thn h6 fun _ s7 ⟨x, H7, J7, r7, y7, st7, fr7⟩ => ?_
      have J7' := J7.pinned (fB fr7) (T.obj _ _ st7)
      obtain ⟨N, hN', q7⟩ := step x H7 y7
      refine thn (hg _ _ fp _ s7 σ5 H7 x u _ J7' r7 q7) fun _ s8 ⟨σ8, H8, J8, q8⟩ => ?_
      refine thn (ht _ _ fp _ s8 σ8 H8 _ J8 q8) fun ok s9 ⟨H9, J9, q9⟩ => ?_
      have again : ∀ {σa : St} {Ha : Hp} {sa : Shared} {ya : List V} {ma : Nat}, Inv (cxB X NC scope { s2 with heap := s2.heap.push { cls := .type "list", dict := none, data := .seq ([] : List Value).toArray } } (upd H2 s2.heap.objs.size (.lst [])) fp) ([] ++ pinsAt fp s7.heap) σa Ha sa → ma < n → W (i + 1) ma ya σa Ha →
          ∃ m, m < n ∧ ∃ i ys σ' H', Inv (cxB X NC scope { s2 with heap := s2.heap.push { cls := .type "list", dict := none, data := .seq ([] : List Value).toArray } } (upd H2 s2.heap.objs.size (.lst [])) fp) [] σ' H' sa ∧ tn i sa.heap ∧ (∀ b ∈ fp, H' b = none) ∧ W i m ys σ' H' := fun {σa Ha sa ya ma} Ja hm wa => by
        refine ⟨ma, hm, i + 1, ya, σa, Ha, Ja.unpinned, T.keep _ _ _ st7 fun b hb o e => (Ja.pin (b, o) (List.mem_append_right _ (List.mem_append_right _ (mem_pinsAt hb e)))).1, fun b hb => ?_, wa⟩
        obtain ⟨o, e, d⟩ := T.obj _ _ st7 b hb
        exact (Ja.pin (b, o) (List.mem_append_right _ (List.mem_append_right _ (mem_pinsAt hb e)))).2.1
      cases ok with
      | false =>
        obtain ⟨m', hm, w'⟩ := hN' _ _ _ (show N ys σ8 H9 from q9)
        exact .inr ⟨rfl, again J9 hm w'⟩
      | true =>
        refine .inl ⟨rfl, thn (he _ _ fp _ s9 σ8 H9 _ J9 q9) fun yv s10 ⟨y, H10, J10, r10, hp10, n10⟩ => ?_⟩
        obtain ⟨m', hm, w'⟩ := hN' _ _ _ n10
        refine thn (mt_append _ s10 σ8 H10 (.ref s2.heap.objs.size) [y] (.ref s2.heap.objs.size) [yv] (fun _ Hz => Hz = upd H10 s2.heap.objs.size (.lst (ys ++ [y]))) J10 rfl (.cons r10 .nil) ⟨_, ys, y, rfl, rfl, hp10, hz, rfl⟩) fun _ s11 ⟨_, H11, J11, _, e11⟩ => ?_
        subst e11
        exact again J11 hm w'
  exact codeAny_compStart_list (loop _ rfl) (T.self X.A 0 _ _ _ st4 (loop _ rfl))
/-- [elt for tg in iter if ..] -/
theorem pe_comp {X : Cx} {elt tg iter : Expr} {ifs : List Expr} {scope : Scope} {pos : Pos} {NC own cs : List Str} {ix : List Nat} {wi : TI} {g : TG} {tc : TT} {te : TE} (hc : X.calm = true) (S : CompScope X.env.scope scope) (hN : NC = own ++ cs) (hcap : Caps X scope cs ix)
    (hi : PI X tg iter wi) (hg : ∀ s3 H3 fp, PG (cxB X NC scope s3 H3 fp) tg g) (ht : ∀ s3 H3 fp, PTs (cxB X NC scope s3 H3 fp) ifs tc) (he : ∀ s3 H3 fp, PE (cxB X NC scope s3 H3 fp) elt te)
    (hs : ∀ x, foldedSetIterable iter X.env x = pure x := by intro _; rfl) : PE X (.ListComp elt [⟨tg, iter, ifs, 0⟩] scope pos) (tComp wi g tc te own.length ix) := by
  intro pins s σ H Q I h
  rw [eval_ListComp]
  have has : ∀ y ∈ scope.names, y.2 = .free → ∃ c, X.env.cells.lookup y.1 = some c := fun y hy e => I.ok.has y.1 (S.free y hy e)
  refine wpAny_comprehension_free (use := none) rfl hs (clo_is has) S.kind S.own (thn (hi pins s σ H _ I h) fun v s1 h1 => thn h1 fun itv s2 h2 => ?_)
  obtain ⟨it, fp, tn, J, H2, e, I2, T, st2, f2, h2⟩ := h2
  subst e
  refine comp_core hc S hN hcap hg ht he I2 T st2 f2 (QQ := fun p => Q (.ref p)) (RR := fun acc C => compPost (model X.prog X.w) X.A X.xe none (EP X pins σ Q) acc C) h2 fun s3 H3 σ5 H5 s6 I3 f3 J6 qn => ?_
  obtain ⟨m6, hn6, _⟩ := J6.loc
  exact ⟨m6, hn6, fun h7 hs7 => ⟨.ref s2.heap.objs.size, H5, block_end I3 f3 J6 hs7, rfl, qn⟩⟩
/-- x = [elt for ..]: the value is stored before the block's names are let go -/
theorem ps_comp {X : Cx} {elt tg iter : Expr} {ifs : List Expr} {scope : Scope} {pos py spos : Pos} {NC own cs : List Str} {ix : List Nat} {wi : TI} {g : TG} {tc : TT} {te : TE} {y : Str} {j : Nat} (hnd : X.N.Nodup) (hj : X.N[j]? = some y) (hy : X.env.scope.names.lookup y = some .local) (hc : X.calm = true) (S : CompScope X.env.scope scope) (hN : NC = own ++ cs) (hcap : Caps X scope cs ix)
    (hi : PI X tg iter wi) (hg : ∀ s3 H3 fp, PG (cxB X NC scope s3 H3 fp) tg g) (ht : ∀ s3 H3 fp, PTs (cxB X NC scope s3 H3 fp) ifs tc) (he : ∀ s3 H3 fp, PE (cxB X NC scope s3 H3 fp) elt te)
    (hsw : swapsWith (.ListComp elt [⟨tg, iter, ifs, 0⟩] scope pos) (some (.Name y py)) spos.line X.env = pure true := by rfl) (hs : ∀ x, foldedSetIterable iter X.env x = pure x := by intro _; rfl) :
    PS X (.Assign [.Name y py] (.ListComp elt [⟨tg, iter, ifs, 0⟩] scope pos) spos) (tAsg (tComp wi g tc te own.length ix) (gName j)) := by
  intro pins s σ H D I h
  rw [exec_Assign_Name_used _ _ _ _ hsw]
  refine wpAny_bind (wpAny_standAt (wpAny_bind ?_))
  show wpAny _ X.A (comprehension (.ListComp elt [⟨tg, iter, ifs, 0⟩] scope pos) scope X.env _ (newList []) false (eval iter X.env) (some (assign (.Name y py) X.env)) >>= fun _ => _) _ _ s
  have has : ∀ y ∈ scope.names, y.2 = .free → ∃ c, X.env.cells.lookup y.1 = some c := fun y hy e => I.ok.has y.1 (S.free y hy e)
  refine wpAny_bind (thn (wpAny_comprehension_free (use := some (assign (.Name y py) X.env)) (Q := fun _ s' => SP X pins D .next s') rfl hs (clo_is has) S.kind S.own (thn (hi pins s σ H _ I h) fun v s1 h1 => thn h1 fun itv s2 h2 => ?_)) fun _ s' hq => wpAny_pure (wpAny_pure hq))
  obtain ⟨it, fp, tn, J, H2, e, I2, T, st2, f2, h2⟩ := h2
  subst e
  refine comp_core hc S hN hcap hg ht he I2 T st2 f2 (QQ := fun p H' => D.nx (σ.set j (some (.ref p))) H') (RR := fun acc C => compPost (model X.prog X.w) X.A X.xe (some (assign (.Name y py) X.env)) (fun _ s' => SP X pins D .next s') acc C) h2 fun s3 H3 σ5 H5 s6 I3 f3 J6 qn => ?_
  obtain ⟨m6, hn6, _⟩ := J6.loc
  have I6 := block_end I3 f3 J6 (Heap.SameBut.refl ..)
  show wpAny _ X.A (assign (.Name y py) X.env (.ref s2.heap.objs.size)) _ _ s6
  refine wpAny_assign_Name (store_ok2 (v := .ref s2.heap.objs.size) I6 hnd hj (.inl hy) rfl (fun s7 I7 ⟨a, hs7, ha⟩ => ?_) (.inr hy))
  have hCa : s3.heap.objs.size ≠ a := by
    rcases ha with ha | ha
    · rw [ha]; exact Ne.symm (Nat.ne_of_lt I3.lt)
    · obtain ⟨v, q⟩ := I3.cell y a ha
      exact Ne.symm (Nat.ne_of_lt q.lt)
  refine ⟨m6, hn6.sameBut hs7 hCa, fun h8 hs8 => ?_⟩
  have nC : H5 s3.heap.objs.size = none := J6.free
  have I8 : Inv X pins (σ.set j (some (.ref s2.heap.objs.size))) H5 { s7 with heap := h8, toks := s7.toks } := by
    refine I7.turned (it := s3.heap.objs.size) (fun b o hb e => (hs8.2 b hb).trans e) nC (Ne.symm (Nat.ne_of_lt I3.lt)) (.inr I3.sz) (fun x c e z => ?_) (fun p hp z => ?_)
    · obtain ⟨v, q⟩ := I3.cell x c e
      exact absurd (z ▸ q.lt) (Nat.lt_irrefl _)
    · exact absurd (z ▸ Heap.lt_size (I3.pin p hp).1) (Nat.lt_irrefl _)
  exact ⟨_, H5, I8, qn⟩
end L2

namespace L2
open PySem PySem.Spec PyProof.Rows

/-! ### isinstance -/
theorem call_isinst {X : Cx} : CallR X (.builtin "isinstance") (fun xs H Q => ∃ x c cv t b, xs = [x, c] ∧ (∀ u, RelV c u → u = cv) ∧ TyOf X.K H x t ∧ PySem.W.kitOne X.K t cv = some b ∧ Q (.bl b) H) := by
  intro pins s σ H xs us Q I r h
  obtain ⟨x, c, cv, t, b, rfl, hc, ty, e, q⟩ := h
  obtain ⟨u, z, rfl, rx, rc⟩ := vals2 r
  cases hc z rc
  exact isinst_ok I rx ty e fun tk => ⟨.bl b, H, I.tok tk, rfl, q⟩
theorem ty_is {n : String} : ∀ u, RelV (.ty n) u → u = .type n := fun _ h => h
theorem ref_is {a : Addr} : ∀ u, RelV (.ref a) u → u = .ref a := fun _ h => h

/-! ### sum -/
theorem call_sum {X : Cx} (hc : X.calm = true) : CallR X (.builtin "sum") (fun xs H Q => ∃ p, ∃ ns : List Int, xs = [.ref p] ∧ SqL X.K H p (ns.map V.int) ∧ Q (.int ns.sum) H) := by
  intro pins s σ H xs us Q I r h
  obtain ⟨p, ns, rfl, hq, q⟩ := h
  obtain ⟨u, rfl, rx⟩ := vals1 r
  cases rx
  obtain ⟨its, rv, pl, hz⟩ := I.list hq
  have hi : IntsAre its ns := intsAre_of rv
  obtain ⟨ys, ey⟩ := hi.allInts.items
  have hl : s.heap.IsList p (intItems ys) := ey ▸ pl.isList
  have es : preSum (numAt ys) ys.size = ns.sum := by
    have e1 := hi.numsOf
    have e2 : numsOf (intItems ys).toList = ns := by rw [← ey]; exact e1
    rw [nums_intItems] at e2
    rw [preSum_eq, List.take_of_length_le (by simp), e2]
  refine sum_intListG (I.ok.hd hc) hl fun h' tk t' hk => ?_
  exact ⟨.int ns.sum, H, I.kept hk, ⟨t', by rw [es]⟩, q⟩

/-! ### == and != of lists of flat items -/
def eqL : List V → List V → Bool
  | [], [] => true
  | x :: xs, y :: ys => eqV x y && eqL xs ys
  | _, _ => false
theorem eqL_len : ∀ {xs ys : List V}, xs.length ≠ ys.length → eqL xs ys = false
  | [], [], h => absurd rfl h
  | [], _ :: _, _ => rfl
  | _ :: _, [], _ => rfl
  | x :: xs, y :: ys, h => by
    unfold eqL
    rw [eqL_len (xs := xs) (ys := ys) fun e => h (by rw [List.length_cons, List.length_cons, e]), Bool.and_false]
theorem eqL_all : ∀ {xs ys : List V}, xs.length = ys.length → ∀ e : Nat → Bool, (∀ j x y, xs[j]? = some x → ys[j]? = some y → e j = eqV x y) → (List.range xs.length).all e = eqL xs ys
  | [], [], _, _, _ => rfl
  | [], _ :: _, h, _, _ => by simp at h
  | _ :: _, [], h, _, _ => by simp at h
  | x :: xs, y :: ys, h, e, he => by
    have ih := eqL_all (xs := xs) (ys := ys) (by simpa using h) (fun j => e (j + 1)) fun j a b ha hb => he (j + 1) a b (by simpa using ha) (by simpa using hb)
    unfold eqL
    rw [List.length_cons, List.range_succ_eq_map, List.all_cons, List.all_map, he 0 x y rfl rfl, ← ih]
    rfl
theorem eqL_int : ∀ (ns ms : List Int), eqL (ns.map V.int) (ms.map V.int) = decide (ns = ms)
  | [], [] => rfl
  | [], _ :: _ => rfl
  | _ :: _, [] => rfl
  | n :: ns, m :: ms => by
    rw [List.map_cons, List.map_cons]
    unfold eqL
    rw [eqL_int ns ms]
    show ((n == m) && _) = _
    by_cases e : n = m
    · by_cases e' : ns = ms
      · simp [e, e']
      · simp [e, e']
    · simp [e]
def eqAtJ (its js : List Value) (xs ys : List V) (j : Nat) : Bool := match xs[j]?, ys[j]? with
  | some x, some y => eqV x y
  | _, _ => true
theorem lists_at {X : Cx} {pins : List (Addr × Obj)} {s : Shared} {σ : St} {H : Hp} {A : Around} {xs ys : List V} {its js : List Value} (r1 : Vals xs its) (r2 : Vals ys js) (f1 : xs.all flatV = true) (f2 : ys.all flatV = true) (hl : xs.length = ys.length) :
    ∀ j (h1 : j < its.toArray.size) (h2 : j < js.toArray.size), SeqAt.EqAt A s its.toArray[j] js.toArray[j] (eqAtJ its js xs ys j) := fun j h1 h2 => by
  have l1 := r1.length
  have l2 := r2.length
  rw [List.size_toArray] at h1 h2
  have e1 : xs[j]? = some xs[j] := List.getElem?_eq_getElem (by omega)
  have e2 : ys[j]? = some ys[j] := List.getElem?_eq_getElem (by omega)
  obtain ⟨u, hu, ru⟩ := r1.get e1
  obtain ⟨v, hv, rv⟩ := r2.get e2
  have eu : its.toArray[j] = u := by rw [List.getElem_toArray]; exact (List.getElem?_eq_some_iff.mp hu).2
  have ev : js.toArray[j] = v := by rw [List.getElem_toArray]; exact (List.getElem?_eq_some_iff.mp hv).2
  rw [eu, ev]
  unfold eqAtJ
  rw [e1, e2]
  exact eqAt_V ru rv (List.all_eq_true.mp f1 _ (List.getElem_mem _)) (List.all_eq_true.mp f2 _ (List.getElem_mem _))
def rEqL (K : PySem.W.Frag) (neg : Bool) : R2 := fun x y H Q => ∃ a b xs ys, x = .ref a ∧ y = .ref b ∧ SqL K H a xs ∧ SqL K H b ys ∧ xs.all flatV = true ∧ ys.all flatV = true ∧ Q (.bl (if neg then !eqL xs ys else eqL xs ys)) H
theorem op_eqL {X : Cx} (hu : X.A.units < cLine) : OpR X (compareOp .Eq) (rEqL X.K false) := by
  intro pins s σ H x y v u Q I rx ry h
  obtain ⟨a, b, xs, ys, rfl, rfl, h1, h2, f1, f2, q⟩ := h
  cases rx
  cases ry
  obtain ⟨its, r1, p1, z1⟩ := I.list h1
  obtain ⟨js, r2, p2, z2⟩ := I.list h2
  have l1 := r1.length
  have l2 := r2.length
  by_cases hl : xs.length = ys.length
  · refine SeqAt.eq_listAt p1.isList p2.isList (by rw [List.size_toArray, List.size_toArray]; omega) hu (lists_at (X := X) (pins := pins) (σ := σ) (H := H) r1 r2 f1 f2 hl) ?_
    refine ⟨.bl (eqL xs ys), H, I, ?_, q⟩
    show Value.bool _ = Value.bool _
    rw [List.size_toArray, ← l1, eqL_all hl]
    intro j x y e1 e2
    unfold eqAtJ
    rw [e1, e2]
  · refine SeqAt.eq_list_lengthsAt p1.isList p2.isList (by simp only [List.size_toArray, bne_iff_ne, ne_eq]; omega) hu ?_
    exact ⟨.bl (eqL xs ys), H, I, by rw [eqL_len hl]; rfl, q⟩
theorem op_neL {X : Cx} (hu : X.A.units < cLine) : OpR X (compareOp .NotEq) (rEqL X.K true) := by
  intro pins s σ H x y v u Q I rx ry h
  obtain ⟨a, b, xs, ys, rfl, rfl, h1, h2, f1, f2, q⟩ := h
  cases rx
  cases ry
  obtain ⟨its, r1, p1, z1⟩ := I.list h1
  obtain ⟨js, r2, p2, z2⟩ := I.list h2
  have l1 := r1.length
  have l2 := r2.length
  by_cases hl : xs.length = ys.length
  · refine (SeqAt.RcNeAt.lists p1.isList p2.isList (by rw [List.size_toArray, List.size_toArray]; omega) hu (lists_at (X := X) (pins := pins) (σ := σ) (H := H) r1 r2 f1 f2 hl) : SeqAt.RcNeAt X.A s _ _ _) X.prog X.w _ _ ?_
    refine ⟨.bl (!eqL xs ys), H, I, ?_, q⟩
    show Value.bool _ = Value.bool _
    rw [List.size_toArray, ← l1, eqL_all hl]
    intro j x y e1 e2
    unfold eqAtJ
    rw [e1, e2]
  · refine (SeqAt.RcNeAt.lists_lengths p1.isList p2.isList (by simp only [List.size_toArray, bne_iff_ne, ne_eq]; omega) hu : SeqAt.RcNeAt X.A s _ _ _) X.prog X.w _ _ ?_
    exact ⟨.bl (!eqL xs ys), H, I, by rw [eqL_len hl]; rfl, q⟩

/-! ### xs[::-1] -/

/-! ### xs.count(x) -/
def rCount (K : PySem.W.Frag) : V → List V → Hp → VK → Prop := fun x vs H Q => ∃ l xs y, x = .ref l ∧ vs = [y] ∧ SqL K H l xs ∧ flatV y = true ∧ xs.all flatV = true ∧ Q (.int ((xs.countP fun z => eqV z y : Nat) : Int)) H
theorem count_eqU {x : V} : ∀ {xs : List V} {us : List Value}, Vals xs us → xs.all flatV = true → us.countP (eqU x) = xs.countP fun y => eqV y x
  | _, _, .nil, _ => rfl
  | y :: xs, u :: us, .cons r t, f => by
    rw [List.all_cons, Bool.and_eq_true] at f
    rw [List.countP_cons, List.countP_cons, eqU_of r f.1, count_eqU t f.2]
theorem mt_count {X : Cx} : MtM X "list.count" (rCount X.K) := by
  intro pins s σ H x vs v us Q I rx rv h
  obtain ⟨l, xs, y, rfl, rfl, hH, fy, fx, q⟩ := h
  cases rx
  obtain ⟨u, rfl, ru⟩ := rv.one
  obtain ⟨its, r, p, hz⟩ := I.list hH
  obtain ⟨⟨cls, dd, data, sl⟩, ho, hc, n, hd⟩ := p.isList
  simp only at hc hd
  subst hc hd
  refine call_meets F.slot_list_count ⟨_, ho, rfl⟩ F.entry_list_count (F.args_list_count_2 _ _) (SeqAt.list_countAt l its.toArray n dd sl u (eqU y)) ⟨ho, ?_, ?_⟩
  · intro z hz'
    exact mem_eqAt ru fy r fx z (by simpa using hz')
  · refine ⟨.int _, H, I.tok _, ⟨s.toks, ?_⟩, q⟩
    show Value.int ((its.toArray.toList.countP (eqU y) : Nat) : Int) s.toks = _
    rw [show its.toArray.toList = its from rfl, count_eqU r fx]
theorem countP_int (ns : List Int) (k : Int) : (ns.map V.int).countP (fun z => eqV z (.int k)) = ns.count k := by
  rw [List.countP_map]
  rfl

/-! ### comprehensions over ranges and lists, by a word over the turn, the list so far, the heap -/
abbrev caps (ix : List Nat) (σ : St) : St := ix.map fun j => (σ[j]?).getD none
theorem comp_range {lo : Int} {n : Nat} {tc : TT} {te : TE} {σ : St} {ix : List Nat} {QQ : Hp → Prop} {H1 : Hp} {p : Addr} (Pv : Nat → List V → Hp → Prop) (h0 : Pv 0 [] (upd H1 p (.lst [])))
    (hp : ∀ i ys H, i ≤ n → Pv i ys H → H p = some (.lst ys) ∧ ys.length ≤ i) (hn : n ≤ sizeLine)
    (hs : ∀ i ys H, i < n → Pv i ys H → tc (some (.int (lo + i)) :: caps ix σ) H fun b H5 => if b = true then te (some (.int (lo + i)) :: caps ix σ) H5 fun y H6 => H6 p = some (.lst ys) ∧
      (some (.int (lo + i)) :: caps ix σ) = (some (.int (lo + i)) :: caps ix σ) ∧ Pv (i + 1) (ys ++ [y]) (upd H6 p (.lst (ys ++ [y]))) else (some (.int (lo + i)) :: caps ix σ) = (some (.int (lo + i)) :: caps ix σ) ∧ Pv (i + 1) ys H5)
    (hd : ∀ ys H, Pv n ys H → QQ H) :
    CompW (gName 0) tc te 1 ix σ (Itr lo n) p H1 QQ := by
  refine ⟨fun i m ys σ2 H2 => m = n - i ∧ i ≤ n ∧ (∃ o, σ2 = o :: caps ix σ) ∧ Pv i ys H2, ⟨n, by simp, Nat.zero_le _, ⟨none, rfl⟩, h0⟩, ?_⟩
  rintro i m ys σ2 H2 ⟨rfl, hi, ⟨o, rfl⟩, pv⟩
  obtain ⟨hp2, hl2⟩ := hp i ys H2 hi pv
  refine ⟨hp2, ?_⟩
  by_cases hlt : i < n
  · refine .inr ⟨hlt, by omega, fun x H3 y => ?_⟩
    obtain ⟨e, y⟩ := y
    subst e y
    exact ⟨fun ys' σ' H' => σ' = (some (.int (lo + i)) :: caps ix σ) ∧ Pv (i + 1) ys' H', fun ys' σ' H' ⟨e, q⟩ => ⟨n - (i + 1), by omega, rfl, hlt, ⟨_, e⟩, q⟩, hs i ys _ hlt pv⟩
  · have e : i = n := by omega
    subst e
    exact .inl ⟨Nat.le_refl _, hd ys H2 pv⟩
theorem comp_list {K : PySem.W.Frag} {a : Addr} {xs : List V} {tc : TT} {te : TE} {σ : St} {ix : List Nat} {QQ : Hp → Prop} {H1 : Hp} {p : Addr} (Pv : Nat → List V → Hp → Prop) (h0 : Pv 0 [] (upd H1 p (.lst [])))
    (hp : ∀ i ys H, i ≤ xs.length → Pv i ys H → H p = some (.lst ys) ∧ ys.length ≤ i ∧ SqL K H a xs) (hn : xs.length ≤ sizeLine)
    (hs : ∀ i x ys H, xs[i]? = some x → Pv i ys H → tc (some x :: caps ix σ) H fun b H5 => if b = true then te (some x :: caps ix σ) H5 fun y H6 => H6 p = some (.lst ys) ∧
      (some x :: caps ix σ) = (some x :: caps ix σ) ∧ Pv (i + 1) (ys ++ [y]) (upd H6 p (.lst (ys ++ [y]))) else (some x :: caps ix σ) = (some x :: caps ix σ) ∧ Pv (i + 1) ys H5)
    (hd : ∀ ys H, Pv xs.length ys H → QQ H) :
    CompW (gName 0) tc te 1 ix σ (Itl K a) p H1 QQ := by
  refine ⟨fun i m ys σ2 H2 => m = xs.length - i ∧ i ≤ xs.length ∧ (∃ o, σ2 = o :: caps ix σ) ∧ Pv i ys H2, ⟨xs.length, by simp, Nat.zero_le _, ⟨none, rfl⟩, h0⟩, ?_⟩
  rintro i m ys σ2 H2 ⟨rfl, hi, ⟨o, rfl⟩, pv⟩
  obtain ⟨hp2, hl2, hq2⟩ := hp i ys H2 hi pv
  refine ⟨hp2, ?_⟩
  by_cases hlt : i < xs.length
  · refine .inr ⟨⟨xs, xs[i], hq2, by simp [hlt]⟩, by omega, fun x H3 y => ?_⟩
    obtain ⟨e, y⟩ := y
    subst e
    exact ⟨fun ys' σ' H' => σ' = (some x :: caps ix σ) ∧ Pv (i + 1) ys' H', fun ys' σ' H' ⟨e, q⟩ => ⟨xs.length - (i + 1), by omega, rfl, hlt, ⟨_, e⟩, q⟩, hs i x ys _ (y xs hq2) pv⟩
  · have e : i = xs.length := by omega
    subst e
    exact .inl ⟨⟨xs, hq2, Nat.le_refl _⟩, hd ys H2 pv⟩
end L2

namespace L2
open PySem PySem.Spec PyProof.Rows

/-! ### a def of the text with its promise, in one -/
structure Cal (P : Program) (w : World) (K : PySem.W.Frag) (mg : Str → Option Value) (base : Heap) (k : Nat) (x : Str) (ps : List Str) (sp : Sp) : Prop where
  ex : ∃ f fd, FnOk P w K mg base CX0 k f fd ps sp ∧ Binds K fd ps [] ∧ PySem.W.keepIn K (.ref f) = true ∧ mg x = some (.ref f)
theorem pe_callC {X : Cx} {k : Nat} {x : Str} {ps : List Str} {sp : Sp} {e : Expr} {es : List Expr} {p pos : Pos} {t : TA} (C : Cal X.prog X.w X.K X.mg X.base k x ps sp) (hr : Room k X.A) (hg : Gl X x) (ha : PA X (e :: es) t)
    (hdb : (x == ("__debug__" : Str)) = false := by decide) (he : starEach (e :: es) X.env = (false, eval e X.env) :: starEach es X.env := by rfl) (hpl : (backTo pos (starEach es X.env)).any (·.1) = false := by rfl) :
    PE X (.Call (.Name x p) (e :: es) [] pos) (tCall sp [] E0 t) := by
  obtain ⟨f, fd, F, b, kp, hm⟩ := C.ex
  exact pe_call F hr hg hm kp b .nil pass0 ha hdb he hpl
/-- a def as it stands behind the top: how it binds, its name -/
structure Def (K : PySem.W.Frag) (mg : Str → Option Value) (x : Str) (st : Stmt) (ps : List Str) : Prop where
  ex : ∃ f fd, Fun K x x st f fd ∧ Binds K fd ps [] ∧ mg x = some (.ref f)
theorem Def.cal {P : Program} {w : World} {K : PySem.W.Frag} {mg : Str → Option Value} {base : Heap} {k : Nat} {x : Str} {st : Stmt} {ps : List Str} {sp : Sp} (D : Def K mg x st ps) (h : ∀ f fd, Fun K x x st f fd → FnOk P w K mg base CX0 k f fd ps sp) : Cal P w K mg base k x ps sp := by
  obtain ⟨f, fd, F, b, m⟩ := D.ex
  exact ⟨f, fd, h f fd F, b, F.kp, m⟩
/-- a module's constant -/
def GInt (mg : Str → Option Value) (x : Str) (i : Int) : Prop := ∃ t, mg x = some (.int i t)
def GStr (mg : Str → Option Value) (x : Str) (z : Str) : Prop := ∃ t, mg x = some (.str z t)
theorem pe_gint {X : Cx} {x : Str} {i : Int} {pos : Pos} (h : GInt X.mg x i) (hg : Gl X x) (hd : (x == ("__debug__" : Str)) = false := by decide) : PE X (.Name x pos) (tC (.int i)) := by
  obtain ⟨t, e⟩ := h
  exact pe_glob hg e ⟨t, rfl⟩ hd
theorem pe_gstr {X : Cx} {x : Str} {i : Str} {pos : Pos} (h : GStr X.mg x i) (hg : Gl X x) (hd : (x == ("__debug__" : Str)) = false := by decide) : PE X (.Name x pos) (tC (.str i)) := by
  obtain ⟨t, e⟩ := h
  exact pe_glob hg e ⟨t, rfl⟩ hd
/-- a built-in type's name -/
theorem pe_ty {X : Cx} {x : Str} {pos : Pos} (T : String) (hg : Gl X x) (hm : X.mg x = none) (hv : bootBuiltins x = some (.type T)) (hn : x ≠ "__name__" := by decide) (hd : (x == ("__debug__" : Str)) = false := by decide) : PE X (.Name x pos) (tC (.ty T)) :=
  pe_bltn (v := .ty T) hg hm hv rfl hn hd
/-- the rules that name the fragment, with it told (a block's reading may not name the block's context) -/
theorem ix_listK {X : Cx} {K : PySem.W.Frag} (h : X.K = K) : IxR X (rIxL K) := h ▸ ix_list
theorem mt_countK {X : Cx} {K : PySem.W.Frag} (h : X.K = K) : MtM X "list.count" (rCount K) := h ▸ mt_count
theorem same_new {H : Hp} {p : Addr} (h : H p = none) (o : HO) : Same H (upd H p o) := fun b u q => by rw [upd_ne (ne_of_none q h)]; exact q
theorem le_line {n : Nat} (h : n ≤ 1000) : n ≤ sizeLine := Nat.le_of_lt (small1000 h)
/-- an item of a list of ints -/
theorem at_int {ns : List Int} {i : Nat} {n : Int} (h : ns[i]? = some n) : atI (ns.map V.int) (i : Int) = some (.int n) := atI_nat (by rw [List.getElem?_map, h]; rfl)
theorem at_intI {ns : List Int} {i : Int} (h0 : 0 ≤ i) (h : i < ns.length) : atI (ns.map V.int) i = some (.int (ns.getD i.toNat 0)) := by
  have e : ((i.toNat : Nat) : Int) = i := by omega
  have q := at_int (ns := ns) (i := i.toNat) (n := ns.getD i.toNat 0) (by rw [List.getElem?_eq_getElem (by omega), List.getD_eq_getElem?_getD, List.getElem?_eq_getElem (by omega)]; rfl)
  rw [e] at q
  exact q
theorem item_int {ns : List Int} {i : Nat} {y : V} (h : (ns.map V.int)[i]? = some y) : ∃ n, ns[i]? = some n ∧ y = .int n := by
  rw [List.getElem?_map] at h
  cases e : ns[i]? with
  | none => rw [e] at h; cases h
  | some n => rw [e] at h; exact ⟨n, rfl, (Option.some.inj h).symm⟩
theorem flat_ints (ns : List Int) : (ns.map V.int).all flatV = true := by
  rw [List.all_eq_true]
  intro x hx
  obtain ⟨n, _, rfl⟩ := List.mem_map.mp hx
  rfl
theorem ix_of {n : Nat} {k : Int} (h0 : 0 ≤ k) (h : k < n) : ixN n k = some k.toNat := by
  unfold ixN
  first
    | (rw [if_pos h0, if_pos h]; done)
    | (simp [h0, h]; done)
    | (simp [h0, h]; omega)
theorem room_u {k : Nat} {A : Around} (hr : Room k A) : A.units < cLine := hr.units0
example : bootBuiltins "int" = some (.type "int") := by rfl
end L2

namespace L2
open PySem PySem.Spec PyProof.Rows

/-! ### enumerate(xs), its pairs unpacked by the target -/
def Ite (K : PySem.W.Frag) (a : Addr) : It :=
  ⟨fun i H => ∃ xs x, SqL K H a xs ∧ xs[i]? = some x,
   fun i H x H' => ∃ t y, x = .ref t ∧ H t = none ∧ (∀ xs, SqL K H a xs → xs[i]? = some y) ∧ H' = upd H t (.tup [.int i, y]),
   fun i H => ∃ xs, SqL K H a xs ∧ xs.length ≤ i⟩
theorem turn_enum {P : Program} {w : World} {K : PySem.W.Frag} {elts : List Expr} {k : Nat} {tp : Pos} (a e it : Addr) (hei : e ≠ it) :
    Turn P w K (.Tuple elts k tp) (Ite K a) [e, it] e (fun i h => (∃ old, IsEnum h e it i old) ∧ h.IsListIter it a i) where
  mem := by simp
  obj := fun i h st b hb => by
    obtain ⟨⟨old, he⟩, o, ho, c, d⟩ := st
    rcases List.mem_cons.mp hb with rfl | hb
    · exact ⟨_, he, fun v z => by
        have z' : Data.fields _ = Data.cell v := z
        cases z'⟩
    · have eb : b = it := by simpa using hb
      subst eb
      exact ⟨o, ho, fun v z => by rw [d] at z; cases z⟩
  keep := fun i h h' st kk => by
    obtain ⟨⟨old, he⟩, hit⟩ := st
    exact ⟨⟨old, kk e (by simp) _ he⟩, hit.at fun o x => kk it (by simp) o x⟩
  item := by
    intro X hP hw hK hc i pins s σ H E I hf st hg
    subst hP hw hK
    obtain ⟨⟨old, he⟩, hit⟩ := st
    obtain ⟨xs, x, hq, hx⟩ := hg
    obtain ⟨its, rv, p, hz⟩ := I.list hq
    obtain ⟨u, hu, ru⟩ := rv.get hx
    obtain ⟨e0, e1, e2, e3, e4, e5⟩ := hf e (by simp)
    obtain ⟨i0, i1, i2, i3, i4, i5⟩ := hf it (by simp)
    refine wpAny_pyNext_enum_item he hit p.isList (x := u) (by simpa using hu) hei fun h1 ho hit1 hT hsz hk => ⟨_, rfl, ?_⟩
    refine wpAny_letOwnedTupleGo_enum ho fun h2 he2 hs2 => ?_
    have hs2' : Heap.SameBut e h1 h2 := hs2
    have helt : e < s.heap.objs.size := Heap.lt_size he
    have hnT : H s.heap.objs.size = none := I.hok.fresh (Nat.le_refl _)
    have up : ∀ b o, b ≠ e → b ≠ it → s.heap.get? b = some o → h2.get? b = some o := fun b o h3 h4 q => (hs2'.2 b h3).trans (hk b o h3 h4 q)
    have nch : ∀ b, b ∉ [e, it] → b ≠ e ∧ b ≠ it := fun b hb => ⟨fun z => hb (by simp [z]), fun z => hb (by simp [z])⟩
    have ntr : ∀ b o, H b = some o → b ≠ e ∧ b ≠ it := fun b o q => ⟨fun z => by (rw [z, e0] at q; cases q), fun z => by (rw [z, i0] at q; cases q)⟩
    have htup : h2.get? s.heap.objs.size = some { cls := .type "tuple", data := .seq #[.int i s.toks, u] } := (hs2'.2 _ (Nat.ne_of_gt helt)).trans hT
    have I1 : Inv X pins σ (upd H s.heap.objs.size (.tup [.int i, x])) { s with heap := h2, gens := s.gens, drawn := s.drawn, toks := s.toks + 1 } := by
      refine I.step (ch := [e, it]) (fun b hb => ?_) (fun b o _ _ hb q _ => up b o (nch b hb).1 (nch b hb).2 q) (fun b o _ _ hb q _ => ⟨o.slots, up b o (nch b hb).1 (nch b hb).2 q⟩) (fun b o _ q n => by rw [upd_ne (Nat.ne_of_lt (Heap.lt_size q))]; exact n)
        (fun b o hb q => ⟨o, up b o (nch b hb).1 (nch b hb).2 q⟩) (fun b xs q => by rw [upd_ne (ne_of_none q hnT)]; exact q) (fun b o u q => by rw [upd_ne (ne_of_none q hnT)]; exact q) (fun b ps q => ⟨#[], by rw [upd_ne (ne_of_none q hnT), q]; simp⟩)
        (fun m hm => ?_) (fun b o q => ?_) I.bare
      · rcases List.mem_cons.mp hb with rfl | hb
        · exact ⟨e3, e1, e4, e5⟩
        · have eb : b = it := by simpa using hb
          subst eb
          exact ⟨i3, i1, i4, i5⟩
      · obtain ⟨o, es, ep, hoL, r⟩ := hm
        exact ⟨o, es, ep, up _ o (Ne.symm e1) (Ne.symm i1) hoL, r⟩
      · by_cases hb : b = s.heap.objs.size
        · subst hb
          rw [upd_same] at q
          cases q
          exact ⟨le_line (by show 2 ≤ 1000; decide), [.int i s.toks, u], .cons ⟨_, rfl⟩ (.cons ru .nil), _, htup, rfl, _, rfl⟩
        · rw [upd_ne hb] at q
          refine (I.hok b o q).stay (fun c v hc2 q2 => ?_) (fun c q2 => by rw [upd_ne (ne_of_none q2 hnT)]; exact q2) (fun c xs q2 => by rw [upd_ne (ne_of_none q2 hnT)]; exact q2)
          rcases hc2 with rfl | hc2
          · exact up _ v (ntr _ _ q).1 (ntr _ _ q).2 q2
          · exact up _ v (ntr _ _ hc2).1 (ntr _ _ hc2).2 q2
    refine ⟨.ref s.heap.objs.size, _, I1, rfl, ⟨_, x, rfl, hnT, fun ys hy => by rw [I.list_inj hy hq]; exact hx, rfl⟩, ⟨⟨u, ?_⟩, ?_⟩, fun b hb => ?_⟩
    · have ei : ((i + 1 : Nat) : Int) = (i : Int) + 1 := by omega
      rw [ei]
      exact he2
    · exact hit1.at fun o q => (hs2'.2 it hei.symm).trans q
    · have hbl : b < s.heap.objs.size := by
        rcases List.mem_cons.mp hb with rfl | hb
        · exact helt
        · have eb : b = it := by simpa using hb
          subst eb
          obtain ⟨o, q, _⟩ := hit
          exact Heap.lt_size q
      rw [upd_ne (Nat.ne_of_lt hbl)]
      exact (hf b hb).1
  done := by
    intro X hP hw hK hc i pins s σ H E I hf st hg
    subst hP hw hK
    obtain ⟨⟨old, he⟩, hit⟩ := st
    obtain ⟨xs, hq, hx⟩ := hg
    obtain ⟨its, rv, p, hz⟩ := I.list hq
    obtain ⟨i0, i1, i2, i3, i4, i5⟩ := hf it (by simp)
    have hl := rv.length
    exact wpAny_pyNext_enum_end (I.ok.hd hc) he hit p.isList (by simp; omega) fun h' eb => ⟨rfl, I.turned (t' := s.toks) (fun b o hb q => eb b o hb q) i0 i1 i3 i4 i5⟩
  self := fun _ _ _ _ _ st h => by
    obtain ⟨⟨old, he⟩, _⟩ := st
    exact wpAny_pyIter_enum he h
def iEnum (K : PySem.W.Frag) (ta : TA) : TI := fun σ H R => ta σ H fun vs H1 => ∃ a, vs = [.ref a] ∧ (∃ xs, SqL K H1 a xs) ∧ R (Ite K a) H1
theorem pi_enum {X : Cx} {a : Expr} {ta : TA} {p pos tp : Pos} {elts : List Expr} {k : Nat} (hg : Gl X "enumerate") (hm : X.mg "enumerate" = none) (ha : PA X [a] ta) (hs : starEach [a] X.env = [(false, eval a X.env)] := by rfl) :
    PI X (.Tuple elts k tp) (.Call (.Name "enumerate" p) [a] [] pos) (iEnum X.K ta) := by
  intro pins s σ H R I h
  refine Call_ (ld_blt I hg hm (show bootBuiltins "enumerate" = some (.type "enumerate") from rfl) (PyProof.Rows.callWith_type1 (thn (ha pos pins s σ H _ I h) fun us s1 ⟨vs, H1, I1, r1, q1⟩ => ?_) hs rfl))
  obtain ⟨a, ev, ⟨xs, hq⟩, q⟩ := q1
  subst ev
  obtain ⟨u, rfl, rx⟩ := vals1 r1
  cases rx
  obtain ⟨its, rv, pl, hz⟩ := I1.list hq
  refine call_enumerate_list pl.isList fun h' he hit hsz hk => ?_
  refine wpAny_pyIter_enum he ?_
  have I2 : Inv X pins σ H1 { s1 with heap := h' } := I1.kept (t' := s1.toks) hk
  refine ⟨_, [s1.heap.objs.size + 1, s1.heap.objs.size], _, _, H1, rfl, I2, turn_enum a _ _ (Nat.succ_ne_self _), ⟨⟨_, he⟩, hit⟩, fun b hb => ?_, q⟩
  rcases List.mem_cons.mp hb with rfl | hb
  · exact I1.fpOk (Nat.le_succ _) (I1.hok.fresh (Nat.le_succ _))
  · have eb : b = s1.heap.objs.size := by simpa using hb
    subst eb
    exact I1.fpOk (Nat.le_refl _) (I1.hok.fresh (Nat.le_refl _))
theorem pg_tupK {X : Cx} {K : PySem.W.Frag} {es : List Expr} {k : Nat} {t : TGs} {n : Nat} {pos : Pos} (hK : X.K = K) (hc : X.calm = true) (h : PGs X es t)
    (hn : (assignEach es X.env).length = n := by rfl) (hst : (assignEach es X.env).findIdx? (·.1) = none := by rfl) : PG X (.Tuple es k pos) (gTup K n t) := hK ▸ pg_tup hc h hn hst
theorem comp_enum {K K' : PySem.W.Frag} {a : Addr} {xs : List V} {tc : TT} {te : TE} {σ : St} {ix : List Nat} {QQ : Hp → Prop} {H1 : Hp} {p : Addr} (Pv : Nat → List V → Hp → Prop) (h0 : Pv 0 [] (upd H1 p (.lst [])))
    (hp : ∀ i ys H, i ≤ xs.length → Pv i ys H → H p = some (.lst ys) ∧ ys.length ≤ i ∧ SqL K H a xs) (hn : xs.length ≤ sizeLine)
    (hs : ∀ i x ys H t, xs[i]? = some x → Pv i ys H → H t = none → tc (some (.int i) :: some x :: caps ix σ) (upd H t (.tup [.int i, x])) fun b H5 => if b = true then te (some (.int i) :: some x :: caps ix σ) H5 fun y H6 => H6 p = some (.lst ys) ∧
      (some (.int i) :: some x :: caps ix σ) = (some (.int i) :: some x :: caps ix σ) ∧ Pv (i + 1) (ys ++ [y]) (upd H6 p (.lst (ys ++ [y]))) else (some (.int i) :: some x :: caps ix σ) = (some (.int i) :: some x :: caps ix σ) ∧ Pv (i + 1) ys H5)
    (hd : ∀ ys H, Pv xs.length ys H → QQ H) :
    CompW (gTup K' 2 (gCons (gName 0) (gCons (gName 1) gNil))) tc te 2 ix σ (Ite K a) p H1 QQ := by
  refine ⟨fun i m ys σ2 H2 => m = xs.length - i ∧ i ≤ xs.length ∧ (∃ o o', σ2 = o :: o' :: caps ix σ) ∧ Pv i ys H2, ⟨xs.length, by simp, Nat.zero_le _, ⟨none, none, rfl⟩, h0⟩, ?_⟩
  rintro i m ys σ2 H2 ⟨rfl, hi, ⟨o, o', rfl⟩, pv⟩
  obtain ⟨hp2, hl2, hq2⟩ := hp i ys H2 hi pv
  refine ⟨hp2, ?_⟩
  by_cases hlt : i < xs.length
  · refine .inr ⟨⟨xs, xs[i], hq2, by simp [hlt]⟩, by omega, fun x H3 y => ?_⟩
    obtain ⟨t, z, ex, ht, hz, e3⟩ := y
    subst ex e3
    refine ⟨fun ys' σ' H' => σ' = (some (.int i) :: some z :: caps ix σ) ∧ Pv (i + 1) ys' H', fun ys' σ' H' ⟨e, q⟩ => ⟨xs.length - (i + 1), by omega, rfl, hlt, ⟨_, _, e⟩, q⟩, ?_⟩
    exact ⟨t, _, rfl, SqT.of upd_same, rfl, _, _, rfl, _, _, rfl, rfl, hs i z ys H2 t (hz xs hq2) pv ht⟩
  · have e : i = xs.length := by omega
    subst e
    exact .inl ⟨⟨xs, hq2, Nat.le_refl _⟩, hd ys H2 pv⟩
end L2

namespace L2
open PySem PySem.Spec PyProof.Rows
/-! ### a method, a class of the text with their promises, in one -/
structure MCal (P : Program) (w : World) (K : PySem.W.Frag) (mg : Str → Option Value) (base : Heap) (k : Nat) (C : Addr) (m : Str) (ps : List Str) (sp : Sp) : Prop where
  ex : ∃ f fd, FnOk P w K mg base CX0 k f fd ps sp ∧ Binds K fd ps [] ∧ Meth K C m f
  cl : Cls K C
theorem pe_methC {X : Cx} {k : Nat} {C : Addr} {m : Str} {ps : List Str} {sp : Sp} {e o : Expr} {es : List Expr} {apos pos : Pos} {ta : TE} {t : TA} {pl : Sem Bool} (M : MCal X.prog X.w X.K X.mg X.base k C m ps sp) (hr : Room k X.A) (he : PE X o ta) (ha : PA X (e :: es) t)
    (hst : starEach (e :: es) X.env = (false, eval e X.env) :: starEach es X.env := by rfl) (hpl : (backTo pos (starEach es X.env)).any (·.1) = false := by rfl)
    (ht : eval (.Call (.Attribute o m apos) (e :: es) [] pos) X.env = (do
      let ov ← eval o X.env
      standAt apos.atName
      let (f, first) ← holding [ov] (getMethod ov m pl)
      callWith pos f first (backTo pos (starEach (e :: es) X.env)) (backToKw pos (keywordEach [] X.env))) := by rfl) :
    PE X (.Call (.Attribute o m apos) (e :: es) [] pos) (tMeth C m sp [] E0 ta t) := by
  obtain ⟨f, fd, F, b, hm⟩ := M.ex
  exact pe_meth he M.cl hm F hr b .nil pass0 ha hst hpl ht
structure KCal (P : Program) (w : World) (K : PySem.W.Frag) (mg : Str → Option Value) (base : Heap) (k : Nat) (x : Str) (C : Addr) (ps : List Str) (sp : Sp) : Prop where
  ex : ∃ f fd, Mk K C f ∧ FnOk P w K mg base CX0 k f fd ps sp ∧ Binds K fd ps [] ∧ mg x = some (.ref C)
theorem pe_makeC {X : Cx} {k : Nat} {x : Str} {C : Addr} {ps : List Str} {sp : Sp} {e : Expr} {es : List Expr} {p pos : Pos} {t : TA} (M : KCal X.prog X.w X.K X.mg X.base k x C ps sp) (hr : Room (k + 1) X.A) (hg : Gl X x) (ha : PA X (e :: es) t)
    (hdb : (x == ("__debug__" : Str)) = false := by decide) (he : starEach (e :: es) X.env = (false, eval e X.env) :: starEach es X.env := by rfl) (hpl : (backTo pos (starEach es X.env)).any (·.1) = false := by rfl) :
    PE X (.Call (.Name x p) (e :: es) [] pos) (tMake C sp [] E0 t) := by
  obtain ⟨f, fd, mk, F, b, hm⟩ := M.ex
  exact pe_make mk F hr hg hm b .nil pass0 ha hdb he hpl
theorem pe_bmK {X : Cx} {K : PySem.W.Frag} {o e : Expr} {es : List Expr} {to : TE} {t : TA} {name : Str} {apos cpos : Pos} {T id : String} {r : V → List V → Hp → VK → Prop} (hK : X.K = K) (pa : PlainAttrs T) (slot : Slot T name id) (hty : typeOf (.builtin id) = pure (.type "method_descriptor")) (hm : MtR X id r) (ho : PE X o to) (ha : PA X (e :: es) t)
    (hbase : attributeBase o name X.env (eval o X.env) = eval o X.env := by rfl)
    (hfew : ((backTo cpos (starEach (e :: es) X.env)).all (fun x => !x.1) && (backToKw cpos (keywordEach [] X.env)).all (fun x => x.1.isSome)
      && decide ((e :: es).length + ([] : List Keyword).length + (if ([] : List Keyword).isEmpty then 0 else 1) < 30)) = true := by rfl)
    (hline : (apos.endLine == cpos.line) = true := by rfl) (hs : starEach (e :: es) X.env = (false, eval e X.env) :: starEach es X.env := by rfl) (hplain : (backTo cpos (starEach es X.env)).any (·.1) = false := by rfl) :
    PE X (.Call (.Attribute o name apos) (e :: es) [] cpos) (tBM K T r to t) := hK ▸ pe_bm pa slot hty hm ho ha hbase hfew hline hs hplain
end L2

namespace L2
open PySem PySem.Spec PyProof.Rows
/-! ### range(lo, hi) of any ints -/
/-! ### min(xs) of ints: one of them -/
end L2

namespace L2
open PySem PySem.Spec PyProof.Rows

/-! ### exceptions of own classes: how one lies, flies, is caught -/
theorem ObjOk.is {P : Program} {w : World} {H : Hp} {h : Heap} {a : Addr} {o : HO} (x : ObjOk P w H h a o) : ∃ ob, h.get? a = some ob := by
  cases o with
  | lst xs => obtain ⟨_, _, _, _, e⟩ := x; exact ⟨_, e⟩
  | tup xs => obtain ⟨_, _, _, _, e, _⟩ := x; exact ⟨_, e⟩
  | dK kvs => obtain ⟨_, _, _, _, _, _, _, e, _⟩ := x; exact ⟨_, e⟩
  | dT kvs => obtain ⟨_, _, _, _, _, _, _, e, _⟩ := x; exact ⟨_, e⟩
  | set S n => obtain ⟨_, _, _, _, e, _⟩ := x; exact ⟨_, e⟩
  | ins C dx fs => obtain ⟨_, _, _, e, _⟩ := x; exact ⟨_, e⟩
  | own y => exact x
  | xd fs => obtain ⟨_, ⟨_, _, _, e, _⟩, _⟩ := x; exact ⟨_, e⟩
  | rng lo hi => obtain ⟨_, _, _, e⟩ := x; exact ⟨_, e⟩
  | frz ob u => exact ⟨_, x.1⟩
  | tbl ps => exact ⟨_, x⟩
  | met f y => exact ⟨_, x⟩
  | ext φ => exact x.2.1
/-- the object of an exception: class, own dict, context; no traceback yet, or one whose last entry isn't in flight; fx: what is true of the records that turn -/
def XOb (h : Heap) (e : Addr) (c : Value) (d : Option Addr) (ctx : Value) (fx : Addr → Prop) : Prop :=
  ∃ oe vs, h.get? e = some oe ∧ oe.cls = c ∧ oe.dict = d ∧ oe.data = .fields vs ∧ 1 < vs.size ∧ vs[2]? = some ctx ∧ fx e ∧
    (vs[1]? = some .none ∨ ∃ T oT ts, vs[1]? = some (.ref T) ∧ T ≠ e ∧ h.get? T = some oT ∧ oT.data = .fields ts ∧ ts[3]? = some .none ∧ fx T)
theorem XOb.imp {h : Heap} {e : Addr} {c : Value} {d : Option Addr} {ctx : Value} {fx fy : Addr → Prop} (x : XOb h e c d ctx fx) (f : ∀ b, fx b → fy b) : XOb h e c d ctx fy := by
  obtain ⟨oe, vs, he, hc, hdd, hd, hz, h2, fe, ht⟩ := x
  refine ⟨oe, vs, he, hc, hdd, hd, hz, h2, f _ fe, ?_⟩
  rcases ht with h1 | ⟨T, oT, ts, h1, hTe, hT, hdT, h3, fT⟩
  · exact .inl h1
  · exact .inr ⟨T, oT, ts, h1, hTe, hT, hdT, h3, f _ fT⟩
/-- a record of our own that may turn: FpOk, but «not there at the entry» in the place of «younger than the entry» -/
def FxOk (X : Cx) (pins : List (Addr × Obj)) (H : Hp) (b : Addr) : Prop :=
  H b = none ∧ b ≠ X.env.locals ∧ b ∉ X.fs ∧ (b ∈ X.ex ∨ X.s₀.heap.get? b = none) ∧ (∀ x c, X.env.cells.lookup x = some c → c ≠ b) ∧ ∀ p ∈ X.pn ++ pins, p.1 ≠ b
section
variable {X : Cx} {pins : List (Addr × Obj)} {σ : St} {H H' : Hp} {s : Shared} {h' : Heap}
theorem Inv.fxOk {b : Addr} (I : Inv X pins σ H s) (hb : s.heap.get? b = none) (hn : H' b = none) : FxOk X pins H' b := by
  have no : ∀ {a : Addr} {o : Obj}, s.heap.get? a = some o → a ≠ b := fun {a o} q z => by rw [z, hb] at q; cases q
  refine ⟨hn, fun z => ?_, fun z => ?_, ?_, fun x c e => ?_, fun p hp => no (I.pin p hp).1⟩
  · obtain ⟨m, ⟨o, es, ep, ho, _⟩, _⟩ := I.loc
    exact no ho z.symm
  · obtain ⟨_, o, ho, _⟩ := I.ok.funs.mem z
    have n1 : b ∉ X.ex := fun y => I.ok.exfs b y z
    obtain ⟨o', e'⟩ := I.base.there b o ho n1
    exact no e' rfl
  · by_cases hx : b ∈ X.ex
    · exact .inl hx
    · refine .inr ?_
      cases q : X.s₀.heap.get? b with
      | none => rfl
      | some o =>
        obtain ⟨o', e'⟩ := I.base.there b o q hx
        exact absurd rfl (no e')
  · obtain ⟨v, o, ho, _⟩ := I.cell x c e
    exact no ho
/-- the step, with records that were not there at the entry -/
theorem Inv.stepN {g' : Array GenState} {t' : Nat} {d' : Drawn} {ch : List Addr} (I : Inv X pins σ H s)
    (hch : ∀ b ∈ ch, (b ∈ X.ex ∨ X.s₀.heap.get? b = none) ∧ b ≠ X.env.locals ∧ (∀ x c, X.env.cells.lookup x = some c → c ≠ b) ∧ ∀ p ∈ X.pn ++ pins, p.1 ≠ b)
    (keep : ∀ b o, b ≠ X.env.locals → b ∉ X.fs → b ∉ ch → s.heap.get? b = some o → H b = none → h'.get? b = some o)
    (slot : ∀ b o, b ≠ X.env.locals → b ∈ X.fs → b ∉ ch → s.heap.get? b = some o → H b = none → ∃ sl, h'.get? b = some { o with slots := sl }) (free : ∀ b o, b ∉ ch → s.heap.get? b = some o → H b = none → H' b = none)
    (there : ∀ b o, b ∉ ch → s.heap.get? b = some o → ∃ o', h'.get? b = some o')
    (tups : ∀ b xs, H b = some (.tup xs) → H' b = some (.tup xs)) (frzs : ∀ b o u, H b = some (.frz o u) → H' b = some (.frz o u)) (tbls : ∀ b ps, H b = some (.tbl ps) → ∃ more, H' b = some (.tbl (ps ++ more)))
    (ns : ∀ m, s.heap.Ns X.env.locals m → h'.Ns X.env.locals m) (hok : HOk X.prog X.w H' h') (hg : AllBare g') :
    Inv X pins σ H' { s with heap := h', gens := g', drawn := d', toks := t' } := by
  have neL : ∀ b o, X.s₀.heap.get? b = some o → b ≠ X.env.locals := fun b o e => Nat.ne_of_lt (Nat.lt_of_lt_of_le (Heap.lt_size e) I.ok.above)
  have neC : ∀ b o, X.s₀.heap.get? b = some o → b ∉ X.ex → b ∉ ch := fun b o e hx hb => by
    rcases (hch b hb).1 with z | z
    · exact hx z
    · rw [e] at z; cases z
  have cellK : ∀ x c, X.env.cells.lookup x = some c → ∀ v, s.heap.IsCell c v → h'.IsCell c v := fun x c e v ⟨o, ho, hd⟩ => by
    have nch : c ∉ ch := fun z => (hch c z).2.2.1 x c e rfl
    by_cases hc : c ∈ X.fs
    · obtain ⟨sl, q⟩ := slot c o (I.cne x c e) hc nch ho (I.freeC x c e)
      exact ⟨_, q, hd⟩
    · exact ⟨o, keep c o (I.cne x c e) hc nch ho (I.freeC x c e), hd⟩
  refine ⟨I.ok, I.os, hg, ⟨fun b o e n hb hx => ?_, fun b o e n hb hx => ?_, fun b o e n hx => ?_, fun b o e hx => ?_, fun b xs e => tups b xs (I.base.tups b xs e), fun b o xs e => frzs b o xs (I.base.frzs b o xs e), fun b ps e => ?_⟩, ?_, fun x c e => ?_, ?_, fun x c e => ?_, fun p hp => ?_, hok, I.len⟩
  · exact keep b o (neL b o e) hb (neC b o e hx) (I.base.keep b o e n hb hx) (I.base.free b o e n hx)
  · obtain ⟨sl, e1⟩ := I.base.slot b o e n hb hx
    obtain ⟨sl', e2⟩ := slot b _ (neL b o e) hb (neC b o e hx) e1 (I.base.free b o e n hx)
    exact ⟨sl', e2⟩
  · obtain ⟨o', e1⟩ := I.base.there b o e hx
    exact free b o' (neC b o e hx) e1 (I.base.free b o e n hx)
  · obtain ⟨o', e1⟩ := I.base.there b o e hx
    exact there b o' (neC b o e hx) e1
  · obtain ⟨m1, e1⟩ := I.base.tbls b ps e
    obtain ⟨m2, e2⟩ := tbls b _ e1
    exact ⟨m1 ++ m2, by rw [e2, Array.append_assoc]⟩
  · obtain ⟨m, hn, hl⟩ := I.loc
    refine ⟨m, ns m hn, fun i x v e1 e2 e3 => ?_⟩
    obtain ⟨u, r, l⟩ := hl i x v e1 e2 e3
    refine ⟨u, r, ?_⟩
    rcases l with l | ⟨k, c, e, z⟩
    · exact .inl l
    · exact .inr ⟨k, c, e, cellK x c e _ z⟩
  · obtain ⟨v, z⟩ := I.cell x c e
    exact ⟨v, cellK x c e v z⟩
  · obtain ⟨m, ⟨o, _, _, ho, _⟩, _⟩ := I.loc
    exact free _ o (fun z => (hch _ z).2.1 rfl) ho I.free
  · obtain ⟨v, o, ho, hd⟩ := I.cell x c e
    exact free c o (fun z => (hch c z).2.2.1 x c e rfl) ho (I.freeC x c e)
  · obtain ⟨e, n, ne, nf, d⟩ := I.pin p hp
    have nch : p.1 ∉ ch := fun z => (hch p.1 z).2.2.2 p hp rfl
    exact ⟨keep p.1 p.2 ne nf nch e n, free p.1 p.2 nch e n, ne, nf, d⟩
theorem Inv.callN {g' : Array GenState} {t' : Nat} {d' : Drawn} {ch : List Addr} (I : Inv X pins σ H s) (u : Un (frs X.stack) ch H H' s.heap h') (hok : HOk X.prog X.w H' h') (hg : AllBare g')
    (hch : ∀ b ∈ ch, (b ∈ X.ex ∨ X.s₀.heap.get? b = none) ∧ b ≠ X.env.locals ∧ (∀ x c, X.env.cells.lookup x = some c → c ≠ b) ∧ ∀ p ∈ X.pn ++ pins, p.1 ≠ b) :
    Inv X pins σ H' { s with heap := h', gens := g', drawn := d', toks := t' } := by
  obtain ⟨m, ⟨o, es, ep, ho, r⟩, _⟩ := id I.loc
  obtain ⟨sl, hL⟩ := u.any ho I.free fun z => (hch _ z).2.1 rfl
  exact I.stepN (ch := ch) hch (fun b o hL hb hc e n => u.keep b o e n (fun z => (List.mem_cons.mp (I.stkSub b z)).elim hL hb) hc) (fun b o _ _ hc e n => u.any e n hc) (fun b o hc e n => u.free b o e n hc) (fun b o hc e => u.there b o e hc) u.tups u.frzs u.tbls (fun m' hm => by
    obtain ⟨o', es', ep', ho', r'⟩ := hm
    rw [ho] at ho'; cases ho'
    exact ⟨_, es', ep', hL, r'⟩) hok hg

/-- the entry of this frame, laid and let go -/
theorem note_tail {M : Model} {A' : Around} {e : Addr} {oe : Obj} {vs : Array Value} {head ctx : Value} {hadNext : Bool} {E E' : Value → Shared → Prop} {K : Unit → Shared → Prop} (I : Inv X pins σ H s) (hst : X.stack = X.env :: X.outer) (hfr : X.env.frame = some X.env.locals)
    (he : s.heap.get? e = some oe) (hd : oe.data = .fields vs) (hz : 1 < vs.size) (h2 : vs[2]? = some ctx) (fe : FxOk X pins H e)
    (h : ∀ h', Inv X pins σ H { s with heap := h' } → XOb h' e oe.cls oe.dict ctx (FxOk X pins H) → K () { s with heap := h' }) :
    wpAny M X.A (do let a ← frameOf X.env; let pl ← entryPlaceOf X.env.locals hadNext; let b ← EntryCells.newEntry head a .none (rawInt X.env.locals) .none pl; setField (.ref e) 1 b)
      (fun _ s2 => wpAny M A' (setFlight (.ref e) none) K E' s2) E s := by
  have hl : s.heap.FunFrames X.base (X.env :: X.outer) := by rw [← hst]; exact I.stack
  have hfs : X.A.frames = some (X.env :: X.outer) := by rw [← hst]; exact I.ok.frames
  have een : e ∉ (X.env :: X.outer).filterMap (·.frame) := fun hb => by
    have hb' : e ∈ frs X.stack := by rw [hst]; exact hb
    rcases List.mem_cons.mp (I.stkSub e hb') with z | z
    · exact fe.2.1 z
    · exact fe.2.2.1 z
  refine wpAny_bind (wpAny_frameOf_fun hfs hl hfr fun h1 s1 => ?_)
  refine wpAny_bind (wpAny_entryPlaceOf fun pl place => ?_)
  unfold EntryCells.newEntry
  unfold newFields
  refine wpAny_bind (wpAny_newObj_type ?_ (place.sizeOk5 _ _ _ _ _))
  have he1 : h1.get? e = some oe := (s1.2.1 e een).trans he
  generalize hO : ({ cls := .type "traceback", dict := none, data := .fields ([head, .ref X.env.locals, .none, rawInt X.env.locals, .none] ++ (if pl.isEmpty then List.replicate 6 Value.none else pl)).toArray } : Obj) = O
  have dO : ∃ ts, O.data = .fields ts ∧ 3 < ts.size := by
    refine ⟨_, by rw [← hO], ?_⟩
    rw [List.size_toArray, List.length_append, List.length_cons, List.length_cons, List.length_cons, List.length_cons, List.length_cons]
    omega
  obtain ⟨ts, hts, hts3⟩ := dO
  have he2 := Heap.get?_push_of_some (h := h1) O he1
  refine wpAny_setField he2 hd hz ?_
  have hTe : h1.objs.size ≠ e := Nat.ne_of_gt (Heap.lt_size he1)
  have hd3 := Obj.data_mapFields hd (fun z => z.setIfInBounds 1 (Value.ref h1.objs.size))
  have he3 := Heap.get?_update_self (Obj.mapFields fun z => z.setIfInBounds 1 (Value.ref h1.objs.size)) he2 (Obj.isFreed_of_fields hd3)
  have hT3 : ((h1.push O).update e (Obj.mapFields fun z => z.setIfInBounds 1 (Value.ref h1.objs.size))).get? h1.objs.size = some O :=
    (Heap.get?_update_other _ _ (Ne.symm hTe)).trans (Heap.get?_push_size h1 (by rw [← hO]; rfl))
  unfold setFlight
  refine wpAny_bind (wpAny_field he3 hd3 (x := .ref h1.objs.size) (by simp [hz]) ?_)
  rw [if_pos (show (Value.ref h1.objs.size != .none) = true by simp)]
  refine wpAny_setField hT3 hts hts3 ?_
  -- the heap behind it
  generalize hF : ((h1.push O).update e (Obj.mapFields fun z => z.setIfInBounds 1 (Value.ref h1.objs.size))).update h1.objs.size (Obj.mapFields fun z => z.setIfInBounds 3 ((none : Option Addr).elim Value.none fun f => rawInt f)) = h4
  have keep : ∀ b o, b ≠ e → h1.get? b = some o → h4.get? b = some o := fun b o hbe hb => by
    have hbT : h1.objs.size ≠ b := Nat.ne_of_gt (Heap.lt_size hb)
    rw [← hF, Heap.get?_update_other _ _ hbT, Heap.get?_update_other _ _ (Ne.symm hbe)]
    exact Heap.get?_push_of_some _ hb
  have he4 : h4.get? e = some (Obj.mapFields (fun z => z.setIfInBounds 1 (Value.ref h1.objs.size)) oe) := by
    rw [← hF, Heap.get?_update_other _ _ hTe]
    exact he3
  have hd5 := Obj.data_mapFields hts (fun z => z.setIfInBounds 3 ((none : Option Addr).elim Value.none fun f => rawInt f))
  have hT4 : h4.get? h1.objs.size = some (Obj.mapFields (fun z => z.setIfInBounds 3 ((none : Option Addr).elim Value.none fun f => rawInt f)) O) := by
    rw [← hF]
    exact Heap.get?_update_self _ hT3 (Obj.isFreed_of_fields hd5)
  have u : Un (frs X.stack) [e] H H s.heap h4 := by
    refine ⟨fun b o q _ hb hx => keep b o (by simpa using hx) ((s1.2.1 b ?_).trans q), fun b o q _ _ hx => ?_, fun _ _ _ n _ => n, fun b o q hx => ?_, fun _ _ q => q, fun _ _ _ q => q, fun b ps q => ⟨#[], by rw [q]; simp⟩⟩
    · rw [hst] at hb
      exact hb
    · obtain ⟨sl, z⟩ := s1.2.2 b o q
      exact ⟨sl, keep b _ (by simpa using hx) z⟩
    · obtain ⟨sl, z⟩ := s1.2.2 b o q
      exact ⟨_, keep b _ (by simpa using hx) z⟩
  have hok : HOk X.prog X.w H h4 := fun b o z => (I.hok b o z).stay (fun c v hc q => by
    have hs : ∃ w, H c = some w := by
      rcases hc with r | r
      · exact ⟨o, by rw [r]; exact z⟩
      · exact ⟨_, r⟩
    obtain ⟨w, hw⟩ := hs
    refine keep c v (fun y => ?_) ((s1.2.1 c fun y => ?_).trans q)
    · rw [y, fe.1] at hw; cases hw
    · have n := I.stkFree c (by rw [hst]; exact y)
      rw [hw] at n; cases n) (fun _ q => q) fun _ _ q => q
  have I4 : Inv X pins σ H { s with heap := h4 } := I.callN (g' := s.gens) (d' := s.drawn) (t' := s.toks) (ch := [e]) u hok I.bare fun b hb => by
    have z : b = e := by simpa using hb
    subst z
    exact ⟨fe.2.2.2.1, fe.2.1, fe.2.2.2.2.1, fe.2.2.2.2.2⟩
  have gT : s.heap.get? h1.objs.size = none := Heap.get?_none_of_le (by rw [s1.1]; exact Nat.le_refl _)
  have nT : H h1.objs.size = none := I.hok.fresh (by rw [s1.1]; exact Nat.le_refl _)
  refine h h4 I4 ⟨_, _, he4, Obj.cls_mapFields _ _, ?_, hd3, by simpa using hz, ?_, fe, .inr ⟨h1.objs.size, _, _, by simp [hz], hTe, hT4, hd5, ?_, I.fxOk gT nT⟩⟩
  · obtain ⟨c0, d0, dt, sl⟩ := oe
    cases dt <;> rfl
  · rw [Array.getElem?_setIfInBounds_ne (by decide)]
    exact h2
  · rw [Array.getElem?_setIfInBounds_self_of_lt hts3]
    rfl

/-- an exception is noted in this frame and let go: at a def's end, at an except clause -/
theorem note_land {M : Model} {A' : Around} {e : Addr} {c ctx : Value} {d : Option Addr} {E E' : Value → Shared → Prop} {K : Unit → Shared → Prop} (I : Inv X pins σ H s) (hst : X.stack = X.env :: X.outer) (hfr : X.env.frame = some X.env.locals)
    (x : XOb s.heap e c d ctx (FxOk X pins H)) (h : ∀ h', Inv X pins σ H { s with heap := h' } → XOb h' e c d ctx (FxOk X pins H) → K () { s with heap := h' }) :
    wpAny M X.A (noteFrame (.ref e) X.env) (fun _ s2 => wpAny M A' (setFlight (.ref e) none) K E' s2) E s := by
  obtain ⟨oe, vs, he, hc, hdd, hd, hz, h2, fe, ht⟩ := x
  subst hc hdd
  unfold noteFrame
  simp only [hfr]
  rcases ht with h1 | ⟨T, oT, ts, h1, hTe, hT, hdT, h3, fT⟩
  · refine wpAny_bind (wpAny_field he hd h1 ?_)
    rw [if_neg (show ¬ (Value.none != .none) = true by decide)]
    exact note_tail I hst hfr he hd hz h2 fe h
  · refine wpAny_bind (wpAny_field he hd h1 ?_)
    rw [if_pos (show (Value.ref T != .none) = true by simp)]
    refine wpAny_bind (wpAny_field hT hdT h3 ?_)
    rw [if_neg (show ¬ (Value.none == rawInt X.env.locals) = true by simp [rawInt])]
    refine wpAny_bind (wpAny_setField hT hdT (Array.getElem?_eq_some_iff.mp h3).1 ?_)
    rw [Heap.update_setField_same s.heap T oT ts 3 .none hT hdT h3]
    exact note_tail I hst hfr he hd hz h2 fe h
/-- let go once more: nothing changes -/
theorem land_again {M : Model} {A' : Around} {e : Addr} {c ctx : Value} {d : Option Addr} {E' : Value → Shared → Prop} {K : Unit → Shared → Prop} {fx : Addr → Prop} (x : XOb s.heap e c d ctx fx) (h : K () s) : wpAny M A' (setFlight (.ref e) none) K E' s := by
  obtain ⟨oe, vs, he, hc, hdd, hd, hz, h2, fe, ht⟩ := x
  unfold setFlight
  rcases ht with h1 | ⟨T, oT, ts, h1, hTe, hT, hdT, h3, fT⟩
  · refine wpAny_bind (wpAny_field he hd h1 ?_)
    rw [if_neg (show ¬ (Value.none != .none) = true by decide)]
    exact wpAny_pure h
  · refine wpAny_bind (wpAny_field he hd h1 ?_)
    rw [if_pos (show (Value.ref T != .none) = true by simp)]
    refine wpAny_setField hT hdT (Array.getElem?_eq_some_iff.mp h3).1 ?_
    show K () { s with heap := s.heap.update T (Obj.mapFields fun z => z.setIfInBounds 3 .none) }
    rw [Heap.update_setField_same s.heap T oT ts 3 .none hT hdT h3]
    exact h
end

/-! ### behind a call that raised -/
def CX1 (P : Program) (w : World) : CXT := fun outer H s E v s' => ∃ e c d ctx H', v = .ref e ∧ s'.os = s.os ∧ AllBare s'.gens ∧ Un (frs outer) [] H H' s.heap s'.heap ∧ HOk P w H' s'.heap ∧
  XOb s'.heap e c d ctx (fun b => s.heap.get? b = none ∧ H' b = none) ∧ E c d H'
/-- what a body wants of an exception that leaves it, by the names' values -/
def Wish (X : Cx) (W : St → XK) : Prop := ∀ (pins : List (Addr × Obj)) (σ : St) (H : Hp) (s : Shared) (e : Addr) (c : Value) (d : Option Addr) (ctx : Value), Inv X pins σ H s → XOb s.heap e c d ctx (FxOk X pins H) → W σ c d H → X.xe (.ref e) s
theorem Wish.pass {X : Cx} {W : St → XK} {pins : List (Addr × Obj)} {σ : St} {H : Hp} {s s' : Shared} {v : Value} (hW : Wish X W) (I : Inv X pins σ H s) (h : CX1 X.prog X.w X.stack H s (W σ) v s') : X.xe v s' := by
  obtain ⟨e, c, d, ctx, H', rfl, os, bare, un, hok, x, hw⟩ := h
  exact hW pins σ H' s' e c d ctx (I.call' os un hok bare fun b z => absurd z (by simp)) (x.imp fun b q => I.fxOk q.1 q.2) hw
theorem wish_fn {P : Program} {w : World} {K : PySem.W.Frag} {mg : Str → Option Value} {base : Heap} {N : List Str} {qual : Str} {scope : Scope} {f : Addr} {cd : Value} {A : Around} {outer : List Env} {s0 : Shared} {H0 : Hp} {E : XK} :
    Wish (cxOf (CX1 P w) P w K mg base N qual scope f cd A outer s0 H0 E) (fun _ => E) := by
  intro pins σ H s e c d ctx I x hw
  show wpAny _ _ (leaving _ (.ref e)) _ _ s
  unfold leaving
  refine wpAny_bind (note_land I rfl rfl x fun h' I' x' => ?_)
  refine ⟨e, c, d, ctx, H, rfl, I'.os, I'.bare, I'.base, I'.hok, x'.imp fun b fb => ⟨?_, fb.1⟩, hw⟩
  rcases fb.2.2.2.1 with z | z
  · exact nomatch (show b ∈ ([] : List Addr) from z)
  · exact z
/-- a def that may raise, called -/
def tCallX (sp : Sp) (W : St → XK) (t : TA) : TE := fun σ H Q => t σ H fun vs H1 => sp vs H1 Q (W σ)
structure CalX (P : Program) (w : World) (K : PySem.W.Frag) (mg : Str → Option Value) (base : Heap) (k : Nat) (x : Str) (ps : List Str) (sp : Sp) : Prop where
  ex : ∃ f fd, FnOk P w K mg base (CX1 P w) k f fd ps sp ∧ Binds K fd ps [] ∧ PySem.W.keepIn K (.ref f) = true ∧ mg x = some (.ref f)
theorem Def.calX {P : Program} {w : World} {K : PySem.W.Frag} {mg : Str → Option Value} {base : Heap} {k : Nat} {x : Str} {st : Stmt} {ps : List Str} {sp : Sp} (D : Def K mg x st ps) (h : ∀ f fd, Fun K x x st f fd → FnOk P w K mg base (CX1 P w) k f fd ps sp) : CalX P w K mg base k x ps sp := by
  obtain ⟨f, fd, F, b, m⟩ := D.ex
  exact ⟨f, fd, h f fd F, b, F.kp, m⟩
section
variable {X : Cx} {k : Nat} {f : Addr} {fd : FuncData} {ps : List Str} {sp : Sp} {x : Str} {p pos : Pos} {e : Expr} {es : List Expr} {t : TA} {W : St → XK}
theorem run_fnX {pins : List (Addr × Obj)} {σ : St} {H : Hp} {s : Shared} {Q : VK} {us : List Value} {vs : List V} (F : FnOk X.prog X.w X.K X.mg X.base (CX1 X.prog X.w) k f fd ps sp) (hr : Room k X.A) (hb : Binds X.K fd ps []) (hW : Wish X W)
    (I : Inv X pins σ H s) (r : Vals vs us) (h : sp vs H Q (W σ)) : wpAny (model X.prog X.w) X.A (call (.ref f) us) (EP X pins σ Q) X.xe s := by
  have hl : (us ++ []).length = ps.length := by rw [List.append_nil, ← r.length]; exact F.len _ _ _ _ h
  have b := hb s us I.kIn hl
  rw [List.append_nil] at b
  refine wpAny_call (codeAny_mono (F.run X.A X.stack s H ⟨us, []⟩ us vs Q (W σ) hr I.env0 b r h) fun q s' hq => ?_)
  cases q with
  | error v => exact hW.pass I hq
  | ok fl =>
    cases fl with
    | ret u => exact I.after hq
    | next => exact False.elim hq
    | brk => exact False.elim hq
    | cont => exact False.elim hq
theorem pe_callX (C : CalX X.prog X.w X.K X.mg X.base k x ps sp) (hr : Room k X.A) (hW : Wish X W) (hg : Gl X x) (ha : PA X (e :: es) t)
    (hdb : (x == ("__debug__" : Str)) = false := by decide) (he : starEach (e :: es) X.env = (false, eval e X.env) :: starEach es X.env := by rfl) (hpl : (backTo pos (starEach es X.env)).any (·.1) = false := by rfl) :
    PE X (.Call (.Name x p) (e :: es) [] pos) (tCallX sp W t) := by
  intro pins s σ H Q I h
  obtain ⟨f, fd, F, b, kp, hm⟩ := C.ex
  refine wpAny_Call_Name_kw (ld_glob I hg hm ?_ hdb)
  refine PySem.W.callWith_K (h₀ := X.base) I.ok.mod.kin kp (thn (ha pos pins s σ H _ I h) fun us s1 ⟨vs, H1, I1, r, q⟩ => ⟨I1.kIn, ?_⟩) he hpl
  exact run_fnX F hr b hW I1 r q
end
/-- a def's body that may raise -/
theorem Fun.okX {P : Program} {w : World} {K : PySem.W.Frag} {mg : Str → Option Value} {base : Heap} {x qual : Str} {st : Stmt} {f : Addr} {fd : FuncData} {N ps : List Str} {k : Nat} {sp : Sp} (F : Fun K x qual st f fd) (S : FnScope N ps (defScope st)) (len : ∀ vs H Q E, sp vs H Q E → vs.length = ps.length)
    (hbody : ∀ (cdv : Value) (A : Around) (outer : List Env) (s : Shared) (H : Hp) (vs : List V) (Q : VK) (E : XK), Room k (A.deeper (envOfC qual (defScope st) s.heap.objs.size f cdv)) → sp vs H Q E →
      ∃ t, PSs (cxOf (CX1 P w) P w K mg base N qual (defScope st) f cdv A outer s H E) (defBody st) t ∧ t { nx := fun _ H' => Q .non H', rt := Q } (start N vs) H) : FnOk P w K mg base (CX1 P w) (k + 1) f fd ps sp := by
  obtain ⟨oc, od, kV, doc, pm, an, cdv, ct, osl, rfl, lk, hcd⟩ := F.ex
  exact fn_of lk hcd S len fun A outer s H vs Q E hr hsp => hbody cdv A outer s H vs Q E hr hsp

/-! ### raise C(..) -/
/-- an own exception class without an __init__ of its own, as the fragment has it -/
structure XCls (K : PySem.W.Frag) (x : Str) (mg : Str → Option Value) (C : Addr) : Prop where
  at_ : mg x = some (.ref C)
  ex : ∃ bm newId initId B, PySem.W.excIn K C bm newId = true ∧ ExcBaseFacts B newId initId bm
theorem exc_obj {K : PySem.W.Frag} {h : Heap} {C : Addr} {bmB : List Value} {newId : String} (X : K.In h) (q : PySem.W.excIn K C bmB newId = true) :
    ∃ bm N nm qn bs hdct sn sub ab col dd k0 k1 k2 k3 k5 mN, h.get? C = some (excClassObj nm qn C N bs bm hdct sn sub ab col dd k0 k1 k2 k3 k5 newId) ∧ h.Ns N mN ∧ mN "__init__" = none ∧ OwnTail h bmB bm := by
  unfold PySem.W.excIn at q
  split at q
  · rename_i dd cd sl lk
    split at q
    · rename_i C1 bm k0 k1 k2 k3 n k5 hm hsl
      simp only [Bool.and_eq_true, beq_iff_eq, Bool.not_eq_true'] at q
      obtain ⟨⟨⟨⟨⟨e1, e2⟩, hdel⟩, ht⟩, hns⟩, hni⟩ := q
      subst e1 e2
      obtain ⟨nm, bs, mro, ns, qn, hd, sn, sub, ab, col, del⟩ := cd
      simp only at hm hdel hns hni
      subst hm hdel
      obtain ⟨l⟩ := sl
      simp only at hsl
      subst hsl
      exact ⟨bm, ns, nm, qn, bs, hd, sn, sub, ab, col, dd, k0, k1, k2, k3, k5, _, X _ _ lk, .of_isNs (PySem.W.isNs_of_in X hns), PySem.W.nsMap_none_of_in X hns hni, PySem.W.tail_of_in X ht⟩
    · cases q
  · cases q
def tRaise (C : Addr) (W : St → XK) (t : TA) : TS := fun _ σ H => t σ H fun vs H1 => vs.length ≤ sizeLine ∧ W σ (.ref C) none H1
theorem ps_raise {X : Cx} {x : Str} {C : Addr} {W : St → XK} {t : TA} {e : Expr} {es : List Expr} {np cpos pos : Pos} (hW : Wish X W) (hc : X.calm = true) (XC : XCls X.K x X.mg C) (hg : Gl X x) (ha : PA X (e :: es) t)
    (hdb : (x == ("__debug__" : Str)) = false := by decide) (he : starEach (e :: es) X.env = (false, eval e X.env) :: starEach es X.env := by rfl) (hpl : (backTo cpos (starEach es X.env)).any (·.1) = false := by rfl) :
    PS X (.Raise (some (.Call (.Name x np) (e :: es) [] cpos)) none pos) (tRaise C W t) := by
  intro pins s σ H D I h
  obtain ⟨bmB, newId, initId, B, q, FB⟩ := XC.ex
  obtain ⟨bm, N, nm, qn, bs, hdct, sn, sub, ab, col, dd, k0, k1, k2, k3, k5, mN, hC, hN, hni, T⟩ := exc_obj I.mod.kin q
  refine wpAny_Raise_call_subT (C := C) (nm := nm) (q := qn) (N := N) (bs := bs) (bm := bm) (hdct := hdct) (sn := sn) (sub := sub) (ab := ab) (col := col) (dd := dd) (k0 := k0) (k1 := k1) (k2 := k2) (k3 := k3) (k5 := k5) FB (mN := mN)
    (T.hasType FB.hasBase) (I.ok.hd hc) ?_ hni (ld_glob I hg XC.at_ ⟨rfl, ?_⟩ hdb)
  · rw [he]
    show (false || (backTo cpos (starEach es X.env)).any (·.1)) = false
    rw [hpl]
    rfl
  have ha' := ha cpos pins s σ H _ I h
  rw [he] at ha' ⊢
  refine Calls.evalArgs_plain (thn ha' fun us s1 ⟨vs, H1, I1, r, hl, hw⟩ => ⟨rfl, by rw [← r.length]; exact hl, I1.bk _ _ hC, hN.keeps I1.bk, T.keeps I1.bk, fun h' ex hm => ?_⟩)
  obtain ⟨t0, ht, htn, _⟩ := hm.there
  have nH : H1 ex = none := by
    cases z : H1 ex with
    | none => rfl
    | some o =>
      obtain ⟨ob, eo⟩ := (I1.hok ex o z).is
      rw [hm.new] at eo
      cases eo
  exact hW pins σ H1 { s1 with heap := h' } ex (.ref C) none .none (I1.kept (t' := s1.toks) hm.keeps) ⟨_, _, ht, rfl, rfl, rfl, (show (1 : Nat) < 6 from by decide), rfl, I1.fxOk hm.new nH, .inl rfl⟩ hw

/-! ### try: one clause, an own class -/
abbrev Cx.tr (X : Cx) (pn : List (Addr × Obj)) (E : Value → Shared → Prop) : Cx := { X with pn := pn, xe := E }
/-- an except suite (nothing leaves it) -/
abbrev Cx.sup (X : Cx) (e : Addr) : Cx := { X with A := X.A.mark (some (.ref e)), calm := false, xe := fun _ _ => False }
section
variable {X : Cx} {pins pins' pn : List (Addr × Obj)} {σ : St} {H : Hp} {s : Shared} {E : Value → Shared → Prop} {e : Addr}
theorem Cx.Ok.tr (ok : X.Ok) : (X.tr pn E).Ok := ⟨ok.mod, ok.kind, ok.glob, ok.blt, ok.above, ok.inj, ok.has, ok.cab, ok.hd, ok.frames, ok.stk, ok.exf, ok.bs, ok.bsz, ok.noex, ok.exfs, ok.funs, ok.frf⟩
theorem Cx.Ok.untr (ok : (X.tr pn E).Ok) : X.Ok := ⟨ok.mod, ok.kind, ok.glob, ok.blt, ok.above, ok.inj, ok.has, ok.cab, ok.hd, ok.frames, ok.stk, ok.exf, ok.bs, ok.bsz, ok.noex, ok.exfs, ok.funs, ok.frf⟩
theorem Inv.tr (I : Inv X pins σ H s) : Inv (X.tr (X.pn ++ pins) E) [] σ H s := ⟨I.ok.tr, I.os, I.bare, I.base, I.loc, I.cell, I.free, I.freeC, fun p hp => I.pin p (by simpa using hp), I.hok, I.len⟩
theorem Inv.untr (I : Inv (X.tr (X.pn ++ pins) E) pins' σ H s) : Inv X pins σ H s := ⟨I.ok.untr, I.os, I.bare, I.base, I.loc, I.cell, I.free, I.freeC, fun p hp => I.pin p (List.mem_append_left _ hp), I.hok, I.len⟩
theorem FxOk.untr {b : Addr} (f : FxOk (X.tr (X.pn ++ pins) E) pins' H b) : FxOk X pins H b := ⟨f.1, f.2.1, f.2.2.1, f.2.2.2.1, f.2.2.2.2.1, fun p hp => f.2.2.2.2.2 p (List.mem_append_left _ hp)⟩
theorem SP.untr {D : Ends} {f : Flow} (h : SP (X.tr (X.pn ++ pins) E) pins' D f s) : SP X pins D f s := by
  cases f with
  | next => obtain ⟨σ', H', I, q⟩ := h; exact ⟨σ', H', I.untr, q⟩
  | brk => obtain ⟨σ', H', I, q⟩ := h; exact ⟨σ', H', I.untr, q⟩
  | cont => obtain ⟨σ', H', I, q⟩ := h; exact ⟨σ', H', I.untr, q⟩
  | ret u => obtain ⟨v, σ', H', I, r, q⟩ := h; exact ⟨v, σ', H', I.untr, r, q⟩
theorem Cx.Ok.sup (ok : X.Ok) : (X.sup e).Ok := ⟨ok.mod, ok.kind, ok.glob, ok.blt, ok.above, ok.inj, ok.has, ok.cab, (fun z => nomatch z), ok.frames, ok.stk, ok.exf, ok.bs, ok.bsz, ok.noex, ok.exfs, ok.funs, ok.frf⟩
theorem Inv.sup (I : Inv X pins σ H s) : Inv (X.sup e) pins σ H s := ⟨I.ok.sup, I.os, I.bare, I.base, I.loc, I.cell, I.free, I.freeC, I.pin, I.hok, I.len⟩
/-- (X.Ok: the calm of X itself is not to be had from the suite's) -/
theorem Inv.unsup (I : Inv (X.sup e) pins σ H s) (ok : X.Ok) : Inv X pins σ H s := ⟨ok, I.os, I.bare, I.base, I.loc, I.cell, I.free, I.freeC, I.pin, I.hok, I.len⟩

/-- an exception that was caught, tracked: its class, its dict -/
def exO (e : Addr) (c : Value) (d : Option Addr) : HO := .ext fun h => ∃ oe vs, h.get? e = some oe ∧ oe.cls = c ∧ oe.dict = d ∧ oe.data = .fields vs
theorem Inv.track {c : Value} {d : Option Addr} {oe : Obj} {vs : Array Value} (I : Inv X pins σ H s) (fe : FxOk X pins H e) (he : s.heap.get? e = some oe) (hc : oe.cls = c) (hdd : oe.dict = d) (hd : oe.data = .fields vs) :
    Inv X pins σ (upd H e (exO e c d)) s := by
  have ne : ∀ b u, H b = some u → b ≠ e := fun b u q => ne_of_none q fe.1
  refine ⟨I.ok, I.os, I.bare, ⟨I.base.keep, I.base.slot, fun b o q n hx => ?_, I.base.there, fun b xs q => ?_, fun b o u q => ?_, fun b ps q => ?_⟩, I.loc, I.cell, ?_, fun x c q => ?_, fun p hp => ?_, fun b u q => ?_, I.len⟩
  · rw [upd_ne]
    · exact I.base.free b o q n hx
    · rintro rfl
      rcases fe.2.2.2.1 with z | z
      · exact hx z
      · rw [q] at z; cases z
  · have z := I.base.tups b xs q
    rw [upd_ne (ne _ _ z)]; exact z
  · have z := I.base.frzs b o u q
    rw [upd_ne (ne _ _ z)]; exact z
  · obtain ⟨m, z⟩ := I.base.tbls b ps q
    exact ⟨m, by rw [upd_ne (ne _ _ z)]; exact z⟩
  · rw [upd_ne (Ne.symm fe.2.1)]; exact I.free
  · rw [upd_ne (fe.2.2.2.2.1 x c q)]; exact I.freeC x c q
  · obtain ⟨a1, a2, a3, a4, a5⟩ := I.pin p hp
    exact ⟨a1, by rw [upd_ne (fe.2.2.2.2.2 p hp)]; exact a2, a3, a4, a5⟩
  · by_cases z : b = e
    · subst z
      rw [upd_same] at q
      cases q
      refine ⟨⟨oe, vs, he, hc, hdd, hd⟩, ⟨oe, he⟩, fun h1 h2 p k => ?_⟩
      obtain ⟨o1, v1, p1, p2⟩ := p
      exact ⟨o1, v1, k _ p1, p2⟩
    · rw [upd_ne z] at q
      exact (I.hok b u q).stay (fun _ _ _ y => y) (fun c y => by rw [upd_ne (ne _ _ y)]; exact y) fun c xs y => by rw [upd_ne (ne _ _ y)]; exact y
/-- the names are forgotten (one of them has gone) -/
theorem Inv.forget {h' : Heap} {m' : Str → Option Value} {t' : Nat} (I : Inv X pins σ H s) (hn : h'.Ns X.env.locals m') (hs : Heap.SameBut X.env.locals s.heap h') : Inv X pins (σ.map fun _ => none) H { s with heap := h', toks := t' } := by
  have ne0 : ∀ b o, X.s₀.heap.get? b = some o → b ≠ X.env.locals := fun b o q => Nat.ne_of_lt (Nat.lt_of_lt_of_le (Heap.lt_size q) I.ok.above)
  refine ⟨I.ok, I.os, I.bare, ⟨fun b o q n hb hx => ?_, fun b o q n hb hx => ?_, I.base.free, fun b o q hx => ?_, I.base.tups, I.base.frzs, I.base.tbls⟩, ⟨m', hn, fun i x v _ e2 _ => ?_⟩, fun x c q => ?_, I.free, I.freeC, fun p hp => ?_, fun b u q => ?_, by simpa using I.len⟩
  · exact (hs.2 b (ne0 b o q)).trans (I.base.keep b o q n hb hx)
  · obtain ⟨sl, z⟩ := I.base.slot b o q n hb hx
    exact ⟨sl, (hs.2 b (ne0 b o q)).trans z⟩
  · obtain ⟨o', z⟩ := I.base.there b o q hx
    exact ⟨o', (hs.2 b (ne0 b o q)).trans z⟩
  · rw [List.getElem?_map] at e2
    cases z : σ[i]? with
    | none => rw [z] at e2; cases e2
    | some y => rw [z] at e2; cases e2
  · obtain ⟨v, z⟩ := I.cell x c q
    exact ⟨v, z.sameBut hs (I.cne x c q)⟩
  · obtain ⟨a1, a2, a3, a4, a5⟩ := I.pin p hp
    exact ⟨(hs.2 p.1 a3).trans a1, a2, a3, a4, a5⟩
  · refine (I.hok b u q).stay (fun c v hc y => (hs.2 c fun z => ?_).trans y) (fun _ y => y) fun _ _ y => y
    rcases hc with r | r
    · rw [← r, z, I.free] at q; cases q
    · rw [z, I.free] at r; cases r
end

/-- try .. except C as n (its place i); behind the suite the names are forgotten -/
def tTryA (K : PySem.W.Frag) (Ch : Addr) (i : Nat) (tb : (St → XK) → TS) (ts : TS) : TS := fun D σ H => tb (fun σ' c d H' => ∃ C, c = .ref C ∧ PySem.W.exmOne K (.ref C) (.ref Ch) = some true ∧
  ∀ e, H' e = none → ts { nx := fun σ H => D.nx (σ.map fun _ => none) H, rt := D.rt, bk := fun σ H => D.bk (σ.map fun _ => none) H, ct := fun σ H => D.ct (σ.map fun _ => none) H } (σ'.set i (some (.ref e))) (upd H' e (exO e c d))) D σ H
section
variable {X : Cx} {x n : Str} {Ch : Addr} {i : Nat} {body suite : List Stmt} {b₀ : Stmt} {tb : (St → XK) → TS} {ts : TS} {np hpos pos : Pos}
theorem looks_ty {M : Model} {h : Heap} {e : Addr} {c : Value} {oe : Obj} (he : h.get? e = some oe) (hc : oe.cls = c) : PySem.W.Looks M h (typeOf (.ref e)) c := hc ▸ (PySem.W.Looks.ld he).andThen .now
theorem ps_tryA (hst : X.stack = X.env :: X.outer) (hfr : X.env.frame = some X.env.locals) (hg : Gl X x) (hm : X.mg x = some (.ref Ch)) (hN : X.N.Nodup) (hi : X.N[i]? = some n) (hl : X.env.kindOf n = some .local)
    (hb : ∀ pn E W, Wish (X.tr pn E) W → PassesOwn (model X.prog X.w) X.A X.env E → PSs (X.tr pn E) body (tb W)) (hs : ∀ e, PSs (X.sup e) (b₀ :: suite) ts) (hdb : (x == ("__debug__" : Str)) = false := by decide) :
    PS X (.Try body [.ExceptHandler (some (.Name x np)) (some n) (b₀ :: suite) hpos] [] [] pos) (tTryA X.K Ch i tb ts) := by
  intro pins s σ H D I h
  refine wpAny_Try_except ?_
  refine wpAny_mono (hb (X.pn ++ pins) _ _ ?_ ?_ [] s σ H D I.tr h) (fun f s1 q => ?_) fun e s1 q => q
  · intro pins' σ' H' s' e c d ctx I' x' hw
    obtain ⟨C, rfl, hx, hq⟩ := hw
    have I1 : Inv X pins σ' H' s' := I'.untr
    refine note_land I1 hst hfr (x'.imp fun b fb => fb.untr) fun h2 I2 x2 => ?_
    obtain ⟨oe, vs, he, hc, hdd, hd, _, _, fe, _⟩ := id x2
    refine wpAny_handleBy_cons (codeAny_handlers_test (ld_glob (I2.sup (e := e)) hg hm ?_ hdb)) (by intro q; cases q)
    refine (PySem.W.exm_one I2.kIn (looks_ty he hc) hx).here ?_
    refine codeAny_handlers_suite_as (land_again x2 ?_)
    have I3 := (I2.track fe he hc hdd hd).sup (e := e)
    refine store_ok (X := X.sup e) I3 hN hi (.inl hl) (v := .ref e) rfl (fun s4 I4 => ?_) (.inr hl)
    refine wpAny_mono (hs e pins s4 _ _ _ I4 (hq e fe.1)) (fun f s5 q5 => ?_) fun _ _ z => False.elim z
    have go : ∀ {σ5 : St} {H5 : Hp} {R : Unit → Shared → Prop} {E5 : Value → Shared → Prop}, Inv (X.sup e) pins σ5 H5 s5 → (∀ s6, Inv X pins (σ5.map fun _ => none) H5 s6 → R () s6) →
        wpAny (model X.prog X.w) X.A (do bindName X.env n .none; unbindBehindTheSuite X.env n hpos) R E5 s5 := fun {σ5 H5 R E5} I5 hR => by
      obtain ⟨m5, hn5, _⟩ := I5.loc
      refine wpAny_nameGoes hl hn5 ?_ fun h6 m6 hn6 hs6 => hR _ ((I5.unsup I2.ok).forget hn6 hs6)
      rw [I2.ok.kind]
      rfl
    cases f with
    | next => obtain ⟨σ5, H5, I5, q⟩ := q5; exact go I5 fun s6 I6 => ⟨_, _, I6, q⟩
    | brk => obtain ⟨σ5, H5, I5, q⟩ := q5; exact go I5 fun s6 I6 => ⟨_, _, I6, q⟩
    | cont => obtain ⟨σ5, H5, I5, q⟩ := q5; exact go I5 fun s6 I6 => ⟨_, _, I6, q⟩
    | ret u => obtain ⟨v5, σ5, H5, I5, r5, q⟩ := q5; exact go I5 fun s6 I6 => ⟨v5, _, _, I6, r5, q⟩
  · exact PassesOwn.looking
  · have q' := q.untr
    cases f with
    | next => exact wpAny_execs_nil q'
    | brk => exact q'
    | cont => exact q'
    | ret u => exact q'
end
end L2

namespace L2
open PySem PySem.Spec PyProof.Rows
/-! ### defs that may be called while an exception is handled (nothing in them walks or raises) -/
structure RoomB (k : Nat) (A : Around) : Prop where
  dp : A.depth + 3 * k + 5 < recursionLimit
  un : A.units + 16 * k + 200 < cLine
structure FnOkH (P : Program) (w : World) (K : PySem.W.Frag) (mg : Str → Option Value) (base : Heap) (k : Nat) (f : Addr) (fd : FuncData) (ps : List Str) (sp : Sp) : Prop where
  len : ∀ vs H Q E, sp vs H Q E → vs.length = ps.length
  run : ∀ (A : Around) (outer : List Env) (s : Shared) (H : Hp) (args : Args) (us : List Value) (vs : List V) (Q : VK) (E : XK), RoomB k A → Env0 P w K mg base A outer s H → BindsTo s fd args (ps.zip us) → Vals vs us → sp vs H Q E →
    codeAny (model P w) A (.call (.ref f) args) (CR CX0 outer P w H s Q E) s
structure CalH (P : Program) (w : World) (K : PySem.W.Frag) (mg : Str → Option Value) (base : Heap) (k : Nat) (x : Str) (ps : List Str) (sp : Sp) : Prop where
  ex : ∃ f fd, FnOkH P w K mg base k f fd ps sp ∧ Binds K fd ps [] ∧ PySem.W.keepIn K (.ref f) = true ∧ mg x = some (.ref f)
section
variable {X : Cx} {k : Nat} {f : Addr} {fd : FuncData} {ps : List Str} {sp : Sp} {x : Str} {p pos : Pos} {e : Expr} {es : List Expr} {t : TA}
theorem pe_callH (C : CalH X.prog X.w X.K X.mg X.base k x ps sp) (hr : RoomB k X.A) (hg : Gl X x) (ha : PA X (e :: es) t)
    (hdb : (x == ("__debug__" : Str)) = false := by decide) (he : starEach (e :: es) X.env = (false, eval e X.env) :: starEach es X.env := by rfl) (hpl : (backTo pos (starEach es X.env)).any (·.1) = false := by rfl) :
    PE X (.Call (.Name x p) (e :: es) [] pos) (tCall sp [] E0 t) := by
  intro pins s σ H Q I h
  obtain ⟨f, fd, F, b, kp, hm⟩ := C.ex
  refine wpAny_Call_Name_kw (ld_glob I hg hm ?_ hdb)
  refine PySem.W.callWith_K (h₀ := X.base) I.ok.mod.kin kp (thn (ha pos pins s σ H _ I h) fun us s1 ⟨vs, H1, I1, r, q⟩ => ⟨I1.kIn, ?_⟩) he hpl
  have q : sp vs H1 Q E0 := by
    have q' : sp (vs ++ []) H1 Q E0 := q
    rw [List.append_nil] at q'
    exact q'
  have hl : (us ++ []).length = ps.length := by rw [List.append_nil, ← r.length]; exact F.len _ _ _ _ q
  have b' := b s1 us I1.kIn hl
  rw [List.append_nil] at b'
  refine wpAny_call (codeAny_mono (F.run X.A X.stack s1 H1 ⟨us, []⟩ us vs Q E0 hr I1.env0 b' r q) fun y s' hq => ?_)
  cases y with
  | error v => exact False.elim hq
  | ok fl =>
    cases fl with
    | ret u => exact I1.after hq
    | next => exact False.elim hq
    | brk => exact False.elim hq
    | cont => exact False.elim hq
end
end L2

namespace L2
open PySem PySem.Spec PyProof.Rows

/-! ### texts by their codes -/
def tx (l : List Nat) : Str := ⟨l.toArray⟩
theorem tx_len (l : List Nat) : (tx l).length = l.length := by simp [tx, Str.length]
theorem tx_of (x : Str) : tx x.cps.toList = x := by cases x; rfl
theorem tx_inj {l m : List Nat} (h : tx l = tx m) : l = m := by
  have e := congrArg (fun z : Str => z.cps.toList) h
  exact e
theorem tx_app (l m : List Nat) : tx l ++ tx m = tx (l ++ m) := by
  show (⟨l.toArray ++ m.toArray⟩ : Str) = ⟨(l ++ m).toArray⟩
  rw [List.append_toArray]
/-- the figures of a number -/
def figs (n : Nat) : List Nat := (Nat.toDigits 10 n).map Char.toNat
theorem str_nat (n : Nat) : ((toString (n : Int) : String) : Str) = tx (figs n) := by
  have e := PySem.W.KIN.signs_num n
  rw [← tx_of (Str.ofString (toString ((n : Nat) : Int))), e]
  rfl
theorem figs_small {n : Nat} (h : n < 10) : figs n = [48 + n] := by
  unfold figs
  rw [Nat.toDigits_of_lt_base h]
  have : n = 0 ∨ n = 1 ∨ n = 2 ∨ n = 3 ∨ n = 4 ∨ n = 5 ∨ n = 6 ∨ n = 7 ∨ n = 8 ∨ n = 9 := by omega
  rcases this with rfl | rfl | rfl | rfl | rfl | rfl | rfl | rfl | rfl | rfl <;> rfl
theorem figs_more {n : Nat} (h : 10 ≤ n) : figs n = figs (n / 10) ++ figs (n % 10) := by
  have hm : n % 10 < 10 := Nat.mod_lt n (by decide)
  have t : Nat.toDigits 10 (n / 10) ++ Nat.toDigits 10 (n % 10) = Nat.toDigits 10 (10 * (n / 10) + n % 10) := Nat.toDigits_append_toDigits (by decide) (by omega) hm
  rw [Nat.div_add_mod] at t
  unfold figs
  rw [← t, List.map_append]
theorem figs_len {n k : Nat} (hk : 1 ≤ k) (h : n < 10 ^ k) : (figs n).length ≤ k := by
  induction k generalizing n with
  | zero => omega
  | succ k ih =>
    by_cases hn : n < 10
    · rw [figs_small hn]; simp
    · have h1 : n / 10 < 10 ^ k := by rw [Nat.pow_succ] at h; omega
      have hk1 : 1 ≤ k := by
        rcases Nat.eq_zero_or_pos k with z | z
        · rw [z] at h1; simp at h1; omega
        · exact z
      have := ih hk1 h1
      rw [figs_more (by omega), List.length_append, figs_small (Nat.mod_lt n (by decide))]
      simp
      omega
theorem log_small {n : Int} (h0 : 0 ≤ n) (h : n < 10 ^ 70) : n.natAbs.log2 < 1920 := by
  have h1 : n.natAbs < 2 ^ 240 := by
    have h2 : (10 : Int) ^ 70 < 2 ^ 240 := by decide
    omega
  by_cases z : n.natAbs = 0
  · rw [z]; decide
  · have := (Nat.log2_lt z).2 h1
    omega

/-! ### pieces at a sign -/
def cutAt (c : Nat) : List Nat → List (List Nat)
  | [] => [[]]
  | x :: l => if x = c then [] :: cutAt c l else match cutAt c l with
    | [] => [[x]]
    | p :: r => (x :: p) :: r
theorem cutAt_ne (c : Nat) : ∀ l, cutAt c l ≠ []
  | [] => by simp [cutAt]
  | x :: l => by
    unfold cutAt
    split
    · simp
    · cases cutAt c l <;> simp

/-! ### methods of texts -/
section
variable {X : Cx}
theorem mt_zfill : MtM X "str.zfill" (fun x vs H Q => ∃ z i, x = .str z ∧ vs = [.int i] ∧ PadOk i = true ∧ Q (.str (Txt.zfill z i)) H) := by
  intro pins s σ H x vs v us Q I rx rv h
  obtain ⟨z, i, rfl, rfl, hp, q⟩ := h
  obtain ⟨t, rfl⟩ := rx
  obtain ⟨w, rfl, ru⟩ := rv.one
  obtain ⟨u, rfl⟩ := ru
  exact SC.zfill hp fun t' k => ⟨.str _, H, I.tok k, ⟨t', rfl⟩, q⟩
/-- c in z, of one sign c -/
theorem op_notIn1 : OpR X (compareOp .NotIn) (fun x y H Q => ∃ c z, x = .str (tx [c]) ∧ y = .str z ∧ Q (.bl (!decide (c ∈ z.cps.toList))) H) := by
  intro pins s σ H x y v u Q I rx ry h
  obtain ⟨c, z, rfl, rfl, q⟩ := h
  refine op_notIn_str pins s σ H _ _ v u Q I rx ry ⟨tx [c], z, rfl, rfl, ?_⟩
  rw [show (!(Builtin.Str.occurrences z (tx [c]) 0 z.length 1).isEmpty) = decide (c ∈ z.cps.toList) from StrLaws.found_one z c]
  exact q

/-! ### for sign in text -/
def Its (x : Str) : It := ⟨fun i _ => i < x.cps.size, fun i H v H' => H' = H ∧ ∃ c, x.cps[i]? = some c ∧ v = .str (tx [c]), fun i _ => x.cps.size ≤ i⟩
theorem turn_strA {P : Program} {w : World} {K : PySem.W.Frag} {tg : Expr} (x : Str) (t : Tok) (it : Addr) : Turn P w K tg (Its x) [it] it (fun i h => h.IsStrIter it "str_ascii_iterator" x t i) where
  mem := by simp
  obj := fun i h st b hb => by
    have e : b = it := by simpa using hb
    subst e
    obtain ⟨o, e, c, d⟩ := st
    exact ⟨o, e, fun v z => by rw [d] at z; cases z⟩
  keep := fun i h h' st k => by
    obtain ⟨o, e, c, d⟩ := st
    exact ⟨o, k it (by simp) o e, c, d⟩
  item := by
    intro X hP hw hK hc i pins s σ H E I hf st hg
    subst hP hw hK
    obtain ⟨f0, f1, f2, f3, f4, f5⟩ := hf it (by simp)
    have hi : i < x.cps.size := hg
    refine wpAny_pyNext_ascii_item st (c := x.cps[i]) (by simp [hi]) fun h' st' sb => ?_
    have I1 : Inv X pins σ H { s with heap := h', toks := s.toks + 1 } := I.turned (fun b o hb e => (sb.2 b hb).trans e) f0 f1 f3 f4 f5
    obtain ⟨o, e, c, d⟩ := id st'
    exact ⟨_, rfl, go_of (s := { s with heap := h', toks := s.toks + 1 }) e c d (by decide) ⟨.str (tx [x.cps[i]]), H, I1, ⟨_, rfl⟩, ⟨rfl, _, by simp [hi], rfl⟩, st', fun b hb => (hf b hb).1⟩⟩
  done := by
    intro X hP hw hK hc i pins s σ H E I hf st hg
    subst hP hw hK
    obtain ⟨f0, f1, f2, f3, f4, f5⟩ := hf it (by simp)
    have hi : x.cps.size ≤ i := hg
    exact wpAny_pyNext_ascii_end (I.ok.hd hc) st (by simp; omega) fun h' eb => ⟨rfl, I.turned (t' := s.toks) (fun b o hb e => eb b o hb e) f0 f1 f3 f4 f5⟩
  self := fun _ _ _ _ _ st h => wpAny_pyIter_striter_ascii st h
theorem turn_strW {P : Program} {w : World} {K : PySem.W.Frag} {tg : Expr} (x : Str) (t : Tok) (it : Addr) : Turn P w K tg (Its x) [it] it (fun i h => h.IsStrIter it "str_iterator" x t i) where
  mem := by simp
  obj := fun i h st b hb => by
    have e : b = it := by simpa using hb
    subst e
    obtain ⟨o, e, c, d⟩ := st
    exact ⟨o, e, fun v z => by rw [d] at z; cases z⟩
  keep := fun i h h' st k => by
    obtain ⟨o, e, c, d⟩ := st
    exact ⟨o, k it (by simp) o e, c, d⟩
  item := by
    intro X hP hw hK hc i pins s σ H E I hf st hg
    subst hP hw hK
    obtain ⟨f0, f1, f2, f3, f4, f5⟩ := hf it (by simp)
    have hi : i < x.cps.size := hg
    refine wpAny_pyNext_wide_item st (c := x.cps[i]) (by simp [hi]) fun h' st' sb => ?_
    have I1 : Inv X pins σ H { s with heap := h', toks := s.toks + 1 } := I.turned (fun b o hb e => (sb.2 b hb).trans e) f0 f1 f3 f4 f5
    obtain ⟨o, e, c, d⟩ := id st'
    exact ⟨_, rfl, go_of (s := { s with heap := h', toks := s.toks + 1 }) e c d (by decide) ⟨.str (tx [x.cps[i]]), H, I1, ⟨_, rfl⟩, ⟨rfl, _, by simp [hi], rfl⟩, st', fun b hb => (hf b hb).1⟩⟩
  done := by
    intro X hP hw hK hc i pins s σ H E I hf st hg
    subst hP hw hK
    obtain ⟨f0, f1, f2, f3, f4, f5⟩ := hf it (by simp)
    have hi : x.cps.size ≤ i := hg
    exact wpAny_pyNext_wide_end (I.ok.hd hc) st (by simp; omega) fun h' eb => ⟨rfl, I.turned (t' := s.toks) (fun b o hb e => eb b o hb e) f0 f1 f3 f4 f5⟩
  self := fun _ _ _ _ _ st h => wpAny_pyIter_striter_wide st h
def iStr (tl : TE) : TI := fun σ H R => tl σ H fun x H1 => ∃ z, x = .str z ∧ R (Its z) H1
theorem pi_str {tg l : Expr} {tl : TE} (hl : PE X l tl) : PI X tg l (iStr tl) := by
  intro pins s σ H R I h
  refine thn (hl pins s σ H _ I h) fun v s1 ⟨x, H1, I1, r1, q1⟩ => ?_
  obtain ⟨z, e, q⟩ := q1
  subst e
  obtain ⟨t, rfl⟩ := r1
  have fp : ∀ b ∈ [s1.heap.objs.size], FpOk X pins H1 b := fun b hb => by
    have e : b = s1.heap.objs.size := by simpa using hb
    subst e
    exact I1.fpOk (Nat.le_refl _) (I1.hok.fresh (Nat.le_refl _))
  cases ha : z.cps.all (· < 128) with
  | true => exact wpAny_pyIter_ascii ha ⟨s1.heap.objs.size, [s1.heap.objs.size], _, _, H1, rfl, I1.kept (t' := s1.toks) fun b o e => Heap.get?_push_of_some _ e, turn_strA z t _, ⟨_, Heap.get?_push_size _ rfl, rfl, rfl⟩, fp, q⟩
  | false => exact wpAny_pyIter_wide ha ⟨s1.heap.objs.size, [s1.heap.objs.size], _, _, H1, rfl, I1.kept (t' := s1.toks) fun b o e => Heap.get?_push_of_some _ e, turn_strW z t _, ⟨_, Heap.get?_push_size _ rfl, rfl, rfl⟩, fp, q⟩
theorem for_str {l : List Nat} {g : TG} {tb : TS} {D : Ends} {σ : St} {H : Hp} (Pv : Nat → St → Hp → Prop) (h0 : Pv 0 σ H)
    (hs : ∀ i c σ H, l[i]? = some c → Pv i σ H → g (.str (tx [c])) σ H fun σ2 H2 => tb { D with nx := Pv (i + 1), ct := Pv (i + 1), bk := D.nx } σ2 H2) (hd : ∀ σ H, Pv l.length σ H → D.nx σ H) :
    ∃ W : Nat → Nat → St → Hp → Prop, (∃ m, W 0 m σ H) ∧ ∀ i m σ H, W i m σ H →
      ((Its (tx l)).stop i H ∧ D.nx σ H) ∨ ((Its (tx l)).go i H ∧ ∃ N : St → Hp → Prop, (∀ σ' H', N σ' H' → ∃ m', m' < m ∧ W (i + 1) m' σ' H') ∧ ∀ x H', (Its (tx l)).yld i H x H' → g x σ H' fun σ2 H2 => tb { D with nx := N, ct := N, bk := D.nx } σ2 H2) := by
  have hz : (tx l).cps.size = l.length := by simp [tx]
  refine ⟨fun i m σ H => m = l.length - i ∧ i ≤ l.length ∧ Pv i σ H, ⟨l.length, by simp, Nat.zero_le _, h0⟩, ?_⟩
  rintro i m σ H ⟨rfl, hi, p⟩
  by_cases hlt : i < l.length
  · refine .inr ⟨by show i < (tx l).cps.size; omega, Pv (i + 1), fun σ' H' p' => ⟨l.length - (i + 1), by omega, rfl, hlt, p'⟩, fun x H' y => ?_⟩
    obtain ⟨e, c, hc, y⟩ := y
    subst e y
    exact hs i c σ _ (by simpa [tx] using hc) p
  · have e : i = l.length := by omega
    subst e
    exact .inl ⟨by show (tx l).cps.size ≤ l.length; omega, hd σ H p⟩

/-! ### f-strings of plain fields -/
def tFmt (te : TE) : TE := fun σ H Q => te σ H fun x H1 => (∃ i, x = .int i ∧ i.natAbs.log2 < 1920 ∧ Q (.str (toString i)) H1) ∨ ∃ z, x = .str z ∧ z.length ≤ sizeLine ∧ Q (.str z) H1
theorem pe_fmt {e : Expr} {te : TE} {pos : Pos} (he : PE X e te) : PE X (.FormattedValue e (-1) none pos) (tFmt te) := by
  intro pins s σ H Q I h
  refine FormattedValue_plain (thn (he pins s σ H _ I h) fun v s1 ⟨x, H1, I1, r1, q1⟩ => ?_)
  rcases q1 with ⟨i, rfl, hl, q⟩ | ⟨z, rfl, hz, q⟩
  · obtain ⟨t, rfl⟩ := r1
    exact formatField_int_small hl ⟨.str _, H1, I1.tok _, ⟨_, rfl⟩, q⟩
  · obtain ⟨t, rfl⟩ := r1
    exact formatField_str (fun t' tk => ⟨.str z, H1, I1.tok tk, ⟨t', rfl⟩, q⟩) hz
abbrev TJ := St → Hp → Str → VK → Prop
def PJ (X : Cx) (es : List Expr) (t : TJ) : Prop := ∀ (pins : List (Addr × Obj)) (s : Shared) (σ : St) (H : Hp) (out : Str) (Q : VK), Inv X pins σ H s → t σ H out Q → wpAny (model X.prog X.w) X.A (joinParts out (evalEach es X.env)) (EP X pins σ Q) X.xe s
def jNil : TJ := fun _ H out Q => out.length ≤ sizeLine ∧ Q (.str out) H
def jCons (te : TE) (t : TJ) : TJ := fun σ H out Q => te σ H fun x H1 => ∃ y, x = .str y ∧ (out ++ y).length ≤ sizeLine ∧ t σ H1 (out ++ y) Q
theorem pj_nil : PJ X [] jNil := fun _ s _ H out _ I h => joinParts_nil ⟨.str out, H, I.tok _, ⟨_, rfl⟩, h.2⟩ h.1
theorem pj_cons {e : Expr} {es : List Expr} {te : TE} {t : TJ} (he : PE X e te) (hr : PJ X es t) : PJ X (e :: es) (jCons te t) := by
  intro pins s σ H out Q I h
  show wpAny _ _ (joinParts out (eval e X.env :: evalEach es X.env)) _ _ s
  refine joinParts_cons (thn (he pins s σ H _ I h) fun v s1 ⟨x, H1, I1, r1, y, ey, hz, q⟩ => ?_)
  subst ey
  obtain ⟨t, rfl⟩ := r1
  exact ⟨hz, hr pins s1 σ H1 _ Q I1 q⟩
def tJoin (t : TJ) : TE := fun σ H Q => t σ H Str.empty Q
theorem pe_joined {a b : Expr} {es : List Expr} {t : TJ} {pos : Pos} (h : PJ X (a :: b :: es) t) : PE X (.JoinedStr (a :: b :: es) pos) (tJoin t) := fun pins s σ H Q I q => JoinedStr_many (h pins s σ H Str.empty Q I q)
end
end L2

namespace L2
open PySem PySem.Spec PyProof.Rows
/-! ### isinstance of an exception of an own class -/
structure XK1 (K : PySem.W.Frag) (C : Addr) : Prop where
  ga : PySem.W.findIn K (.ref C) "__getattribute__" = some (some (.builtin "BaseException.__getattribute__"))
  gt : PySem.W.findIn K (.ref C) "__getattr__" = some none
  cl : PySem.W.findIn K (.ref C) "__class__" = some (some (.builtin "object.__class__"))
  ob : PySem.W.mroIn K C (.type "object") = some true
  sb : PySem.W.subIn K (.ref C) (.type "BaseException") = some true
  ic : PySem.W.isClsIn K C = true
  hd : PySem.W.hasDictIn K C = true
  gs : PySem.W.specialIn K (.builtin "object.__class__") "__get__" = some (some (.builtin "getset_descriptor.__get__"))
  tk : PySem.W.takesIn K (.builtin "object.__class__") = some true
theorem exc_find {K : PySem.W.Frag} {C : Addr} (Z : XK1 K C) (od : Option Obj) : PySem.W.findObj K C od "__class__" = some (.bind (.builtin "getset_descriptor.__get__") (.builtin "object.__class__")) := by
  obtain ⟨cd, hc⟩ := Option.isSome_iff_exists.mp (show (PySem.W.clsIn K C).isSome = true from Z.ic)
  unfold PySem.W.findObj
  rw [hc, Option.bind_some, Z.cl, Option.bind_some]
  simp [Z.gs, Z.tk]
section
variable {prog : Program} {w : World} {A : Around} {E : Value → Shared → Prop} {K : PySem.W.Frag} {x D : Addr} {ox : Obj} {od : Option Obj}
theorem exc_check {M : Model} {h : Heap} {g : Array GenState} {d : Drawn} {t : Nat} {os : OsState} {nameV : Value} {Q : Unit → Shared → Prop} (Z : XK1 K D) (X : K.In h) (I : PySem.W.InstAt h x ox D od) (hq : Q () ⟨h, g, d, t, os⟩) :
    wpAny M A (checkBuiltinCall "BaseException.__getattribute__" ⟨[.ref x, nameV], []⟩) Q E ⟨h, g, d, t, os⟩ := by
  have hk : builtinKind "BaseException.__getattribute__" = some .slot := by decide +kernel
  have hsplit : splitId "BaseException.__getattribute__" = some ("BaseException", "__getattribute__") := by decide +kernel
  have ha := F.args_bexc_ga (.ref x) nameV
  have L0 := I.type (M := M)
  have L1 := PySem.W.looks_subIn (M := M) X Z.sb
  simp only [checkBuiltinCall, hk, hsplit]
  refine wpAny_bind ?_
  unfold isInstance
  refine wpAny_bind (L0.at (L1.at ?_))
  repeat (first | exact hq | wp_step)
theorem exc_class {s : Shared} {Q : Option Value → Shared → Prop} (Z : XK1 K D) (X : K.In s.heap) (I : PySem.W.InstAt s.heap x ox D od) (h : Q (some (.ref D)) { s with toks := s.toks + 1 }) : wpAny (model prog w) A (getAttr? (.ref x) "__class__") Q E s := by
  obtain ⟨hh, g, d, t, os⟩ := s
  have L0 := I.type (M := model prog w)
  have L1 := PySem.W.looks_findIn (M := model prog w) X Z.ga
  have L2 := PySem.W.looks_findIn (M := model prog w) X Z.gt
  have L3 := PySem.W.looks_find (M := model prog w) X I (exc_find Z od)
  unfold getAttr?
  unfold getAttrBy?
  unfold getAttrBy
  refine wpAny_bind (wpAny_mkText (wpAny_bind (wpAny_attempt (wpAny_holding (wpAny_bind (L0.at (wpAny_bind (L1.at ?_))))))))
  show wpAny _ _ (getAttrByItsOwn _ _ _ _ _ _) _ _ _
  unfold getAttrByItsOwn
  unfold hookBefore
  refine wpAny_bind (L2.at ?_)
  refine wpAny_bind (wpAny_attempt (wpAny_holding ?_))
  show wpAny _ _ (boundAndCalled _ _ _) _ _ _
  unfold boundAndCalled
  refine wpAny_bind (wpAny_of_eq (F.excAttr_ValueError.ga.bind (.ref x)) ?_)
  refine wpAny_call (codeAny_call_builtin F.excAttr_ValueError.ga.plain F.entry_bexc_ga (exc_check Z X I ?_))
  unfold Builtin.«object.__getattribute__»
  refine wpAny_bind (wpAny_of_eq (a := (Value.ref x, [Value.str "__class__" t])) rfl ?_)
  refine wpAny_bind (wpAny_of_eq (a := ("__class__" : Str)) rfl ?_)
  refine wpAny_bind (L0.at (wpAny_bind (L3.at ?_)))
  show wpAny _ _ (holding [Value.builtin "object.__class__"] (call (.builtin "getset_descriptor.__get__") [.builtin "object.__class__", .ref x, .ref D]) >>= ret) _ _ _
  refine wpAny_bind (wpAny_holding (wpAny_call (PySem.W.class_get X I Z.ob ?_)))
  refine wpAny_pure ?_
  exact PySem.W.handed_on rfl (wpAny_pure h)
end
/-- what isinstance asks of an exception -/
theorem kitx_exc {K : PySem.W.Frag} {e D : Addr} (Z : XK1 K D) : PySem.W.KitX K (.ref e) (.ref D) (fun h => ∃ oe vs, h.get? e = some oe ∧ oe.cls = .ref D ∧ oe.dict = none ∧ oe.data = .fields vs) where
  ty := fun M h _ p => by
    obtain ⟨oe, vs, h1, h2, _⟩ := p
    exact looks_ty h1 h2
  it := fun M h X _ => by
    obtain ⟨cd, hc⟩ := Option.isSome_iff_exists.mp (show (PySem.W.clsIn K D).isSome = true from Z.ic)
    unfold PySem.W.clsIn at hc
    split at hc
    · rename_i lk
      intro A' Q' E' s' k q
      unfold isType
      unfold loadHead
      exact wpAny_bind (wpAny_loadPart (k _ _ (X _ _ lk)) (wpAny_pure q))
    · cases hc
  ne := fun h tp dd its n sl X htp => by
    obtain ⟨cd, hc⟩ := Option.isSome_iff_exists.mp (show (PySem.W.clsIn K D).isSome = true from Z.ic)
    refine Bool.eq_false_iff.mpr fun q => ?_
    have e : D = tp := Value.ref.inj (beq_iff_eq.mp q)
    subst e
    unfold PySem.W.clsIn at hc
    split at hc
    · rename_i lk
      have z := (X _ _ lk).symm.trans htp
      cases z
    · cases hc
  ca := fun {prog w A E Q s} X p k => by
    obtain ⟨oe, vs, h1, h2, h3, h4⟩ := p
    refine exc_class (od := none) (ox := oe) Z X ⟨h1, h2, ?_, ?_⟩ k
    · unfold PySem.W.notCls
      rw [h4]
    · rw [h3]
      trivial
/-- isinstance(e, C), e an exception that was caught -/
theorem call_isinstX {X : Cx} {K : PySem.W.Frag} (hK : X.K = K := by rfl) : CallR X (.builtin "isinstance") (fun xs H Q => ∃ e C c cv b, xs = [.ref e, c] ∧ H e = some (exO e (.ref C) none) ∧ XK1 K C ∧ (∀ u, RelV c u → u = cv) ∧ PySem.W.kitOne K (.ref C) cv = some b ∧ Q (.bl b) H) := by
  subst hK
  intro pins s σ H xs us Q I r h
  obtain ⟨e, C, c, cv, b, rfl, he, Z, hc, k, q⟩ := h
  obtain ⟨u, z, rfl, rx, rc⟩ := vals2 r
  cases rx
  cases hc z rc
  obtain ⟨p, _, _⟩ := (show ObjOk X.prog X.w H s.heap e (exO e (.ref C) none) from I.hok e _ he)
  exact PySem.W.kia_one (kitx_exc Z) I.kIn p k (fun z => nomatch z) fun tk => ⟨.bl b, H, I.tok tk, rfl, q⟩
/-- an own class by its name -/
theorem pe_cls {X : Cx} {x : Str} {C : Addr} {pos : Pos} (hg : Gl X x) (hm : X.mg x = some (.ref C)) (hd : (x == ("__debug__" : Str)) = false := by decide) : PE X (.Name x pos) (tC (.ref C)) := pe_glob (v := .ref C) hg hm rfl hd
/-! ### a class whose __init__ may raise -/
structure KCalX (P : Program) (w : World) (K : PySem.W.Frag) (mg : Str → Option Value) (base : Heap) (k : Nat) (x : Str) (C : Addr) (ps : List Str) (sp : Sp) : Prop where
  ex : ∃ f fd, Mk K C f ∧ FnOk P w K mg base (CX1 P w) k f fd ps sp ∧ Binds K fd ps [] ∧ mg x = some (.ref C)
def tMakeX (C : Addr) (sp : Sp) (W : St → XK) (t : TA) : TE := fun σ H Q => t σ H fun vs H1 => ∀ x dx, H1 x = none → H1 dx = none → dx ≠ x →
  sp (.ref x :: vs) (upd (upd H1 dx (.own x)) x (.ins C dx [])) (fun v H2 => v = .non ∧ Q (.ref x) H2) (W σ)
section
variable {X : Cx} {k : Nat} {f C : Addr} {fd : FuncData} {ps : List Str} {sp : Sp} {x : Str} {p pos : Pos} {e : Expr} {es : List Expr} {t : TA} {W : St → XK}
theorem run_makeX {pins : List (Addr × Obj)} {σ : St} {H : Hp} {s : Shared} {Q : VK} {us : List Value} {vs : List V} (M : Mk X.K C f) (F : FnOk X.prog X.w X.K X.mg X.base (CX1 X.prog X.w) k f fd ps sp) (hr : Room (k + 1) X.A) (hb : Binds X.K fd ps [])
    (hW : Wish X W) (I : Inv X pins σ H s) (r : Vals vs us)
    (h : ∀ x dx, H x = none → H dx = none → dx ≠ x → sp (.ref x :: vs) (upd (upd H dx (.own x)) x (.ins C dx [])) (fun v H2 => v = .non ∧ Q (.ref x) H2) (W σ)) :
    wpAny (model X.prog X.w) X.A (call (.ref C) us) (EP X pins σ Q) X.xe s := by
  have hq := h (s.heap.objs.size + 1) s.heap.objs.size (I.hok.fresh (Nat.le_succ _)) (I.hok.fresh (Nat.le_refl _)) (Nat.ne_of_lt (Nat.lt_succ_self _))
  have I2 := Inv.made (C := C) I
  have r2 : Vals (V.ref (s.heap.objs.size + 1) :: vs) (Value.ref (s.heap.objs.size + 1) :: us) := .cons rfl r
  have hl : (Value.ref (s.heap.objs.size + 1) :: us ++ []).length = ps.length := by
    rw [List.append_nil, ← r2.length]
    exact F.len _ _ _ _ hq
  have b := hb _ (Value.ref (s.heap.objs.size + 1) :: us) I2.kIn hl
  rw [List.append_nil] at b
  refine wpAny_call (make_map (f := f) I.kIn M.makes M.init (beq_iff_eq.mp M.fn) (codeAny_mono (F.run _ X.stack _ _ ⟨Value.ref (s.heap.objs.size + 1) :: us, []⟩ (Value.ref (s.heap.objs.size + 1) :: us) _ _ (W σ) (hr.make C us [])
    (I2.env0.make C us []) b r2 hq) fun r s' hq' => ?_))
  cases r with
  | error v => exact hW.pass I2 hq'
  | ok fl =>
    cases fl with
    | ret u =>
      obtain ⟨v, H', I3, rv, ev, q3⟩ := I2.after hq'
      subst ev
      exact ⟨rv, ⟨V.ref (s.heap.objs.size + 1), H', I3, rfl, q3⟩⟩
    | next => exact False.elim hq'
    | brk => exact False.elim hq'
    | cont => exact False.elim hq'
theorem pe_makeX (M : KCalX X.prog X.w X.K X.mg X.base k x C ps sp) (hr : Room (k + 1) X.A) (hW : Wish X W) (hg : Gl X x) (ha : PA X (e :: es) t)
    (hdb : (x == ("__debug__" : Str)) = false := by decide) (he : starEach (e :: es) X.env = (false, eval e X.env) :: starEach es X.env := by rfl) (hpl : (backTo pos (starEach es X.env)).any (·.1) = false := by rfl) :
    PE X (.Call (.Name x p) (e :: es) [] pos) (tMakeX C sp W t) := by
  intro pins s σ H Q I h
  obtain ⟨f, fd, mk, F, b, hm⟩ := M.ex
  refine wpAny_Call_Name_kw (ld_glob I hg hm ?_ hdb)
  refine PySem.W.callWith_K (h₀ := X.base) I.ok.mod.kin mk.kp (thn (ha pos pins s σ H _ I h) fun us s1 ⟨vs, H1, I1, r, q⟩ => ⟨I1.kIn, ?_⟩) he hpl
  exact run_makeX mk F hr b hW I1 r q
end
/-! ### == of two lists with the very same items -/
def okV : V → Bool
  | .ref _ => true
  | x => flatV x
theorem same_at {A : Around} {s : Shared} : ∀ {xs : List V} {its js : List Value}, Vals xs its → Vals xs js → xs.all okV = true → ∀ j (h1 : j < its.toArray.size) (h2 : j < js.toArray.size), SeqAt.EqAt A s its.toArray[j] js.toArray[j] true := by
  intro xs its js r1 r2 ok j h1 h2
  have l1 := r1.length
  have l2 := r2.length
  rw [List.size_toArray] at h1 h2
  have e1 : xs[j]? = some xs[j] := List.getElem?_eq_getElem (by omega)
  obtain ⟨u, hu, ru⟩ := r1.get e1
  obtain ⟨v, hv, rv⟩ := r2.get e1
  have eu : its.toArray[j] = u := by rw [List.getElem_toArray]; exact (List.getElem?_eq_some_iff.mp hu).2
  have ev : js.toArray[j] = v := by rw [List.getElem_toArray]; exact (List.getElem?_eq_some_iff.mp hv).2
  rw [eu, ev]
  have ok1 := List.all_eq_true.mp ok _ (List.getElem_mem (l := xs) (n := j) (by omega))
  cases hx : xs[j] with
  | ref a =>
    rw [hx] at ru rv
    cases ru
    cases rv
    exact .same _
  | _ =>
    rw [hx] at ru rv ok1
    first
      | exact absurd (show false = true from ok1) Bool.false_ne_true
      | (have z := eqAt_V (A := A) (s := s) ru rv ok1 ok1
         have e : eqV xs[j] xs[j] = true := by (rw [hx]; simp [eqV])
         rw [hx] at e
         rw [e] at z
         exact z)
end L2

namespace L2
open PySem PySem.Spec PyProof.Rows
/-! ### exceptions of own classes as values: made by hand, kept, asked for what they keep -/
section
variable {X : Cx} {x : Str} {C f : Addr} {p pos : Pos} {e : Expr} {es : List Expr} {t : TA}
end
/-! ### a class of the text whose __init__ is a def of its own -/
section
variable {prog : Program} {w : World} {A : Around} {Ex : Value → Shared → Prop} {hp : Heap} {gs : Array GenState} {dr : Drawn} {tk : Nat} {os : OsState}
variable {nm q : Str} {C N fI : Addr} {bs bm bmB : List Value} {hdct : Bool} {sn : List Str} {sub : List Value} {ab : Bool} {col : Option Bool} {dd : Option Addr} {k0 k1 k2 k3 k5 : Option Value} {B newId initId : String} {mN : Str → Option Value} {us : List Value} {oI : Obj}
end
section
variable {prog : Program} {w : World} {A : Around} {E : Value → Shared → Prop} {K : PySem.W.Frag} {x D : Addr} {ox : Obj} {od : Option Obj}
end
end L2

namespace L2
open PySem PySem.Spec PyProof.Rows
/-! ### exceptions that keep values: the rules -/
section
variable {X : Cx} {pins : List (Addr × Obj)} {σ : St} {H : Hp} {s : Shared} {e : Addr}
end
section
variable {X : Cx} {x f : Str} {C g : Addr} {p pos apos : Pos} {e o value : Expr} {es : List Expr} {t : TA} {ta tv : TE}
end
end L2

namespace L2
open PySem PySem.Spec PyProof.Rows
/-! ### more on texts and tuples -/
section
variable {X : Cx}
end
end L2

namespace L2
open PySem PySem.Spec PyProof.Rows
/-! ### things of things: == and != over lists and tuples of lists and tuples -/
inductive D where
  | at (v : V)
  | seq (t : Bool) (ds : List D)
mutual
def Rep (K : PySem.W.Frag) (H : Hp) : D → V → Prop
  | .at v, x => x = v ∧ flatV v = true
  | .seq t ds, x => ∃ a xs, x = .ref a ∧ (t = true → SqT K H a xs) ∧ (t = false → SqL K H a xs) ∧ Reps K H ds xs
def Reps (K : PySem.W.Frag) (H : Hp) : List D → List V → Prop
  | [], xs => xs = []
  | d :: ds, xs => ∃ y ys, xs = y :: ys ∧ Rep K H d y ∧ Reps K H ds ys
end
mutual
def eqD : D → D → Bool
  | .at v, .at u => eqV v u
  | .seq t ds, .seq u es => t == u && eqDs ds es
  | _, _ => false
def eqDs : List D → List D → Bool
  | [], [] => true
  | d :: ds, e :: es => eqD d e && eqDs ds es
  | _, _ => false
end
mutual
def dep : D → Nat
  | .at _ => 0
  | .seq _ ds => deps ds + 1
def deps : List D → Nat
  | [] => 0
  | d :: ds => max (dep d) (deps ds)
end
theorem Reps.len {K : PySem.W.Frag} {H : Hp} : ∀ {ds : List D} {xs : List V}, Reps K H ds xs → ds.length = xs.length
  | [], xs, h => by unfold Reps at h; subst h; rfl
  | d :: ds, xs, h => by
    unfold Reps at h
    obtain ⟨y, ys, rfl, _, h⟩ := h
    rw [List.length_cons, List.length_cons, Reps.len h]
def eAt (ds es : List D) (j : Nat) : Bool := match ds[j]?, es[j]? with
  | some d, some e => eqD d e
  | _, _ => true
theorem eqDs_len : ∀ {ds es : List D}, ds.length ≠ es.length → eqDs ds es = false
  | [], [], h => absurd rfl h
  | [], _ :: _, _ => by unfold eqDs; rfl
  | _ :: _, [], _ => by unfold eqDs; rfl
  | d :: ds, e :: es, h => by
    unfold eqDs
    rw [eqDs_len (ds := ds) (es := es) fun q => h (by rw [List.length_cons, List.length_cons, q]), Bool.and_false]
theorem eqDs_all : ∀ {ds es : List D}, ds.length = es.length → (List.range ds.length).all (eAt ds es) = eqDs ds es
  | [], [], _ => by unfold eqDs; rfl
  | [], _ :: _, h => by simp at h
  | _ :: _, [], h => by simp at h
  | d :: ds, e :: es, h => by
    have ih := eqDs_all (ds := ds) (es := es) (by simpa using h)
    unfold eqDs
    rw [List.length_cons, List.range_succ_eq_map, List.all_cons, List.all_map, ← ih]
    rfl
theorem eqV_refl {v : V} (h : flatV v = true) : eqV v v = true := by
  cases v <;> first | exact absurd (show false = true from h) Bool.false_ne_true | rfl | simp [eqV]
section
variable {X : Cx} {pins : List (Addr × Obj)} {σ : St} {H : Hp} {s : Shared}
theorem not_both {a : Addr} {xs ys : List V} (I : Inv X pins σ H s) (h1 : SqL X.K H a xs) (h2 : SqT X.K H a ys) : False := by
  obtain ⟨its, _, p, _⟩ := I.list h1
  obtain ⟨js, _, q, _⟩ := I.tuple h2
  exact SeqAt.ne_of_list_tuple p.isList q rfl
mutual
/-- the same thing told twice -/
theorem rep_same (I : Inv X pins σ H s) : ∀ (d e : D) (x : V), Rep X.K H d x → Rep X.K H e x → eqD d e = true
  | .at v, .at u, x, h1, h2 => by
    unfold Rep at h1 h2
    obtain ⟨rfl, f⟩ := h1
    obtain ⟨rfl, _⟩ := h2
    unfold eqD
    exact eqV_refl f
  | .at v, .seq t ds, x, h1, h2 => by
    unfold Rep at h1 h2
    obtain ⟨rfl, f⟩ := h1
    obtain ⟨a, xs, rfl, _⟩ := h2
    exact absurd (show false = true from f) Bool.false_ne_true
  | .seq t ds, .at u, x, h1, h2 => by
    unfold Rep at h1 h2
    obtain ⟨rfl, f⟩ := h2
    obtain ⟨a, xs, rfl, _⟩ := h1
    exact absurd (show false = true from f) Bool.false_ne_true
  | .seq t ds, .seq u es, x, h1, h2 => by
    unfold Rep at h1 h2
    obtain ⟨a, xs, rfl, t1, l1, r1⟩ := h1
    obtain ⟨b, ys, e, t2, l2, r2⟩ := h2
    cases e
    unfold eqD
    cases t with
    | true =>
      cases u with
      | true =>
        have e := I.tuple_inj (t1 rfl) (t2 rfl)
        subst e
        rw [reps_same I ds es xs r1 r2]
        rfl
      | false => exact (not_both I (l2 rfl) (t1 rfl)).elim
    | false =>
      cases u with
      | true => exact (not_both I (l1 rfl) (t2 rfl)).elim
      | false =>
        have e := I.list_inj (l1 rfl) (l2 rfl)
        subst e
        rw [reps_same I ds es xs r1 r2]
        rfl
theorem reps_same (I : Inv X pins σ H s) : ∀ (ds es : List D) (xs : List V), Reps X.K H ds xs → Reps X.K H es xs → eqDs ds es = true
  | [], [], _, _, _ => by unfold eqDs; rfl
  | [], e :: es, xs, h1, h2 => by
    unfold Reps at h1 h2
    subst h1
    obtain ⟨_, _, e, _⟩ := h2
    cases e
  | d :: ds, [], xs, h1, h2 => by
    unfold Reps at h1 h2
    subst h2
    obtain ⟨_, _, e, _⟩ := h1
    cases e
  | d :: ds, e :: es, xs, h1, h2 => by
    unfold Reps at h1 h2
    obtain ⟨y, ys, rfl, h1, r1⟩ := h1
    obtain ⟨z, zs, e, h2, r2⟩ := h2
    cases e
    unfold eqDs
    rw [rep_same I d _ y h1 h2, reps_same I ds es ys r1 r2]
    rfl
end
theorem flat_list {A : Around} {v : V} {u : Value} {a : Addr} {its : Array Value} (f : flatV v = true) (r : RelV v u) (p : s.heap.IsList a its) (hu : A.units < cLine) : SeqAt.EqAt A s u (.ref a) false := by
  cases v with
  | non => cases r; exact .none_list p hu
  | bl b => cases r; exact .bool_list b p hu
  | int i => obtain ⟨t, rfl⟩ := r; exact .int_list i t p hu
  | str i => obtain ⟨t, rfl⟩ := r; exact .str_list i t p hu
  | _ => exact absurd (show false = true from f) Bool.false_ne_true
theorem flat_tup {A : Around} {v : V} {u : Value} {a : Addr} {its : Array Value} (f : flatV v = true) (r : RelV v u) (p : s.heap.IsTuple a its) (hu : A.units < cLine) : SeqAt.EqAt A s u (.ref a) false := by
  cases v with
  | non => cases r; exact .none_tuple p hu
  | bl b => cases r; exact .bool_tuple b p hu
  | int i => obtain ⟨t, rfl⟩ := r; exact .int_tuple i t p hu
  | str i => obtain ⟨t, rfl⟩ := r; exact .str_tuple i t p hu
  | _ => exact absurd (show false = true from f) Bool.false_ne_true
theorem list_flat {A : Around} {v : V} {u : Value} {a : Addr} {its : Array Value} (f : flatV v = true) (r : RelV v u) (p : s.heap.IsList a its) (hu : A.units < cLine) : SeqAt.EqAt A s (.ref a) u false := by
  cases v with
  | non => cases r; exact .list_none p hu
  | bl b => cases r; exact .list_bool b p hu
  | int i => obtain ⟨t, rfl⟩ := r; exact .list_int i t p hu
  | str i => obtain ⟨t, rfl⟩ := r; exact .list_str i t p hu
  | _ => exact absurd (show false = true from f) Bool.false_ne_true
theorem tup_flat {A : Around} {v : V} {u : Value} {a : Addr} {its : Array Value} (f : flatV v = true) (r : RelV v u) (p : s.heap.IsTuple a its) (hu : A.units < cLine) : SeqAt.EqAt A s (.ref a) u false := by
  cases v with
  | non => cases r; exact .tuple_none p hu
  | bl b => cases r; exact .tuple_bool b p hu
  | int i => obtain ⟨t, rfl⟩ := r; exact .tuple_int i t p hu
  | str i => obtain ⟨t, rfl⟩ := r; exact .tuple_str i t p hu
  | _ => exact absurd (show false = true from f) Bool.false_ne_true
theorem at_of {A : Around} {its js : List Value} {e : Nat → Bool} (h : ∀ j u v, its[j]? = some u → js[j]? = some v → SeqAt.EqAt A s u v (e j)) : ∀ j (h1 : j < its.toArray.size) (h2 : j < js.toArray.size), SeqAt.EqAt A s its.toArray[j] js.toArray[j] (e j) := fun j h1 h2 => by
  rw [List.size_toArray] at h1 h2
  rw [List.getElem_toArray, List.getElem_toArray]
  exact h j _ _ (List.getElem?_eq_getElem h1) (List.getElem?_eq_getElem h2)
/-- two lists, two tuples, by their items -/
theorem rc_lists {A : Around} {a b : Addr} {xs ys : List V} {ds es : List D} (I : Inv X pins σ H s) (hu : A.units < cLine) (h1 : SqL X.K H a xs) (h2 : SqL X.K H b ys) (r1 : Reps X.K H ds xs) (r2 : Reps X.K H es ys)
    (h : ∀ its js, Vals xs its → Vals ys js → ∀ j u v, its[j]? = some u → js[j]? = some v → SeqAt.EqAt A.in1 s u v (eAt ds es j)) : SeqAt.RcAt A s (.ref a) (.ref b) (eqDs ds es) ∧ SeqAt.RcNeAt A s (.ref a) (.ref b) (!eqDs ds es) := by
  obtain ⟨its, q1, p1, z1⟩ := I.list h1
  obtain ⟨js, q2, p2, z2⟩ := I.list h2
  have l1 := q1.length
  have l2 := q2.length
  have m1 := r1.len
  have m2 := r2.len
  by_cases hl : ds.length = es.length
  · rw [← eqDs_all hl, show ds.length = its.toArray.size by rw [List.size_toArray]; omega]
    have hz : its.toArray.size = js.toArray.size := by rw [List.size_toArray, List.size_toArray]; omega
    exact ⟨SeqAt.RcAt.lists p1.isList p2.isList hz hu (at_of (h its js q1 q2)), SeqAt.RcNeAt.lists p1.isList p2.isList hz hu (at_of (h its js q1 q2))⟩
  · rw [eqDs_len hl]
    have hz : (its.toArray.size != js.toArray.size) = true := by simp only [List.size_toArray, bne_iff_ne, ne_eq]; omega
    exact ⟨SeqAt.RcAt.lists_lengths p1.isList p2.isList hz hu, SeqAt.RcNeAt.lists_lengths p1.isList p2.isList hz hu⟩
theorem rc_tups {A : Around} {a b : Addr} {xs ys : List V} {ds es : List D} (I : Inv X pins σ H s) (hu : A.units < cLine) (h1 : SqT X.K H a xs) (h2 : SqT X.K H b ys) (r1 : Reps X.K H ds xs) (r2 : Reps X.K H es ys)
    (h : ∀ its js, Vals xs its → Vals ys js → ∀ j u v, its[j]? = some u → js[j]? = some v → SeqAt.EqAt A.in1 s u v (eAt ds es j)) : SeqAt.RcAt A s (.ref a) (.ref b) (eqDs ds es) ∧ SeqAt.RcNeAt A s (.ref a) (.ref b) (!eqDs ds es) := by
  obtain ⟨its, q1, p1, z1⟩ := I.tuple h1
  obtain ⟨js, q2, p2, z2⟩ := I.tuple h2
  have l1 := q1.length
  have l2 := q2.length
  have m1 := r1.len
  have m2 := r2.len
  have e : ((List.range (min its.toArray.size js.toArray.size)).all (eAt ds es) && its.toArray.size == js.toArray.size) = eqDs ds es := by
    rw [List.size_toArray, List.size_toArray]
    by_cases hl : ds.length = es.length
    · rw [← eqDs_all hl, show min its.length js.length = ds.length by omega, show its.length = js.length by omega]
      simp
    · rw [eqDs_len hl]
      have : (its.length == js.length) = false := by simp; omega
      rw [this, Bool.and_false]
  rw [← e]
  exact ⟨SeqAt.RcAt.tuples p1 p2 hu (at_of (h its js q1 q2)), SeqAt.RcNeAt.tuples p1 p2 hu (at_of (h its js q1 q2))⟩
mutual
theorem rep_at (I : Inv X pins σ H s) : ∀ (d e : D) (A : Around) (x y : V) (u v : Value), A.units + dep d + dep e < cLine → Rep X.K H d x → Rep X.K H e y → RelV x u → RelV y v → SeqAt.EqAt A s u v (eqD d e)
  | .at a, .at b, A, x, y, u, v, hu, h1, h2, ru, rv => by
    unfold Rep at h1 h2
    obtain ⟨rfl, f⟩ := h1
    obtain ⟨rfl, g⟩ := h2
    unfold eqD
    exact eqAt_V ru rv f g
  | .at a, .seq t es, A, x, y, u, v, hu, h1, h2, ru, rv => by
    unfold Rep at h1 h2
    obtain ⟨rfl, f⟩ := h1
    obtain ⟨b, ys, rfl, t2, l2, _⟩ := h2
    cases rv
    unfold eqD
    cases t with
    | true => obtain ⟨_, _, p, _⟩ := I.tuple (t2 rfl); exact flat_tup f ru p (by omega)
    | false => obtain ⟨_, _, p, _⟩ := I.list (l2 rfl); exact flat_list f ru p.isList (by omega)
  | .seq t ds, .at b, A, x, y, u, v, hu, h1, h2, ru, rv => by
    unfold Rep at h1 h2
    obtain ⟨rfl, f⟩ := h2
    obtain ⟨a, xs, rfl, t1, l1, _⟩ := h1
    cases ru
    unfold eqD
    cases t with
    | true => obtain ⟨_, _, p, _⟩ := I.tuple (t1 rfl); exact tup_flat f rv p (by omega)
    | false => obtain ⟨_, _, p, _⟩ := I.list (l1 rfl); exact list_flat f rv p.isList (by omega)
  | .seq t ds, .seq t' es, A, x, y, u, v, hu, h1, h2, ru, rv => by
    have k1 := h1
    have k2 := h2
    unfold Rep at h1 h2
    obtain ⟨a, xs, rfl, t1, l1, r1⟩ := h1
    obtain ⟨b, ys, rfl, t2, l2, r2⟩ := h2
    cases ru
    cases rv
    unfold dep at hu
    have hu' : A.in1.units + deps ds + deps es < cLine := by rw [Around.in1_units]; omega
    have hu0 : A.units < cLine := by omega
    by_cases hab : a = b
    · subst hab
      rw [rep_same I _ _ _ k1 k2]
      exact .same _
    · unfold eqD
      cases t with
      | true =>
        cases t' with
        | true => exact .of_refs hab (rc_tups I hu0 (t1 rfl) (t2 rfl) r1 r2 (reps_at I ds es A.in1 xs ys hu' r1 r2)).1
        | false =>
          obtain ⟨_, _, p, _⟩ := I.tuple (t1 rfl)
          obtain ⟨_, _, q, _⟩ := I.list (l2 rfl)
          exact .tuple_list p q.isList hu0
      | false =>
        cases t' with
        | true =>
          obtain ⟨_, _, p, _⟩ := I.list (l1 rfl)
          obtain ⟨_, _, q, _⟩ := I.tuple (t2 rfl)
          exact .list_tuple p.isList q hu0
        | false => exact .of_refs hab (rc_lists I hu0 (l1 rfl) (l2 rfl) r1 r2 (reps_at I ds es A.in1 xs ys hu' r1 r2)).1
theorem reps_at (I : Inv X pins σ H s) : ∀ (ds es : List D) (A : Around) (xs ys : List V), A.units + deps ds + deps es < cLine → Reps X.K H ds xs → Reps X.K H es ys →
    ∀ its js, Vals xs its → Vals ys js → ∀ j u v, its[j]? = some u → js[j]? = some v → SeqAt.EqAt A s u v (eAt ds es j)
  | [], es, A, xs, ys, hu, h1, h2, its, js, q1, q2, j, u, v, e1, e2 => by
    unfold Reps at h1
    subst h1
    cases q1
    simp at e1
  | d :: ds, [], A, xs, ys, hu, h1, h2, its, js, q1, q2, j, u, v, e1, e2 => by
    unfold Reps at h2
    subst h2
    cases q2
    simp at e2
  | d :: ds, e :: es, A, xs, ys, hu, h1, h2, its, js, q1, q2, j, u, v, e1, e2 => by
    unfold Reps at h1 h2
    obtain ⟨y, ys', rfl, k1, r1⟩ := h1
    obtain ⟨z, zs', rfl, k2, r2⟩ := h2
    unfold deps at hu
    cases q1 with
    | cons ru t1 =>
      cases q2 with
      | cons rv t2 =>
        cases j with
        | zero =>
          simp only [List.getElem?_cons_zero, Option.some.injEq] at e1 e2
          subst e1 e2
          exact rep_at I d e A y z _ _ (by omega) k1 k2 ru rv
        | succ j =>
          simp only [List.getElem?_cons_succ] at e1 e2
          exact reps_at I ds es A ys' zs' (by omega) r1 r2 _ _ t1 t2 j u v e1 e2
end
end
section
variable {X : Cx}
/-- == and != of two lists or two tuples -/
def rEqD (K : PySem.W.Frag) (neg : Bool) : R2 := fun x y H Q => ∃ t ds es, Rep K H (.seq t ds) x ∧ Rep K H (.seq t es) y ∧ deps ds + deps es ≤ 40 ∧ Q (.bl (if neg then !eqDs ds es else eqDs ds es)) H
theorem op_D {X : Cx} (neg : Bool) (hu : X.A.units + 64 < cLine) : OpR X (compareOp (if neg then .NotEq else .Eq)) (rEqD X.K neg) := by
  intro pins s σ H x y v u Q I rx ry h
  obtain ⟨t, ds, es, h1, h2, hd, q⟩ := h
  unfold Rep at h1 h2
  obtain ⟨a, xs, rfl, t1, l1, r1⟩ := h1
  obtain ⟨b, ys, rfl, t2, l2, r2⟩ := h2
  cases rx
  cases ry
  have hu' : X.A.in1.units + deps ds + deps es < cLine := by rw [Around.in1_units]; omega
  have hu0 : X.A.units < cLine := by omega
  have z : SeqAt.RcAt X.A s (.ref a) (.ref b) (eqDs ds es) ∧ SeqAt.RcNeAt X.A s (.ref a) (.ref b) (!eqDs ds es) := by
    cases t with
    | true => exact rc_tups I hu0 (t1 rfl) (t2 rfl) r1 r2 (reps_at I ds es X.A.in1 xs ys hu' r1 r2)
    | false => exact rc_lists I hu0 (l1 rfl) (l2 rfl) r1 r2 (reps_at I ds es X.A.in1 xs ys hu' r1 r2)
  cases neg with
  | true => exact z.2 X.prog X.w _ _ ⟨.bl (!eqDs ds es), H, I, rfl, q⟩
  | false => exact z.1 X.prog X.w _ _ ⟨.bl (eqDs ds es), H, I, rfl, q⟩
theorem op_neD {K : PySem.W.Frag} (hu : X.A.units + 64 < cLine) (hK : X.K = K := by rfl) : OpR X (compareOp .NotEq) (rEqD K true) := hK ▸ op_D true hu
theorem room_64 {k : Nat} {A : Around} (hr : Room k A) : A.units + 64 < cLine := hr.units
/-! ### xs[lo::k]: some items of the list -/
theorem pick_vals {xs : List V} {its : List Value} (r : Vals xs its) : ∀ l : List Nat, ∃ ys, Vals ys (l.filterMap (its.toArray[·]?)) ∧ ∀ y ∈ ys, y ∈ xs
  | [] => ⟨[], .nil, fun _ h => nomatch h⟩
  | i :: l => by
    obtain ⟨ys, q, m⟩ := pick_vals r l
    rw [List.filterMap_cons, List.getElem?_toArray]
    cases e : xs[i]? with
    | none =>
      rw [r.none_of e]
      exact ⟨ys, q, m⟩
    | some x =>
      obtain ⟨u, hu, ru⟩ := r.get e
      rw [hu]
      refine ⟨x :: ys, .cons ru q, fun y hy => ?_⟩
      rcases List.mem_cons.mp hy with rfl | hy
      · exact List.mem_of_getElem? e
      · exact m y hy
/-- index of a tuple, K told -/
theorem ix_tupK {K : PySem.W.Frag} (h : X.K = K) : IxR X (rIxT K) := h ▸ ix_tup
/-- [.. for y, z in xs] over a list of pairs -/
theorem comp_pairs {K K' : PySem.W.Frag} {a : Addr} {xs : List V} {tc : TT} {te : TE} {σ : St} {ix : List Nat} {QQ : Hp → Prop} {H1 : Hp} {p : Addr} (Pv : Nat → List V → Hp → Prop) (h0 : Pv 0 [] (upd H1 p (.lst [])))
    (hp : ∀ i ys H, i ≤ xs.length → Pv i ys H → H p = some (.lst ys) ∧ ys.length ≤ i ∧ SqL K H a xs) (hn : xs.length ≤ sizeLine)
    (hs : ∀ i x ys H, xs[i]? = some x → Pv i ys H → ∃ t y z, x = .ref t ∧ SqT K' H t [y, z] ∧ tc (some y :: some z :: caps ix σ) H fun b H5 => if b = true then te (some y :: some z :: caps ix σ) H5 fun v H6 => H6 p = some (.lst ys) ∧
      (some y :: some z :: caps ix σ) = (some y :: some z :: caps ix σ) ∧ Pv (i + 1) (ys ++ [v]) (upd H6 p (.lst (ys ++ [v]))) else (some y :: some z :: caps ix σ) = (some y :: some z :: caps ix σ) ∧ Pv (i + 1) ys H5)
    (hd : ∀ ys H, Pv xs.length ys H → QQ H) :
    CompW (gTup K' 2 (gCons (gName 0) (gCons (gName 1) gNil))) tc te 2 ix σ (Itl K a) p H1 QQ := by
  refine ⟨fun i m ys σ2 H2 => m = xs.length - i ∧ i ≤ xs.length ∧ (∃ o o', σ2 = o :: o' :: caps ix σ) ∧ Pv i ys H2, ⟨xs.length, by simp, Nat.zero_le _, ⟨none, none, rfl⟩, h0⟩, ?_⟩
  rintro i m ys σ2 H2 ⟨rfl, hi, ⟨o, o', rfl⟩, pv⟩
  obtain ⟨hp2, hl2, hq2⟩ := hp i ys H2 hi pv
  refine ⟨hp2, ?_⟩
  by_cases hlt : i < xs.length
  · refine .inr ⟨⟨xs, xs[i], hq2, by simp [hlt]⟩, by omega, fun x H3 yy => ?_⟩
    obtain ⟨e, yy⟩ := yy
    subst e
    obtain ⟨t, y, z, ex, ht, q⟩ := hs i x ys _ (yy xs hq2) pv
    subst ex
    refine ⟨fun ys' σ' H' => σ' = (some y :: some z :: caps ix σ) ∧ Pv (i + 1) ys' H', fun ys' σ' H' ⟨e, q⟩ => ⟨xs.length - (i + 1), by omega, rfl, hlt, ⟨_, _, e⟩, q⟩, ?_⟩
    exact ⟨t, _, rfl, ht, rfl, _, _, rfl, _, _, rfl, rfl, q⟩
  · have e : i = xs.length := by omega
    subst e
    exact .inl ⟨⟨xs, hq2, Nat.le_refl _⟩, hd ys H2 pv⟩
end
end L2

namespace L2
open PySem PySem.Spec PyProof.Rows
/-! ### B.m(self, ..): a method called by its class; methods of objects of several classes -/
structure BMeth (K : PySem.W.Frag) (B : Addr) (m : Str) (f : Addr) : Prop where
  ga : PySem.W.specialIn K (.ref B) "__getattribute__" = some (some (.builtin "type.__getattribute__"))
  rd : PySem.W.readsIn K B (.type "type") = true
  fc : PySem.W.findCls K (.ref B) (.type "type") m = some (.val (.ref f))
  kp : PySem.W.keepIn K (.ref f) = true
section
variable {X : Cx} {k : Nat} {m x : Str} {ps : List Str} {sp : Sp} {e : Expr} {es : List Expr} {p apos pos : Pos} {t : TA} {W : St → XK}
theorem getmeth_cls {A : Around} {E : Value → Shared → Prop} {pins : List (Addr × Obj)} {σ : St} {H : Hp} {s : Shared} {B g : Addr} {pl : Sem Bool} {Q : Value × List Value → Shared → Prop} (I : Inv X pins σ H s) (Z : BMeth X.K B m g) (h : Q (.ref g, []) { s with toks := s.toks + 1 }) :
    wpAny (model X.prog X.w) A (getMethod (.ref B) m pl) Q E s := PySem.W.method_cls I.kIn Z.ga (PySem.W.cls_value I.kIn Z.rd Z.fc rfl h)
structure BCal (P : Program) (w : World) (K : PySem.W.Frag) (mg : Str → Option Value) (base : Heap) (k : Nat) (x m : Str) (ps : List Str) (sp : Sp) : Prop where
  ex : ∃ B f fd, FnOk P w K mg base CX0 k f fd ps sp ∧ Binds K fd ps [] ∧ BMeth K B m f ∧ mg x = some (.ref B)
theorem pe_baseC {pl : Sem Bool} (C : BCal X.prog X.w X.K X.mg X.base k x m ps sp) (hr : Room k X.A) (hg : Gl X x) (ha : PA X (e :: es) t) (hdb : (x == ("__debug__" : Str)) = false := by decide)
    (hst : starEach (e :: es) X.env = (false, eval e X.env) :: starEach es X.env := by rfl) (hpl : (backTo pos (starEach es X.env)).any (·.1) = false := by rfl)
    (ht : eval (.Call (.Attribute (.Name x p) m apos) (e :: es) [] pos) X.env = (do
      let ov ← eval (.Name x p) X.env
      standAt apos.atName
      let (f, first) ← holding [ov] (getMethod ov m pl)
      callWith pos f first (backTo pos (starEach (e :: es) X.env)) (backToKw pos (keywordEach [] X.env))) := by rfl) :
    PE X (.Call (.Attribute (.Name x p) m apos) (e :: es) [] pos) (tCall sp [] E0 t) := by
  intro pins s σ H Q I h
  obtain ⟨B, f, fd, F, b, Z, hm⟩ := C.ex
  refine PySem.W.methodCall_KW (pl := pl) (ld_glob I hg hm ?_ hdb) ht
  refine getmeth_cls I Z ?_
  have I' := I.tok (s.toks + 1)
  refine PySem.W.callWith_K (first := []) (h₀ := X.base) I.ok.mod.kin Z.kp (thn (ha pos pins _ σ H _ I' h) fun us s2 ⟨vs, H2, I2, r, q2⟩ => ⟨I2.kIn, ?_⟩) hst hpl
  exact run_fn (us := us) (vs := vs) F hr b .nil pass0 I2 r q2
/-- o.m(..), o of one of several classes -/
def tMethD (Fam : Addr → Prop) (m : Str) (sp : Addr → Sp) (ta : TE) (t : TA) : TE := fun σ H Q => ta σ H fun x H1 => ∃ a C dx fs, x = .ref a ∧ H1 a = some (.ins C dx fs) ∧ Fam C ∧ fs.lookup m = none ∧ t σ H1 fun vs H2 => sp C (.ref a :: vs) H2 Q E0
structure MFam (P : Program) (w : World) (K : PySem.W.Frag) (mg : Str → Option Value) (base : Heap) (k : Nat) (Fam : Addr → Prop) (m : Str) (ps : List Str) (sp : Addr → Sp) : Prop where
  ex : ∀ C, Fam C → MCal P w K mg base k C m ps (sp C)
theorem pe_methD {Fam : Addr → Prop} {spC : Addr → Sp} {o : Expr} {ta : TE} {pl : Sem Bool} (M : MFam X.prog X.w X.K X.mg X.base k Fam m ps spC) (hr : Room k X.A) (he : PE X o ta) (ha : PA X (e :: es) t)
    (hst : starEach (e :: es) X.env = (false, eval e X.env) :: starEach es X.env := by rfl) (hpl : (backTo pos (starEach es X.env)).any (·.1) = false := by rfl)
    (ht : eval (.Call (.Attribute o m apos) (e :: es) [] pos) X.env = (do
      let ov ← eval o X.env
      standAt apos.atName
      let (f, first) ← holding [ov] (getMethod ov m pl)
      callWith pos f first (backTo pos (starEach (e :: es) X.env)) (backToKw pos (keywordEach [] X.env))) := by rfl) :
    PE X (.Call (.Attribute o m apos) (e :: es) [] pos) (tMethD Fam m spC ta t) := by
  intro pins s σ H Q I h
  refine PySem.W.methodCall_KW (pl := pl) (thn (he pins s σ H _ I h) fun u s1 ⟨x, H1, I1, rx, a, C, dx, fs, ex, ea, hF, l, q⟩ => ?_) ht
  subst ex
  obtain rfl : u = Value.ref a := rx
  obtain ⟨f, fd, F, b, hm⟩ := (M.ex C hF).ex
  refine getmeth_ok I1 ea (M.ex C hF).cl hm l ?_
  refine PySem.W.callWith_K (first := [.ref a]) (h₀ := X.base) I.ok.mod.kin hm.kp (thn (ha pos pins s1 σ H1 _ I1 q) fun us s2 ⟨vs, H2, I2, r, q2⟩ => ⟨I2.kIn, ?_⟩) hst hpl
  exact run_fn (us := .ref a :: us) (vs := .ref a :: vs) F hr b .nil pass0 I2 (.cons rfl r) (by rw [List.append_nil]; exact q2)
theorem pe_meth0D {Fam : Addr → Prop} {spC : Addr → Sp} {o : Expr} {ta : TE} {pl : Sem Bool} (M : MFam X.prog X.w X.K X.mg X.base k Fam m ps spC) (hr : Room k X.A) (he : PE X o ta)
    (ht : eval (.Call (.Attribute o m apos) [] [] pos) X.env = (do
      let ov ← eval o X.env
      standAt apos.atName
      let (f, first) ← holding [ov] (getMethod ov m pl)
      callWith pos f first (backTo pos (starEach [] X.env)) (backToKw pos (keywordEach [] X.env))) := by rfl) :
    PE X (.Call (.Attribute o m apos) [] [] pos) (tMethD Fam m spC ta tNil) := by
  intro pins s σ H Q I h
  refine PySem.W.methodCall_KW (pl := pl) (thn (he pins s σ H _ I h) fun u s1 ⟨x, H1, I1, rx, a, C, dx, fs, ex, ea, hF, l, q⟩ => ?_) ht
  subst ex
  obtain rfl : u = Value.ref a := rx
  obtain ⟨f, fd, F, b, hm⟩ := (M.ex C hF).ex
  refine getmeth_ok I1 ea (M.ex C hF).cl hm l ?_
  exact PySem.W.callWith_K0 (first := [.ref a]) I1.kIn hm.kp (run_fn (us := [.ref a]) (vs := [.ref a]) F hr b .nil pass0 I1 (.cons rfl .nil) q)
end
/-! ### a tuple of the module -/
def GTup (K : PySem.W.Frag) (mg : Str → Option Value) (x : Str) (xs : List V) : Prop := ∃ a, mg x = some (.ref a) ∧ ∀ H, SqT K H a xs
theorem pe_gtup {X : Cx} {x : Str} {xs : List V} {pos : Pos} (h : GTup X.K X.mg x xs) (hg : Gl X x) (hd : (x == ("__debug__" : Str)) = false := by decide) : PE X (.Name x pos) (fun _ H Q => ∀ a, SqT X.K H a xs → Q (.ref a) H) := by
  obtain ⟨a, e, hs⟩ := h
  exact fun _ _ _ H _ I q => ld_glob I hg e ⟨.ref a, H, I, rfl, q a (hs H)⟩ hd
/-! ### range(a, b, c), c above nought -/
/-! ### a op1 b op2 c op3 d -/
end L2

namespace L2
open PySem PySem.Spec PyProof.Rows
section
variable {X : Cx}
end
end L2

namespace L2
open PySem PySem.Spec PyProof.Rows
/-! ### C() where there is no __init__ but object's -/
end L2

namespace L2
open PySem PySem.Spec PyProof.Rows
/-! ### x (not) in a tuple of texts, for x of any kind; z.upper() -/
theorem strs_flat : ∀ ss : List Str, (ss.map V.str).all flatV = true
  | [] => rfl
  | _ :: r => by show (true && (r.map V.str).all flatV) = true; rw [strs_flat r]; rfl
end L2

namespace L2
open PySem PySem.Spec PyProof.Rows

/-! ### for .. in reversed(xs), a list that stays -/
end L2

/-! Sorting by a tree of questions: what comes out is in order. -/
namespace CRS
open PySem PySem.W PyProof.Rows
section
variable {lt : Nat → Nat → Bool} {V : Nat → Prop}
end
section
variable {O : KeyOrd} {key : Nat → O.α} {N : Nat}
variable {β : Type}
end
end CRS

namespace L2
open PySem PySem.Spec PyProof.Rows PySem.W

/-! ### sorting lists of tuples of ints -/

section
variable {prog : Program} {w : World} {A : Around} {E : Value → Shared → Prop} {s : Shared}
/-! #### tuples of ints -/
end
section
variable {X : Cx}
end
section
variable {X : Cx}
/-! ### the truth of a list in a test -/
end
end L2

namespace L2
open PySem PySem.Spec PyProof.Rows
/-! ### a def with default arguments, all of its arguments given -/
structure FunD (K : PySem.W.Frag) (x qual : Str) (st : Stmt) (f : Addr) (fd : FuncData) : Prop where
  ex : ∃ (oc : Value) (od : Option Addr) (dV kV doc pm : Value) (an : Option Addr) (cdv ct : Value) (osl : Array (Option Value)),
    fd = PySem.W.fnOf x qual (defArgs st) (defBody st) (defScope st) dV kV doc pm an cdv ct ∧ K.lookup f = some ⟨oc, od, .func fd, osl⟩ ∧ PySem.W.codeIn K cdv qual = true
  kp : PySem.W.keepIn K (.ref f) = true
section
variable {P : Program} {w : World} {K : PySem.W.Frag} {mg : Str → Option Value} {base : Heap}
theorem funD_mk {x qual : Str} {st : Stmt} {f : Addr} {oc : Value} {od an : Option Addr} {osl : Array (Option Value)} {dV kV doc pm cdv ct : Value} (l : K.lookup f = some ⟨oc, od, .func (PySem.W.fnOf x qual (defArgs st) (defBody st) (defScope st) dV kV doc pm an cdv ct), osl⟩)
    (c : PySem.W.codeIn K cdv qual = true) (k : PySem.W.keepIn K (.ref f) = true) : FunD K x qual st f (PySem.W.fnOf x qual (defArgs st) (defBody st) (defScope st) dV kV doc pm an cdv ct) := ⟨⟨oc, od, dV, kV, doc, pm, an, cdv, ct, osl, rfl, l, c⟩, k⟩
end
end L2
namespace L2
open PySem PySem.Spec PyProof.Rows
/-- for i, x in enumerate(xs), a list that the body leaves as it is -/
theorem for_enum {K K' : PySem.W.Frag} {a : Addr} {xs : List V} {i1 i2 : Nat} {tb : TS} {D : Ends} {σ : St} {H : Hp} (Pv : Nat → St → Hp → Prop) (h0 : Pv 0 σ H) (hl : ∀ i σ H, i ≤ xs.length → Pv i σ H → SqL K H a xs)
    (hs : ∀ i x σ H t, xs[i]? = some x → Pv i σ H → H t = none → tb { D with nx := Pv (i + 1), ct := Pv (i + 1), bk := D.nx } ((σ.set i1 (some (.int i))).set i2 (some x)) (upd H t (.tup [.int i, x]))) (hd : ∀ σ H, Pv xs.length σ H → D.nx σ H) :
    ∃ W : Nat → Nat → St → Hp → Prop, (∃ m, W 0 m σ H) ∧ ∀ i m σ H, W i m σ H →
      ((Ite K a).stop i H ∧ D.nx σ H) ∨ ((Ite K a).go i H ∧ ∃ N : St → Hp → Prop, (∀ σ' H', N σ' H' → ∃ m', m' < m ∧ W (i + 1) m' σ' H') ∧ ∀ x H', (Ite K a).yld i H x H' → gTup K' 2 (gCons (gName i1) (gCons (gName i2) gNil)) x σ H' fun σ2 H2 => tb { D with nx := N, ct := N, bk := D.nx } σ2 H2) := by
  refine ⟨fun i m σ H => m = xs.length - i ∧ i ≤ xs.length ∧ Pv i σ H, ⟨xs.length, by simp, Nat.zero_le _, h0⟩, ?_⟩
  rintro i m σ H ⟨rfl, hi, p⟩
  have q := hl i σ H hi p
  by_cases hlt : i < xs.length
  · refine .inr ⟨⟨xs, xs[i], q, by simp [hlt]⟩, Pv (i + 1), fun σ' H' p' => ⟨xs.length - (i + 1), by omega, rfl, hlt, p'⟩, fun x H' y => ?_⟩
    obtain ⟨t, z, ex, ht, hz, e3⟩ := y
    subst ex e3
    exact ⟨t, _, rfl, SqT.of upd_same, rfl, _, _, rfl, _, _, rfl, rfl, hs i z σ H t (hz xs q) p ht⟩
  · obtain rfl : i = xs.length := by omega
    exact .inl ⟨⟨xs, q, Nat.le_refl _⟩, hd σ H p⟩
end L2

namespace L2
open PySem PySem.Spec PyProof.Rows

/-! ### zip(xs, ys), its pairs unpacked by the target -/
def Itz (K : PySem.W.Frag) (a b : Addr) : It :=
  ⟨fun i H => ∃ xs ys x y, SqL K H a xs ∧ SqL K H b ys ∧ xs[i]? = some x ∧ ys[i]? = some y,
   fun i H v H' => ∃ t x y, v = .ref t ∧ H t = none ∧ (∀ xs, SqL K H a xs → xs[i]? = some x) ∧ (∀ ys, SqL K H b ys → ys[i]? = some y) ∧ H' = upd H t (.tup [x, y]),
   fun i H => ∃ xs ys, SqL K H a xs ∧ SqL K H b ys ∧ (xs.length ≤ i ∨ ys.length ≤ i)⟩
/-- the objects of a zip lie apart -/
structure Zp (z u o i j : Addr) : Prop where
  uz : u ≠ z
  oz : o ≠ z
  iz : i ≠ z
  jz : j ≠ z
  uo : u ≠ o
  ui : u ≠ i
  uj : u ≠ j
  oi : o ≠ i
  oj : o ≠ j
  ij : i ≠ j
def ZipSt (a b z u o i j : Addr) (k : Nat) (h : Heap) : Prop := IsZip h z u o .none ∧ IsPair h u (.ref i) (.ref j) ∧ (∃ x y, IsPair h o x y) ∧ h.IsListIter i a k ∧ h.IsListIter j b k
theorem zip_apart {a b z u o i j : Addr} {k : Nat} {h : Heap} {xs ys : Array Value} (D : Zp z u o i j) (st : ZipSt a b z u o i j k h) (ha : h.IsList a xs) (hb : h.IsList b ys) : ZipApart z u o i j a b := by
  obtain ⟨hz, hu, ⟨x, y, ho⟩, ⟨oi, ei, ci, _⟩, ⟨oj, ej, cj, _⟩⟩ := st
  have ne : ∀ {c d : Addr} {p q : Obj} {zs : Array Value}, h.IsList c zs → h.get? d = some q → q.cls ≠ .type "list" → c ≠ d := fun {c d p q zs} hl hd hn e => by
    obtain ⟨p', hp, hc, _⟩ := hl
    rw [e, hd] at hp
    cases hp
    exact hn hc
  have nz : (Value.type "zip") ≠ .type "list" := by decide +kernel
  have nt : (Value.type "tuple") ≠ .type "list" := by decide +kernel
  have ni : (Value.type "list_iterator") ≠ .type "list" := by decide +kernel
  have hci : oi.cls ≠ .type "list" := by rw [ci]; exact ni
  have hcj : oj.cls ≠ .type "list" := by rw [cj]; exact ni
  constructor <;> first
    | exact D.uz | exact D.oz | exact D.iz | exact D.jz | exact D.uo | exact D.ui | exact D.uj | exact D.oi | exact D.oj | exact D.ij
    | exact ne (p := oi) ha hz nz | exact ne (p := oi) hb hz nz | exact ne (p := oi) ha ho nt | exact ne (p := oi) hb ho nt | exact ne (p := oi) ha hu nt | exact ne (p := oi) hb hu nt
    | exact ne (p := oi) ha ei hci | exact ne (p := oi) hb ei hci | exact ne (p := oi) ha ej hcj | exact ne (p := oi) hb ej hcj
theorem turn_zip {P : Program} {w : World} {K : PySem.W.Frag} {elts : List Expr} {n : Nat} {tp : Pos} (a b z u o i j : Addr) (D : Zp z u o i j) :
    Turn P w K (.Tuple elts n tp) (Itz K a b) [z, u, o, i, j] z (ZipSt a b z u o i j) where
  mem := by simp
  obj := fun k h st c hc => by
    obtain ⟨hz, hu, ⟨x, y, ho⟩, ⟨oi, ei, ci, di⟩, ⟨oj, ej, cj, dj⟩⟩ := st
    simp only [List.mem_cons, List.not_mem_nil, or_false] at hc
    rcases hc with rfl | rfl | rfl | rfl | rfl
    · exact ⟨_, hz, fun v q => by
        have q' : Data.fields _ = Data.cell v := q
        cases q'⟩
    · exact ⟨_, hu, fun v q => by
        have q' : Data.seq _ _ = Data.cell v := q
        cases q'⟩
    · exact ⟨_, ho, fun v q => by
        have q' : Data.seq _ _ = Data.cell v := q
        cases q'⟩
    · exact ⟨oi, ei, fun v q => by rw [di] at q; cases q⟩
    · exact ⟨oj, ej, fun v q => by rw [dj] at q; cases q⟩
  keep := fun k h h' st kk => by
    obtain ⟨hz, hu, ⟨x, y, ho⟩, h1, h2⟩ := st
    exact ⟨kk z (by simp) _ hz, kk u (by simp) _ hu, ⟨x, y, kk o (by simp) _ ho⟩, h1.at fun ob e => kk i (by simp) ob e, h2.at fun ob e => kk j (by simp) ob e⟩
  item := by
    intro X hP hw hK hc k pins s σ H E I hf st hg
    subst hP hw hK
    obtain ⟨xs, ys, x, y, hq1, hq2, hx, hy⟩ := hg
    obtain ⟨its, rv, p, hz⟩ := I.list hq1
    obtain ⟨jts, rv', p', hz'⟩ := I.list hq2
    obtain ⟨v, hv, ru⟩ := rv.get hx
    obtain ⟨v', hv', ru'⟩ := rv'.get hy
    have DD := zip_apart D st p.isList p'.isList
    obtain ⟨sz, su, ⟨x0, y0, so⟩, s1, s2⟩ := id st
    have fz := hf z (by simp)
    have fu := hf u (by simp)
    have fo := hf o (by simp)
    have fi := hf i (by simp)
    have fj := hf j (by simp)
    refine wpAny_pyNext_zip_item DD sz su so s1 s2 p.isList p'.isList (x := v) (y := v') (by simpa using hv) (by simpa using hv') fun h1 a1 a2 a3 a4 a5 a6 hk => ⟨_, rfl, ?_⟩
    refine wpAny_letOwnedTupleGo_zip a1 fun h2 hz2 hs2 => ?_
    have hs2' : Heap.SameBut z h1 h2 := hs2
    have hzlt : z < s.heap.objs.size := Heap.lt_size sz
    have hnT : H s.heap.objs.size = none := I.hok.fresh (Nat.le_refl _)
    have up : ∀ c ob, c ≠ z → c ≠ o → c ≠ i → c ≠ j → s.heap.get? c = some ob → h2.get? c = some ob := fun c ob c1 c2 c3 c4 q => (hs2'.2 c c1).trans (hk c ob c1 c2 c3 c4 q)
    have nch : ∀ c, c ∉ [z, o, i, j] → c ≠ z ∧ c ≠ o ∧ c ≠ i ∧ c ≠ j := fun c hc => by
      simp only [List.mem_cons, List.not_mem_nil, or_false, not_or] at hc
      exact hc
    have ntr : ∀ c ob, H c = some ob → c ≠ z ∧ c ≠ o ∧ c ≠ i ∧ c ≠ j := fun c ob q =>
      ⟨fun e => by (rw [e, fz.1] at q; cases q), fun e => by (rw [e, fo.1] at q; cases q), fun e => by (rw [e, fi.1] at q; cases q), fun e => by (rw [e, fj.1] at q; cases q)⟩
    have up2 : ∀ c ob, c ∉ [z, o, i, j] → s.heap.get? c = some ob → h2.get? c = some ob := fun c ob hc q => up c ob (nch c hc).1 (nch c hc).2.1 (nch c hc).2.2.1 (nch c hc).2.2.2 q
    have up3 : ∀ c ob ob', H c = some ob' → s.heap.get? c = some ob → h2.get? c = some ob := fun c ob ob' hc q => up c ob (ntr c ob' hc).1 (ntr c ob' hc).2.1 (ntr c ob' hc).2.2.1 (ntr c ob' hc).2.2.2 q
    have htup : h2.get? s.heap.objs.size = some { cls := .type "tuple", data := .seq #[v, v'] } := (hs2'.2 _ (Nat.ne_of_gt hzlt)).trans a5
    have I1 : Inv X pins σ (upd H s.heap.objs.size (.tup [x, y])) { s with heap := h2, gens := s.gens, drawn := s.drawn, toks := s.toks } := by
      refine I.step (ch := [z, o, i, j]) (fun c hc => ?_) (fun c ob _ _ hc q _ => up2 c ob hc q) (fun c ob _ _ hc q _ => ⟨ob.slots, up2 c ob hc q⟩) (fun c ob _ q n => by rw [upd_ne (Nat.ne_of_lt (Heap.lt_size q))]; exact n)
        (fun c ob hc q => ⟨ob, up2 c ob hc q⟩) (fun c xs q => by rw [upd_ne (ne_of_none q hnT)]; exact q) (fun c ob u q => by rw [upd_ne (ne_of_none q hnT)]; exact q) (fun c ps q => ⟨#[], by rw [upd_ne (ne_of_none q hnT), q]; simp⟩)
        (fun m hm => ?_) (fun c ob q => ?_) I.bare
      · simp only [List.mem_cons, List.not_mem_nil, or_false] at hc
        rcases hc with rfl | rfl | rfl | rfl
        · exact ⟨fz.2.2.2.1, fz.2.1, fz.2.2.2.2.1, fz.2.2.2.2.2⟩
        · exact ⟨fo.2.2.2.1, fo.2.1, fo.2.2.2.2.1, fo.2.2.2.2.2⟩
        · exact ⟨fi.2.2.2.1, fi.2.1, fi.2.2.2.2.1, fi.2.2.2.2.2⟩
        · exact ⟨fj.2.2.2.1, fj.2.1, fj.2.2.2.2.1, fj.2.2.2.2.2⟩
      · obtain ⟨ob, es, ep, hoL, r⟩ := hm
        exact ⟨ob, es, ep, up _ ob (Ne.symm fz.2.1) (Ne.symm fo.2.1) (Ne.symm fi.2.1) (Ne.symm fj.2.1) hoL, r⟩
      · by_cases hb : c = s.heap.objs.size
        · subst hb
          rw [upd_same] at q
          cases q
          exact ⟨le_line (by show 2 ≤ 1000; decide), [v, v'], .cons ru (.cons ru' .nil), _, htup, rfl, _, rfl⟩
        · rw [upd_ne hb] at q
          refine (I.hok c ob q).stay (fun d w' hd q2 => ?_) (fun d q2 => by rw [upd_ne (ne_of_none q2 hnT)]; exact q2) (fun d zs q2 => by rw [upd_ne (ne_of_none q2 hnT)]; exact q2)
          rcases hd with rfl | hd
          · exact up3 _ w' _ q q2
          · exact up3 _ w' _ hd q2
    refine ⟨.ref s.heap.objs.size, _, I1, rfl, ⟨_, x, y, rfl, hnT, fun zs hy' => by rw [I.list_inj hy' hq1]; exact hx, fun zs hy' => by rw [I.list_inj hy' hq2]; exact hy, rfl⟩, ⟨hz2, ?_, ⟨v, v', ?_⟩, ?_, ?_⟩, fun c hc => ?_⟩
    · exact (hs2'.2 u D.uz).trans (hk u _ D.uz D.uo D.ui D.uj su)
    · exact (hs2'.2 o D.oz).trans a2
    · exact a3.at fun ob q => (hs2'.2 i D.iz).trans q
    · exact a4.at fun ob q => (hs2'.2 j D.jz).trans q
    · have hl : c < s.heap.objs.size := by
        simp only [List.mem_cons, List.not_mem_nil, or_false] at hc
        rcases hc with rfl | rfl | rfl | rfl | rfl
        · exact Heap.lt_size sz
        · exact Heap.lt_size su
        · exact Heap.lt_size so
        · obtain ⟨_, q, _⟩ := s1; exact Heap.lt_size q
        · obtain ⟨_, q, _⟩ := s2; exact Heap.lt_size q
      rw [upd_ne (Nat.ne_of_lt hl)]
      exact (hf c hc).1
  done := by
    intro X hP hw hK hc k pins s σ H E I hf st hg
    subst hP hw hK
    obtain ⟨xs, ys, hq1, hq2, hle⟩ := hg
    obtain ⟨its, rv, p, hz⟩ := I.list hq1
    obtain ⟨jts, rv', p', hz'⟩ := I.list hq2
    have DD := zip_apart D st p.isList p'.isList
    obtain ⟨sz, su, ⟨x0, y0, so⟩, s1, s2⟩ := id st
    have fz := hf z (by simp)
    have fo := hf o (by simp)
    have fi := hf i (by simp)
    have fj := hf j (by simp)
    have hl := rv.length
    have hl' := rv'.length
    refine wpAny_pyNext_zip_end (I.ok.hd hc) DD sz su so s1 s2 p.isList p'.isList ?_ fun h' hk => ⟨rfl, ?_⟩
    · rcases hle with e | e
      · exact .inl (by simp; omega)
      · exact .inr (by simp; omega)
    · have nch : ∀ c, c ∉ [z, o, i, j] → c ≠ z ∧ c ≠ o ∧ c ≠ i ∧ c ≠ j := fun c hc => by
        simp only [List.mem_cons, List.not_mem_nil, or_false, not_or] at hc
        exact hc
      have ntr : ∀ c ob, H c = some ob → c ≠ z ∧ c ≠ o ∧ c ≠ i ∧ c ≠ j := fun c ob q =>
        ⟨fun e => by (rw [e, fz.1] at q; cases q), fun e => by (rw [e, fo.1] at q; cases q), fun e => by (rw [e, fi.1] at q; cases q), fun e => by (rw [e, fj.1] at q; cases q)⟩
      have up2 : ∀ c ob, c ∉ [z, o, i, j] → s.heap.get? c = some ob → h'.get? c = some ob := fun c ob hc q => hk c ob (nch c hc).1 (nch c hc).2.1 (nch c hc).2.2.1 (nch c hc).2.2.2 q
      have up3 : ∀ c ob ob', H c = some ob' → s.heap.get? c = some ob → h'.get? c = some ob := fun c ob ob' hc q => hk c ob (ntr c ob' hc).1 (ntr c ob' hc).2.1 (ntr c ob' hc).2.2.1 (ntr c ob' hc).2.2.2 q
      refine I.step (H' := H) (ch := [z, o, i, j]) (fun c hc => ?_) (fun c ob _ _ hc q _ => up2 c ob hc q) (fun c ob _ _ hc q _ => ⟨ob.slots, up2 c ob hc q⟩) (fun c ob _ q n => n)
        (fun c ob hc q => ⟨ob, up2 c ob hc q⟩) (fun c xs q => q) (fun c ob u q => q) (fun c ps q => ⟨#[], by rw [q]; simp⟩)
        (fun m hm => ?_) (fun c ob q => ?_) I.bare
      · simp only [List.mem_cons, List.not_mem_nil, or_false] at hc
        rcases hc with rfl | rfl | rfl | rfl
        · exact ⟨fz.2.2.2.1, fz.2.1, fz.2.2.2.2.1, fz.2.2.2.2.2⟩
        · exact ⟨fo.2.2.2.1, fo.2.1, fo.2.2.2.2.1, fo.2.2.2.2.2⟩
        · exact ⟨fi.2.2.2.1, fi.2.1, fi.2.2.2.2.1, fi.2.2.2.2.2⟩
        · exact ⟨fj.2.2.2.1, fj.2.1, fj.2.2.2.2.1, fj.2.2.2.2.2⟩
      · obtain ⟨ob, es, ep, hoL, r⟩ := hm
        exact ⟨ob, es, ep, hk _ ob (Ne.symm fz.2.1) (Ne.symm fo.2.1) (Ne.symm fi.2.1) (Ne.symm fj.2.1) hoL, r⟩
      · refine (I.hok c ob q).stay (fun d w' hd q2 => ?_) (fun d q2 => q2) (fun d zs q2 => q2)
        rcases hd with rfl | hd
        · exact up3 _ w' _ q q2
        · exact up3 _ w' _ hd q2
  self := fun _ _ _ _ _ st h => wpAny_pyIter_zip st.1 h
end L2

namespace L2
open PySem PySem.Spec PyProof.Rows
/-! ### a text told several times -/
/-! ### a class whose __init__ has defaults, some of its arguments given -/
structure KCalD (P : Program) (w : World) (K : PySem.W.Frag) (mg : Str → Option Value) (base : Heap) (k : Nat) (x : Str) (C : Addr) (ps : List Str) (dvs : List V) (sp : Sp) : Prop where
  ex : ∃ f fd ds, Mk K C f ∧ FnOk P w K mg base CX0 k f fd ps sp ∧ Binds K fd ps ds ∧ Vals dvs ds ∧ mg x = some (.ref C)
theorem pe_makeD {X : Cx} {k : Nat} {x : Str} {C : Addr} {ps : List Str} {dvs : List V} {sp : Sp} {e : Expr} {es : List Expr} {p pos : Pos} {t : TA} (M : KCalD X.prog X.w X.K X.mg X.base k x C ps dvs sp) (hr : Room (k + 1) X.A) (hg : Gl X x) (ha : PA X (e :: es) t)
    (hdb : (x == ("__debug__" : Str)) = false := by decide) (he : starEach (e :: es) X.env = (false, eval e X.env) :: starEach es X.env := by rfl) (hpl : (backTo pos (starEach es X.env)).any (·.1) = false := by rfl) :
    PE X (.Call (.Name x p) (e :: es) [] pos) (tMake C sp dvs E0 t) := by
  obtain ⟨f, fd, ds, mk, F, b, hd, hm⟩ := M.ex
  exact pe_make mk F hr hg hm b hd pass0 ha hdb he hpl
end L2

namespace L2
open PySem PySem.Spec PyProof.Rows
/-! ### raising while an exception is handled -/
section
variable {prog : Program} {w : World} {A : Around} {E : Value → Shared → Prop} {s : Shared}
end
/-! ### contexts in which something may be handled -/
section
variable {X : Cx} {pins : List (Addr × Obj)} {σ : St} {H : Hp} {s : Shared}
end
end L2

namespace L2
open PySem PySem.Spec PyProof.Rows
/-! ### defs that may be called whether or not an exception is handled; they may walk texts, and raise -/
section
variable {P : Program} {w : World} {K : PySem.W.Frag} {mg : Str → Option Value} {base : Heap} {N ps : List Str} {qual : Str} {scope : Scope} {f : Addr} {cd : Value} {A : Around} {outer : List Env} {s0 : Shared} {H0 : Hp} {E : XK} {k : Nat} {sp : Sp} {x : Str} {st : Stmt} {fd : FuncData}
end
section
variable {X : Cx} {k : Nat} {f : Addr} {fd : FuncData} {ps : List Str} {sp : Sp} {x : Str} {p pos : Pos} {e : Expr} {es : List Expr} {t : TA} {W : St → XK}
end
/-! ### raise C(..), whatever is handled -/
section
variable {prog : Program} {w : World} {A : Around} {E : Value → Shared → Prop} {env : Env}
variable {nm q : Str} {C N : Addr} {bs bm bmB : List Value} {hdct : Bool} {sn : List Str} {sub : List Value} {ab : Bool} {col : Option Bool} {dd : Option Addr} {k0 k1 k2 k3 k5 : Option Value} {B newId initId : String}
end
/-! ### try, one clause: the suite may call what raises -/
section
variable {X : Cx} {x n : Str} {Ch : Addr} {i : Nat} {body suite : List Stmt} {b₀ : Stmt} {tb : (St → XK) → TS} {ts : TS} {np hpos pos : Pos} {pins : List (Addr × Obj)} {σ : St} {H : Hp} {s : Shared} {e : Addr} {oe : Obj}
end
end L2

namespace L2
open PySem PySem.Spec PyProof.Rows PySem.W

/-! ### an untracked thing of ours is tracked -/
section
variable {X : Cx} {pins : List (Addr × Obj)} {σ : St} {H H' : Hp} {s : Shared}
end

/-! ### a call of a lambda -/

/-! ### a lambda is made -/
section
variable {X : Cx} {pins : List (Addr × Obj)} {σ : St} {H : Hp} {s : Shared}
end

/-! ### sorted with a key -/
section
variable {prog : Program} {w : World} {A : Around} {E : Value → Shared → Prop} {s : Shared}
end
section
variable {X : Cx} {pins : List (Addr × Obj)} {σ : St} {H : Hp} {s : Shared}
end
end L2

namespace L2
open PySem PySem.Spec PyProof.Rows PySem.W

/-! ### xs.insert(i, y) -/
section
variable {X : Cx}
theorem vals_ins {y : V} {u : Value} (ry : RelV y u) : ∀ {xs : List V} {its : List Value} (k : Nat), Vals xs its → Vals (xs.take k ++ y :: xs.drop k) (its.take k ++ u :: its.drop k) := fun k r => (r.take k).append (.cons ry (r.drop k))
def rIns : V → List V → Hp → VK → Prop := fun x vs H Q => ∃ (l : Addr) (xs : List V) (k : Nat) (y : V), x = .ref l ∧ vs = [.int k, y] ∧ H l = some (.lst xs) ∧ k ≤ xs.length ∧ xs.length < 1000 ∧ Q .non (upd H l (.lst (xs.take k ++ y :: xs.drop k)))
theorem mt_insert : MtM X "list.insert" rIns := by
  intro pins s σ H x vs v us Q I rx rv h
  obtain ⟨l, xs, k, y, rfl, rfl, hH, hk, hz, q⟩ := h
  cases rx
  cases rv with
  | cons ri rr =>
    obtain ⟨t, rfl⟩ := ri
    obtain ⟨u, rfl, ru⟩ := vals1 rr
    obtain ⟨z, its, n, r, hl, e⟩ := I.lstM hH
    obtain ⟨x, hx⟩ : ∃ x : Int, x = (k : Int) := ⟨_, rfl⟩
    rw [← hx]
    have hf : Builtin.List.listFitsIndex x = true := fitsIndex_both (by omega) (by omega)
    have hm := AutoSeq1.list_insert_list_int_val_1 l its.toArray n x t u (by rw [hf]; exact Bool.false_ne_true) (by rw [List.size_toArray]; omega)
    refine call_meets F.slot_list_insert ⟨_, e, rfl⟩ F.entry_list_insert (F.args_list_insert_3 _ _ _) hm ⟨e, ?_⟩
    refine ⟨.non, _, I.lset (its' := its.take k ++ u :: its.drop k) hH e ?_ (vals_ins ru k r) ?_, rfl, q⟩
    · show (its.toArray.extract 0 (if x < 0 then (x + (its.toArray.size : Int)).toNat else min x.toNat its.toArray.size)).push u ++ its.toArray.extract (if x < 0 then (x + (its.toArray.size : Int)).toNat else min x.toNat its.toArray.size) = _
      rw [if_neg (by omega), List.size_toArray, hx, Int.toNat_natCast, Nat.min_eq_left (by omega)]
      exact kl_ins_eq its k u
    · rw [List.length_append, List.length_cons, List.length_take, List.length_drop, sizeLine_eq]
      omega
end

/-! ### x not in a list of things of things -/

/-! ### the head, where a code's table may grow -/
end L2

namespace CRL
open PySem L2
/-! ### tuples stay -/
def Tst (H H' : Hp) : Prop := ∀ t xs, H t = some (.tup xs) → H' t = some (.tup xs)
theorem tst_same {H H' : Hp} (s : Same H H') : Tst H H' := fun t xs h => s t _ h
theorem tst_lst {H : Hp} {l : Addr} {xs : List V} (h : H l = some (.lst xs)) (o : HO) : Tst H (upd H l o) := fun t zs z => by
  rw [upd_ne (ne_of z h (by intro e; cases e))]
  exact z
/-! ### rows that wait -/
abbrev Tr := Int × Int × Int
/-! ### their order -/
/-! ### triples -/
def dTr (p : Tr) : D := .seq true [.at (.int p.1), .at (.int p.2.1), .at (.int p.2.2)]
theorem dTr_dep : ∀ ps : List Tr, deps (ps.map dTr) ≤ 1
  | [] => by rw [List.map_nil]; unfold deps; omega
  | p :: ps => by
    rw [List.map_cons]
    unfold deps
    have := dTr_dep ps
    have e : dep (dTr p) = 1 := by
      unfold dTr dep deps deps deps deps dep
      rfl
    omega
/-! ### lists of one's own, apart from one another -/
/-! ### the lambda's code -/
/-! ### the rows' keeper -/
end CRL

namespace L2
open PySem PySem.Spec PyProof.Rows PySem.W
/-! ### promises put together -/
section
variable {P : Program} {w : World} {K : PySem.W.Frag} {mg : Str → Option Value} {base : Heap} {k : Nat} {f : Addr} {fd : FuncData} {ps : List Str} {sp sp1 sp2 : Sp}
theorem FnOk.toX {CX : CXT} (F : FnOk P w K mg base CX0 k f fd ps sp) : FnOk P w K mg base CX k f fd ps sp :=
  ⟨F.len, fun A outer s H args us vs Q E hr e b r h => codeAny_mono (F.run A outer s H args us vs Q E hr e b r h) fun q s' hq => by
    cases q with
    | error v => exact False.elim hq
    | ok fl => cases fl <;> exact hq⟩
/-- one that may raise, where it doesn't -/
theorem FnOk.ofX (F : FnOk P w K mg base (CX1 P w) k f fd ps sp) : FnOk P w K mg base CX0 k f fd ps (fun vs H Q _ => sp vs H Q E0) :=
  ⟨fun vs H Q _ h => F.len vs H Q E0 h, fun A outer s H args us vs Q E hr e b r h => codeAny_mono (F.run A outer s H args us vs Q E0 hr e b r h) fun q s' hq => by
    cases q with
    | error v =>
      obtain ⟨_, _, _, _, _, _, _, _, _, _, _, z⟩ := (show CX1 P w _ _ _ _ _ _ from hq)
      exact z
    | ok fl => cases fl <;> exact hq⟩
theorem FnOk.or {CX : CXT} (F : FnOk P w K mg base CX k f fd ps sp1) (G : FnOk P w K mg base CX k f fd ps sp2) : FnOk P w K mg base CX k f fd ps (fun vs H Q E => sp1 vs H Q E ∨ sp2 vs H Q E) :=
  ⟨fun vs H Q E h => h.elim (F.len vs H Q E) (G.len vs H Q E), fun A outer s H args us vs Q E hr e b r h => h.elim (F.run A outer s H args us vs Q E hr e b r) (G.run A outer s H args us vs Q E hr e b r)⟩
theorem FunD.okX {x qual : Str} {st : Stmt} {N : List Str} (F : FunD K x qual st f fd) (S : FnScope N ps (defScope st)) (len : ∀ vs H Q E, sp vs H Q E → vs.length = ps.length)
    (hbody : ∀ (cdv : Value) (A : Around) (outer : List Env) (s : Shared) (H : Hp) (vs : List V) (Q : VK) (E : XK), Room k (A.deeper (envOfC qual (defScope st) s.heap.objs.size f cdv)) → sp vs H Q E →
      ∃ t, PSs (cxOf (CX1 P w) P w K mg base N qual (defScope st) f cdv A outer s H E) (defBody st) t ∧ t { nx := fun _ H' => Q .non H', rt := Q } (start N vs) H) : FnOk P w K mg base (CX1 P w) (k + 1) f fd ps sp := by
  obtain ⟨oc, od, dV, kV, doc, pm, an, cdv, ct, osl, e, lk, hcd⟩ := F.ex
  subst e
  exact fn_of lk hcd S len fun A outer s H vs Q E hr hsp => hbody cdv A outer s H vs Q E hr hsp
end
/-! ### a class whose __init__ has defaults and may raise -/
structure KCalDX (P : Program) (w : World) (K : PySem.W.Frag) (mg : Str → Option Value) (base : Heap) (k : Nat) (x : Str) (C : Addr) (ps : List Str) (dvs : List V) (sp : Sp) : Prop where
  ex : ∃ f fd ds, Mk K C f ∧ FnOk P w K mg base (CX1 P w) k f fd ps sp ∧ Binds K fd ps ds ∧ Vals dvs ds ∧ mg x = some (.ref C)
def tMakeDX (C : Addr) (sp : Sp) (dvs : List V) (W : St → XK) (t : TA) : TE := fun σ H Q => t σ H fun vs H1 => ∀ x dx, H1 x = none → H1 dx = none → dx ≠ x →
  sp (.ref x :: (vs ++ dvs)) (upd (upd H1 dx (.own x)) x (.ins C dx [])) (fun v H2 => v = .non ∧ Q (.ref x) H2) (W σ)
section
variable {X : Cx} {k : Nat} {f C : Addr} {fd : FuncData} {ps : List Str} {sp : Sp} {x : Str} {p pos : Pos} {e : Expr} {es : List Expr} {t : TA} {W : St → XK} {dvs : List V} {ds : List Value}
theorem run_makeDX {pins : List (Addr × Obj)} {σ : St} {H : Hp} {s : Shared} {Q : VK} {us : List Value} {vs : List V} (M : Mk X.K C f) (F : FnOk X.prog X.w X.K X.mg X.base (CX1 X.prog X.w) k f fd ps sp) (hr : Room (k + 1) X.A) (hb : Binds X.K fd ps ds) (hd : Vals dvs ds)
    (hW : Wish X W) (I : Inv X pins σ H s) (r : Vals vs us)
    (h : ∀ x dx, H x = none → H dx = none → dx ≠ x → sp (.ref x :: (vs ++ dvs)) (upd (upd H dx (.own x)) x (.ins C dx [])) (fun v H2 => v = .non ∧ Q (.ref x) H2) (W σ)) :
    wpAny (model X.prog X.w) X.A (call (.ref C) us) (EP X pins σ Q) X.xe s := by
  have hq := h (s.heap.objs.size + 1) s.heap.objs.size (I.hok.fresh (Nat.le_succ _)) (I.hok.fresh (Nat.le_refl _)) (Nat.ne_of_lt (Nat.lt_succ_self _))
  have I2 := Inv.made (C := C) I
  have r2 : Vals (V.ref (s.heap.objs.size + 1) :: (vs ++ dvs)) (Value.ref (s.heap.objs.size + 1) :: us ++ ds) := .cons rfl (r.append hd)
  have hl : (Value.ref (s.heap.objs.size + 1) :: us ++ ds).length = ps.length := by
    rw [← r2.length]
    exact F.len _ _ _ _ hq
  have b := hb _ (Value.ref (s.heap.objs.size + 1) :: us) I2.kIn hl
  refine wpAny_call (make_map (f := f) I.kIn M.makes M.init (beq_iff_eq.mp M.fn) (codeAny_mono (F.run _ X.stack _ _ ⟨Value.ref (s.heap.objs.size + 1) :: us, []⟩ (Value.ref (s.heap.objs.size + 1) :: us ++ ds) _ _ (W σ) (hr.make C us [])
    (I2.env0.make C us []) b r2 hq) fun r s' hq' => ?_))
  cases r with
  | error v => exact hW.pass I2 hq'
  | ok fl =>
    cases fl with
    | ret u =>
      obtain ⟨v, H', I3, rv, ev, q3⟩ := I2.after hq'
      subst ev
      exact ⟨rv, ⟨V.ref (s.heap.objs.size + 1), H', I3, rfl, q3⟩⟩
    | next => exact False.elim hq'
    | brk => exact False.elim hq'
    | cont => exact False.elim hq'
theorem pe_makeDX (M : KCalDX X.prog X.w X.K X.mg X.base k x C ps dvs sp) (hr : Room (k + 1) X.A) (hW : Wish X W) (hg : Gl X x) (ha : PA X (e :: es) t)
    (hdb : (x == ("__debug__" : Str)) = false := by decide) (he : starEach (e :: es) X.env = (false, eval e X.env) :: starEach es X.env := by rfl) (hpl : (backTo pos (starEach es X.env)).any (·.1) = false := by rfl) :
    PE X (.Call (.Name x p) (e :: es) [] pos) (tMakeDX C sp dvs W t) := by
  intro pins s σ H Q I h
  obtain ⟨f, fd, ds, mk, F, b, hd, hm⟩ := M.ex
  refine wpAny_Call_Name_kw (ld_glob I hg hm ?_ hdb)
  refine PySem.W.callWith_K (h₀ := X.base) I.ok.mod.kin mk.kp (thn (ha pos pins s σ H _ I h) fun us s1 ⟨vs, H1, I1, r, q⟩ => ⟨I1.kIn, ?_⟩) he hpl
  exact run_makeDX mk F hr b hd hW I1 r q
end
/-! ### xs.index(y), y is there -/
def rIndex (K : PySem.W.Frag) : V → List V → Hp → VK → Prop := fun x vs H Q => ∃ (l : Addr) (xs : List V) (y : V) (j : Nat), x = .ref l ∧ vs = [y] ∧ SqL K H l xs ∧ flatV y = true ∧ xs.all flatV = true ∧ xs.length ≤ 1000 ∧ (∃ z, xs[j]? = some z ∧ eqV z y = true) ∧
  (∀ m z, m < j → xs[m]? = some z → eqV z y = false) ∧ Q (.int (j : Int)) H
theorem mt_index {X : Cx} : MtM X "list.index" (rIndex X.K) := by
  intro pins s σ H x vs v us Q I rx rv h
  obtain ⟨l, xs, y, j, rfl, rfl, hH, fy, fx, l3, ⟨z, hz, ez⟩, no, q⟩ := h
  cases rx
  obtain ⟨u, rfl, ru⟩ := rv.one
  obtain ⟨its, r, p, _⟩ := I.list hH
  obtain ⟨⟨cls, dd, data, sl⟩, ho, hc, n, hd⟩ := p.isList
  simp only at hc hd
  subst hc hd
  have lr := r.length
  have hj : j < xs.length := (List.getElem?_eq_some_iff.mp hz).1
  have at_ : ∀ (m : Nat) (hm : m < its.length), ∃ z, xs[m]? = some z ∧ eqU y its[m] = eqV z y := fun m hm => by
    have e1 : xs[m]? = some (xs[m]'(by omega)) := List.getElem?_eq_getElem (by omega)
    obtain ⟨u', hu', ru'⟩ := r.get e1
    have eu : its[m] = u' := (List.getElem?_eq_some_iff.mp hu').2
    exact ⟨_, e1, by rw [eu]; exact eqU_of ru' (List.all_eq_true.mp fx _ (List.getElem_mem _))⟩
  refine call_meets F.slot_list_index ⟨_, ho, rfl⟩ F.entry_list_index (F.args_list_index_2 _ _) (SeqAt.list_indexAt l its.toArray n dd sl u (eqU y) j (by rw [List.size_toArray]; omega) (by omega) ?_ ?_) ⟨ho, ?_, ?_⟩
  · obtain ⟨z', e1, e2⟩ := at_ j (by omega)
    rw [hz] at e1
    cases e1
    show eqU y its[j] = true
    rw [e2]
    exact ez
  · intro m hm hlt
    rw [List.size_toArray] at hm
    obtain ⟨z', e1, e2⟩ := at_ m hm
    show eqU y its[m] = false
    rw [e2]
    exact no m z' hlt e1
  · intro z hz'
    exact mem_eqAt ru fy r fx z (by simpa using hz')
  · exact ⟨.int _, H, I.tok _, ⟨s.toks, rfl⟩, q⟩
theorem mt_indexK {X : Cx} {K : PySem.W.Frag} (h : X.K = K) : MtM X "list.index" (rIndex K) := h ▸ mt_index
theorem op_in_K {X : Cx} {K : PySem.W.Frag} (hK : X.K = K := by rfl) : OpR X (compareOp .In) (rIn K false) := hK ▸ op_in_seq
theorem op_eqLK {X : Cx} {K : PySem.W.Frag} (hu : X.A.units < cLine) (hK : X.K = K := by rfl) : OpR X (compareOp .Eq) (rEqL K false) := hK ▸ op_eqL hu
/-! ### != of two lists of lists, each with the very same items -/
def AlikeL (K : PySem.W.Frag) (H : Hp) : List V → List V → Prop
  | [], [] => True
  | x :: xs, y :: ys => (∃ a b zs, x = .ref a ∧ y = .ref b ∧ SqL K H a zs ∧ SqL K H b zs ∧ zs.all okV = true) ∧ AlikeL K H xs ys
  | _, _ => False
theorem AlikeL.len {K : PySem.W.Frag} {H : Hp} : ∀ {xs ys : List V}, AlikeL K H xs ys → xs.length = ys.length
  | [], [], _ => rfl
  | [], _ :: _, h => h.elim
  | _ :: _, [], h => h.elim
  | _ :: _, _ :: _, h => by rw [List.length_cons, List.length_cons, AlikeL.len h.2]
theorem AlikeL.get {K : PySem.W.Frag} {H : Hp} : ∀ {xs ys : List V} {j : Nat} {x y : V}, AlikeL K H xs ys → xs[j]? = some x → ys[j]? = some y → ∃ a b zs, x = .ref a ∧ y = .ref b ∧ SqL K H a zs ∧ SqL K H b zs ∧ zs.all okV = true
  | [], [], _, _, _, _, e, _ => by simp at e
  | [], _ :: _, _, _, _, h, _, _ => h.elim
  | _ :: _, [], _, _, _, h, _, _ => h.elim
  | x :: xs, y :: ys, 0, x', y', h, e1, e2 => by
    simp at e1 e2
    subst e1 e2
    exact h.1
  | x :: xs, y :: ys, j + 1, x', y', h, e1, e2 => AlikeL.get (j := j) h.2 (by simpa using e1) (by simpa using e2)
theorem op_neSS {X : Cx} {K : PySem.W.Frag} (hu : X.A.units + 64 < cLine) (hK : X.K = K := by rfl) : OpR X (compareOp .NotEq) (fun x y H Q => ∃ a b xs ys, x = .ref a ∧ y = .ref b ∧ SqL K H a xs ∧ SqL K H b ys ∧ AlikeL K H xs ys ∧ Q (.bl false) H) := by
  subst hK
  intro pins s σ H x y v u Q I rx ry h
  obtain ⟨a, b, xs, ys, rfl, rfl, h1, h2, al, q⟩ := h
  cases rx
  cases ry
  obtain ⟨its, r1, p1, z1⟩ := I.list h1
  obtain ⟨js, r2, p2, z2⟩ := I.list h2
  have l1 := r1.length
  have l2 := r2.length
  have l3 := al.len
  refine (SeqAt.RcNeAt.lists (e := fun _ => true) p1.isList p2.isList (by rw [List.size_toArray, List.size_toArray]; omega) (by omega) ?_ : SeqAt.RcNeAt X.A s _ _ _) X.prog X.w _ _ ?_
  · refine at_of (e := fun _ => true) fun j u v e1 e2 => ?_
    have lj : j < its.length := (List.getElem?_eq_some_iff.mp e1).1
    have x1 : xs[j]? = some (xs[j]'(by omega)) := List.getElem?_eq_getElem (by omega)
    have x2 : ys[j]? = some (ys[j]'(by omega)) := List.getElem?_eq_getElem (by omega)
    obtain ⟨u', hu', ru⟩ := r1.get x1
    obtain ⟨v', hv', rv⟩ := r2.get x2
    rw [e1] at hu'
    rw [e2] at hv'
    cases hu'
    cases hv'
    obtain ⟨c, d, zs, ex, ey, s1, s2, ok⟩ := al.get x1 x2
    rw [ex] at ru
    rw [ey] at rv
    cases ru
    cases rv
    by_cases hcd : c = d
    · subst hcd
      exact .same _
    · obtain ⟨ks, q1, m1, _⟩ := I.list s1
      obtain ⟨ms, q2, m2, _⟩ := I.list s2
      have k1 := q1.length
      have k2 := q2.length
      have rc : SeqAt.RcAt X.A.in1 s (.ref c) (.ref d) ((List.range ks.toArray.size).all fun _ => true) := SeqAt.RcAt.lists (e := fun _ => true) m1.isList m2.isList (by rw [List.size_toArray, List.size_toArray]; omega) (by rw [Around.in1_units]; omega) (same_at q1 q2 ok)
      rw [show ((List.range ks.toArray.size).all fun _ => true) = true by simp] at rc
      exact .of_refs hcd rc
  · refine ⟨.bl false, H, I, ?_, q⟩
    show Value.bool _ = Value.bool _
    simp
end L2

/-! runs of whole numbers, without the program -/
namespace CR
/-! ### from lo on and below hi -/
/-! ### the lowest -/
/-! ### those that are none of others -/
end CR

/-! the turns, as plain functions over lists of ints -/
namespace CR
def at0 (l : List Int) (k : Int) : Int := l.getD k.toNat 0
structure GW (ws : List Int) : Prop where
  lo : 1 ≤ ws.length
  hi : ws.length ≤ 8
  pos : ∀ w ∈ ws, 1 ≤ w
  sum : ws.sum ≤ 100
def may (ws ds : List Int) (t k : Int) : Bool := decide (at0 ds k * ws.sum < at0 ws k * (t + 1))
def due (ws ds : List Int) (k : Int) : Int := ((at0 ds k + 1) * ws.sum + at0 ws k - 1) / at0 ws k
/-- the places among the first n that may have the turn t -/
def placesTo (ws ds : List Int) (t : Int) (n : Nat) : List Int := ((List.range n).map fun k : Nat => (k : Int)).filter fun k => may ws ds t k
def places (ws ds : List Int) (t : Int) : List Int := placesTo ws ds t ws.length
def pick (f : Int → Int) (b : Int) (l : List Int) : Int := l.foldl (fun b p => if f p < f b then p else b) b
def place (ws ds : List Int) (t : Int) : Int := pick (due ws ds) ((places ws ds t).headD 0) (places ws ds t)
def put (ds : List Int) (p : Int) : List Int := ds.set p.toNat (at0 ds p + 1)
/-- behind the first t turns: what each place has, the turns -/
def run (ws : List Int) : Nat → List Int × List Int
  | 0 => (List.replicate ws.length 0, [])
  | t + 1 => (put (run ws t).1 (place ws (run ws t).1 t), (run ws t).2 ++ [place ws (run ws t).1 t])
def wheel (ws : List Int) : List Int := (run ws ws.sum.toNat).2

theorem placesTo_succ (ws ds : List Int) (t : Int) (n : Nat) : placesTo ws ds t (n + 1) = placesTo ws ds t n ++ (if may ws ds t n = true then [(n : Int)] else []) := by
  unfold placesTo
  rw [List.range_succ, List.map_append, List.filter_append]
  congr 1
  by_cases h : may ws ds t n = true
  · simp [h]
  · simp [h]
theorem placesTo_le (ws ds : List Int) (t : Int) (n : Nat) : (placesTo ws ds t n).length ≤ n := by
  unfold placesTo
  refine Nat.le_trans (List.length_filter_le _ _) ?_
  rw [List.length_map, List.length_range]
  exact Nat.le_refl _
theorem placesTo_mem {ws ds : List Int} {t : Int} {n : Nat} {k : Int} (h : k ∈ placesTo ws ds t n) : 0 ≤ k ∧ k < n ∧ may ws ds t k = true := by
  unfold placesTo at h
  obtain ⟨h1, h2⟩ := List.mem_filter.mp h
  obtain ⟨j, hj, rfl⟩ := List.mem_map.mp h1
  have := List.mem_range.mp hj
  exact ⟨by omega, by omega, h2⟩
theorem pick_mem (f : Int → Int) : ∀ (l : List Int) (b : Int), pick f b l = b ∨ pick f b l ∈ l
  | [], b => .inl rfl
  | p :: l, b => by
    show pick f (if f p < f b then p else b) l = b ∨ pick f (if f p < f b then p else b) l ∈ p :: l
    rcases pick_mem f l (if f p < f b then p else b) with h | h
    · rw [h]
      split
      · exact .inr List.mem_cons_self
      · exact .inl rfl
    · exact .inr (List.mem_cons_of_mem _ h)
theorem place_mem {ws ds : List Int} {t : Int} (h : places ws ds t ≠ []) : place ws ds t ∈ places ws ds t := by
  unfold place
  rcases pick_mem (due ws ds) (places ws ds t) ((places ws ds t).headD 0) with e | e
  · rw [e]
    cases q : places ws ds t with
    | nil => exact absurd q h
    | cons p l => exact List.mem_cons_self
  · exact e
/-- the sums: if no place may have the turn, all have too much -/
theorem sum_le : ∀ (ws ds : List Int) (T c : Int), ds.length = ws.length → (∀ k : Nat, k < ws.length → ws.getD k 0 * c ≤ ds.getD k 0 * T) → ws.sum * c ≤ ds.sum * T
  | [], [], _, _, _, _ => by simp
  | [], _ :: _, _, _, h, _ => by simp at h
  | _ :: _, [], _, _, h, _ => by simp at h
  | w :: ws, d :: ds, T, c, h, hk => by
    have ih := sum_le ws ds T c (by simpa using h) fun k hk' => by simpa using hk (k + 1) (by simpa using hk')
    have h0 := hk 0 (by simp)
    simp only [List.sum_cons, List.getD_cons_zero] at *
    rw [Int.add_mul, Int.add_mul]
    omega
theorem sum_pos {ws : List Int} (g : GW ws) : 1 ≤ ws.sum := by
  have aux : ∀ l : List Int, (∀ w ∈ l, 1 ≤ w) → (l.length : Int) ≤ l.sum := by
    intro l
    induction l with
    | nil => intro _; simp
    | cons w l ih =>
      intro h
      have h1 := h w List.mem_cons_self
      have h2 := ih fun x hx => h x (List.mem_cons_of_mem _ hx)
      rw [List.sum_cons, List.length_cons]
      omega
  have := aux ws g.pos
  have := g.lo
  omega
theorem places_ne {ws ds : List Int} {t : Nat} (g : GW ws) (hl : ds.length = ws.length) (hs : ds.sum = t) : places ws ds t ≠ [] := by
  intro h
  have key : ∀ k : Nat, k < ws.length → ws.getD k 0 * ((t : Int) + 1) ≤ ds.getD k 0 * ws.sum := fun k hk => by
    by_cases c : ds.getD k 0 * ws.sum < ws.getD k 0 * ((t : Int) + 1)
    · have m : (k : Int) ∈ places ws ds t := by
        unfold places placesTo
        refine List.mem_filter.mpr ⟨List.mem_map.mpr ⟨k, List.mem_range.mpr hk, rfl⟩, ?_⟩
        unfold may at0
        simpa using c
      rw [h] at m
      cases m
    · omega
  have q := sum_le ws ds ws.sum ((t : Int) + 1) hl key
  rw [hs] at q
  have p := sum_pos g
  have e : ws.sum * ((t : Int) + 1) = (t : Int) * ws.sum + ws.sum := by rw [Int.mul_add, Int.mul_comm, Int.mul_one]
  omega
theorem put_length (ds : List Int) (p : Int) : (put ds p).length = ds.length := by unfold put; rw [List.length_set]
theorem sum_set : ∀ (ds : List Int) (k : Nat) (x : Int), k < ds.length → (ds.set k x).sum = ds.sum - ds.getD k 0 + x
  | [], _, _, h => by simp at h
  | d :: ds, 0, x, _ => by simp only [List.set_cons_zero, List.sum_cons, List.getD_cons_zero]; omega
  | d :: ds, k + 1, x, h => by
    have ih := sum_set ds k x (by simpa using h)
    simp only [List.set_cons_succ, List.sum_cons, List.getD_cons_succ, ih]; omega
theorem put_sum {ds : List Int} {p : Int} (h0 : 0 ≤ p) (h : p < ds.length) : (put ds p).sum = ds.sum + 1 := by
  unfold put at0
  rw [sum_set ds p.toNat _ (by omega)]
  omega
theorem sum_replicate (n : Nat) : (List.replicate n (0 : Int)).sum = 0 := by
  induction n with
  | zero => rfl
  | succ n ih => rw [List.replicate_succ, List.sum_cons, ih]; rfl
/-- what stands behind the first t turns -/
structure At (ws : List Int) (t : Nat) : Prop where
  len : (run ws t).1.length = ws.length
  sum : (run ws t).1.sum = t
  row : (run ws t).2.length = t
  inr : ∀ p ∈ (run ws t).2, 0 ≤ p ∧ p < ws.length
theorem place_in {ws ds : List Int} {t : Nat} (g : GW ws) (hl : ds.length = ws.length) (hs : ds.sum = t) : 0 ≤ place ws ds t ∧ place ws ds t < ws.length ∧ may ws ds t (place ws ds t) = true :=
  placesTo_mem (place_mem (places_ne g hl hs))
theorem run_at {ws : List Int} (g : GW ws) : ∀ t : Nat, At ws t
  | 0 => ⟨by simp [run], by show (List.replicate _ 0).sum = _; rw [sum_replicate]; rfl, rfl, fun _ h => by cases h⟩
  | t + 1 => by
    have a := run_at g t
    obtain ⟨h0, h1, _⟩ := place_in (t := t) g a.len a.sum
    refine ⟨?_, ?_, ?_, fun p hp => ?_⟩
    · show (put _ _).length = _
      rw [put_length, a.len]
    · show (put _ _).sum = _
      rw [put_sum h0 (by rw [a.len]; exact h1), a.sum]
      omega
    · show (_ ++ [_]).length = _
      rw [List.length_append, a.row]
      rfl
    · rcases List.mem_append.mp hp with h | h
      · exact a.inr p h
      · rw [List.mem_singleton.mp h]
        exact ⟨h0, h1⟩
end CR

namespace CR
section
variable {ws : List Int}
theorem wheel_len (g : GW ws) : (wheel ws).length = ws.sum.toNat := (run_at g _).row
end
end CR

namespace CR
section
variable {ws : List Int}
/-- what the first n cents come to -/
def cnt (ws : List Int) (n : Int) : List Int := (List.range ws.length).map fun k : Nat => n / ws.sum * at0 ws k + (((wheel ws).take (n % ws.sum).toNat).count (k : Int) : Nat)
end
end CR

namespace CR
section
variable {ws : List Int}
end
end CR

namespace CR
section
variable {ws : List Int}
end
end CR

namespace CRL
open PySem L2
def top (i : Nat) : Stmt := PySem.Challenge.pw_coverroll_k38_no_covers.main.body.getD i (.Pass ⟨0, 0, 0, 0⟩)
abbrev s_is_whole : Stmt := top 9
abbrev s_show_cents : Stmt := top 10
abbrev s_has_letters_alone : Stmt := top 18
abbrev s_is_name : Stmt := top 19
abbrev s_is_amount : Stmt := top 20
abbrev s_are_weights : Stmt := top 24
abbrev s_may_have : Stmt := top 25
abbrev s_due_by : Stmt := top 26
abbrev s_place_of_turn : Stmt := top 27
abbrev s_turns : Stmt := top 28
abbrev s_Deal___init__ : Stmt := inClass (top 29) 0
abbrev s_Deal_counts_to : Stmt := inClass (top 29) 2
abbrev s_check_houses : Stmt := top 33
abbrev s_Cover___init__ : Stmt := inClass (top 34) 0
abbrev s_Cover_asks : Stmt := inClass (top 34) 1
abbrev s_checked_amount : Stmt := top 37
abbrev s_Clause___init__ : Stmt := inClass (top 38) 0
abbrev s_Own___init__ : Stmt := inClass (top 39) 0
abbrev s_Own_words : Stmt := inClass (top 39) 2
abbrev s_CauseIs___init__ : Stmt := inClass (top 42) 0
abbrev s_CauseIs_holds : Stmt := inClass (top 42) 1
abbrev s_CauseIs_words : Stmt := inClass (top 42) 2
abbrev s_ThingIs___init__ : Stmt := inClass (top 43) 0
abbrev s_ThingIs_holds : Stmt := inClass (top 43) 1
abbrev s_ThingIs_words : Stmt := inClass (top 43) 2
abbrev s_Over___init__ : Stmt := inClass (top 44) 0
abbrev s_Over_holds : Stmt := inClass (top 44) 1
abbrev s_Over_words : Stmt := inClass (top 44) 2
abbrev s__law_cell : Stmt := top 46
abbrev s__law_names : Stmt := top 47
abbrev s__law_houses : Stmt := top 48
abbrev s__law_refused : Stmt := top 49
abbrev s__law_bad_pairs : Stmt := top 50
abbrev s__law_kept : Stmt := top 51
abbrev s__law_asks : Stmt := top 52
abbrev s_law : Stmt := top 53
/-- what the text's own names stand for -/
structure Txt (K : PySem.W.Frag) (mg : Str → Option Value) : Prop where
  g_CAUSE : GInt mg "CAUSE" 4
  g_CENTS : GInt mg "CENTS" 5
  g_COVERED_ONE : GStr mg "COVERED_ONE" "self"
  g_LETTERS : GStr mg "LETTERS" "abcdefghijklmnopqrstuvwxyz"
  g_LONGEST_NAME : GInt mg "LONGEST_NAME" 8
  g_MOST_CENTS : GInt mg "MOST_CENTS" 999999999999
  g_MOST_CLAUSES : GInt mg "MOST_CLAUSES" 8
  g_MOST_PLACES : GInt mg "MOST_PLACES" 8
  g_MOST_TURNS : GInt mg "MOST_TURNS" 100
  g_THING : GInt mg "THING" 3
  n_ValueError : mg "ValueError" = none
  n_bool : mg "bool" = none
  n_enumerate : mg "enumerate" = none
  n_int : mg "int" = none
  n_isinstance : mg "isinstance" = none
  n_len : mg "len" = none
  n_list : mg "list" = none
  n_min : mg "min" = none
  n_range : mg "range" = none
  n_str : mg "str" = none
  n_sum : mg "sum" = none
  t_WAYS : GTup K mg "WAYS" [.str "event", .str "thing", .str "year", .str "loss"]
/-- the text's own error classes -/
structure Xc (K : PySem.W.Frag) (mg : Str → Option Value) (C_CoverError C_NoShares C_NoEntry C_NoClause C_NoCover C_NoBook : Addr) : Prop where
  a_CoverError : mg "CoverError" = some (.ref C_CoverError)
  a_NoShares : mg "NoShares" = some (.ref C_NoShares)
  a_NoEntry : mg "NoEntry" = some (.ref C_NoEntry)
  a_NoClause : mg "NoClause" = some (.ref C_NoClause)
  a_NoCover : mg "NoCover" = some (.ref C_NoCover)
  a_NoBook : mg "NoBook" = some (.ref C_NoBook)
  x_NoCover : XCls K "NoCover" mg C_NoCover
  e_NoCover : XK1 K C_NoCover
  v_NoCover : PySem.W.kitOne K (.ref C_NoCover) (.type "ValueError") = some true
  k_NoCover_CoverError : PySem.W.kitOne K (.ref C_NoCover) (.ref C_CoverError) = some true
  k_NoCover_NoShares : PySem.W.kitOne K (.ref C_NoCover) (.ref C_NoShares) = some false
  k_NoCover_NoEntry : PySem.W.kitOne K (.ref C_NoCover) (.ref C_NoEntry) = some false
  k_NoCover_NoClause : PySem.W.kitOne K (.ref C_NoCover) (.ref C_NoClause) = some false
  k_NoCover_NoCover : PySem.W.kitOne K (.ref C_NoCover) (.ref C_NoCover) = some true
  k_NoCover_NoBook : PySem.W.kitOne K (.ref C_NoCover) (.ref C_NoBook) = some false
  h_NoCover_CoverError : PySem.W.exmOne K (.ref C_NoCover) (.ref C_CoverError) = some true
  x_NoShares : XCls K "NoShares" mg C_NoShares
  e_NoShares : XK1 K C_NoShares
  v_NoShares : PySem.W.kitOne K (.ref C_NoShares) (.type "ValueError") = some true
  k_NoShares_CoverError : PySem.W.kitOne K (.ref C_NoShares) (.ref C_CoverError) = some true
  k_NoShares_NoShares : PySem.W.kitOne K (.ref C_NoShares) (.ref C_NoShares) = some true
  k_NoShares_NoEntry : PySem.W.kitOne K (.ref C_NoShares) (.ref C_NoEntry) = some false
  k_NoShares_NoClause : PySem.W.kitOne K (.ref C_NoShares) (.ref C_NoClause) = some false
  k_NoShares_NoCover : PySem.W.kitOne K (.ref C_NoShares) (.ref C_NoCover) = some false
  k_NoShares_NoBook : PySem.W.kitOne K (.ref C_NoShares) (.ref C_NoBook) = some false
  h_NoShares_CoverError : PySem.W.exmOne K (.ref C_NoShares) (.ref C_CoverError) = some true
/-- the text's own classes -/
structure Kl (K : PySem.W.Frag) (mg : Str → Option Value) (C_Own C_CauseIs C_ThingIs C_Over C_Clause C_Deal C_Cover : Addr) : Prop where
  mg_Own : mg "Own" = some (.ref C_Own)
  cl_Own : Cls K C_Own
  na_Own_cents : NoAttr K C_Own "cents"
  na_Own_by : NoAttr K C_Own "by"
  mg_CauseIs : mg "CauseIs" = some (.ref C_CauseIs)
  cl_CauseIs : Cls K C_CauseIs
  na_CauseIs_name : NoAttr K C_CauseIs "name"
  mg_ThingIs : mg "ThingIs" = some (.ref C_ThingIs)
  cl_ThingIs : Cls K C_ThingIs
  na_ThingIs_name : NoAttr K C_ThingIs "name"
  mg_Over : mg "Over" = some (.ref C_Over)
  cl_Over : Cls K C_Over
  na_Over_cents : NoAttr K C_Over "cents"
  mg_Clause : mg "Clause" = some (.ref C_Clause)
  cl_Clause : Cls K C_Clause
  na_Clause_by : NoAttr K C_Clause "by"
  mg_Deal : mg "Deal" = some (.ref C_Deal)
  cl_Deal : Cls K C_Deal
  na_Deal_wheel : NoAttr K C_Deal "wheel"
  na_Deal_weights : NoAttr K C_Deal "weights"
  ty_Deal : ∀ {H : Hp} {a dx : Addr} {fs : List (Str × V)}, H a = some (.ins C_Deal dx fs) → TyOf K H (.ref a) (.ref C_Deal)
  mg_Cover : mg "Cover" = some (.ref C_Cover)
  cl_Cover : Cls K C_Cover
  na_Cover_name : NoAttr K C_Cover "name"
  na_Cover_condition : NoAttr K C_Cover "condition"
  na_Cover_clauses : NoAttr K C_Cover "clauses"
  na_Cover_houses : NoAttr K C_Cover "houses"
  na_Cover_deal : NoAttr K C_Cover "deal"
  na_Cover_waits : NoAttr K C_Cover "waits"
  kt_Deal_Deal : PySem.W.kitOne K (.ref C_Deal) (.ref C_Deal) = some true
  nd : ([C_Own, C_CauseIs, C_ThingIs, C_Over, C_Clause, C_Deal, C_Cover] : List Addr).Nodup
/-! ### tests that are known -/
theorem dT {c A B : Prop} [Decidable c] (h : c) (q : A) : if decide c = true then A else B := by rw [decide_eq_true h, if_pos rfl]; exact q
theorem dF {c A B : Prop} [Decidable c] (h : ¬ c) (q : B) : if decide c = true then A else B := by rw [decide_eq_false h, if_neg Bool.false_ne_true]; exact q
theorem nT {c A B : Prop} [Decidable c] (h : ¬ c) (q : A) : if (!decide c) = true then A else B := by rw [decide_eq_false h]; exact q
theorem nF {c A B : Prop} [Decidable c] (h : c) (q : B) : if (!decide c) = true then A else B := by rw [decide_eq_true h]; exact q
theorem bF {c : Bool} {A B : Prop} (h : c = false) (q : B) : if c = true then A else B := by rw [if_neg (by rw [h]; exact Bool.false_ne_true)]; exact q
/-- an int and no bool -/
def wholeV : V → Bool
  | .int _ => true
  | _ => false
theorem whole_kit {K : PySem.W.Frag} {H : Hp} {x : V} {T : String} (h : TyOf K H x (.type T)) : ∃ b1 b2, PySem.W.kitOne K (.type T) (.type "int") = some b1 ∧ PySem.W.kitOne K (.type T) (.type "bool") = some b2 ∧ wholeV x = (b1 && !b2) := by
  cases h with
  | non => exact ⟨false, false, by kernel_rfl, by kernel_rfl, rfl⟩
  | bl b => exact ⟨true, true, by kernel_rfl, by kernel_rfl, rfl⟩
  | int i => exact ⟨true, false, by kernel_rfl, by kernel_rfl, rfl⟩
  | str i => exact ⟨false, false, by kernel_rfl, by kernel_rfl, rfl⟩
  | flt i => exact ⟨false, false, by kernel_rfl, by kernel_rfl, rfl⟩
  | lst e => exact ⟨false, false, by kernel_rfl, by kernel_rfl, rfl⟩
  | frz e => exact ⟨false, false, by kernel_rfl, by kernel_rfl, rfl⟩
  | tup e => exact ⟨false, false, by kernel_rfl, by kernel_rfl, rfl⟩
  | dK e => exact ⟨false, false, by kernel_rfl, by kernel_rfl, rfl⟩
  | dT e => exact ⟨false, false, by kernel_rfl, by kernel_rfl, rfl⟩
theorem kit_ll {K : PySem.W.Frag} : PySem.W.kitOne K (.type "list") (.type "list") = some true := by kernel_rfl
/-! ### promises -/
def spWhole (K : PySem.W.Frag) : Sp := fun vs H Q _ => ∃ x T, vs = [x] ∧ TyOf K H x (.type T) ∧ Q (.bl (wholeV x)) H


def spCell (K : PySem.W.Frag) : Sp := fun vs H Q _ => ∃ a ns, ∃ k : Int, vs = [.ref a, .int k] ∧ SqL K H a (List.map V.int ns) ∧ 0 ≤ k ∧ ns.length ≤ 63 ∧ Q (.int (ns.getD k.toNat 0)) H
section
variable {P : Program} {w : World} {K : PySem.W.Frag} {mg : Str → Option Value} {base : Heap}
theorem sc__law_cell : FnScope ["_law_script", "_law_k"] ["_law_script", "_law_k"] (defScope s__law_cell) := ⟨rfl, rfl, rfl, by decide +kernel, rfl, by decide +kernel, by decide +kernel⟩
theorem ok__law_cell {f : Addr} {fd : FuncData} (F : Fun K "_law_cell" "_law_cell" s__law_cell f fd) (T : Txt K mg) : FnOk P w K mg base CX0 1 f fd ["_law_script", "_law_k"] (spCell K) := by
  have sc := sc__law_cell
  refine F.ok sc (fun vs H Q E h => ?_) (fun cdv A outer s H vs Q E hr h => ?_)
  · obtain ⟨_, _, _, rfl, _⟩ := h
    rfl
  obtain ⟨a, ns, k, rfl, ha, h0, h63, q⟩ := h
  refine ⟨_, (pss_cons (ps_if (pt_cmpR op_lt (pv 1) (pe_callB call_len_seq rfl T.n_len (show bootBuiltins _ = some (.builtin "len") from rfl) (pa_cons (pv 0) pa_nil)) (nomark _))
        (pss_one (ps_ret (pe_ix ix_list (pv 0) (pv 1) (fun _ _ => rfl))))
        pss_nil)
      (pss_one (ps_ret pe_int))), ?_⟩
  have hl : (List.map V.int ns).length = ns.length := List.length_map _
  refine ⟨_, rfl, _, rfl, a, _, rfl, .inl ha, _, _, rfl, rfl, _, rfl, ?_⟩
  rw [hl]
  refine ite2 (fun c => ?_) (fun c => ?_)
  · have c' : k < (ns.length : Int) := of_decide_eq_true c
    exact ⟨_, rfl, _, rfl, a, _, _, _, rfl, rfl, ha, at_intI h0 c', q⟩
  · have c' : ¬ k < (ns.length : Int) := of_decide_eq_false (Bool.eq_false_iff.mpr c)
    have e : ns.getD k.toNat 0 = 0 := by
      rw [List.getD_eq_getElem?_getD, List.getElem?_eq_none (by omega)]
      rfl
    rw [e] at q
    exact q
end


/-! ### names -/
def letter (c : Nat) : Prop := 97 ≤ c ∧ c ≤ 122
instance : DecidablePred letter := fun c => by unfold letter; exact inferInstance
def AllLet (l : List Nat) : Prop := ∀ c ∈ l, letter c
instance (l : List Nat) : Decidable (AllLet l) := by unfold AllLet; exact inferInstance
def NameL (l : List Nat) : Prop := (1 ≤ l.length ∧ l.length ≤ 8) ∧ AllLet l
instance (l : List Nat) : Decidable (NameL l) := by unfold NameL; exact inferInstance
theorem let_in {c : Nat} : (c ∈ (Str.ofString "abcdefghijklmnopqrstuvwxyz").cps.toList) ↔ letter c := by
  have e : (Str.ofString "abcdefghijklmnopqrstuvwxyz").cps.toList = (List.range 26).map (97 + ·) := by decide +kernel
  rw [e, List.mem_map]
  unfold letter
  constructor
  · rintro ⟨k, hk, rfl⟩
    have := List.mem_range.mp hk
    omega
  · intro h
    exact ⟨c - 97, List.mem_range.mpr (by omega), by omega⟩
def isStrV : V → Bool
  | .str _ => true
  | _ => false
def nameV : V → Bool
  | .str z => decide (NameL z.cps.toList)
  | _ => false
def okX (x : V) : Prop := ∀ z, x = .str z → z.length ≤ 900
theorem str_kit {K : PySem.W.Frag} {H : Hp} {x : V} {T : String} (h : TyOf K H x (.type T)) : PySem.W.kitOne K (.type T) (.type "str") = some (isStrV x) := by
  cases h with
  | non => kernel_rfl
  | bl b => kernel_rfl
  | int i => kernel_rfl
  | str i => kernel_rfl
  | flt i => kernel_rfl
  | lst e => kernel_rfl
  | frz e => kernel_rfl
  | tup e => kernel_rfl
  | dK e => kernel_rfl
  | dT e => kernel_rfl
def spLet : Sp := fun vs H Q _ => ∃ l, vs = [.str (tx l)] ∧ Q (.bl (decide (AllLet l))) H
def spName (K : PySem.W.Frag) : Sp := fun vs H Q _ => ∃ x T, vs = [x] ∧ TyOf K H x (.type T) ∧ okX x ∧ Q (.bl (nameV x)) H
theorem okX_of {l : List Nat} (h : l.length ≤ 900) : okX (.str (tx l)) := fun z e => by cases e; rw [tx_len]; exact h
section
seal L2.PS L2.PSs L2.PE
variable {P : Program} {w : World} {K : PySem.W.Frag} {mg : Str → Option Value} {base : Heap}
theorem sc_has_letters_alone : FnScope ["text", "sign"] ["text"] (defScope s_has_letters_alone) := ⟨rfl, rfl, rfl, by decide +kernel, rfl, by decide +kernel, by decide +kernel⟩
theorem ok_has_letters_alone {f : Addr} {fd : FuncData} (F : Fun K "has_letters_alone" "has_letters_alone" s_has_letters_alone f fd) (T : Txt K mg) : FnOk P w K mg base CX0 1 f fd ["text"] spLet := by
  have sc := sc_has_letters_alone
  refine F.ok sc (fun vs H Q E h => ?_) (fun cdv A outer s H vs Q E hr h => ?_)
  · obtain ⟨_, rfl, _⟩ := h
    rfl
  obtain ⟨l, rfl, q⟩ := h
  refine ⟨_, (pss_cons (ps_for PassesOwn.never rfl (pi_str (pv 0)) (pg_name (i := 1) sc.nd rfl (Or.inl rfl))
        (pss_one (ps_if (pt_cmpR op_notIn1 (pv 1) (pe_gstr T.g_LETTERS rfl) rfl)
        (pss_one (ps_ret pe_bl))
        pss_nil)))
      (pss_one (ps_ret pe_bl))), ?_⟩
  refine ⟨_, rfl, _, rfl, for_str (l := l) (fun i σ H2 => ((∃ o, σ = [some (.str (tx l)), o]) ∧ H2 = H) ∧ ∀ j c, j < i → l[j]? = some c → letter c) ⟨⟨⟨none, rfl⟩, rfl⟩, fun _ _ z => absurd z (Nat.not_lt_zero _)⟩ ?_ ?_⟩
  · rintro i c σ H2 hi ⟨⟨⟨o, rfl⟩, rfl⟩, good⟩
    refine ⟨_, rfl, c, _, rfl, rfl, _, rfl, ?_⟩
    by_cases hc : letter c
    · refine nF (let_in.mpr hc) ⟨⟨⟨_, rfl⟩, rfl⟩, fun j d hj hd => ?_⟩
      by_cases e : j = i
      · subst e
        rw [hi] at hd
        cases hd
        exact hc
      · exact good j d (by omega) hd
    · refine nT (fun z => hc (let_in.mp z)) ?_
      have n : ¬ AllLet l := fun z => hc (z c (List.mem_of_getElem? hi))
      rw [decide_eq_false n] at q
      exact q
  · rintro σ H2 ⟨⟨⟨o, rfl⟩, rfl⟩, good⟩
    have all : AllLet l := fun c hc => by
      obtain ⟨j, hj, e⟩ := List.getElem_of_mem hc
      exact good j c hj (by rw [List.getElem?_eq_getElem hj, e])
    rw [decide_eq_true all] at q
    exact q
theorem sc_is_name : FnScope ["thing"] ["thing"] (defScope s_is_name) := ⟨rfl, rfl, rfl, by decide +kernel, rfl, by decide +kernel, by decide +kernel⟩
theorem ok_is_name {f : Addr} {fd : FuncData} (F : Fun K "is_name" "is_name" s_is_name f fd) (T : Txt K mg) (Chas_letters_alone : Cal P w K mg base 1 "has_letters_alone" ["text"] spLet) : FnOk P w K mg base CX0 2 f fd ["thing"] (spName K) := by
  have sc := sc_is_name
  refine F.ok sc (fun vs H Q E h => ?_) (fun cdv A outer s H vs Q E hr h => ?_)
  · obtain ⟨_, _, rfl, _⟩ := h
    rfl
  obtain ⟨x, ty, rfl, hty, ok, q⟩ := h
  refine ⟨_, (pss_cons (ps_if (pt_not (pt_val (pe_callB call_isinst rfl T.n_isinstance (show bootBuiltins _ = some (.builtin "isinstance") from rfl) (pa_cons (pv 0) (pa_cons (pe_ty "str" rfl T.n_str rfl) pa_nil)))))
        (pss_one (ps_ret pe_bl))
        pss_nil)
      (pss_one (ps_ret (pe_and (pe_chain op_le op_le pe_int (pe_callB call_len_str rfl T.n_len (show bootBuiltins _ = some (.builtin "len") from rfl) (pa_cons (pv 0) pa_nil)) (pe_gint T.g_LONGEST_NAME rfl)) (pe_one (pe_callC Chas_letters_alone (hr.mono (by decide)) rfl (pa_cons (pv 0) pa_nil))))))), ?_⟩
  refine ⟨_, rfl, _, _, _, _, _, rfl, ty_is, hty, str_kit hty, _, rfl, ?_⟩
  cases x with
  | str z =>
    have hz := ok z rfl
    have ez : tx z.cps.toList = z := tx_of z
    refine iteF ⟨_, rfl, _, rfl, le_line (by omega), ?_⟩
    have lz : (z.length : Int) = (z.cps.toList.length : Int) := by rw [← tx_len, ez]
    refine ⟨_, _, rfl, rfl, _, rfl, ?_⟩
    by_cases c1 : 1 ≤ (z.length : Int)
    · refine dT c1 ⟨_, _, rfl, rfl, _, rfl, ?_⟩
      by_cases c2 : (z.length : Int) ≤ 8
      · refine dT c2 ⟨_, rfl, z.cps.toList, by rw [ez]; rfl, ?_⟩
        have e : decide (NameL z.cps.toList) = decide (AllLet z.cps.toList) := by
          by_cases a : AllLet z.cps.toList
          · rw [decide_eq_true a, decide_eq_true (show NameL _ from ⟨⟨by omega, by omega⟩, a⟩)]
          · rw [decide_eq_false a, decide_eq_false (fun y => a y.2)]
        rw [← e]
        exact q
      · refine dF c2 ?_
        rw [show nameV (.str z) = false from decide_eq_false (fun y => c2 (by have := y.1.2; omega))] at q
        exact q
    · refine dF c1 ⟨_, rfl, iteF ?_⟩
      rw [show nameV (.str z) = false from decide_eq_false (fun y => c1 (by have := y.1.1; omega))] at q
      exact q
  | _ => exact iteT q
end


section
variable {P : Program} {w : World} {K : PySem.W.Frag} {mg : Str → Option Value} {base : Heap}
theorem sc_is_whole : FnScope ["thing"] ["thing"] (defScope s_is_whole) := ⟨rfl, rfl, rfl, by decide +kernel, rfl, by decide +kernel, by decide +kernel⟩
theorem ok_is_whole {f : Addr} {fd : FuncData} (F : Fun K "is_whole" "is_whole" s_is_whole f fd) (T : Txt K mg) : FnOk P w K mg base CX0 1 f fd ["thing"] (spWhole K) := by
  have sc := sc_is_whole
  refine F.ok sc (fun vs H Q E h => ?_) (fun cdv A outer s H vs Q E hr h => ?_)
  · obtain ⟨x, T, rfl, _⟩ := h
    rfl
  obtain ⟨x, ty, rfl, hty, q⟩ := h
  refine ⟨_, (pss_one (ps_ret (pe_and (pe_callB call_isinst rfl T.n_isinstance (show bootBuiltins _ = some (.builtin "isinstance") from rfl) (pa_cons (pv 0) (pa_cons (pe_ty "int" rfl T.n_int rfl) pa_nil))) (pe_one (pe_not (pe_callB call_isinst rfl T.n_isinstance (show bootBuiltins _ = some (.builtin "isinstance") from rfl) (pa_cons (pv 0) (pa_cons (pe_ty "bool" rfl T.n_bool rfl) pa_nil)))))))), ?_⟩
  obtain ⟨b1, b2, k1, k2, e⟩ := whole_kit hty
  rw [e] at q
  refine ⟨_, rfl, _, _, _, _, _, rfl, ty_is, hty, k1, _, rfl, ?_⟩
  cases b1 with
  | false => exact q
  | true => exact ⟨_, rfl, _, _, _, _, _, rfl, ty_is, hty, k2, _, rfl, q⟩
end


def inB (m : Int) : V → Bool
  | .int i => decide (0 ≤ i ∧ i ≤ m)
  | _ => false
def spInB (K : PySem.W.Frag) (m : Int) : Sp := fun vs H Q _ => ∃ x T, vs = [x] ∧ TyOf K H x (.type T) ∧ Q (.bl (inB m x)) H
section
variable {P : Program} {w : World} {K : PySem.W.Frag} {mg : Str → Option Value} {base : Heap}
theorem sc_is_amount : FnScope ["thing"] ["thing"] (defScope s_is_amount) := ⟨rfl, rfl, rfl, by decide +kernel, rfl, by decide +kernel, by decide +kernel⟩
theorem ok_is_amount {f : Addr} {fd : FuncData} (F : Fun K "is_amount" "is_amount" s_is_amount f fd) (T : Txt K mg) (Cis_whole : Cal P w K mg base 1 "is_whole" ["thing"] (spWhole K)) : FnOk P w K mg base CX0 2 f fd ["thing"] (spInB K 999999999999) := by
  have sc := sc_is_amount
  refine F.ok sc (fun vs H Q E h => ?_) (fun cdv A outer s H vs Q E hr h => ?_)
  · obtain ⟨_, _, rfl, _⟩ := h
    rfl
  obtain ⟨x, ty, rfl, hty, q⟩ := h
  refine ⟨_, (pss_one (ps_ret (pe_and (pe_callC Cis_whole (hr.mono (by decide)) rfl (pa_cons (pv 0) pa_nil)) (pe_one (pe_chain op_le op_le pe_int (pv 0) (pe_gint T.g_MOST_CENTS rfl)))))), ?_⟩
  refine ⟨_, rfl, _, _, rfl, hty, _, rfl, ?_⟩
  cases x with
  | int i =>
    refine iteT ⟨_, rfl, _, _, rfl, rfl, _, rfl, ?_⟩
    by_cases c1 : (0 : Int) ≤ i
    · refine dT c1 ⟨_, _, rfl, rfl, ?_⟩
      show Q (.bl (decide (i ≤ 999999999999))) H
      have e : decide (0 ≤ i ∧ i ≤ 999999999999) = decide (i ≤ 999999999999) := by
        by_cases c2 : i ≤ 999999999999
        · rw [decide_eq_true c2, decide_eq_true ⟨c1, c2⟩]
        · rw [decide_eq_false c2, decide_eq_false (fun y => c2 y.2)]
      rw [← e]
      exact q
    · refine dF c1 ?_
      rw [show inB 999999999999 (.int i) = false from decide_eq_false (fun y => c1 y.1)] at q
      exact q
  | _ => exact iteF q
end


/-! ### amounts as texts -/
/-- how cents are written -/
def shown (n : Nat) : List Nat := figs (n / 100) ++ [46, 48 + n / 10 % 10, 48 + n % 10]
theorem zfill2 {r : Nat} (h : r < 100) : Txt.zfill (tx (figs r)) 2 = tx [48 + r / 10, 48 + r % 10] := by
  by_cases h10 : r < 10
  · rw [figs_small h10]
    have : r = 0 ∨ r = 1 ∨ r = 2 ∨ r = 3 ∨ r = 4 ∨ r = 5 ∨ r = 6 ∨ r = 7 ∨ r = 8 ∨ r = 9 := by omega
    rcases this with rfl | rfl | rfl | rfl | rfl | rfl | rfl | rfl | rfl | rfl <;> rfl
  · have e : figs r = [48 + r / 10, 48 + r % 10] := by
      rw [figs_more (by omega), figs_small (by omega), figs_small (Nat.mod_lt r (by decide))]
      rfl
    rw [e]
    unfold Txt.zfill
    rw [if_pos]
    rw [tx_len]
    exact Int.le_refl 2


def spShow : Sp := fun vs H Q _ => ∃ n : Nat, vs = [.int n] ∧ n < 10 ^ 60 ∧ Q (.str (tx (shown n))) H
section
variable {P : Program} {w : World} {K : PySem.W.Frag} {mg : Str → Option Value} {base : Heap}
theorem sc_show_cents : FnScope ["cents", "whole", "rest"] ["cents"] (defScope s_show_cents) := ⟨rfl, rfl, rfl, by decide +kernel, rfl, by decide +kernel, by decide +kernel⟩
theorem ok_show_cents {f : Addr} {fd : FuncData} (F : Fun K "show_cents" "show_cents" s_show_cents f fd) (T : Txt K mg) : FnOk P w K mg base CX0 1 f fd ["cents"] spShow := by
  have sc := sc_show_cents
  refine F.ok sc (fun vs H Q E h => ?_) (fun cdv A outer s H vs Q E hr h => ?_)
  · obtain ⟨_, rfl, _⟩ := h
    rfl
  obtain ⟨n, rfl, hn, q⟩ := h
  refine ⟨_, (pss_cons (ps_set (i := 1) sc.nd rfl (Or.inl rfl) (pe_op op_fdiv (pv 0) pe_int))
      (pss_cons (ps_set (i := 2) sc.nd rfl (Or.inl rfl) (pe_bm PySem.F.plainAttrs_str PySem.F.slot_str_zfill PySem.F.type_str_zfill mt_zfill (pe_callTy call_str_int rfl T.n_str (show bootBuiltins _ = some (.type "str") from rfl) (pa_cons (pe_op op_mod (pv 0) pe_int) pa_nil)) (pa_cons pe_int pa_nil)))
      (pss_one (ps_ret (pe_joined (pj_cons (pe_fmt (pv 1)) (pj_cons pe_str (pj_cons (pe_fmt (pv 2)) pj_nil)))))))), ?_⟩
  have e1 : (n : Int) / 100 = ((n / 100 : Nat) : Int) := by omega
  have e2 : (n : Int) % 100 = ((n % 100 : Nat) : Int) := by omega
  refine ⟨_, rfl, _, _, rfl, rfl, ⟨by decide, by decide⟩, ?_⟩
  refine ⟨_, rfl, _, _, rfl, rfl, (by show (0 : Int) < 100; decide), _, rfl, log_small (by omega) (by omega), rfl, _, _, rfl, rfl, rfl, ?_⟩
  have lw : (figs (n / 100)).length ≤ 60 := figs_len (by decide) (by omega)
  have ez : Txt.zfill ((toString ((n : Int) % 100) : String) : Str) 2 = tx [48 + n % 100 / 10, 48 + n % 100 % 10] := by rw [e2, str_nat, zfill2 (Nat.mod_lt _ (by decide))]
  rw [ez]
  have ed : (Str.ofString ".") = tx [46] := by decide +kernel
  have ew : ((toString ((n : Int) / 100) : String) : Str) = tx (figs (n / 100)) := by rw [e1, str_nat]
  have e0 : Str.empty = tx [] := rfl
  have c1 : Str.empty ++ tx (figs (n / 100)) = tx (figs (n / 100)) := tx_app [] _
  have hl := sizeLine_eq
  have cz : [48 + n % 100 / 10, 48 + n % 100 % 10] = [48 + n / 10 % 10, 48 + n % 10] := by
    have a1 : n % 100 / 10 = n / 10 % 10 := by omega
    have a2 : n % 100 % 10 = n % 10 := by omega
    rw [a1, a2]
  rw [cz]
  refine ⟨_, rfl, .inl ⟨_, rfl, log_small (by omega) (by omega), _, rfl, ?_, _, rfl, ?_, _, rfl, .inr ⟨_, rfl, ?_, _, rfl, ?_, ?_, ?_⟩⟩⟩
  · rw [ew, c1, tx_len]; omega
  · rw [ew, ed, c1, tx_app, tx_len, List.length_append]; show _ + 1 ≤ _; omega
  · rw [tx_len]; show 2 ≤ _; omega
  · rw [ew, ed, c1, tx_app, tx_app, tx_len, List.length_append, List.length_append]; show _ + 1 + 2 ≤ _; omega
  · rw [ew, ed, c1, tx_app, tx_app, tx_len, List.length_append, List.length_append]; show _ + 1 + 2 ≤ _; omega
  · rw [ew, ed, c1, tx_app, tx_app, List.append_assoc]
    exact q
end


/-! ### a clause and three conditions -/
inductive Ob where
  | own (y : Str) (d : Int) | cau (n : Str) | thi (n : Str) | ovr (m : Int)
def clsB (C0 C1 C2 C3 : Addr) : Ob → Addr
  | .own _ _ => C0
  | .cau _ => C1
  | .thi _ => C2
  | .ovr _ => C3
def fldB : Ob → List (Str × V)
  | .own y d => putF "cents" (.int d) (putF "by" (.str y) [])
  | .cau n => putF "name" (.str n) []
  | .thi n => putF "name" (.str n) []
  | .ovr m => putF "cents" (.int m) []
def ObAt (C0 C1 C2 C3 : Addr) (H : Hp) (p : Addr) (c : Ob) : Prop := ∃ dx, H p = some (.ins (clsB C0 C1 C2 C3 c) dx (fldB c))
theorem ObAt.same {C0 C1 C2 C3 : Addr} {H H' : Hp} {p : Addr} {c : Ob} (h : ObAt C0 C1 C2 C3 H p c) (s : Same H H') : ObAt C0 C1 C2 C3 H' p c := by
  obtain ⟨dx, e⟩ := h
  exact ⟨dx, s _ _ e⟩
def FamW (C0 C1 C2 C3 : Addr) (C : Addr) : Prop := C = C0 ∨ C = C1 ∨ C = C2 ∨ C = C3
def FamH (C0 C1 C2 C3 : Addr) (C : Addr) : Prop := C = C1 ∨ C = C2 ∨ C = C3
theorem famW_of (C0 C1 C2 C3 : Addr) (c : Ob) : FamW C0 C1 C2 C3 (clsB C0 C1 C2 C3 c) := by
  cases c with
  | own _ _ => exact .inl rfl
  | cau _ => exact .inr (.inl rfl)
  | thi _ => exact .inr (.inr (.inl rfl))
  | ovr _ => exact .inr (.inr (.inr rfl))
def isCo : Ob → Prop
  | .own _ _ => False
  | _ => True
theorem famH_of (C0 C1 C2 C3 : Addr) {c : Ob} (h : isCo c) : FamH C0 C1 C2 C3 (clsB C0 C1 C2 C3 c) := by
  cases c with
  | own _ _ => exact h.elim
  | cau _ => exact .inl rfl
  | thi _ => exact .inr (.inl rfl)
  | ovr _ => exact .inr (.inr rfl)
theorem s_bc : ¬ (("by" : Str) = "cents") := by decide +kernel
theorem lb_by (y : Str) (d : Int) : (fldB (.own y d)).lookup ("by" : Str) = some (.str y) := by unfold fldB; rw [lookup_putF, if_neg s_bc, lookup_putF, if_pos rfl]
theorem lb_own (y : Str) (d : Int) : (fldB (.own y d)).lookup ("cents" : Str) = some (.int d) := by unfold fldB; rw [lookup_putF, if_pos rfl]
theorem lb_cau (n : Str) : (fldB (.cau n)).lookup ("name" : Str) = some (.str n) := by unfold fldB; rw [lookup_putF, if_pos rfl]
theorem lb_thi (n : Str) : (fldB (.thi n)).lookup ("name" : Str) = some (.str n) := by unfold fldB; rw [lookup_putF, if_pos rfl]
theorem lb_ovr (m : Int) : (fldB (.ovr m)).lookup ("cents" : Str) = some (.int m) := by unfold fldB; rw [lookup_putF, if_pos rfl]
theorem lb_no (c : Ob) {m : Str} (h1 : ¬ m = "by") (h2 : ¬ m = "cents") (h3 : ¬ m = "name") : (fldB c).lookup m = none := by
  cases c with
  | own y d => unfold fldB; rw [lookup_putF, if_neg h2, lookup_putF, if_neg h1]; rfl
  | cau n => unfold fldB; rw [lookup_putF, if_neg h3]; rfl
  | thi n => unfold fldB; rw [lookup_putF, if_neg h3]; rfl
  | ovr m => unfold fldB; rw [lookup_putF, if_neg h2]; rfl
theorem no_holds (c : Ob) : (fldB c).lookup ("holds" : Str) = none := lb_no c (by decide +kernel) (by decide +kernel) (by decide +kernel)
theorem no_words (c : Ob) : (fldB c).lookup ("words" : Str) = none := lb_no c (by decide +kernel) (by decide +kernel) (by decide +kernel)
def holdsB : Ob → Str → Str → Int → Bool
  | .own _ _, _, _, _ => true
  | .cau n, _, ca, _ => decide (V.str ca = V.str n)
  | .thi n, th, _, _ => decide (V.str th = V.str n)
  | .ovr m, _, _, ct => decide (m < ct)
def amt (d : Int) : Prop := 0 ≤ d ∧ d ≤ 999999999999
def okB : Ob → Prop
  | .own _ d => amt d
  | .ovr m => amt m
  | _ => True
def wordsB : Ob → List Str
  | .own y d => ["own", y, tx (shown d.toNat)]
  | .cau n => ["cause", n]
  | .thi n => ["thing", n]
  | .ovr m => ["over", tx (shown m.toNat)]
def isWay (y : Str) : Prop := y = "event" ∨ y = "thing" ∨ y = "year" ∨ y = "loss"
theorem way_in {y : Str} (h : isWay y) : inV (.str y) [.str "event", .str "thing", .str "year", .str "loss"] = true := by
  rcases h with rfl | rfl | rfl | rfl <;> decide +kernel
def LsAt (H : Hp) (t : Addr) (th ca : Str) (ct : Int) : Prop := ∃ ev, ∃ n d : Int, H t = some (.tup [.int n, .int d, .str ev, .str th, .str ca, .int ct])
theorem amt_nat {d : Int} (h : amt d) : d = ((d.toNat : Nat) : Int) ∧ d.toNat < 10 ^ 60 := by
  obtain ⟨h0, h1⟩ := h
  refine ⟨by omega, ?_⟩
  have : d.toNat < 10 ^ 13 := by omega
  exact Nat.lt_of_lt_of_le this (Nat.pow_le_pow_right (by decide) (by decide))
theorem nat_eq {d : Int} (h : amt d) : ([V.int d] ++ [] : List V) = [.int (d.toNat : Nat)] := by rw [List.append_nil, ← (amt_nat h).1]
theorem kit_ss {K : PySem.W.Frag} : PySem.W.kitOne K (.type "str") (.type "str") = some true := by kernel_rfl
theorem made_same {C : Addr} {H H2 : Hp} {x dx : Addr} (nx : H x = none) (ndx : H dx = none) (kp : ∀ b o, (upd (upd H dx (.own x)) x (.ins C dx [])) b = some o → b ≠ x → H2 b = some o) : Same H H2 := fun b o e =>
  kp b o (by rw [upd_ne (ne_of_none e nx), upd_ne (ne_of_none e ndx)]; exact e) (ne_of_none e nx)
def spChk : Sp := fun vs H Q _ => ∃ n : Int, vs = [.int n] ∧ amt n ∧ Q (.int n) H
def spCI (K : PySem.W.Frag) : Sp := fun vs H Q _ => ∃ p C dx fs y, vs = [.ref p, .str y] ∧ H p = some (.ins C dx fs) ∧ Cls K C ∧ NoAttr K C "by" ∧ fs.length < 1000 ∧ isWay y ∧ Q .non (upd H p (.ins C dx (putF "by" (.str y) fs)))
def spOwn (C0 C1 C2 C3 : Addr) : Sp := fun vs H Q _ => ∃ p dx y, ∃ d : Int, vs = [.ref p, .str y, .int d] ∧ H p = some (.ins C0 dx []) ∧ isWay y ∧ amt d ∧ ∀ H', (∀ b o, H b = some o → b ≠ p → H' b = some o) → ObAt C0 C1 C2 C3 H' p (.own y d) → Q .non H'
def spMkN (C0 C1 C2 C3 : Addr) (C : Addr) (f : Str → Ob) : Sp := fun vs H Q _ => ∃ p dx n, vs = [.ref p, .str n] ∧ H p = some (.ins C dx []) ∧ ∀ H', (∀ b o, H b = some o → b ≠ p → H' b = some o) → ObAt C0 C1 C2 C3 H' p (f n) → Q .non H'
def spMkO (C0 C1 C2 C3 : Addr) : Sp := fun vs H Q _ => ∃ p dx, ∃ m : Int, vs = [.ref p, .int m] ∧ H p = some (.ins C3 dx []) ∧ ∀ H', (∀ b o, H b = some o → b ≠ p → H' b = some o) → ObAt C0 C1 C2 C3 H' p (.ovr m) → Q .non H'
def spHolds (C0 C1 C2 C3 : Addr) (C : Addr) : Sp := fun vs H Q _ => ∃ p c t th ca, ∃ ct : Int, vs = [.ref p, .ref t] ∧ ObAt C0 C1 C2 C3 H p c ∧ clsB C0 C1 C2 C3 c = C ∧ LsAt H t th ca ct ∧ Q (.bl (holdsB c th ca ct)) H
def spWords (C0 C1 C2 C3 : Addr) (C : Addr) : Sp := fun vs H Q _ => ∃ p c, vs = [.ref p] ∧ ObAt C0 C1 C2 C3 H p c ∧ clsB C0 C1 C2 C3 c = C ∧ okB c ∧ ∀ l H', Same H H' → H l = none → H' l = some (.lst ((wordsB c).map V.str)) → Q (.ref l) H'
section
variable {P : Program} {w : World} {K : PySem.W.Frag} {mg : Str → Option Value} {base : Heap} {C_Own C_CauseIs C_ThingIs C_Over C_Clause C_Deal C_Cover : Addr}
theorem four_cls (L : Kl K mg C_Own C_CauseIs C_ThingIs C_Over C_Clause C_Deal C_Cover) : C_Own ≠ C_CauseIs ∧ C_Own ≠ C_ThingIs ∧ C_Own ≠ C_Over ∧ C_CauseIs ≠ C_ThingIs ∧ C_CauseIs ≠ C_Over ∧ C_ThingIs ≠ C_Over := by
  have nd := L.nd
  simp only [List.nodup_cons, List.mem_cons, List.not_mem_nil, not_or, or_false] at nd
  exact ⟨nd.1.1, nd.1.2.1, nd.1.2.2.1, nd.2.1.1, nd.2.1.2.1, nd.2.2.1.1⟩
theorem cls0 (L : Kl K mg C_Own C_CauseIs C_ThingIs C_Over C_Clause C_Deal C_Cover) {c : Ob} (h : clsB C_Own C_CauseIs C_ThingIs C_Over c = C_Own) : ∃ y d, c = .own y d := by
  obtain ⟨n1, n2, n3, n4, n5, n6⟩ := four_cls L
  cases c with
  | own y d => exact ⟨y, d, rfl⟩
  | cau _ => exact absurd h.symm n1
  | thi _ => exact absurd h.symm n2
  | ovr _ => exact absurd h.symm n3
theorem cls1 (L : Kl K mg C_Own C_CauseIs C_ThingIs C_Over C_Clause C_Deal C_Cover) {c : Ob} (h : clsB C_Own C_CauseIs C_ThingIs C_Over c = C_CauseIs) : ∃ n, c = .cau n := by
  obtain ⟨n1, n2, n3, n4, n5, n6⟩ := four_cls L
  cases c with
  | cau n => exact ⟨n, rfl⟩
  | own _ _ => exact absurd h n1
  | thi _ => exact absurd h.symm n4
  | ovr _ => exact absurd h.symm n5
theorem cls2 (L : Kl K mg C_Own C_CauseIs C_ThingIs C_Over C_Clause C_Deal C_Cover) {c : Ob} (h : clsB C_Own C_CauseIs C_ThingIs C_Over c = C_ThingIs) : ∃ n, c = .thi n := by
  obtain ⟨n1, n2, n3, n4, n5, n6⟩ := four_cls L
  cases c with
  | thi n => exact ⟨n, rfl⟩
  | own _ _ => exact absurd h n2
  | cau _ => exact absurd h n4
  | ovr _ => exact absurd h.symm n6
theorem cls3 (L : Kl K mg C_Own C_CauseIs C_ThingIs C_Over C_Clause C_Deal C_Cover) {c : Ob} (h : clsB C_Own C_CauseIs C_ThingIs C_Over c = C_Over) : ∃ m, c = .ovr m := by
  obtain ⟨n1, n2, n3, n4, n5, n6⟩ := four_cls L
  cases c with
  | ovr m => exact ⟨m, rfl⟩
  | own _ _ => exact absurd h n3
  | cau _ => exact absurd h n5
  | thi _ => exact absurd h n6
theorem sc_checked_amount : FnScope ["thing"] ["thing"] (defScope s_checked_amount) := ⟨rfl, rfl, rfl, by decide +kernel, rfl, by decide +kernel, by decide +kernel⟩
theorem ok_checked_amount {f : Addr} {fd : FuncData} (F : Fun K "checked_amount" "checked_amount" s_checked_amount f fd) (T : Txt K mg) (Cis_amount : Cal P w K mg base 2 "is_amount" ["thing"] (spInB K 999999999999)) : FnOk P w K mg base CX0 3 f fd ["thing"] spChk := by
  have sc := sc_checked_amount
  refine F.ok sc (fun vs H Q E h => ?_) (fun cdv A outer s H vs Q E hr h => ?_)
  · obtain ⟨_, rfl, _⟩ := h
    rfl
  obtain ⟨n, rfl, ⟨h0, h1⟩, q⟩ := h
  refine ⟨_, (pss_cons (ps_if (pt_not (pt_val (pe_callC Cis_amount (hr.mono (by decide)) rfl (pa_cons (pv 0) pa_nil))))
        (pss_one ps_never)
        pss_nil)
      (pss_one (ps_ret (pv 0)))), ?_⟩
  refine ⟨_, rfl, _, _, rfl, .int n, _, rfl, ?_⟩
  rw [show inB 999999999999 (.int n) = true from decide_eq_true ⟨h0, h1⟩]
  exact iteF ⟨_, rfl, q⟩
theorem sc_Clause___init__ : FnScope ["self", "by"] ["self", "by"] (defScope s_Clause___init__) := ⟨rfl, rfl, rfl, by decide +kernel, rfl, by decide +kernel, by decide +kernel⟩
theorem ok_Clause___init__ {f : Addr} {fd : FuncData} (F : Fun K "__init__" "Clause.__init__" s_Clause___init__ f fd) (T : Txt K mg) : FnOk P w K mg base CX0 2 f fd ["self", "by"] (spCI K) := by
  have sc := sc_Clause___init__
  refine F.ok sc (fun vs H Q E h => ?_) (fun cdv A outer s H vs Q E hr h => ?_)
  · obtain ⟨_, _, _, _, _, rfl, _⟩ := h
    rfl
  obtain ⟨p, C, dx, fs, y, rfl, hp, cl, na, hl, hy, q⟩ := h
  refine ⟨_, (pss_cons (ps_if (PW.pt (pw_or (pt_not (pt_val (pe_callB call_isinst rfl T.n_isinstance (show bootBuiltins _ = some (.builtin "isinstance") from rfl) (pa_cons (pv 1) (pa_cons (pe_ty "str" rfl T.n_str rfl) pa_nil))))) (pw_or1 (pt_cmpR op_notIn_seq (pv 1) (pe_gtup T.t_WAYS rfl) rfl))))
        (pss_one ps_never)
        pss_nil)
      (pss_one (ps_fld (pv 0) (pv 1) rfl))), ?_⟩
  refine ⟨_, rfl, _, _, _, _, _, rfl, ty_is, .str y, kit_ss, _, rfl, iteF ?_⟩
  refine ⟨_, rfl, fun a hs => ⟨a, _, rfl, .inr hs, rfl, rfl, _, rfl, ?_⟩⟩
  show if (!inV (.str y) [.str "event", .str "thing", .str "year", .str "loss"]) = true then _ else _
  rw [way_in hy]
  refine iteF ?_
  exact ⟨_, rfl, _, rfl, p, C, dx, fs, rfl, hp, cl, na, hl, q⟩
theorem sc_Own___init__ : FnScope ["self", "by", "cents"] ["self", "by", "cents"] (defScope s_Own___init__) := ⟨rfl, rfl, rfl, by decide +kernel, rfl, by decide +kernel, by decide +kernel⟩
theorem ok_Own___init__ {f : Addr} {fd : FuncData} (F : Fun K "__init__" "Own.__init__" s_Own___init__ f fd) (T : Txt K mg) (L : Kl K mg C_Own C_CauseIs C_ThingIs C_Over C_Clause C_Deal C_Cover) (BClause___init__ : BCal P w K mg base 2 "Clause" "__init__" ["self", "by"] (spCI K)) (Cchecked_amount : Cal P w K mg base 3 "checked_amount" ["thing"] spChk) :
    FnOk P w K mg base CX0 4 f fd ["self", "by", "cents"] (spOwn C_Own C_CauseIs C_ThingIs C_Over) := by
  have sc := sc_Own___init__
  refine F.ok sc (fun vs H Q E h => ?_) (fun cdv A outer s H vs Q E hr h => ?_)
  · obtain ⟨_, _, _, _, rfl, _⟩ := h
    rfl
  obtain ⟨p, dx, y, d, rfl, hp, hy, hd, q⟩ := h
  refine ⟨_, (pss_cons (ps_expr (pe_baseC BClause___init__ (hr.mono (by decide)) rfl (pa_cons (pv 0) (pa_cons (pv 1) pa_nil))))
      (pss_one (ps_fld (pv 0) (pe_callC Cchecked_amount (hr.mono (by decide)) rfl (pa_cons (pv 2) pa_nil)) rfl))), ?_⟩
  refine ⟨_, rfl, _, rfl, p, _, dx, [], y, rfl, hp, L.cl_Own, L.na_Own_by, by decide, hy, ?_⟩
  exact ⟨_, rfl, d, rfl, hd, _, rfl, p, _, dx, _, rfl, upd_same, L.cl_Own, L.na_Own_cents, (by show 1 < 1000; decide), q _ (fun b o z n => by rw [upd_ne n, upd_ne n]; exact z) ⟨dx, upd_same⟩⟩
theorem sc_CauseIs___init__ : FnScope ["self", "name"] ["self", "name"] (defScope s_CauseIs___init__) := ⟨rfl, rfl, rfl, by decide +kernel, rfl, by decide +kernel, by decide +kernel⟩
theorem ok_CauseIs___init__ {f : Addr} {fd : FuncData} (F : Fun K "__init__" "CauseIs.__init__" s_CauseIs___init__ f fd) (T : Txt K mg) (L : Kl K mg C_Own C_CauseIs C_ThingIs C_Over C_Clause C_Deal C_Cover) : FnOk P w K mg base CX0 1 f fd ["self", "name"] (spMkN C_Own C_CauseIs C_ThingIs C_Over C_CauseIs .cau) := by
  have sc := sc_CauseIs___init__
  refine F.ok sc (fun vs H Q E h => ?_) (fun cdv A outer s H vs Q E hr h => ?_)
  · obtain ⟨_, _, _, rfl, _⟩ := h
    rfl
  obtain ⟨p, dx, n, rfl, hp, q⟩ := h
  refine ⟨_, (pss_one (ps_fld (pv 0) (pv 1) rfl)), ?_⟩
  exact ⟨_, rfl, _, rfl, p, _, dx, _, rfl, hp, L.cl_CauseIs, L.na_CauseIs_name, (by show 0 < 1000; decide), q _ (fun b o z n => by rw [upd_ne n]; exact z) ⟨dx, upd_same⟩⟩
theorem sc_ThingIs___init__ : FnScope ["self", "name"] ["self", "name"] (defScope s_ThingIs___init__) := ⟨rfl, rfl, rfl, by decide +kernel, rfl, by decide +kernel, by decide +kernel⟩
theorem ok_ThingIs___init__ {f : Addr} {fd : FuncData} (F : Fun K "__init__" "ThingIs.__init__" s_ThingIs___init__ f fd) (T : Txt K mg) (L : Kl K mg C_Own C_CauseIs C_ThingIs C_Over C_Clause C_Deal C_Cover) : FnOk P w K mg base CX0 1 f fd ["self", "name"] (spMkN C_Own C_CauseIs C_ThingIs C_Over C_ThingIs .thi) := by
  have sc := sc_ThingIs___init__
  refine F.ok sc (fun vs H Q E h => ?_) (fun cdv A outer s H vs Q E hr h => ?_)
  · obtain ⟨_, _, _, rfl, _⟩ := h
    rfl
  obtain ⟨p, dx, n, rfl, hp, q⟩ := h
  refine ⟨_, (pss_one (ps_fld (pv 0) (pv 1) rfl)), ?_⟩
  exact ⟨_, rfl, _, rfl, p, _, dx, _, rfl, hp, L.cl_ThingIs, L.na_ThingIs_name, (by show 0 < 1000; decide), q _ (fun b o z n => by rw [upd_ne n]; exact z) ⟨dx, upd_same⟩⟩
theorem sc_Over___init__ : FnScope ["self", "cents"] ["self", "cents"] (defScope s_Over___init__) := ⟨rfl, rfl, rfl, by decide +kernel, rfl, by decide +kernel, by decide +kernel⟩
theorem ok_Over___init__ {f : Addr} {fd : FuncData} (F : Fun K "__init__" "Over.__init__" s_Over___init__ f fd) (T : Txt K mg) (L : Kl K mg C_Own C_CauseIs C_ThingIs C_Over C_Clause C_Deal C_Cover) : FnOk P w K mg base CX0 1 f fd ["self", "cents"] (spMkO C_Own C_CauseIs C_ThingIs C_Over) := by
  have sc := sc_Over___init__
  refine F.ok sc (fun vs H Q E h => ?_) (fun cdv A outer s H vs Q E hr h => ?_)
  · obtain ⟨_, _, _, rfl, _⟩ := h
    rfl
  obtain ⟨p, dx, m, rfl, hp, q⟩ := h
  refine ⟨_, (pss_one (ps_fld (pv 0) (pv 1) rfl)), ?_⟩
  exact ⟨_, rfl, _, rfl, p, _, dx, _, rfl, hp, L.cl_Over, L.na_Over_cents, (by show 0 < 1000; decide), q _ (fun b o z n => by rw [upd_ne n]; exact z) ⟨dx, upd_same⟩⟩
theorem sc_CauseIs_holds : FnScope ["self", "loss"] ["self", "loss"] (defScope s_CauseIs_holds) := ⟨rfl, rfl, rfl, by decide +kernel, rfl, by decide +kernel, by decide +kernel⟩
theorem ok_CauseIs_holds {f : Addr} {fd : FuncData} (F : Fun K "holds" "CauseIs.holds" s_CauseIs_holds f fd) (T : Txt K mg) (L : Kl K mg C_Own C_CauseIs C_ThingIs C_Over C_Clause C_Deal C_Cover) : FnOk P w K mg base CX0 1 f fd ["self", "loss"] (spHolds C_Own C_CauseIs C_ThingIs C_Over C_CauseIs) := by
  have sc := sc_CauseIs_holds
  refine F.ok sc (fun vs H Q E h => ?_) (fun cdv A outer s H vs Q E hr h => ?_)
  · obtain ⟨_, _, _, _, _, _, rfl, _⟩ := h
    rfl
  obtain ⟨p, c, t, th, ca, ct, rfl, ⟨dx, hp⟩, hc, ⟨ev, n, d, ht⟩, q⟩ := h
  obtain ⟨nm, rfl⟩ := cls1 L hc
  refine ⟨_, (pss_one (ps_ret (pe_cmpR op_eq (pe_ix ix_tup (pv 1) (pe_gint T.g_CAUSE rfl) (fun _ _ => rfl)) (pe_fld (pv 0) rfl) (nomark _)))), ?_⟩
  exact ⟨_, rfl, t, _, _, _, rfl, rfl, SqT.of ht, rfl, _, rfl, p, _, dx, _, _, rfl, hp, L.cl_CauseIs, L.na_CauseIs_name, lb_cau nm, rfl, q⟩
theorem sc_ThingIs_holds : FnScope ["self", "loss"] ["self", "loss"] (defScope s_ThingIs_holds) := ⟨rfl, rfl, rfl, by decide +kernel, rfl, by decide +kernel, by decide +kernel⟩
theorem ok_ThingIs_holds {f : Addr} {fd : FuncData} (F : Fun K "holds" "ThingIs.holds" s_ThingIs_holds f fd) (T : Txt K mg) (L : Kl K mg C_Own C_CauseIs C_ThingIs C_Over C_Clause C_Deal C_Cover) : FnOk P w K mg base CX0 1 f fd ["self", "loss"] (spHolds C_Own C_CauseIs C_ThingIs C_Over C_ThingIs) := by
  have sc := sc_ThingIs_holds
  refine F.ok sc (fun vs H Q E h => ?_) (fun cdv A outer s H vs Q E hr h => ?_)
  · obtain ⟨_, _, _, _, _, _, rfl, _⟩ := h
    rfl
  obtain ⟨p, c, t, th, ca, ct, rfl, ⟨dx, hp⟩, hc, ⟨ev, n, d, ht⟩, q⟩ := h
  obtain ⟨nm, rfl⟩ := cls2 L hc
  refine ⟨_, (pss_one (ps_ret (pe_cmpR op_eq (pe_ix ix_tup (pv 1) (pe_gint T.g_THING rfl) (fun _ _ => rfl)) (pe_fld (pv 0) rfl) (nomark _)))), ?_⟩
  exact ⟨_, rfl, t, _, _, _, rfl, rfl, SqT.of ht, rfl, _, rfl, p, _, dx, _, _, rfl, hp, L.cl_ThingIs, L.na_ThingIs_name, lb_thi nm, rfl, q⟩
theorem sc_Over_holds : FnScope ["self", "loss"] ["self", "loss"] (defScope s_Over_holds) := ⟨rfl, rfl, rfl, by decide +kernel, rfl, by decide +kernel, by decide +kernel⟩
theorem ok_Over_holds {f : Addr} {fd : FuncData} (F : Fun K "holds" "Over.holds" s_Over_holds f fd) (T : Txt K mg) (L : Kl K mg C_Own C_CauseIs C_ThingIs C_Over C_Clause C_Deal C_Cover) : FnOk P w K mg base CX0 1 f fd ["self", "loss"] (spHolds C_Own C_CauseIs C_ThingIs C_Over C_Over) := by
  have sc := sc_Over_holds
  refine F.ok sc (fun vs H Q E h => ?_) (fun cdv A outer s H vs Q E hr h => ?_)
  · obtain ⟨_, _, _, _, _, _, rfl, _⟩ := h
    rfl
  obtain ⟨p, c, t, th, ca, ct, rfl, ⟨dx, hp⟩, hc, ⟨ev, n, d, ht⟩, q⟩ := h
  obtain ⟨m, rfl⟩ := cls3 L hc
  refine ⟨_, (pss_one (ps_ret (pe_cmpR op_gt (pe_ix ix_tup (pv 1) (pe_gint T.g_CENTS rfl) (fun _ _ => rfl)) (pe_fld (pv 0) rfl) (nomark _)))), ?_⟩
  exact ⟨_, rfl, t, _, _, _, rfl, rfl, SqT.of ht, rfl, _, rfl, p, _, dx, _, _, rfl, hp, L.cl_Over, L.na_Over_cents, lb_ovr m, _, _, rfl, rfl, q⟩
theorem sc_Own_words : FnScope ["self"] ["self"] (defScope s_Own_words) := ⟨rfl, rfl, rfl, by decide +kernel, rfl, by decide +kernel, by decide +kernel⟩
theorem ok_Own_words {f : Addr} {fd : FuncData} (F : Fun K "words" "Own.words" s_Own_words f fd) (T : Txt K mg) (L : Kl K mg C_Own C_CauseIs C_ThingIs C_Over C_Clause C_Deal C_Cover) (Cshow_cents : Cal P w K mg base 1 "show_cents" ["cents"] spShow) : FnOk P w K mg base CX0 2 f fd ["self"] (spWords C_Own C_CauseIs C_ThingIs C_Over C_Own) := by
  have sc := sc_Own_words
  refine F.ok sc (fun vs H Q E h => ?_) (fun cdv A outer s H vs Q E hr h => ?_)
  · obtain ⟨_, _, rfl, _⟩ := h
    rfl
  obtain ⟨p, c, rfl, ⟨dx, hp⟩, hc, ha, q⟩ := h
  obtain ⟨y, d, rfl⟩ := cls0 L hc
  refine ⟨_, (pss_one (ps_ret (pe_lst (pa_cons pe_str (pa_cons (pe_fld (pv 0) rfl) (pa_cons (pe_callC Cshow_cents (hr.mono (by decide)) rfl (pa_cons (pe_fld (pv 0) rfl) pa_nil)) pa_nil)))))), ?_⟩
  refine ⟨_, rfl, p, _, dx, _, _, rfl, hp, L.cl_Own, L.na_Own_by, lb_by y d, _, rfl, p, _, dx, _, _, rfl, hp, L.cl_Own, L.na_Own_cents, lb_own y d, d.toNat, nat_eq ha, (amt_nat ha).2, ?_⟩
  exact ⟨by show 3 ≤ sizeLine; rw [sizeLine_eq]; decide, fun l hl => q l _ (same_new hl _) hl upd_same⟩
theorem sc_CauseIs_words : FnScope ["self"] ["self"] (defScope s_CauseIs_words) := ⟨rfl, rfl, rfl, by decide +kernel, rfl, by decide +kernel, by decide +kernel⟩
theorem ok_CauseIs_words {f : Addr} {fd : FuncData} (F : Fun K "words" "CauseIs.words" s_CauseIs_words f fd) (T : Txt K mg) (L : Kl K mg C_Own C_CauseIs C_ThingIs C_Over C_Clause C_Deal C_Cover) : FnOk P w K mg base CX0 2 f fd ["self"] (spWords C_Own C_CauseIs C_ThingIs C_Over C_CauseIs) := by
  have sc := sc_CauseIs_words
  refine F.ok sc (fun vs H Q E h => ?_) (fun cdv A outer s H vs Q E hr h => ?_)
  · obtain ⟨_, _, rfl, _⟩ := h
    rfl
  obtain ⟨p, c, rfl, ⟨dx, hp⟩, hc, ok, q⟩ := h
  obtain ⟨nm, rfl⟩ := cls1 L hc
  refine ⟨_, (pss_one (ps_ret (pe_lst (pa_cons pe_str (pa_cons (pe_fld (pv 0) rfl) pa_nil))))), ?_⟩
  exact ⟨_, rfl, p, _, dx, _, _, rfl, hp, L.cl_CauseIs, L.na_CauseIs_name, lb_cau nm, by show 2 ≤ sizeLine; rw [sizeLine_eq]; decide, fun l hl => q l _ (same_new hl _) hl upd_same⟩
theorem sc_ThingIs_words : FnScope ["self"] ["self"] (defScope s_ThingIs_words) := ⟨rfl, rfl, rfl, by decide +kernel, rfl, by decide +kernel, by decide +kernel⟩
theorem ok_ThingIs_words {f : Addr} {fd : FuncData} (F : Fun K "words" "ThingIs.words" s_ThingIs_words f fd) (T : Txt K mg) (L : Kl K mg C_Own C_CauseIs C_ThingIs C_Over C_Clause C_Deal C_Cover) : FnOk P w K mg base CX0 2 f fd ["self"] (spWords C_Own C_CauseIs C_ThingIs C_Over C_ThingIs) := by
  have sc := sc_ThingIs_words
  refine F.ok sc (fun vs H Q E h => ?_) (fun cdv A outer s H vs Q E hr h => ?_)
  · obtain ⟨_, _, rfl, _⟩ := h
    rfl
  obtain ⟨p, c, rfl, ⟨dx, hp⟩, hc, ok, q⟩ := h
  obtain ⟨nm, rfl⟩ := cls2 L hc
  refine ⟨_, (pss_one (ps_ret (pe_lst (pa_cons pe_str (pa_cons (pe_fld (pv 0) rfl) pa_nil))))), ?_⟩
  exact ⟨_, rfl, p, _, dx, _, _, rfl, hp, L.cl_ThingIs, L.na_ThingIs_name, lb_thi nm, by show 2 ≤ sizeLine; rw [sizeLine_eq]; decide, fun l hl => q l _ (same_new hl _) hl upd_same⟩
theorem sc_Over_words : FnScope ["self"] ["self"] (defScope s_Over_words) := ⟨rfl, rfl, rfl, by decide +kernel, rfl, by decide +kernel, by decide +kernel⟩
theorem ok_Over_words {f : Addr} {fd : FuncData} (F : Fun K "words" "Over.words" s_Over_words f fd) (T : Txt K mg) (L : Kl K mg C_Own C_CauseIs C_ThingIs C_Over C_Clause C_Deal C_Cover) (Cshow_cents : Cal P w K mg base 1 "show_cents" ["cents"] spShow) : FnOk P w K mg base CX0 2 f fd ["self"] (spWords C_Own C_CauseIs C_ThingIs C_Over C_Over) := by
  have sc := sc_Over_words
  refine F.ok sc (fun vs H Q E h => ?_) (fun cdv A outer s H vs Q E hr h => ?_)
  · obtain ⟨_, _, rfl, _⟩ := h
    rfl
  obtain ⟨p, c, rfl, ⟨dx, hp⟩, hc, ok, q⟩ := h
  obtain ⟨m, rfl⟩ := cls3 L hc
  refine ⟨_, (pss_one (ps_ret (pe_lst (pa_cons pe_str (pa_cons (pe_callC Cshow_cents (hr.mono (by decide)) rfl (pa_cons (pe_fld (pv 0) rfl) pa_nil)) pa_nil))))), ?_⟩
  exact ⟨_, rfl, p, _, dx, _, _, rfl, hp, L.cl_Over, L.na_Over_cents, lb_ovr m, m.toNat, nat_eq ok, (amt_nat ok).2, by show 2 ≤ sizeLine; rw [sizeLine_eq]; decide, fun l hl => q l _ (same_new hl _) hl upd_same⟩
end


def spWeights : Sp := fun vs H Q _ => ∃ a ws, vs = [.ref a] ∧ H a = some (.lst (List.map V.int ws)) ∧ CR.GW ws ∧ Q (.bl true) H
def spMay : Sp := fun vs H Q _ => ∃ w d T t : Int, vs = [.int w, .int d, .int T, .int t] ∧ (0 ≤ w ∧ w ≤ 100) ∧ (0 ≤ T ∧ T ≤ 100) ∧ Q (.bl (decide (d * T < w * (t + 1)))) H
def spDue : Sp := fun vs H Q _ => ∃ w d T : Int, vs = [.int w, .int d, .int T] ∧ (1 ≤ w ∧ w ≤ 100) ∧ (0 ≤ T ∧ T ≤ 100) ∧ Q (.int (((d + 1) * T + w - 1) / w)) H
def spPlace : Sp := fun vs H Q _ => ∃ a b ws ds, ∃ t : Nat, vs = [.ref a, .ref b, .int t] ∧ H a = some (.lst (List.map V.int ws)) ∧ H b = some (.lst (List.map V.int ds)) ∧ CR.GW ws ∧ ds.length = ws.length ∧ ds.sum = t ∧
  ∀ H', Same H H' → Q (.int (CR.place ws ds t)) H'
def spTurns : Sp := fun vs H Q _ => ∃ a ws, vs = [.ref a] ∧ H a = some (.lst (List.map V.int ws)) ∧ CR.GW ws ∧ ∀ r H', Same H H' → H r = none → H' r = some (.lst (List.map V.int (CR.wheel ws))) → Q (.ref r) H'
section
variable {P : Program} {w : World} {K : PySem.W.Frag} {mg : Str → Option Value} {base : Heap}
theorem gw_at {ws : List Int} (g : CR.GW ws) {k : Int} (h0 : 0 ≤ k) (h : k < ws.length) : 1 ≤ ws.getD k.toNat 0 ∧ ws.getD k.toNat 0 ≤ 100 := by
  have m : ws.getD k.toNat 0 ∈ ws := by
    rw [List.getD_eq_getElem?_getD, List.getElem?_eq_getElem (by omega)]
    exact List.getElem_mem _
  refine ⟨g.pos _ m, ?_⟩
  have aux : ∀ (l : List Int) (x : Int), (∀ w ∈ l, 1 ≤ w) → x ∈ l → x ≤ l.sum := by
    intro l x
    induction l with
    | nil => intro _ h; cases h
    | cons y l ih =>
      intro hp hx
      have nn : ∀ l : List Int, (∀ w ∈ l, 1 ≤ w) → 0 ≤ l.sum := by
        intro l
        induction l with
        | nil => intro _; exact Int.le_refl 0
        | cons z l ih => intro h; have := h z List.mem_cons_self; have := ih fun w hw => h w (List.mem_cons_of_mem _ hw); rw [List.sum_cons]; omega
      have h1 := hp y List.mem_cons_self
      have hp' : ∀ w ∈ l, 1 ≤ w := fun w hw => hp w (List.mem_cons_of_mem _ hw)
      have h2 := nn l hp'
      rw [List.sum_cons]
      rcases List.mem_cons.mp hx with rfl | hx
      · omega
      · have := ih hp' hx
        omega
  have := aux ws _ g.pos m
  have := g.sum
  omega
theorem sc_are_weights : FnScope ["thing", "weight"] ["thing"] (defScope s_are_weights) := ⟨rfl, rfl, rfl, by decide +kernel, rfl, by decide +kernel, by decide +kernel⟩
theorem ok_are_weights {f : Addr} {fd : FuncData} (F : Fun K "are_weights" "are_weights" s_are_weights f fd) (T : Txt K mg) (Cis_whole : Cal P w K mg base 1 "is_whole" ["thing"] (spWhole K)) : FnOk P w K mg base CX0 2 f fd ["thing"] spWeights := by
  have sc := sc_are_weights
  refine F.ok sc (fun vs H Q E h => ?_) (fun cdv A outer s H vs Q E hr h => ?_)
  · obtain ⟨a, ws, rfl, _⟩ := h
    rfl
  obtain ⟨a, ws, rfl, ha, g, q⟩ := h
  refine ⟨_, (pss_cons (ps_if (pt_not (pt_val (pe_callB call_isinst rfl T.n_isinstance (show bootBuiltins _ = some (.builtin "isinstance") from rfl) (pa_cons (pv 0) (pa_cons (pe_ty "list" rfl T.n_list rfl) pa_nil)))))
        (pss_one (ps_ret pe_bl))
        pss_nil)
      (pss_cons (ps_if (PW.pt (pw_or (pt_cmpR op_lt (pe_callB call_len_seq rfl T.n_len (show bootBuiltins _ = some (.builtin "len") from rfl) (pa_cons (pv 0) pa_nil)) pe_int (nomark _)) (pw_or1 (pt_cmpR op_gt (pe_callB call_len_seq rfl T.n_len (show bootBuiltins _ = some (.builtin "len") from rfl) (pa_cons (pv 0) pa_nil)) (pe_gint T.g_MOST_PLACES rfl) (nomark _)))))
        (pss_one (ps_ret pe_bl))
        pss_nil)
      (pss_cons (ps_for PassesOwn.never rfl (pi_list (pv 0)) (pg_name (i := 1) sc.nd rfl (Or.inl rfl))
        (pss_one (ps_if (PW.pt (pw_or (pt_not (pt_val (pe_callC Cis_whole (hr.mono (by decide)) rfl (pa_cons (pv 1) pa_nil)))) (pw_or1 (pt_cmpR op_lt (pv 1) pe_int (nomark _)))))
        (pss_one (ps_ret pe_bl))
        pss_nil)))
      (pss_one (ps_ret (pe_cmpR op_le (pe_callB (call_sum rfl) rfl T.n_sum (show bootBuiltins _ = some (.builtin "sum") from rfl) (pa_cons (pv 0) pa_nil)) (pe_gint T.g_MOST_TURNS rfl) (nomark _))))))), ?_⟩
  have hl : (List.map V.int ws).length = ws.length := List.length_map _
  have g1 := g.lo
  have g2 := g.hi
  refine ⟨_, rfl, _, _, _, _, _, rfl, ty_is, .lst ha, kit_ll, _, rfl, ?_⟩
  refine iteF ?_
  refine ⟨_, rfl, a, _, rfl, .inl (SqL.of ha), _, _, rfl, rfl, _, rfl, ?_⟩
  refine dF (by rw [hl]; omega) ?_
  refine ⟨_, rfl, a, _, rfl, .inl (SqL.of ha), _, _, rfl, rfl, _, rfl, ?_⟩
  refine dF (by rw [hl]; omega) ?_
  refine ⟨_, rfl, a, rfl, ⟨_, SqL.of ha⟩, for_list (K := K) (a := a) (xs := List.map V.int ws) (fun i σ H2 => (∃ o, σ = [some (.ref a), o]) ∧ H2 = H) ⟨⟨none, rfl⟩, rfl⟩ (fun i σ H2 _ ⟨_, e⟩ => by rw [e]; exact SqL.of ha) ?_ ?_⟩
  · rintro i y σ H2 hi ⟨⟨o, rfl⟩, rfl⟩
    obtain ⟨n, hn, rfl⟩ := item_int hi
    refine ⟨_, rfl, _, _, rfl, .int n, _, rfl, ?_⟩
    refine iteF ?_
    refine ⟨_, rfl, _, _, rfl, rfl, _, rfl, ?_⟩
    have := g.pos n (List.mem_of_getElem? hn)
    refine dF (by omega) ?_
    exact ⟨⟨_, rfl⟩, rfl⟩
  · rintro σ H2 ⟨⟨o, rfl⟩, rfl⟩
    refine ⟨_, rfl, a, ws, rfl, SqL.of ha, _, _, rfl, rfl, ?_⟩
    show Q (.bl (decide (ws.sum ≤ 100))) H2
    rw [decide_eq_true g.sum]
    exact q
theorem sc_may_have : FnScope ["weight", "dealt", "total", "turn"] ["weight", "dealt", "total", "turn"] (defScope s_may_have) := ⟨rfl, rfl, rfl, by decide +kernel, rfl, by decide +kernel, by decide +kernel⟩
theorem ok_may_have {f : Addr} {fd : FuncData} (F : Fun K "may_have" "may_have" s_may_have f fd) (T : Txt K mg) : FnOk P w K mg base CX0 1 f fd ["weight", "dealt", "total", "turn"] spMay := by
  have sc := sc_may_have
  refine F.ok sc (fun vs H Q E h => ?_) (fun cdv A outer s H vs Q E hr h => ?_)
  · obtain ⟨_, _, _, _, rfl, _⟩ := h
    rfl
  obtain ⟨v, d, t0, t, rfl, hw, ht, q⟩ := h
  refine ⟨_, (pss_one (ps_ret (pe_cmpR op_lt (pe_op op_mul (pv 1) (pv 2)) (pe_op op_mul (pv 0) (pe_op op_add (pv 3) pe_int)) (nomark _)))), ?_⟩
  refine ⟨_, rfl, _, rfl, _, _, rfl, rfl, .inr ⟨by omega, by omega⟩, _, rfl, _, rfl, _, _, rfl, rfl, _, _, rfl, rfl, .inl ⟨by omega, by omega⟩, _, _, rfl, rfl, q⟩
theorem sc_due_by : FnScope ["weight", "dealt", "total"] ["weight", "dealt", "total"] (defScope s_due_by) := ⟨rfl, rfl, rfl, by decide +kernel, rfl, by decide +kernel, by decide +kernel⟩
theorem ok_due_by {f : Addr} {fd : FuncData} (F : Fun K "due_by" "due_by" s_due_by f fd) (T : Txt K mg) : FnOk P w K mg base CX0 1 f fd ["weight", "dealt", "total"] spDue := by
  have sc := sc_due_by
  refine F.ok sc (fun vs H Q E h => ?_) (fun cdv A outer s H vs Q E hr h => ?_)
  · obtain ⟨_, _, _, rfl, _⟩ := h
    rfl
  obtain ⟨v, d, t0, rfl, hw, ht, q⟩ := h
  refine ⟨_, (pss_one (ps_ret (pe_op op_fdiv (pe_op op_sub (pe_op op_add (pe_op op_mul (pe_op op_add (pv 1) pe_int) (pv 2)) (pv 0)) pe_int) (pv 0)))), ?_⟩
  refine ⟨_, rfl, _, _, rfl, rfl, _, rfl, _, _, rfl, rfl, .inr ⟨by omega, by omega⟩, _, rfl, _, _, rfl, rfl, _, _, rfl, rfl, _, rfl, _, _, rfl, rfl, ⟨by omega, by omega⟩, q⟩
theorem sc_place_of_turn : FnScope ["weights", "dealt", "turn", "total", "places", "best", "place"] ["weights", "dealt", "turn"] (defScope s_place_of_turn) := ⟨rfl, rfl, rfl, by decide +kernel, rfl, by decide +kernel, by decide +kernel⟩
theorem ok_place_of_turn {f : Addr} {fd : FuncData} (F : Fun K "place_of_turn" "place_of_turn" s_place_of_turn f fd) (T : Txt K mg) (Cmay_have : Cal P w K mg base 1 "may_have" ["weight", "dealt", "total", "turn"] spMay) (Cdue_by : Cal P w K mg base 1 "due_by" ["weight", "dealt", "total"] spDue) :
    FnOk P w K mg base CX0 2 f fd ["weights", "dealt", "turn"] spPlace := by
  have sc := sc_place_of_turn
  refine F.ok sc (fun vs H Q E h => ?_) (fun cdv A outer s H vs Q E hr h => ?_)
  · obtain ⟨_, _, _, _, _, rfl, _⟩ := h
    rfl
  obtain ⟨a, b, ws, ds, t, rfl, ha, hb, g, hlen, hsum, q⟩ := h
  refine ⟨_, (pss_cons (ps_set (i := 3) sc.nd rfl (Or.inr rfl) (pe_callB (call_sum rfl) rfl T.n_sum (show bootBuiltins _ = some (.builtin "sum") from rfl) (pa_cons (pv 0) pa_nil)))
      (pss_cons (ps_comp (NC := ["k", "total", "turn", "weights", "dealt"]) (own := ["k"]) (cs := ["total", "turn", "weights", "dealt"]) (ix := [3, 2, 0, 1]) (j := 4) sc.nd rfl rfl rfl (CompScope.of rfl) rfl ⟨⟨rfl, .inl rfl, rfl⟩, ⟨⟨rfl, .inl rfl, rfl⟩, ⟨⟨rfl, .inl rfl, rfl⟩, ⟨⟨rfl, .inl rfl, rfl⟩, trivial⟩⟩⟩⟩ (pi_range1 rfl T.n_range (pa_cons (pe_callB call_len_seq rfl T.n_len (show bootBuiltins _ = some (.builtin "len") from rfl) (pa_cons (pv 0) pa_nil)) pa_nil)) (fun _ _ _ => (pg_name (i := 0) (show (["k", "total", "turn", "weights", "dealt"] : List Str).Nodup from by decide +kernel) rfl (Or.inl rfl))) (fun _ _ _ => (pts_one (pt_val (pe_callC Cmay_have (hr.mono (by decide)) rfl (pa_cons (pe_ix (ix_listK (K := K) rfl) (pv 3) (pv 0) (fun _ _ => rfl)) (pa_cons (pe_ix (ix_listK (K := K) rfl) (pv 4) (pv 0) (fun _ _ => rfl)) (pa_cons (pv 1) (pa_cons (pv 2) pa_nil)))))))) (fun _ _ _ => (pv 0)))
      (pss_cons (ps_set (i := 5) sc.nd rfl (Or.inl rfl) (pe_ix ix_list (pv 4) pe_int (fun _ _ => rfl)))
      (pss_cons (ps_for PassesOwn.never rfl (pi_list (pv 4)) (pg_name (i := 6) sc.nd rfl (Or.inl rfl))
        (pss_one (ps_if (pt_cmpR op_lt (pe_callC Cdue_by (hr.mono (by decide)) rfl (pa_cons (pe_ix ix_list (pv 0) (pv 6) (fun _ _ => rfl)) (pa_cons (pe_ix ix_list (pv 1) (pv 6) (fun _ _ => rfl)) (pa_cons (pv 3) pa_nil)))) (pe_callC Cdue_by (hr.mono (by decide)) rfl (pa_cons (pe_ix ix_list (pv 0) (pv 5) (fun _ _ => rfl)) (pa_cons (pe_ix ix_list (pv 1) (pv 5) (fun _ _ => rfl)) (pa_cons (pv 3) pa_nil)))) (nomark _))
        (pss_one (ps_set (i := 5) sc.nd rfl (Or.inl rfl) (pv 6)))
        pss_nil)))
      (pss_one (ps_ret (pv 5))))))), ?_⟩
  have hl : (List.map V.int ws).length = ws.length := List.length_map _
  have g1 := g.lo
  have g2 := g.hi
  have gs := g.sum
  have gp := CR.sum_pos g
  -- total = sum(weights)
  refine ⟨_, rfl, a, ws, rfl, SqL.of ha, ?_⟩
  -- places = [k for k in range(len(weights)) if may_have(..)]
  refine ⟨_, rfl, a, _, rfl, .inl (SqL.of ha), _, rfl, by omega, by omega, fun p hp => ?_⟩
  have ep : ((List.map V.int ws).length : Int).toNat = ws.length := by rw [hl]; omega
  rw [ep]
  refine comp_range (lo := 0) (n := ws.length) (fun i ys H2 => ys = (CR.placesTo ws ds t i).map V.int ∧ H2 p = some (.lst ys) ∧ Same H H2) ⟨rfl, upd_same, same_new hp _⟩ (fun i ys H2 _ ⟨e, h1, _⟩ => ⟨h1, by rw [e, List.length_map]; exact CR.placesTo_le _ _ _ _⟩) (by rw [sizeLine_eq]; omega) (fun i ys H2 hi ⟨e, h1, s1⟩ => ?_) (fun ys H2 ⟨e, h1, s1⟩ => ?_)
  · have hw := gw_at g (k := 0 + (i : Int)) (by omega) (by omega)
    refine ⟨_, rfl, _, rfl, a, _, _, _, rfl, rfl, SqL.of (s1 _ _ ha), at_intI (by omega) (by omega), _, rfl, _, rfl, b, _, _, _, rfl, rfl, SqL.of (s1 _ _ hb), at_intI (by omega) (by omega), _, rfl, _, rfl, _, _, _, _, rfl, ⟨by omega, by omega⟩, ⟨by omega, by omega⟩, _, rfl, ?_⟩
    have em : decide (ds.getD (0 + (i : Int)).toNat 0 * ws.sum < ws.getD (0 + (i : Int)).toNat 0 * ((t : Int) + 1)) = CR.may ws ds t i := by
      rw [show (0 + (i : Int)) = (i : Int) by omega]
      rfl
    rw [em]
    have es := CR.placesTo_succ ws ds t i
    cases c : CR.may ws ds t i with
    | false =>
      rw [c] at es
      refine iteF ⟨rfl, ?_, h1, s1⟩
      rw [es, e]
      simp
    | true =>
      rw [c] at es
      refine iteT ⟨_, rfl, h1, rfl, ?_, upd_same, fun x o z => ?_⟩
      · rw [es, e]
        simp
      · rw [upd_ne (ne_of_none z hp)]
        exact s1 x o z
  subst e
  have hpl : CR.placesTo ws ds t ws.length = CR.places ws ds t := rfl
  rw [hpl] at h1
  have hne := CR.places_ne (t := t) g hlen hsum
  -- best = places[0]
  have hd0 : atI ((CR.places ws ds t).map V.int) 0 = some (.int ((CR.places ws ds t).headD 0)) := by
    cases z : CR.places ws ds t with
    | nil => exact absurd z hne
    | cons x l => exact at_int (i := 0) rfl
  refine ⟨_, rfl, p, _, _, _, rfl, rfl, SqL.of h1, hd0, ?_⟩
  -- for place in places
  have inr : ∀ k : Int, k ∈ CR.places ws ds t → 0 ≤ k ∧ k < ws.length := fun k hk => ⟨(CR.placesTo_mem hk).1, (CR.placesTo_mem hk).2.1⟩
  refine ⟨_, rfl, p, rfl, ⟨_, SqL.of h1⟩, for_list (K := K) (a := p) (xs := (CR.places ws ds t).map V.int)
    (fun i σ H3 => (∃ o, ∃ best : Int, σ = [some (.ref a), some (.ref b), some (.int t), some (.int ws.sum), some (.ref p), some (.int best), o] ∧ best = CR.pick (CR.due ws ds) ((CR.places ws ds t).headD 0) ((CR.places ws ds t).take i) ∧ 0 ≤ best ∧ best < ws.length) ∧ H3 = H2)
    ⟨⟨none, _, rfl, rfl, ?_⟩, rfl⟩ (fun i σ H3 _ ⟨_, z⟩ => by rw [z]; exact SqL.of h1) ?_ ?_⟩
  · cases z : CR.places ws ds t with
    | nil => exact absurd z hne
    | cons x l => exact inr x (by rw [z]; exact List.mem_cons_self)
  · rintro i y σ H3 hi ⟨⟨o, best, rfl, eb, b0, b1⟩, rfl⟩
    obtain ⟨n, hn, rfl⟩ := item_int hi
    have hnm := inr n (List.mem_of_getElem? hn)
    have w1 := gw_at g hnm.1 hnm.2
    have w2 := gw_at g b0 b1
    refine ⟨_, rfl, _, rfl, a, _, _, _, rfl, rfl, SqL.of (s1 _ _ ha), at_intI hnm.1 hnm.2, _, rfl, _, rfl, b, _, _, _, rfl, rfl, SqL.of (s1 _ _ hb), at_intI hnm.1 (by omega), _, rfl, _, _, _, rfl, w1, ⟨by omega, by omega⟩, ?_⟩
    refine ⟨_, rfl, _, rfl, a, _, _, _, rfl, rfl, SqL.of (s1 _ _ ha), at_intI b0 b1, _, rfl, _, rfl, b, _, _, _, rfl, rfl, SqL.of (s1 _ _ hb), at_intI b0 (by omega), _, rfl, _, _, _, rfl, w2, ⟨by omega, by omega⟩, _, _, rfl, rfl, _, rfl, ?_⟩
    have et : (CR.places ws ds t).take (i + 1) = (CR.places ws ds t).take i ++ [n] := by rw [List.take_add_one, hn]; rfl
    have ef : CR.pick (CR.due ws ds) ((CR.places ws ds t).headD 0) ((CR.places ws ds t).take (i + 1)) = if CR.due ws ds n < CR.due ws ds best then n else best := by
      rw [et, eb]
      unfold CR.pick
      rw [List.foldl_append]
      rfl
    refine ite2 (fun c => ?_) (fun c => ?_)
    · have c' : CR.due ws ds n < CR.due ws ds best := of_decide_eq_true c
      refine ⟨_, rfl, ⟨⟨_, n, rfl, ?_, hnm⟩, rfl⟩⟩
      rw [ef, if_pos c']
    · have c' : ¬ CR.due ws ds n < CR.due ws ds best := of_decide_eq_false (Bool.eq_false_iff.mpr c)
      refine ⟨⟨_, best, rfl, ?_, b0, b1⟩, rfl⟩
      rw [ef, if_neg c']
  · rintro σ H3 ⟨⟨o, best, rfl, eb, b0, b1⟩, rfl⟩
    refine ⟨_, rfl, ?_⟩
    rw [List.length_map, List.take_length] at eb
    rw [eb]
    exact q _ s1
theorem sc_turns : FnScope ["weights", "dealt", "wheel", "turn", "place"] ["weights"] (defScope s_turns) := ⟨rfl, rfl, rfl, by decide +kernel, rfl, by decide +kernel, by decide +kernel⟩
theorem ok_turns {f : Addr} {fd : FuncData} (F : Fun K "turns" "turns" s_turns f fd) (T : Txt K mg) (Care_weights : Cal P w K mg base 2 "are_weights" ["thing"] spWeights) (Cplace_of_turn : Cal P w K mg base 2 "place_of_turn" ["weights", "dealt", "turn"] spPlace) :
    FnOk P w K mg base CX0 3 f fd ["weights"] spTurns := by
  have sc := sc_turns
  refine F.ok sc (fun vs H Q E h => ?_) (fun cdv A outer s H vs Q E hr h => ?_)
  · obtain ⟨_, _, rfl, _⟩ := h
    rfl
  obtain ⟨a, ws, rfl, ha, g, q⟩ := h
  refine ⟨_, (pss_cons (ps_if (pt_not (pt_val (pe_callC Care_weights (hr.mono (by decide)) rfl (pa_cons (pv 0) pa_nil))))
        (pss_one ps_never)
        pss_nil)
      (pss_cons (ps_comp (NC := ["weight"]) (own := ["weight"]) (cs := []) (ix := []) (j := 1) sc.nd rfl rfl rfl (CompScope.of rfl) rfl trivial (pi_list (pv 0)) (fun _ _ _ => (pg_name (i := 0) (show (["weight"] : List Str).Nodup from by decide +kernel) rfl (Or.inl rfl))) (fun _ _ _ => pts_nil) (fun _ _ _ => pe_int))
      (pss_cons (ps_set (i := 2) sc.nd rfl (Or.inl rfl) (pe_lst pa_nil))
      (pss_cons (ps_for PassesOwn.never rfl (pi_range1 rfl T.n_range (pa_cons (pe_callB (call_sum rfl) rfl T.n_sum (show bootBuiltins _ = some (.builtin "sum") from rfl) (pa_cons (pv 0) pa_nil)) pa_nil)) (pg_name (i := 3) sc.nd rfl (Or.inl rfl))
        (pss_cons (ps_set (i := 4) sc.nd rfl (Or.inl rfl) (pe_callC Cplace_of_turn (hr.mono (by decide)) rfl (pa_cons (pv 0) (pa_cons (pv 1) (pa_cons (pv 3) pa_nil)))))
      (pss_cons (ps_asg (pe_op op_add (pe_ix ix_list (pv 1) (pv 4) (fun _ _ => rfl)) pe_int) (pg_sub (pv 1) (pv 4) set_list))
      (pss_one (ps_expr (pe_bm PySem.F.plainAttrs_list PySem.F.slot_list_append PySem.F.type_list_append mt_append (pv 2) (pa_cons (pv 4) pa_nil)))))))
      (pss_one (ps_ret (pv 2))))))), ?_⟩
  have hl : (List.map V.int ws).length = ws.length := List.length_map _
  have g1 := g.lo
  have g2 := g.hi
  have gs := g.sum
  have gp := CR.sum_pos g
  refine ⟨_, rfl, a, ws, rfl, ha, g, _, rfl, ?_⟩
  refine iteF ?_
  -- dealt = [0 for weight in weights]
  refine ⟨_, rfl, a, rfl, ⟨_, SqL.of ha⟩, fun b hb => ?_⟩
  refine comp_list (K := K) (a := a) (xs := List.map V.int ws) (fun i ys H2 => ys = (List.replicate i (0 : Int)).map V.int ∧ H2 b = some (.lst ys) ∧ Same H H2) ⟨rfl, upd_same, same_new hb _⟩
    (fun i ys H2 _ ⟨e, h1, s1⟩ => ⟨h1, by rw [e, List.length_map, List.length_replicate]; exact Nat.le_refl _, SqL.of (s1 _ _ ha)⟩) (by rw [hl, sizeLine_eq]; omega) (fun i x ys H2 hi ⟨e, h1, s1⟩ => ?_) (fun ys H2 ⟨e, h1, s1⟩ => ?_)
  · show H2 b = some (.lst ys) ∧ _ ∧ _
    refine ⟨h1, rfl, ?_, upd_same, fun x o z => ?_⟩
    · rw [e, List.replicate_succ', List.map_append]
      rfl
    · rw [upd_ne (ne_of_none z hb)]
      exact s1 x o z
  subst e
  rw [hl] at h1
  -- wheel = []
  refine ⟨Nat.zero_le _, fun r hr' => ?_⟩
  have s2 : Same H2 (upd H2 r (.lst [])) := same_new hr' _
  have hab : a ≠ b := ne_of_none ha hb
  have har : a ≠ r := ne_of_none (s1 _ _ ha) hr'
  have hbr : b ≠ r := ne_of_none h1 hr'
  have hrH : H r = none := s1.free hr'
  -- for turn in range(sum(weights))
  refine ⟨_, rfl, a, ws, rfl, SqL.of (s2 _ _ (s1 _ _ ha)), _, rfl, by omega, by omega, for_range (lo := 0) (n := ws.sum.toNat)
    (fun i σ H3 => (∃ o1 o2, σ = [some (.ref a), some (.ref b), some (.ref r), o1, o2]) ∧ H3 b = some (.lst ((CR.run ws i).1.map V.int)) ∧ H3 r = some (.lst ((CR.run ws i).2.map V.int)) ∧ Same H H3)
    ⟨⟨none, none, rfl⟩, s2 _ _ h1, upd_same, s1.trans s2⟩ ?_ ?_⟩
  · rintro i σ H3 hi ⟨⟨o1, o2, rfl⟩, hb3, hr3, s3⟩
    have A0 := CR.run_at g i
    have hpl := CR.place_in (t := i) g A0.len A0.sum
    have ei : (0 + (i : Int)) = (i : Int) := by omega
    rw [ei]
    -- place = place_of_turn(weights, dealt, turn)
    refine ⟨_, rfl, _, rfl, _, rfl, a, b, ws, _, i, rfl, s3 _ _ ha, hb3, g, A0.len, A0.sum, fun H4 s4 => ?_⟩
    -- dealt[place] = dealt[place] + 1
    have lenb : ((CR.run ws i).1.map V.int).length = ws.length := by rw [List.length_map, A0.len]
    refine ⟨_, rfl, _, rfl, b, _, _, _, rfl, rfl, SqL.of (s4 _ _ hb3), at_intI hpl.1 (by rw [A0.len]; exact hpl.2.1), _, _, rfl, rfl, ?_⟩
    refine ⟨_, rfl, _, rfl, b, _, _, (CR.place ws (CR.run ws i).1 i).toNat, rfl, rfl, s4 _ _ hb3, ?_, ?_⟩
    · rw [lenb]
      exact ix_of hpl.1 hpl.2.1
    -- wheel.append(place)
    have hr5 : upd H4 b (.lst (((CR.run ws i).1.map V.int).set (CR.place ws (CR.run ws i).1 i).toNat (.int ((CR.run ws i).1.getD (CR.place ws (CR.run ws i).1 i).toNat 0 + 1)))) r = some (.lst ((CR.run ws i).2.map V.int)) := by
      rw [upd_ne hbr.symm]
      exact s4 _ _ hr3
    refine ⟨_, rfl, .inl ⟨rfl, _, SqL.of hr5⟩, _, rfl, r, _, _, rfl, rfl, hr5, ?_, ?_⟩
    · rw [List.length_map, A0.row, sizeLine_eq]
      omega
    refine ⟨⟨_, _, rfl⟩, ?_, ?_, fun x o z => ?_⟩
    · rw [upd_ne hbr, upd_same]
      congr 2
      show _ = (CR.put _ _).map V.int
      unfold CR.put
      rw [List.map_set]
      rfl
    · rw [upd_same]
      congr 2
      show _ = ((CR.run ws i).2 ++ [_]).map V.int
      rw [List.map_append]
      rfl
    · rw [upd_ne (ne_of_none z hrH), upd_ne (ne_of_none z hb)]
      exact s4 _ _ (s3 x o z)
  · rintro σ H3 ⟨⟨o1, o2, rfl⟩, hb3, hr3, s3⟩
    exact ⟨_, rfl, q r H3 s3 hrH hr3⟩
end


/-! ### the class Deal -/
def fldsD (wh wt : Addr) : List (Str × V) := putF "weights" (.ref wt) (putF "wheel" (.ref wh) [])
theorem ww : ¬ (("wheel" : Str) = "weights") := by decide +kernel
theorem fldsD_wheel (wh wt : Addr) : (fldsD wh wt).lookup ("wheel" : Str) = some (.ref wh) := by
  unfold fldsD
  rw [lookup_putF, if_neg ww, lookup_putF, if_pos rfl]
theorem fldsD_weights (wh wt : Addr) : (fldsD wh wt).lookup ("weights" : Str) = some (.ref wt) := by
  unfold fldsD
  rw [lookup_putF, if_pos rfl]
theorem fldsD_no (wh wt : Addr) {m : Str} (h1 : ¬ m = "weights") (h2 : ¬ m = "wheel") : (fldsD wh wt).lookup m = none := by
  unfold fldsD
  rw [lookup_putF, if_neg h1, lookup_putF, if_neg h2]
  all_goals rfl
structure DealAt (C : Addr) (H : Hp) (d wh wt : Addr) (ws : List Int) : Prop where
  ob : ∃ dx, H d = some (.ins C dx (fldsD wh wt))
  hw : H wh = some (.lst (List.map V.int (CR.wheel ws)))
  ht : H wt = some (.lst (List.map V.int ws))
theorem DealAt.same {C : Addr} {H H' : Hp} {d wh wt : Addr} {ws : List Int} (D : DealAt C H d wh wt ws) (s : Same H H') : DealAt C H' d wh wt ws := by
  obtain ⟨⟨dx, h1⟩, h2, h3⟩ := D
  exact ⟨⟨dx, s _ _ h1⟩, s _ _ h2, s _ _ h3⟩
structure Dl (K : PySem.W.Frag) (C : Addr) : Prop where
  cl : Cls K C
  nW : NoAttr K C "wheel"
  nG : NoAttr K C "weights"
def spInit (C : Addr) : Sp := fun vs H Q _ => ∃ p dx a ws, vs = [.ref p, .ref a] ∧ H p = some (.ins C dx []) ∧ H a = some (.lst (List.map V.int ws)) ∧ CR.GW ws ∧
  ∀ wh wt H', (∀ b o, H b = some o → b ≠ p → H' b = some o) → DealAt C H' p wh wt ws → H wh = none → H wt = none → Q .non H'
def spCounts (C : Addr) : Sp := fun vs H Q _ => ∃ d wh wt ws, ∃ n : Int, vs = [.ref d, .int n] ∧ DealAt C H d wh wt ws ∧ CR.GW ws ∧ ∀ r H', Same H H' → H r = none → H' r = some (.lst (List.map V.int (CR.cnt ws n))) → Q (.ref r) H'
theorem made_none {H : Hp} {x dx b : Addr} {o o' : HO} (h : upd (upd H dx o) x o' b = none) : H b = none := by
  by_cases e : b = x
  · subst e
    rw [upd_same] at h
    cases h
  · rw [upd_ne e] at h
    by_cases e' : b = dx
    · subst e'
      rw [upd_same] at h
      cases h
    · rw [upd_ne e'] at h
      exact h
section
variable {P : Program} {w : World} {K : PySem.W.Frag} {mg : Str → Option Value} {base : Heap}
theorem sc_Deal___init__ : FnScope ["self", "weights"] ["self", "weights"] (defScope s_Deal___init__) := ⟨rfl, rfl, rfl, by decide +kernel, rfl, by decide +kernel, by decide +kernel⟩
theorem ok_Deal___init__ {f C : Addr} {fd : FuncData} (F : Fun K "__init__" "Deal.__init__" s_Deal___init__ f fd) (T : Txt K mg) (L : Dl K C) (Cturns : Cal P w K mg base 3 "turns" ["weights"] spTurns) : FnOk P w K mg base CX0 4 f fd ["self", "weights"] (spInit C) := by
  have sc := sc_Deal___init__
  refine F.ok sc (fun vs H Q E h => ?_) (fun cdv A outer s H vs Q E hr h => ?_)
  · obtain ⟨_, _, _, _, rfl, _⟩ := h
    rfl
  obtain ⟨p, dx, a, ws, rfl, hp, ha, g, q⟩ := h
  refine ⟨_, (pss_cons (ps_fld (pv 0) (pe_callC Cturns (hr.mono (by decide)) rfl (pa_cons (pv 1) pa_nil)) rfl)
      (pss_one (ps_fld (pv 0) (pe_callTy call_list_of rfl T.n_list (show bootBuiltins _ = some (.type "list") from rfl) (pa_cons (pv 1) pa_nil)) rfl))), ?_⟩
  have hpa : a ≠ p := ne_of ha hp (by intro z; cases z)
  refine ⟨_, rfl, a, ws, rfl, ha, g, fun wh H1 s1 hwn h1 => ?_⟩
  refine ⟨_, rfl, p, C, dx, [], rfl, s1 _ _ hp, L.cl, L.nW, (by show 0 < 1000; decide), ?_⟩
  have hwp : wh ≠ p := (ne_of_none hp hwn).symm
  have ha2 : upd H1 p (.ins C dx (putF "wheel" (.ref wh) [])) a = some (.lst (List.map V.int ws)) := by rw [upd_ne hpa]; exact s1 _ _ ha
  refine ⟨_, rfl, a, _, rfl, .inl (SqL.of ha2), fun wt hwt => ?_⟩
  have hpt : p ≠ wt := fun z => by rw [← z, upd_same] at hwt; cases hwt
  have hwt1 : H1 wt = none := by rw [upd_ne hpt.symm] at hwt; exact hwt
  refine ⟨_, rfl, p, C, dx, _, rfl, (by rw [upd_ne hpt, upd_same]), L.cl, L.nG, (by show 1 < 1000; decide), ?_⟩
  refine q wh wt _ (fun b o e hb => ?_) ⟨⟨dx, upd_same⟩, ?_, ?_⟩ ?_ ?_
  · rw [upd_ne hb, upd_ne (ne_of_none (s1 _ _ e) hwt1), upd_ne hb]
    exact s1 _ _ e
  · rw [upd_ne hwp, upd_ne (ne_of_none h1 hwt1), upd_ne hwp]
    exact h1
  · rw [upd_ne hpt.symm, upd_same]
  · exact hwn
  · exact s1.free hwt1
end


theorem no_counts (wh wt : Addr) : (fldsD wh wt).lookup ("counts_to" : Str) = none := fldsD_no _ _ (by decide +kernel) (by decide +kernel)
section
variable {P : Program} {w : World} {K : PySem.W.Frag} {mg : Str → Option Value} {base : Heap}
theorem sc_Deal_counts_to : FnScope ["self", "n", "rounds", "begun"] ["self", "n"] (defScope s_Deal_counts_to) := ⟨rfl, rfl, rfl, by decide +kernel, rfl, by decide +kernel, by decide +kernel⟩
theorem ok_Deal_counts_to {f C : Addr} {fd : FuncData} (F : Fun K "counts_to" "Deal.counts_to" s_Deal_counts_to f fd) (T : Txt K mg) (L : Dl K C) : FnOk P w K mg base CX0 1 f fd ["self", "n"] (spCounts C) := by
  have sc := sc_Deal_counts_to
  refine F.ok sc (fun vs H Q E h => ?_) (fun cdv A outer s H vs Q E hr h => ?_)
  · obtain ⟨_, _, _, _, _, rfl, _⟩ := h
    rfl
  obtain ⟨d, wh, wt, ws, n, rfl, ⟨⟨dx, h1⟩, h2, h3⟩, g, q⟩ := h
  refine ⟨_, (pss_cons (ps_set (i := 2) sc.nd rfl (Or.inr rfl) (pe_op op_fdiv (pv 1) (pe_callB call_len_seq rfl T.n_len (show bootBuiltins _ = some (.builtin "len") from rfl) (pa_cons (pe_fld (pv 0) rfl) pa_nil))))
      (pss_cons (ps_set (i := 3) sc.nd rfl (Or.inr rfl) (pe_slice sl_list (pe_fld (pv 0) rfl) po_none (po_some (pe_op op_mod (pv 1) (pe_callB call_len_seq rfl T.n_len (show bootBuiltins _ = some (.builtin "len") from rfl) (pa_cons (pe_fld (pv 0) rfl) pa_nil))))))
      (pss_one (ps_ret (pe_comp (NC := ["place", "weight", "rounds", "begun"]) (own := ["place", "weight"]) (cs := ["rounds", "begun"]) (ix := [2, 3]) rfl (CompScope.of rfl) rfl ⟨⟨rfl, .inl rfl, rfl⟩, ⟨⟨rfl, .inl rfl, rfl⟩, trivial⟩⟩ (pi_enum rfl T.n_enumerate (pa_cons (pe_fld (pv 0) rfl) pa_nil)) (fun _ _ _ => (pg_tupK (K := K) (n := 2) rfl rfl (pgs_cons (pg_name (i := 0) (show (["place", "weight", "rounds", "begun"] : List Str).Nodup from by decide +kernel) rfl (Or.inl rfl)) (pgs_cons (pg_name (i := 1) (show (["place", "weight", "rounds", "begun"] : List Str).Nodup from by decide +kernel) rfl (Or.inl rfl)) pgs_nil)))) (fun _ _ _ => pts_nil) (fun _ _ _ => (pe_op op_add (pe_op op_mul (pv 2) (pv 1)) (pe_bmK (K := K) rfl PySem.F.plainAttrs_list PySem.F.slot_list_count PySem.F.type_list_count (mt_countK (K := K) rfl) (pv 3) (pa_cons (pv 0) pa_nil))))))))), ?_⟩
  have gp := CR.sum_pos g
  have gs := g.sum
  have g2 := g.hi
  have wl := CR.wheel_len g
  have hl : ((List.map V.int (CR.wheel ws)).length : Int) = ws.sum := by rw [List.length_map, wl]; omega
  have e0 : 0 ≤ n % ws.sum := Int.emod_nonneg _ (by omega)
  have e1 : n % ws.sum < ws.sum := Int.emod_lt_of_pos _ (by omega)
  -- rounds = n // len(self.wheel)
  refine ⟨_, rfl, _, rfl, d, C, dx, _, _, rfl, h1, L.cl, L.nW, fldsD_wheel _ _, wh, _, rfl, .inl (SqL.of h2), _, _, rfl, rfl, ⟨by omega, by omega⟩, ?_⟩
  -- begun = self.wheel[:n % len(self.wheel)]
  refine ⟨_, rfl, d, C, dx, _, _, rfl, h1, L.cl, L.nW, fldsD_wheel _ _, _, rfl, _, rfl, d, C, dx, _, _, rfl, h1, L.cl, L.nW, fldsD_wheel _ _, wh, _, rfl, .inl (SqL.of h2), _, _, rfl, rfl, by omega, _, rfl, wh, _, rfl, SqL.of h2, fun bg hbg => ?_⟩
  have ecut : cutV (List.map V.int (CR.wheel ws)) none (some (n % ((List.map V.int (CR.wheel ws)).length : Int))) = List.map V.int ((CR.wheel ws).take (n % ws.sum).toNat) := by
    rw [hl]
    unfold cutV
    have hs : HT.sIx (List.map V.int (CR.wheel ws)).length (List.map V.int (CR.wheel ws)).length (some (n % ws.sum)) = (n % ws.sum).toNat := by
      show (if n % ws.sum < 0 then _ else _) = _
      rw [if_neg (by omega)]
      omega
    have h0 : HT.sIx (List.map V.int (CR.wheel ws)).length 0 none = 0 := rfl
    rw [hs, h0, List.drop_zero, Nat.sub_zero, List.map_take]
  have hb : upd H bg (.lst (cutV (List.map V.int (CR.wheel ws)) none (some (n % ((List.map V.int (CR.wheel ws)).length : Int))))) bg = some (.lst (List.map V.int ((CR.wheel ws).take (n % ws.sum).toNat))) := by rw [upd_same, ecut]
  have s1 := same_new hbg (.lst (cutV (List.map V.int (CR.wheel ws)) none (some (n % ((List.map V.int (CR.wheel ws)).length : Int)))))
  generalize upd H bg (.lst (cutV (List.map V.int (CR.wheel ws)) none (some (n % ((List.map V.int (CR.wheel ws)).length : Int))))) = H1 at hb s1
  -- [rounds * weight + begun.count(place) for place, weight in enumerate(self.weights)]
  refine ⟨_, rfl, d, C, dx, _, _, rfl, s1 _ _ h1, L.cl, L.nG, fldsD_weights _ _, wt, rfl, ⟨_, SqL.of (s1 _ _ h3)⟩, fun p hp => ?_⟩
  have hlw : (List.map V.int ws).length = ws.length := List.length_map _
  refine comp_enum (K := K) (a := wt) (xs := List.map V.int ws) (fun i ys H2 => ys = ((List.range i).map fun k : Nat => n / ws.sum * CR.at0 ws k + (((CR.wheel ws).take (n % ws.sum).toNat).count (k : Int) : Nat)).map V.int ∧ H2 p = some (.lst ys) ∧ Same H1 H2)
    ⟨rfl, upd_same, same_new hp _⟩ (fun i ys H2 _ ⟨e, x1, x2⟩ => ⟨x1, by rw [e, List.length_map, List.length_map, List.length_range]; exact Nat.le_refl _, SqL.of (x2 _ _ (s1 _ _ h3))⟩) (by rw [hlw, sizeLine_eq]; omega) (fun i x ys H2 t hi ⟨e, x1, x2⟩ ht => ?_) (fun ys H2 ⟨e, x1, x2⟩ => ?_)
  · obtain ⟨wv, hwv, rfl⟩ := item_int hi
    have hil : i < ws.length := (List.getElem?_eq_some_iff.mp hwv).1
    have hw := gw_at g (k := (i : Int)) (by omega) (by omega)
    have ew : ws.getD (i : Int).toNat 0 = wv := by rw [List.getD_eq_getElem?_getD, show (i : Int).toNat = i from rfl, hwv]; rfl
    rw [ew] at hw
    have s2 := same_new ht (.tup [.int i, .int wv])
    have hb2 := s2 _ _ (x2 _ _ hb)
    refine ⟨_, rfl, _, rfl, _, _, rfl, rfl, .inr ⟨by omega, by omega⟩, ?_⟩
    refine ⟨_, rfl, .inl ⟨rfl, _, SqL.of hb2⟩, _, rfl, bg, _, _, rfl, rfl, SqL.of hb2, rfl, flat_ints _, _, _, rfl, rfl, s2 _ _ x1, rfl, ?_, upd_same, fun x o z => ?_⟩
    · rw [e, List.range_succ, List.map_append, List.map_append, countP_int]
      have ez : CR.at0 ws i = wv := ew
      show _ = _ ++ [V.int (n / ws.sum * CR.at0 ws i + _)]
      rw [ez]
      show _ ++ [V.int (n / ((List.map V.int (CR.wheel ws)).length : Int) * wv + _)] = _
      rw [hl]
    · rw [upd_ne (ne_of_none z hp)]
      exact s2 _ _ (x2 _ _ z)
  · rw [hlw] at e
    refine q p H2 (s1.trans x2) (s1.free hp) ?_
    rw [x1, e]
    rfl
end


/-! ### weights that are none -/
def goodI : V → Bool
  | .int i => decide (1 ≤ i)
  | _ => false
/-- not weights: no list; or a list of things whose kinds are known, of another length, with another item, or of too much -/
def badW (K : PySem.W.Frag) (H : Hp) (x : V) : Prop := (∃ T, TyOf K H x (.type T) ∧ T ≠ "list") ∨ ∃ a xs, x = .ref a ∧ H a = some (.lst xs) ∧ (∀ y ∈ xs, ∃ T, TyOf K H y (.type T)) ∧
  (xs.length < 1 ∨ 8 < xs.length ∨ (∃ y ∈ xs, goodI y = false) ∨ ∃ ns : List Int, xs = ns.map V.int ∧ 100 < ns.sum)
theorem TyOf.same {K : PySem.W.Frag} {H H' : Hp} {x : V} {t : Value} (h : TyOf K H x t) (s : Same H H') : TyOf K H' x t := by
  cases h with
  | non => exact .non
  | bl b => exact .bl b
  | int i => exact .int i
  | str i => exact .str i
  | flt i => exact .flt i
  | lst e => exact .lst (s _ _ e)
  | frz e => exact .frz (s _ _ e)
  | tup e => exact .tup (s _ _ e)
  | dK e => exact .dK (s _ _ e)
  | dT e => exact .dT (s _ _ e)
  | ins e cl ha hn htk hm => exact .ins (s _ _ e) cl ha hn htk hm
theorem list_kit {K : PySem.W.Frag} {H : Hp} {x : V} {T : String} (h : TyOf K H x (.type T)) (hT : T ≠ "list") : PySem.W.kitOne K (.type T) (.type "list") = some false := by
  cases h with
  | non => kernel_rfl
  | bl b => kernel_rfl
  | int i => kernel_rfl
  | str i => kernel_rfl
  | flt i => kernel_rfl
  | lst e => exact absurd rfl hT
  | frz e => exact absurd rfl hT
  | tup e => kernel_rfl
  | dK e => kernel_rfl
  | dT e => kernel_rfl
theorem good_ints : ∀ {xs : List V}, (∀ y ∈ xs, goodI y = true) → ∃ ns : List Int, xs = ns.map V.int
  | [], _ => ⟨[], rfl⟩
  | y :: xs, h => by
    obtain ⟨ns, e⟩ := good_ints (xs := xs) fun z hz => h z (List.mem_cons_of_mem _ hz)
    have hy := h y List.mem_cons_self
    cases y with
    | int i => exact ⟨i :: ns, by rw [e]; rfl⟩
    | _ => exact absurd (show false = true from hy) Bool.false_ne_true
def spAreNo (K : PySem.W.Frag) : Sp := fun vs H Q _ => ∃ x, vs = [x] ∧ badW K H x ∧ Q (.bl false) H
def spTurnsNo (K : PySem.W.Frag) (Cn : Addr) : Sp := fun vs H _ E => ∃ x, vs = [x] ∧ badW K H x ∧ E (.ref Cn) none H
def spInitNo (K : PySem.W.Frag) (Cn : Addr) : Sp := fun vs H _ E => ∃ a x, vs = [.ref a, x] ∧ badW K H x ∧ E (.ref Cn) none H
section
variable {P : Program} {w : World} {K : PySem.W.Frag} {mg : Str → Option Value} {base : Heap}
theorem ok_are_no {f : Addr} {fd : FuncData} (F : Fun K "are_weights" "are_weights" s_are_weights f fd) (T : Txt K mg) (Cis_whole : Cal P w K mg base 1 "is_whole" ["thing"] (spWhole K)) : FnOk P w K mg base CX0 2 f fd ["thing"] (spAreNo K) := by
  have sc := sc_are_weights
  refine F.ok sc (fun vs H Q E h => ?_) (fun cdv A outer s H vs Q E hr h => ?_)
  · obtain ⟨x, rfl, _⟩ := h
    rfl
  obtain ⟨x, rfl, hb, q⟩ := h
  refine ⟨_, (pss_cons (ps_if (pt_not (pt_val (pe_callB call_isinst rfl T.n_isinstance (show bootBuiltins _ = some (.builtin "isinstance") from rfl) (pa_cons (pv 0) (pa_cons (pe_ty "list" rfl T.n_list rfl) pa_nil)))))
        (pss_one (ps_ret pe_bl))
        pss_nil)
      (pss_cons (ps_if (PW.pt (pw_or (pt_cmpR op_lt (pe_callB call_len_seq rfl T.n_len (show bootBuiltins _ = some (.builtin "len") from rfl) (pa_cons (pv 0) pa_nil)) pe_int (nomark _)) (pw_or1 (pt_cmpR op_gt (pe_callB call_len_seq rfl T.n_len (show bootBuiltins _ = some (.builtin "len") from rfl) (pa_cons (pv 0) pa_nil)) (pe_gint T.g_MOST_PLACES rfl) (nomark _)))))
        (pss_one (ps_ret pe_bl))
        pss_nil)
      (pss_cons (ps_for PassesOwn.never rfl (pi_list (pv 0)) (pg_name (i := 1) sc.nd rfl (Or.inl rfl))
        (pss_one (ps_if (PW.pt (pw_or (pt_not (pt_val (pe_callC Cis_whole (hr.mono (by decide)) rfl (pa_cons (pv 1) pa_nil)))) (pw_or1 (pt_cmpR op_lt (pv 1) pe_int (nomark _)))))
        (pss_one (ps_ret pe_bl))
        pss_nil)))
      (pss_one (ps_ret (pe_cmpR op_le (pe_callB (call_sum rfl) rfl T.n_sum (show bootBuiltins _ = some (.builtin "sum") from rfl) (pa_cons (pv 0) pa_nil)) (pe_gint T.g_MOST_TURNS rfl) (nomark _))))))), ?_⟩
  rcases hb with ⟨T0, ty, hT⟩ | ⟨a, xs, rfl, ha, tys, hb⟩
  · refine ⟨_, rfl, _, _, _, _, _, rfl, ty_is, ty, list_kit ty hT, _, rfl, ?_⟩
    exact iteT q
  refine ⟨_, rfl, _, _, _, _, _, rfl, ty_is, .lst ha, kit_ll, _, rfl, ?_⟩
  refine iteF ?_
  refine ⟨_, rfl, a, _, rfl, .inl (SqL.of ha), _, _, rfl, rfl, _, rfl, ?_⟩
  by_cases h1 : xs.length < 1
  · exact dT (by omega) (iteT q)
  refine dF (by omega) ?_
  refine ⟨_, rfl, a, _, rfl, .inl (SqL.of ha), _, _, rfl, rfl, _, rfl, ?_⟩
  by_cases h2 : 8 < xs.length
  · exact dT (by omega) q
  refine dF (by omega) ?_
  refine ⟨_, rfl, a, rfl, ⟨_, SqL.of ha⟩, for_list (K := K) (a := a) (xs := xs) (fun i σ H2 => ((∃ o, σ = [some (.ref a), o]) ∧ H2 = H) ∧ ∀ j y, j < i → xs[j]? = some y → goodI y = true) ⟨⟨⟨none, rfl⟩, rfl⟩, fun _ _ z => absurd z (Nat.not_lt_zero _)⟩
    (fun i σ H2 _ ⟨⟨_, e⟩, _⟩ => by rw [e]; exact SqL.of ha) ?_ ?_⟩
  · rintro i y σ H2 hi ⟨⟨⟨o, rfl⟩, rfl⟩, good⟩
    obtain ⟨T1, ty⟩ := tys y (List.mem_of_getElem? hi)
    refine ⟨_, rfl, _, _, rfl, ty, _, rfl, ?_⟩
    have more : goodI y = true → ∀ j z, j < i + 1 → xs[j]? = some z → goodI z = true := fun gy j z hj hz => by
      by_cases e : j = i
      · subst e
        rw [hi] at hz
        cases hz
        exact gy
      · exact good j z (by omega) hz
    cases y with
    | int n =>
      refine iteF ?_
      refine ⟨_, rfl, _, _, rfl, rfl, _, rfl, ?_⟩
      by_cases hn : n < 1
      · exact dT hn q
      · exact dF hn ⟨⟨⟨_, rfl⟩, rfl⟩, more (decide_eq_true (by omega))⟩
    | _ => exact iteT (iteT q)
  · rintro σ H2 ⟨⟨⟨o, rfl⟩, rfl⟩, good⟩
    have all : ∀ y ∈ xs, goodI y = true := fun y hy => by
      obtain ⟨j, hj, e⟩ := List.getElem_of_mem hy
      exact good j y hj (by rw [List.getElem?_eq_getElem hj, e])
    rcases hb with hb | hb | ⟨y, hy, hb⟩ | ⟨ns, rfl, hb⟩
    · exact absurd hb h1
    · exact absurd hb h2
    · rw [all y hy] at hb
      cases hb
    · refine ⟨_, rfl, a, ns, rfl, SqL.of ha, _, _, rfl, rfl, ?_⟩
      show Q (.bl (decide (ns.sum ≤ 100))) H2
      rw [decide_eq_false (by omega)]
      exact q
theorem ok_turns_no {f : Addr} {fd : FuncData} {C_CoverError C_NoShares C_NoEntry C_NoClause C_NoCover C_NoBook : Addr} (F : Fun K "turns" "turns" s_turns f fd) (T : Txt K mg) (Z : Xc K mg C_CoverError C_NoShares C_NoEntry C_NoClause C_NoCover C_NoBook) (Care_weights : Cal P w K mg base 2 "are_weights" ["thing"] (spAreNo K)) (Cplace_of_turn : Cal P w K mg base 2 "place_of_turn" ["weights", "dealt", "turn"] spPlace) :
    FnOk P w K mg base (CX1 P w) 3 f fd ["weights"] (spTurnsNo K C_NoShares) := by
  have sc := sc_turns
  refine F.okX sc (fun vs H Q E h => ?_) (fun cdv A outer s H vs Q E hr h => ?_)
  · obtain ⟨_, rfl, _⟩ := h
    rfl
  obtain ⟨x, rfl, hb, q⟩ := h
  refine ⟨_, (pss_cons (ps_if (pt_not (pt_val (pe_callC Care_weights (hr.mono (by decide)) rfl (pa_cons (pv 0) pa_nil))))
        (pss_one (ps_raise wish_fn rfl Z.x_NoShares rfl (pa_cons pe_str pa_nil)))
        pss_nil)
      (pss_cons (ps_comp (NC := ["weight"]) (own := ["weight"]) (cs := []) (ix := []) (j := 1) sc.nd rfl rfl rfl (CompScope.of rfl) rfl trivial (pi_list (pv 0)) (fun _ _ _ => (pg_name (i := 0) (show (["weight"] : List Str).Nodup from by decide +kernel) rfl (Or.inl rfl))) (fun _ _ _ => pts_nil) (fun _ _ _ => pe_int))
      (pss_cons (ps_set (i := 2) sc.nd rfl (Or.inl rfl) (pe_lst pa_nil))
      (pss_cons (ps_for PassesOwn.leaving rfl (pi_range1 rfl T.n_range (pa_cons (pe_callB (call_sum rfl) rfl T.n_sum (show bootBuiltins _ = some (.builtin "sum") from rfl) (pa_cons (pv 0) pa_nil)) pa_nil)) (pg_name (i := 3) sc.nd rfl (Or.inl rfl))
        (pss_cons (ps_set (i := 4) sc.nd rfl (Or.inl rfl) (pe_callC Cplace_of_turn (hr.mono (by decide)) rfl (pa_cons (pv 0) (pa_cons (pv 1) (pa_cons (pv 3) pa_nil)))))
      (pss_cons (ps_asg (pe_op op_add (pe_ix ix_list (pv 1) (pv 4) (fun _ _ => rfl)) pe_int) (pg_sub (pv 1) (pv 4) set_list))
      (pss_one (ps_expr (pe_bm PySem.F.plainAttrs_list PySem.F.slot_list_append PySem.F.type_list_append mt_append (pv 2) (pa_cons (pv 4) pa_nil)))))))
      (pss_one (ps_ret (pv 2))))))), ?_⟩
  exact ⟨_, rfl, x, rfl, hb, _, rfl, iteT ⟨le_line (by show 1 ≤ 1000; decide), q⟩⟩
theorem ok_init_no {f C : Addr} {fd : FuncData} {C_CoverError C_NoShares C_NoEntry C_NoClause C_NoCover C_NoBook : Addr} (F : Fun K "__init__" "Deal.__init__" s_Deal___init__ f fd) (T : Txt K mg) (Z : Xc K mg C_CoverError C_NoShares C_NoEntry C_NoClause C_NoCover C_NoBook) (Cturns : CalX P w K mg base 3 "turns" ["weights"] (spTurnsNo K C_NoShares)) :
    FnOk P w K mg base (CX1 P w) 4 f fd ["self", "weights"] (spInitNo K C_NoShares) := by
  have sc := sc_Deal___init__
  refine F.okX sc (fun vs H Q E h => ?_) (fun cdv A outer s H vs Q E hr h => ?_)
  · obtain ⟨_, _, rfl, _⟩ := h
    rfl
  obtain ⟨a, x, rfl, hb, q⟩ := h
  refine ⟨_, (pss_cons (ps_fld (pv 0) (pe_callX Cturns (hr.mono (by decide)) wish_fn rfl (pa_cons (pv 1) pa_nil)) rfl)
      (pss_one (ps_fld (pv 0) (pe_callTy call_list_of rfl T.n_list (show bootBuiltins _ = some (.type "list") from rfl) (pa_cons (pv 1) pa_nil)) rfl))), ?_⟩
  exact ⟨_, rfl, x, rfl, hb, q⟩
end


/-! ### covers: all that a cover may be made of -/
def KB (p : Addr) (H H' : Hp) : Prop := ∀ b o, H b = some o → b ≠ p → H' b = some o
theorem KB.upd {p : Addr} {H H' : Hp} (k : KB p H H') (o : HO) : KB p H (upd H' p o) := fun b u e n => by rw [upd_ne n]; exact k b u e n
theorem KB.same {p : Addr} {H H' H'' : Hp} (k : KB p H H') (s : Same H' H'') : KB p H H'' := fun b u e n => s _ _ (k b u e n)
theorem KB.free {p : Addr} {H H' : Hp} {b : Addr} (k : KB p H H') (n : b ≠ p) (h : H' b = none) : H b = none := by
  cases z : H b with
  | none => rfl
  | some o =>
    have := k _ _ z n
    rw [h] at this
    cases this
theorem atG {i : Nat} {v : V} {nx : St → Hp → Prop} {σ : St} {H : Hp} (σ' : St) (e : σ.set i (some v) = σ') (h : nx σ' H) : gName i v σ H nx := by
  unfold gName
  rw [e]
  exact h
theorem flat_strs (l : List Str) : (l.map V.str).all flatV = true := by
  rw [List.all_map]
  exact List.all_eq_true.mpr fun _ _ => rfl
theorem take_snoc {α : Type} {l : List α} {i : Nat} {x : α} (h : l[i]? = some x) : l.take (i + 1) = l.take i ++ [x] := by
  rw [List.take_add_one, h]
  rfl
theorem f1 {f g : Str} {v : V} {fs : List (Str × V)} (h : ¬ g = f) : (putF f v fs).lookup g = fs.lookup g := by rw [lookup_putF, if_neg h]
theorem f0 {f : Str} {v : V} {fs : List (Str × V)} : (putF f v fs).lookup f = some v := by rw [lookup_putF, if_pos rfl]
theorem len_putF (f : Str) (v : V) : ∀ fs : List (Str × V), (putF f v fs).length ≤ fs.length + 1
  | [] => Nat.le_refl _
  | (g, u) :: fs => by
    unfold putF
    split
    · simp
    · have := len_putF f v fs
      simp only [List.length_cons]
      omega
/-- a list of pairs -/
abbrev Pr := V × V
def Prs (H : Hp) : List V → List Pr → Prop
  | [], [] => True
  | x :: xs, p :: ps => (∃ t, x = .ref t ∧ H t = some (.tup [p.1, p.2])) ∧ Prs H xs ps
  | _, _ => False
theorem Prs.len {H : Hp} : ∀ {xs : List V} {ps : List Pr}, Prs H xs ps → xs.length = ps.length
  | [], [], _ => rfl
  | [], _ :: _, h => h.elim
  | _ :: _, [], h => h.elim
  | x :: xs, p :: ps, h => by rw [List.length_cons, List.length_cons, Prs.len h.2]
theorem Prs.mono {H H' : Hp} (s : Tst H H') : ∀ {xs : List V} {ps : List Pr}, Prs H xs ps → Prs H' xs ps
  | [], [], _ => trivial
  | [], _ :: _, h => h.elim
  | _ :: _, [], h => h.elim
  | x :: xs, p :: ps, ⟨⟨t, e, h⟩, r⟩ => ⟨⟨t, e, s _ _ h⟩, Prs.mono s r⟩
theorem Prs.get {H : Hp} : ∀ {xs : List V} {ps : List Pr} {i : Nat} {x : V}, Prs H xs ps → xs[i]? = some x → ∃ t p, ps[i]? = some p ∧ x = .ref t ∧ H t = some (.tup [p.1, p.2])
  | [], [], _, _, _, e => by simp at e
  | [], _ :: _, _, _, h, _ => h.elim
  | _ :: _, [], _, _, h, _ => h.elim
  | x :: xs, p :: ps, 0, y, ⟨⟨t, e, h⟩, r⟩, q => by
    simp at q
    subst q
    exact ⟨t, p, rfl, e, h⟩
  | x :: xs, p :: ps, i + 1, y, ⟨_, r⟩, q => by
    obtain ⟨t, p', h1, h2⟩ := Prs.get (i := i) r (by simpa using q)
    exact ⟨t, p', by simpa using h1, h2⟩
theorem Prs.app {H : Hp} : ∀ {xs : List V} {ps : List Pr} {ys : List V} {qs : List Pr}, Prs H xs ps → Prs H ys qs → Prs H (xs ++ ys) (ps ++ qs)
  | [], [], _, _, _, h => h
  | [], _ :: _, _, _, r, _ => r.elim
  | _ :: _, [], _, _, r, _ => r.elim
  | x :: xs, p :: ps, _, _, ⟨z, r⟩, h => ⟨z, Prs.app r h⟩
theorem Prs.one {H : Hp} {t : Addr} {a b : V} (h : H t = some (.tup [a, b])) : Prs H [.ref t] [(a, b)] := ⟨⟨t, rfl, h⟩, trivial⟩
theorem Prs.take {H : Hp} : ∀ {xs : List V} {ps : List Pr} (k : Nat), Prs H xs ps → Prs H (xs.take k) (ps.take k)
  | [], [], _, _ => by rw [List.take_nil, List.take_nil]; trivial
  | [], _ :: _, _, h => h.elim
  | _ :: _, [], _, h => h.elim
  | x :: xs, p :: ps, 0, h => by rw [List.take_zero, List.take_zero]; trivial
  | x :: xs, p :: ps, k + 1, h => by rw [List.take_succ_cons, List.take_succ_cons]; exact ⟨h.1, Prs.take k h.2⟩
theorem Prs.drop {H : Hp} : ∀ {xs : List V} {ps : List Pr} (k : Nat), Prs H xs ps → Prs H (xs.drop k) (ps.drop k)
  | [], [], _, _ => by rw [List.drop_nil, List.drop_nil]; trivial
  | [], _ :: _, _, h => h.elim
  | _ :: _, [], _, h => h.elim
  | x :: xs, p :: ps, 0, h => h
  | x :: xs, p :: ps, k + 1, h => by rw [List.drop_succ_cons, List.drop_succ_cons]; exact Prs.drop k h.2
theorem Prs.set {H : Hp} : ∀ {xs : List V} {ps : List Pr} (k : Nat) {t : Addr} {a b : V}, Prs H xs ps → H t = some (.tup [a, b]) → Prs H (xs.set k (.ref t)) (ps.set k (a, b))
  | [], [], _, _, _, _, _, _ => trivial
  | [], _ :: _, _, _, _, _, h, _ => h.elim
  | _ :: _, [], _, _, _, _, h, _ => h.elim
  | x :: xs, p :: ps, 0, t, _, _, h, e => ⟨⟨t, rfl, e⟩, h.2⟩
  | x :: xs, p :: ps, k + 1, t, _, _, h, e => ⟨h.1, Prs.set k h.2 e⟩
/-- names, each once -/
def GoodHs (l : List V) : Prop := ∃ ns : List Str, l = ns.map V.str ∧ (∀ z ∈ ns, nameV (.str z) = true) ∧ ns.Nodup
def GoodWs (l : List V) : Prop := ∃ ws : List Int, l = ws.map V.int ∧ CR.GW ws
theorem goodHs_snoc {l : List V} {z : Str} (g : GoodHs l) (n : nameV (.str z) = true) (ni : inV (.str z) l = false) : GoodHs (l ++ [.str z]) := by
  obtain ⟨ns, rfl, h1, h2⟩ := g
  refine ⟨ns ++ [z], by rw [List.map_append]; rfl, fun y hy => ?_, ?_⟩
  · rcases List.mem_append.mp hy with hy | hy
    · exact h1 y hy
    · rw [List.mem_singleton.mp hy]; exact n
  · rw [List.nodup_append]
    refine ⟨h2, List.pairwise_singleton _ _, fun a ha b hb e => ?_⟩
    rw [List.mem_singleton.mp hb] at e
    subst e
    unfold inV at ni
    rw [List.any_map, List.any_eq_false] at ni
    exact ni a ha (by show eqV (.str a) (.str a) = true; simp [eqV])
theorem goodHs_take {l : List V} (k : Nat) (g : GoodHs l) : GoodHs (l.take k) := by
  obtain ⟨ns, rfl, h1, h2⟩ := g
  exact ⟨ns.take k, by rw [List.map_take], fun z hz => h1 z (List.mem_of_mem_take hz), h2.sublist (List.take_sublist _ _)⟩
theorem goodHs_last {l : List V} {x : V} (g : GoodHs (l ++ [x])) : ∃ z, x = .str z ∧ nameV (.str z) = true ∧ inV (.str z) l = false := by
  obtain ⟨ns, e, h1, h2⟩ := g
  rcases List.eq_nil_or_concat ns with rfl | ⟨ms, z, rfl⟩
  · simp at e
  rw [List.concat_eq_append] at e h1 h2
  rw [List.map_append] at e
  obtain ⟨e1, e2⟩ := List.append_inj' e rfl
  have e2' : x = .str z := by simpa using e2
  refine ⟨z, e2', h1 z (by simp), ?_⟩
  rw [e1]
  unfold inV
  rw [List.any_map, List.any_eq_false]
  intro y hy c
  have c' : eqV (.str y) (.str z) = true := c
  have : y = z := by simpa [eqV] using c'
  subst this
  rw [List.nodup_append] at h2
  exact h2.2.2 y hy y (by simp) rfl
theorem bad_ws {K : PySem.W.Frag} {H : Hp} {a : Addr} {xs : List V} (h : H a = some (.lst xs)) (ty : ∀ y ∈ xs, ∃ T, TyOf K H y (.type T)) (n : ¬ GoodWs xs) : badW K H (.ref a) := by
  refine .inr ⟨a, xs, rfl, h, ty, ?_⟩
  by_cases c1 : xs.length < 1
  · exact .inl c1
  by_cases c2 : 8 < xs.length
  · exact .inr (.inl c2)
  by_cases c3 : ∃ y ∈ xs, goodI y = false
  · exact .inr (.inr (.inl c3))
  obtain ⟨ns, rfl⟩ := good_ints (xs := xs) fun y hy => by
    cases z : goodI y with
    | true => rfl
    | false => exact absurd ⟨y, hy, z⟩ c3
  refine .inr (.inr (.inr ⟨ns, rfl, ?_⟩))
  by_cases c4 : 100 < ns.sum
  · exact c4
  · refine absurd ⟨ns, rfl, ?_⟩ n
    rw [List.length_map] at c1 c2
    refine ⟨by omega, by omega, fun i hi => ?_, by omega⟩
    by_cases c5 : 1 ≤ i
    · exact c5
    · exact absurd ⟨_, List.mem_map.mpr ⟨i, hi, rfl⟩, decide_eq_false c5⟩ c3
def spHouses (K : PySem.W.Frag) (Cn : Addr) : Sp := fun vs H Q E => ∃ a hs, vs = [.ref a] ∧ H a = some (.lst hs) ∧ hs.length ≤ 900 ∧ (∀ y ∈ hs, okX y ∧ ∃ T, TyOf K H y (.type T)) ∧ (GoodHs hs → ∀ H', Same H H' → Q .non H') ∧ (¬ GoodHs hs → ∀ H', Same H H' → E (.ref Cn) none H')
/-- the cover at p: what it keeps -/
structure CvAt (C CD : Addr) (H : Hp) (p cl hv d wh wt : Addr) (nm : Str) (cd wv : V) (cs : List V) (hs : List V) (ws : List Int) : Prop where
  ob : ∃ dx fs, H p = some (.ins C dx fs) ∧ fs.lookup ("name" : Str) = some (.str nm) ∧ fs.lookup ("condition" : Str) = some cd ∧ fs.lookup ("clauses" : Str) = some (.ref cl) ∧ fs.lookup ("houses" : Str) = some (.ref hv) ∧ fs.lookup ("deal" : Str) = some (.ref d) ∧ fs.lookup ("waits" : Str) = some wv ∧ fs.lookup ("asks" : Str) = none
  hc : H cl = some (.lst cs)
  hh : H hv = some (.lst hs)
  hd : DealAt CD H d wh wt ws
theorem CvAt.same {C CD : Addr} {H H' : Hp} {p cl hv d wh wt : Addr} {nm : Str} {cd wv : V} {cs hs : List V} {ws : List Int} (h : CvAt C CD H p cl hv d wh wt nm cd wv cs hs ws) (s : Same H H') : CvAt C CD H' p cl hv d wh wt nm cd wv cs hs ws := by
  obtain ⟨⟨dx, fs, e, r⟩, h1, h2, h3⟩ := h
  exact ⟨⟨dx, fs, s _ _ e, r⟩, s _ _ h1, s _ _ h2, h3.same s⟩
/-- what is told of the clauses, of the houses -/
def ClsIn (H : Hp) (cv : V) (cs : List V) : Prop := (cv = .non ∧ cs = []) ∨ ∃ c0, cv = .ref c0 ∧ H c0 = some (.lst cs)
def HssIn (H : Hp) (x hv : V) (prs : List Pr) : Prop := (hv = .non ∧ prs = [(x, .int 1)]) ∨ ∃ h0 ys, hv = .ref h0 ∧ H h0 = some (.lst ys) ∧ Prs H ys prs
def goodN (x : V) : Prop := nameV x = true ∧ x ≠ .str "self"
def spCov (K : PySem.W.Frag) (C CD Cn Cs : Addr) : Sp := fun vs H Q E => ∃ p dx x T cd cv cs hv prs wv, vs = [.ref p, x, cd, cv, hv, wv] ∧ H p = some (.ins C dx []) ∧ TyOf K H x (.type T) ∧ okX x ∧ ClsIn H cv cs ∧ HssIn H x hv prs ∧ prs.length ≤ 900 ∧
  (∀ z ∈ prs, okX z.1 ∧ (∃ T, TyOf K H z.1 (.type T)) ∧ ∃ T, TyOf K H z.2 (.type T)) ∧
  (¬ goodN x ∨ 8 < cs.length ∨ ¬ GoodHs (prs.map (·.1)) → ∀ H', KB p H H' → E (.ref Cn) none H') ∧
  (goodN x → cs.length ≤ 8 → GoodHs (prs.map (·.1)) → ¬ GoodWs (prs.map (·.2)) → ∀ H', KB p H H' → E (.ref Cs) none H') ∧
  (∀ nm ws, x = .str nm → goodN x → cs.length ≤ 8 → GoodHs (prs.map (·.1)) → prs.map (·.2) = ws.map V.int → CR.GW ws → ∀ cl h1 d wh wt H', KB p H H' → CvAt C CD H' p cl h1 d wh wt nm cd wv cs (prs.map (·.1)) ws → H cl = none → H h1 = none → H d = none → H wh = none → H wt = none → Q .non H')
theorem TyOf.put {K : PySem.W.Frag} {H H' : Hp} {x : V} {T : String} {p C dx : Addr} {fs : List (Str × V)} (t : TyOf K H x (.type T)) (hp : H p = some (.ins C dx fs)) (k : KB p H H') : TyOf K H' x (.type T) := by
  have ne : ∀ {a : Addr} {o : HO}, H a = some o → (∀ C dx fs, o ≠ .ins C dx fs) → a ≠ p := fun e h z => by
    subst z
    rw [hp] at e
    injection e with e
    exact h _ _ _ e.symm
  cases t with
  | non => exact .non
  | bl b => exact .bl b
  | int i => exact .int i
  | str i => exact .str i
  | flt i => exact .flt i
  | lst e => exact .lst (k _ _ e (ne e (fun _ _ _ => nofun)))
  | frz e => exact .frz (k _ _ e (ne e (fun _ _ _ => nofun)))
  | tup e => exact .tup (k _ _ e (ne e (fun _ _ _ => nofun)))
  | dK e => exact .dK (k _ _ e (ne e (fun _ _ _ => nofun)))
  | dT e => exact .dT (k _ _ e (ne e (fun _ _ _ => nofun)))
section
variable {P : Program} {w : World} {K : PySem.W.Frag} {mg : Str → Option Value} {base : Heap} {C_Own C_CauseIs C_ThingIs C_Over C_Clause C_Deal C_Cover : Addr} {C_CoverError C_NoShares C_NoEntry C_NoClause C_NoCover C_NoBook : Addr}
theorem sc_check_houses : FnScope ["houses", "k", "house"] ["houses"] (defScope s_check_houses) := ⟨rfl, rfl, rfl, by decide +kernel, rfl, by decide +kernel, by decide +kernel⟩
theorem ok_check_houses {f : Addr} {fd : FuncData} (F : Fun K "check_houses" "check_houses" s_check_houses f fd) (T : Txt K mg) (Z : Xc K mg C_CoverError C_NoShares C_NoEntry C_NoClause C_NoCover C_NoBook) (Cis_name : Cal P w K mg base 2 "is_name" ["thing"] (spName K)) : FnOk P w K mg base (CX1 P w) 3 f fd ["houses"] (spHouses K C_NoCover) := by
  have sc := sc_check_houses
  refine F.okX sc (fun vs H Q E h => ?_) (fun cdv A outer s H vs Q E hr h => ?_)
  · obtain ⟨_, _, rfl, _⟩ := h
    rfl
  obtain ⟨a, hs, rfl, ha, l9, ty, q, r⟩ := h
  refine ⟨_, (pss_one (ps_for PassesOwn.leaving rfl (pi_enum rfl T.n_enumerate (pa_cons (pv 0) pa_nil)) (pg_tup (n := 2) rfl (pgs_cons (pg_name (i := 1) sc.nd rfl (Or.inl rfl)) (pgs_cons (pg_name (i := 2) sc.nd rfl (Or.inl rfl)) pgs_nil)))
        (pss_one (ps_if (PW.pt (pw_or (pt_not (pt_val (pe_callC Cis_name (hr.mono (by decide)) rfl (pa_cons (pv 2) pa_nil)))) (pw_or1 (pt_cmpR op_in_seq (pv 2) (pe_slice sl_list (pv 0) po_none (po_some (pv 1))) rfl))))
        (pss_one (ps_raise wish_fn rfl Z.x_NoCover rfl (pa_cons pe_str pa_nil)))
        pss_nil)))), ?_⟩
  have one : 1 ≤ sizeLine := by rw [sizeLine_eq]; decide
  refine ⟨_, rfl, a, rfl, ⟨_, SqL.of ha⟩, for_enum (K := K) (a := a) (xs := hs) (fun i σ H2 => ((∃ o1 o2, σ = [some (.ref a), o1, o2]) ∧ GoodHs (hs.take i)) ∧ Same H H2) ⟨⟨⟨none, none, rfl⟩, ⟨[], rfl, fun _ z => (nomatch z), List.Pairwise.nil⟩⟩, fun _ _ z => z⟩ (fun i σ H2 _ ⟨_, e⟩ => SqL.of (e _ _ ha)) ?_ ?_⟩
  · rintro i x σ H2 t hi ⟨⟨⟨o1, o2, rfl⟩, g⟩, s2⟩ nt
    obtain ⟨ok, T0, ty0⟩ := ty x (List.mem_of_getElem? hi)
    have s3 := s2.trans (same_new nt (.tup [.int i, x]))
    have il : i < hs.length := (List.getElem?_eq_some_iff.mp hi).1
    have no : ∀ {z : Str}, x = .str z → (nameV x = false ∨ inV x (hs.take i) = true) → ¬ GoodHs hs := fun e h gd => by
      have g2 := goodHs_take (i + 1) gd
      rw [take_snoc hi] at g2
      obtain ⟨z, e1, h1, h2⟩ := goodHs_last g2
      rw [e1] at h
      rcases h with h | h
      · rw [h1] at h; cases h
      · rw [h2] at h; cases h
    have no' : nameV x = false → ¬ GoodHs hs := fun h gd => by
      have g2 := goodHs_take (i + 1) gd
      rw [take_snoc hi] at g2
      obtain ⟨z, e1, h1, h2⟩ := goodHs_last g2
      rw [e1, h1] at h
      cases h
    refine ⟨_, rfl, _, _, rfl, TyOf.same ty0 s3, ok, _, rfl, ?_⟩
    cases nx : nameV x with
    | false => exact iteT (iteT ⟨one, r (no' nx) _ s3⟩)
    | true =>
      refine iteF ?_
      obtain ⟨z, rfl⟩ : ∃ z, x = .str z := by
        cases x with
        | str z => exact ⟨z, rfl⟩
        | _ => exact absurd (show false = true from nx) Bool.false_ne_true
      refine ⟨_, rfl, _, rfl, _, rfl, _, rfl, a, _, rfl, SqL.of (s3 _ _ ha), fun m nm => ?_⟩
      have ec : cutV hs none (some (i : Int)) = hs.take i := by
        unfold cutV
        have e1 : HT.sIx hs.length hs.length (some (i : Int)) = i := by rw [HT.sIx_nat]; omega
        rw [e1, HT.sIx_none, List.drop_zero, Nat.sub_zero]
      have s4 := s3.trans (same_new nm (.lst (cutV hs none (some (i : Int)))))
      have fl : (hs.take i).all flatV = true := by
        obtain ⟨ns, e, _⟩ := g
        rw [e]
        exact flat_strs ns
      refine ⟨m, hs.take i, rfl, .inl (SqL.of (by rw [upd_same, ec])), rfl, fl, _, rfl, ?_⟩
      show if inV (.str z) (hs.take i) = true then _ else _
      cases c : inV (.str z) (hs.take i) with
      | true => exact iteT ⟨one, r (no rfl (.inr c)) _ s4⟩
      | false => exact iteF ⟨⟨⟨_, _, rfl⟩, by rw [take_snoc hi]; exact goodHs_snoc g nx c⟩, s4⟩
  · rintro σ H2 ⟨⟨⟨o1, o2, rfl⟩, g⟩, s2⟩
    rw [List.take_length] at g
    exact q g _ s2
end
/-- a if c else b, then what follows, of either value -/
theorem join_e {c : Prop} {inst : Decidable c} {t u : TE} {σ : St} {H : Hp} {Q : VK} (G : V → Hp → Prop) (h1 : c → ∀ Q' : VK, (∀ v H', G v H' → Q' v H') → t σ H Q') (h2 : ¬ c → ∀ Q' : VK, (∀ v H', G v H' → Q' v H') → u σ H Q') (R : ∀ v H', G v H' → Q v H') :
    @ite Prop c inst (t σ H Q) (u σ H Q) := by
  by_cases z : c
  · rw [if_pos z]; exact h1 z Q R
  · rw [if_neg z]; exact h2 z Q R
section
variable {P : Program} {w : World} {K : PySem.W.Frag} {mg : Str → Option Value} {base : Heap} {C_Own C_CauseIs C_ThingIs C_Over C_Clause C_Deal C_Cover : Addr} {C_CoverError C_NoShares C_NoEntry C_NoClause C_NoCover C_NoBook : Addr}
theorem sc_Cover___init__ : FnScope ["self", "name", "condition", "clauses", "houses", "waits", "pairs"] ["self", "name", "condition", "clauses", "houses", "waits"] (defScope s_Cover___init__) := ⟨rfl, rfl, rfl, by decide +kernel, rfl, by decide +kernel, by decide +kernel⟩
seal L2.PS L2.PSs L2.PE L2.PA
theorem ok_Cover___init__ {f : Addr} {fd : FuncData} (F : FunD K "__init__" "Cover.__init__" s_Cover___init__ f fd) (T : Txt K mg) (L : Kl K mg C_Own C_CauseIs C_ThingIs C_Over C_Clause C_Deal C_Cover) (Z : Xc K mg C_CoverError C_NoShares C_NoEntry C_NoClause C_NoCover C_NoBook) (Cis_name : Cal P w K mg base 2 "is_name" ["thing"] (spName K)) (Ccheck_houses : CalX P w K mg base 3 "check_houses" ["houses"] (spHouses K C_NoCover))
    (KDeal : KCalX P w K mg base 4 "Deal" C_Deal ["self", "weights"] (fun vs H Q E => spInit C_Deal vs H Q E ∨ spInitNo K C_NoShares vs H Q E)) : FnOk P w K mg base (CX1 P w) 6 f fd ["self", "name", "condition", "clauses", "houses", "waits"] (spCov K C_Cover C_Deal C_NoCover C_NoShares) := by
  have sc := sc_Cover___init__
  refine F.okX sc (fun vs H Q E h => ?_) (fun cdv A outer s H vs Q E hr h => ?_)
  · obtain ⟨_, _, _, _, _, _, _, _, _, _, rfl, _⟩ := h
    rfl
  obtain ⟨p, dx, x, T0, cd, cv, cs, hv, prs, wv, rfl, hp, ty, okx, hcl, hhs, l9, typ, rN, rS, q⟩ := h
  refine ⟨_, (pss_cons (ps_if (PW.pt (pw_or (pt_not (pt_val (pe_callC Cis_name (hr.mono (by decide)) rfl (pa_cons (pv 1) pa_nil)))) (pw_or1 (pt_cmpR op_eq (pv 1) (pe_gstr T.g_COVERED_ONE rfl) (nomark _)))))
        (pss_one (ps_raise wish_fn rfl Z.x_NoCover rfl (pa_cons pe_str pa_nil)))
        pss_nil)
      (pss_cons (ps_fld (pv 0) (pv 1) rfl)
      (pss_cons (ps_fld (pv 0) (pv 2) rfl)
      (pss_cons (ps_fld (pv 0) (pe_ifExp (pt_cmpR op_isN (pv 3) pe_non (nomark _)) (pe_lst pa_nil) (pe_callTy call_list_of rfl T.n_list (show bootBuiltins _ = some (.type "list") from rfl) (pa_cons (pv 3) pa_nil))) rfl)
      (pss_cons (ps_if (pt_cmpR op_gt (pe_callB call_len_seq rfl T.n_len (show bootBuiltins _ = some (.builtin "len") from rfl) (pa_cons (pe_fld (pv 0) rfl) pa_nil)) (pe_gint T.g_MOST_CLAUSES rfl) (nomark _))
        (pss_one (ps_raise wish_fn rfl Z.x_NoCover rfl (pa_cons pe_str pa_nil)))
        pss_nil)
      (pss_cons (ps_set (i := 6) sc.nd rfl (Or.inl rfl) (pe_ifExp (pt_cmpR op_isN (pv 4) pe_non (nomark _)) (pe_lst (pa_cons (pe_tup (pa_cons (pv 1) (pa_cons pe_int pa_nil))) pa_nil)) (pv 4)))
      (pss_cons (ps_fld (pv 0) (pe_comp (NC := ["pair"]) (own := ["pair"]) (cs := []) (ix := []) rfl (CompScope.of rfl) rfl trivial (pi_list (pv 6)) (fun _ _ _ => (pg_name (i := 0) (show (["pair"] : List Str).Nodup from by decide +kernel) rfl (Or.inl rfl))) (fun _ _ _ => pts_nil) (fun _ _ _ => (pe_ix (ix_tupK (K := K) rfl) (pv 0) pe_int (fun _ _ => rfl)))) rfl)
      (pss_cons (ps_expr (pe_callX Ccheck_houses (hr.mono (by decide)) wish_fn rfl (pa_cons (pe_fld (pv 0) rfl) pa_nil)))
      (pss_cons (ps_fld (pv 0) (pe_makeX KDeal (hr.mono (by decide)) wish_fn rfl (pa_cons (pe_comp (NC := ["pair"]) (own := ["pair"]) (cs := []) (ix := []) rfl (CompScope.of rfl) rfl trivial (pi_list (pv 6)) (fun _ _ _ => (pg_name (i := 0) (show (["pair"] : List Str).Nodup from by decide +kernel) rfl (Or.inl rfl))) (fun _ _ _ => pts_nil) (fun _ _ _ => (pe_ix (ix_tupK (K := K) rfl) (pv 0) pe_int (fun _ _ => rfl)))) pa_nil)) rfl)
      (pss_one (ps_fld (pv 0) (pv 5) rfl))))))))))), ?_⟩
  have one : 1 ≤ sizeLine := by rw [sizeLine_eq]; decide
  have two : 2 ≤ sizeLine := by rw [sizeLine_eq]; decide
  have keep : ∀ {H' : Hp}, KB p H H' → Tst H H' := fun k t zs e => k _ _ e (ne_of e hp (by intro z; cases z))
  have k0 : KB p H H := fun _ _ e _ => e
  refine ⟨_, rfl, _, _, rfl, ty, okx, _, rfl, ?_⟩
  cases nx : nameV x with
  | false => exact iteT (iteT ⟨one, rN (.inl fun g => by rw [g.1] at nx; cases nx) _ k0⟩)
  | true =>
  refine iteF ?_
  obtain ⟨nm, rfl⟩ : ∃ z, x = .str z := by
    cases x with
    | str z => exact ⟨z, rfl⟩
    | _ => exact absurd (show false = true from nx) Bool.false_ne_true
  refine ⟨_, rfl, rfl, _, rfl, ?_⟩
  by_cases ns : V.str nm = V.str "self"
  · exact dT ns ⟨one, rN (.inl fun g => g.2 ns) _ k0⟩
  refine dF ns ?_
  have gn : goodN (.str nm) := ⟨nx, ns⟩
  -- name, condition
  refine ⟨_, rfl, _, rfl, p, C_Cover, dx, [], rfl, hp, L.cl_Cover, L.na_Cover_name, by decide, ?_⟩
  refine ⟨_, rfl, _, rfl, p, C_Cover, dx, _, rfl, upd_same, L.cl_Cover, L.na_Cover_condition, Nat.lt_of_le_of_lt (len_putF _ _ _) (by decide), ?_⟩
  have k2 : KB p H (upd (upd H p (.ins C_Cover dx (putF "name" (.str nm) []))) p (.ins C_Cover dx (putF "condition" cd (putF "name" (.str nm) [])))) := KB.upd (KB.upd k0 _) _
  have e2 : upd (upd H p (.ins C_Cover dx (putF "name" (.str nm) []))) p (.ins C_Cover dx (putF "condition" cd (putF "name" (.str nm) []))) p = some (.ins C_Cover dx (putF "condition" cd (putF "name" (.str nm) []))) := upd_same
  have g2 : (putF "condition" cd (putF "name" (.str nm) [])).length ≤ 2 := Nat.le_trans (len_putF _ _ _) (Nat.succ_le_succ (len_putF _ _ _))
  have n2 : (putF "condition" cd (putF "name" (.str nm) [])).lookup ("name" : Str) = some (.str nm) := by rw [f1 (by decide +kernel), f0]
  have c2 : (putF "condition" cd (putF "name" (.str nm) [])).lookup ("condition" : Str) = some cd := f0
  have a2 : (putF "condition" cd (putF "name" (.str nm) [])).lookup ("asks" : Str) = none := by rw [f1 (by decide +kernel), f1 (by decide +kernel)]; rfl
  generalize putF "condition" cd (putF "name" (.str nm) []) = fs2 at k2 e2 g2 n2 c2 a2
  generalize upd (upd H p (.ins C_Cover dx (putF "name" (.str nm) []))) p (.ins C_Cover dx fs2) = H2 at k2 e2
  -- clauses
  refine ⟨_, rfl, rfl, _, rfl, ?_⟩
  refine join_e (fun v H' => ∃ cl, v = .ref cl ∧ H2 cl = none ∧ H' = upd H2 cl (.lst cs)) (fun c Q' k => ?_) (fun c Q' k => ?_) ?_
  · have c' : cv = .non := of_decide_eq_true c
    rcases hcl with ⟨_, rfl⟩ | ⟨c0, e, _⟩
    · exact ⟨Nat.zero_le _, fun cl ncl => k _ _ ⟨cl, rfl, ncl, rfl⟩⟩
    · rw [c'] at e; cases e
  · have c' : cv ≠ .non := fun e => c (decide_eq_true e)
    rcases hcl with ⟨e, _⟩ | ⟨c0, rfl, hc⟩
    · exact absurd e c'
    · have ncp : c0 ≠ p := ne_of hc hp (by intro z; cases z)
      exact ⟨_, rfl, c0, _, rfl, .inl (SqL.of (k2 _ _ hc ncp)), fun cl ncl => k _ _ ⟨cl, rfl, ncl, rfl⟩⟩
  rintro v H3 ⟨cl, rfl, ncl, rfl⟩
  have s3 := same_new ncl (.lst cs)
  have ncl' : cl ≠ p := (ne_of_none e2 ncl).symm
  refine ⟨_, rfl, p, C_Cover, dx, fs2, rfl, s3 _ _ e2, L.cl_Cover, L.na_Cover_clauses, by omega, ?_⟩
  have k3 : KB p H (upd (upd H2 cl (.lst cs)) p (.ins C_Cover dx (putF "clauses" (.ref cl) fs2))) := (k2.same s3).upd _
  have e3 : upd (upd H2 cl (.lst cs)) p (.ins C_Cover dx (putF "clauses" (.ref cl) fs2)) p = some (.ins C_Cover dx (putF "clauses" (.ref cl) fs2)) := upd_same
  have c3 : upd (upd H2 cl (.lst cs)) p (.ins C_Cover dx (putF "clauses" (.ref cl) fs2)) cl = some (.lst cs) := by rw [upd_ne ncl', upd_same]
  have fcl : H cl = none := k2.free ncl' ncl
  have g3 : (putF "clauses" (.ref cl) fs2).length ≤ 3 := Nat.le_trans (len_putF _ _ _) (by omega)
  have w3 : (putF "clauses" (.ref cl) fs2).lookup ("clauses" : Str) = some (.ref cl) := f0
  have n3 : (putF "clauses" (.ref cl) fs2).lookup ("name" : Str) = some (.str nm) := by rw [f1 (by decide +kernel)]; exact n2
  have d3 : (putF "clauses" (.ref cl) fs2).lookup ("condition" : Str) = some cd := by rw [f1 (by decide +kernel)]; exact c2
  have a3 : (putF "clauses" (.ref cl) fs2).lookup ("asks" : Str) = none := by rw [f1 (by decide +kernel)]; exact a2
  generalize putF "clauses" (.ref cl) fs2 = fs3 at k3 e3 c3 g3 w3 n3 d3 a3
  generalize upd (upd H2 cl (.lst cs)) p (.ins C_Cover dx fs3) = H3 at k3 e3 c3
  refine ⟨_, rfl, p, C_Cover, dx, fs3, _, rfl, e3, L.cl_Cover, L.na_Cover_clauses, w3, cl, _, rfl, .inl (SqL.of c3), _, _, rfl, rfl, _, rfl, ?_⟩
  by_cases l8 : 8 < cs.length
  · exact dT (by omega) ⟨one, rN (.inr (.inl l8)) _ k3⟩
  refine dF (by omega) ?_
  have l8' : cs.length ≤ 8 := by omega
  -- pairs
  refine ⟨_, rfl, rfl, _, rfl, ?_⟩
  refine join_e (fun v H' => ∃ pl ys, v = .ref pl ∧ Same H3 H' ∧ H' pl = some (.lst ys) ∧ Prs H' ys prs) (fun c Q' k => ?_) (fun c Q' k => ?_) ?_
  · have c' : hv = .non := of_decide_eq_true c
    rcases hhs with ⟨_, rfl⟩ | ⟨c0, _, e, _⟩
    · refine ⟨_, rfl, two, fun t nt => ⟨one, fun pl npl => k _ _ ⟨pl, [.ref t], rfl, (same_new nt _).trans (same_new npl _), upd_same, Prs.one (same_new npl _ _ _ upd_same)⟩⟩⟩
    · rw [c'] at e; cases e
  · have c' : hv ≠ .non := fun e => c (decide_eq_true e)
    rcases hhs with ⟨e, _⟩ | ⟨h0, ys, rfl, hh, ph⟩
    · exact absurd e c'
    · have ncp : h0 ≠ p := ne_of hh hp (by intro z; cases z)
      exact ⟨_, rfl, k _ _ ⟨h0, ys, rfl, fun _ _ z => z, k3 _ _ hh ncp, ph.mono (keep k3)⟩⟩
  rintro v H4 ⟨pl, ys, rfl, s4, ep, pp⟩
  refine atG [some (.ref p), some (.str nm), some cd, some cv, some hv, some wv, some (.ref pl)] rfl ?_
  have e4 := s4 _ _ e3
  have c4 := s4 _ _ c3
  have k4 := k3.same s4
  have lp := pp.len
  have npp : pl ≠ p := ne_of ep e4 (by intro z; cases z)
  -- houses
  refine ⟨_, rfl, pl, rfl, ⟨_, SqL.of ep⟩, fun h1 nh => ?_⟩
  refine comp_list (K := K) (a := pl) (xs := ys) (fun i zs H5 => zs = ((prs.take i).map (·.1)) ∧ H5 h1 = some (.lst zs) ∧ Same H4 H5) ⟨rfl, upd_same, same_new nh _⟩
    (fun i zs H5 _ ⟨e, h1', s5⟩ => ⟨h1', by rw [e, List.length_map, List.length_take]; omega, SqL.of (s5 _ _ ep)⟩) (by rw [sizeLine_eq]; omega) (fun i x zs H5 hi ⟨e, h1', s5⟩ => ?_) (fun zs H5 ⟨e, h1', s5⟩ => ?_)
  · obtain ⟨t, r, hp', rfl, ht⟩ := pp.get hi
    refine ⟨_, rfl, t, _, _, _, rfl, rfl, SqT.of (s5 _ _ ht), rfl, h1', rfl, ?_, upd_same, fun b o z => ?_⟩
    · rw [take_snoc hp', List.map_append, e]
      rfl
    · rw [upd_ne (ne_of_none z nh)]
      exact s5 b o z
  subst e
  rw [lp, List.take_length] at h1'
  have e5 := s5 _ _ e4
  have k5 := k4.same s5
  have nhp : h1 ≠ p := (ne_of_none e4 nh).symm
  have fh1 : H h1 = none := k4.free nhp nh
  refine ⟨_, rfl, p, C_Cover, dx, fs3, rfl, e5, L.cl_Cover, L.na_Cover_houses, by omega, ?_⟩
  have e6 : upd H5 p (.ins C_Cover dx (putF "houses" (.ref h1) fs3)) p = some (.ins C_Cover dx (putF "houses" (.ref h1) fs3)) := upd_same
  have h6 : upd H5 p (.ins C_Cover dx (putF "houses" (.ref h1) fs3)) h1 = some (.lst (prs.map (·.1))) := by rw [upd_ne nhp]; exact h1'
  have ep6 : upd H5 p (.ins C_Cover dx (putF "houses" (.ref h1) fs3)) pl = some (.lst ys) := by rw [upd_ne npp]; exact s5 _ _ ep
  have c6 : upd H5 p (.ins C_Cover dx (putF "houses" (.ref h1) fs3)) cl = some (.lst cs) := by rw [upd_ne ncl']; exact s5 _ _ c4
  have pp6 : Prs (upd H5 p (.ins C_Cover dx (putF "houses" (.ref h1) fs3))) ys prs := pp.mono fun t zs z => by
    have z' := s5 _ _ z
    rw [upd_ne (ne_of z' e5 (by intro e; cases e))]
    exact z'
  have k6 : KB p H (upd H5 p (.ins C_Cover dx (putF "houses" (.ref h1) fs3))) := k5.upd _
  have g6 : (putF "houses" (.ref h1) fs3).length ≤ 4 := Nat.le_trans (len_putF _ _ _) (by omega)
  have v6 : (putF "houses" (.ref h1) fs3).lookup ("houses" : Str) = some (.ref h1) := f0
  have w6 : (putF "houses" (.ref h1) fs3).lookup ("clauses" : Str) = some (.ref cl) := by rw [f1 (by decide +kernel)]; exact w3
  have n6 : (putF "houses" (.ref h1) fs3).lookup ("name" : Str) = some (.str nm) := by rw [f1 (by decide +kernel)]; exact n3
  have d6 : (putF "houses" (.ref h1) fs3).lookup ("condition" : Str) = some cd := by rw [f1 (by decide +kernel)]; exact d3
  have a6 : (putF "houses" (.ref h1) fs3).lookup ("asks" : Str) = none := by rw [f1 (by decide +kernel)]; exact a3
  generalize putF "houses" (.ref h1) fs3 = fs6 at e6 h6 ep6 c6 pp6 k6 g6 v6 w6 n6 d6 a6
  generalize upd H5 p (.ins C_Cover dx fs6) = H6 at e6 h6 ep6 c6 pp6 k6
  refine ⟨_, rfl, p, C_Cover, dx, fs6, _, rfl, e6, L.cl_Cover, L.na_Cover_houses, v6, h1, prs.map (·.1), rfl, h6, by rw [List.length_map]; exact l9, fun y hy => ?_, fun gh H7 s7 => ?_, fun nh' H7 s7 => rN (.inr (.inr nh')) _ (k6.same s7)⟩
  · obtain ⟨z, hz, rfl⟩ := List.mem_map.mp hy
    obtain ⟨o1, ⟨T1, t1⟩, _⟩ := typ z hz
    exact ⟨o1, T1, TyOf.put t1 hp k6⟩
  have e7 := s7 _ _ e6
  have c7 := s7 _ _ c6
  have h7 := s7 _ _ h6
  have ep7 := s7 _ _ ep6
  have pp7 := pp6.mono (tst_same s7)
  have k7 := k6.same s7
  -- deal
  refine ⟨_, rfl, pl, rfl, ⟨_, SqL.of ep7⟩, fun wl nwl => ?_⟩
  refine comp_list (K := K) (a := pl) (xs := ys) (fun i zs H8 => zs = ((prs.take i).map (·.2)) ∧ H8 wl = some (.lst zs) ∧ Same H7 H8) ⟨rfl, upd_same, same_new nwl _⟩
    (fun i zs H8 _ ⟨e, h2, s8⟩ => ⟨h2, by rw [e, List.length_map, List.length_take]; omega, SqL.of (s8 _ _ ep7)⟩) (by rw [sizeLine_eq]; omega) (fun i x zs H8 hi ⟨e, h2, s8⟩ => ?_) (fun zs H8 ⟨e, h2, s8⟩ => ?_)
  · obtain ⟨t, r, hp', rfl, ht⟩ := pp7.get hi
    refine ⟨_, rfl, t, _, _, _, rfl, rfl, SqT.of (s8 _ _ ht), rfl, h2, rfl, ?_, upd_same, fun b o z => ?_⟩
    · rw [take_snoc hp', List.map_append, e]
      rfl
    · rw [upd_ne (ne_of_none z nwl)]
      exact s8 b o z
  subst e
  rw [lp, List.take_length] at h2
  have e8 := s8 _ _ e7
  have c8 := s8 _ _ c7
  have h8 := s8 _ _ h7
  have k8 := k7.same s8
  intro d dd nd ndd nde
  have nwd : wl ≠ d := ne_of_none h2 nd
  have nwdd : wl ≠ dd := ne_of_none h2 ndd
  have npd : d ≠ p := (ne_of_none e8 nd).symm
  have s9 : Same H8 (upd (upd H8 dd (.own d)) d (.ins C_Deal dd [])) := (same_new ndd _).trans (same_new (by rw [upd_ne (Ne.symm nde)]; exact nd) _)
  have k9 := k8.same s9
  have h29 := s9 _ _ h2
  by_cases gw : GoodWs (prs.map (·.2))
  · obtain ⟨ws, ew, gws⟩ := gw
    rw [ew] at h29
    refine .inl ⟨d, dd, wl, ws, rfl, upd_same, h29, gws, fun wh wt H9 kp9 D9 nwh nwt => ⟨rfl, ?_⟩⟩
    have s10 : Same H8 H9 := made_same nd ndd kp9
    have e10 := s10 _ _ e8
    have c10 := s10 _ _ c8
    have h10 := s10 _ _ h8
    have k10 := k8.same s10
    have npwh : wh ≠ p := (ne_of_none e8 (made_none nwh)).symm
    have npwt : wt ≠ p := (ne_of_none e8 (made_none nwt)).symm
    refine ⟨_, rfl, p, C_Cover, dx, fs6, rfl, e10, L.cl_Cover, L.na_Cover_deal, by omega, ?_⟩
    have g10 : (putF "deal" (.ref d) fs6).length ≤ 5 := Nat.le_trans (len_putF _ _ _) (by omega)
    have v10 : (putF "deal" (.ref d) fs6).lookup ("houses" : Str) = some (.ref h1) := by rw [f1 (by decide +kernel)]; exact v6
    have w10 : (putF "deal" (.ref d) fs6).lookup ("clauses" : Str) = some (.ref cl) := by rw [f1 (by decide +kernel)]; exact w6
    have n10 : (putF "deal" (.ref d) fs6).lookup ("name" : Str) = some (.str nm) := by rw [f1 (by decide +kernel)]; exact n6
    have d10 : (putF "deal" (.ref d) fs6).lookup ("condition" : Str) = some cd := by rw [f1 (by decide +kernel)]; exact d6
    have a10 : (putF "deal" (.ref d) fs6).lookup ("asks" : Str) = none := by rw [f1 (by decide +kernel)]; exact a6
    have y10 : (putF "deal" (.ref d) fs6).lookup ("deal" : Str) = some (.ref d) := f0
    generalize putF "deal" (.ref d) fs6 = fs10 at g10 v10 w10 n10 d10 a10 y10
    refine ⟨_, rfl, _, rfl, p, C_Cover, dx, _, rfl, upd_same, L.cl_Cover, L.na_Cover_waits, by omega, ?_⟩
    obtain ⟨⟨dq, q1⟩, q2, q3⟩ := D9
    refine q nm ws rfl gn l8' gh ew gws cl h1 d wh wt _ ((k10.upd _).upd _) ⟨⟨dx, _, upd_same, by rw [f1 (by decide +kernel)]; exact n10, by rw [f1 (by decide +kernel)]; exact d10, by rw [f1 (by decide +kernel)]; exact w10, by rw [f1 (by decide +kernel)]; exact v10, by rw [f1 (by decide +kernel)]; exact y10, f0, by rw [f1 (by decide +kernel)]; exact a10⟩, ?_, ?_, ⟨dq, ?_⟩, ?_, ?_⟩ fcl fh1 (k8.free npd nd) (k8.free npwh (made_none nwh)) (k8.free npwt (made_none nwt))
    · rw [upd_ne ncl', upd_ne ncl']; exact c10
    · rw [upd_ne nhp, upd_ne nhp]; exact h10
    · rw [upd_ne npd, upd_ne npd]; exact q1
    · rw [upd_ne npwh, upd_ne npwh]; exact q2
    · rw [upd_ne npwt, upd_ne npwt]; exact q3
  · refine .inr ⟨d, .ref wl, rfl, bad_ws h29 (fun y hy => ?_) gw, rS gn l8' gh gw _ k9⟩
    obtain ⟨z, hz, rfl⟩ := List.mem_map.mp hy
    obtain ⟨_, _, T1, t1⟩ := typ z hz
    exact ⟨T1, TyOf.put t1 hp k9⟩
end
/-- a cover asked -/
def spAsks (C0 C1 C2 C3 C : Addr) : Sp := fun vs H Q _ => ∃ p dx fs cp c t th ca, ∃ ct : Int, vs = [.ref p, .ref t] ∧ H p = some (.ins C dx fs) ∧ fs.lookup ("condition" : Str) = some (.ref cp) ∧ ObAt C0 C1 C2 C3 H cp c ∧ isCo c ∧ LsAt H t th ca ct ∧ Q (.bl (holdsB c th ca ct)) H
section
variable {P : Program} {w : World} {K : PySem.W.Frag} {mg : Str → Option Value} {base : Heap} {C_Own C_CauseIs C_ThingIs C_Over C_Clause C_Deal C_Cover : Addr}
theorem sc_Cover_asks : FnScope ["self", "loss"] ["self", "loss"] (defScope s_Cover_asks) := ⟨rfl, rfl, rfl, by decide +kernel, rfl, by decide +kernel, by decide +kernel⟩
theorem ok_Cover_asks {f : Addr} {fd : FuncData} (F : Fun K "asks" "Cover.asks" s_Cover_asks f fd) (T : Txt K mg) (L : Kl K mg C_Own C_CauseIs C_ThingIs C_Over C_Clause C_Deal C_Cover) (Mholds : MFam P w K mg base 1 (FamH C_Own C_CauseIs C_ThingIs C_Over) "holds" ["self", "loss"] (spHolds C_Own C_CauseIs C_ThingIs C_Over)) : FnOk P w K mg base CX0 2 f fd ["self", "loss"] (spAsks C_Own C_CauseIs C_ThingIs C_Over C_Cover) := by
  have sc := sc_Cover_asks
  refine F.ok sc (fun vs H Q E h => ?_) (fun cdv A outer s H vs Q E hr h => ?_)
  · obtain ⟨_, _, _, _, _, _, _, _, _, rfl, _⟩ := h
    rfl
  obtain ⟨p, dx, fs, cp, c, t, th, ca, ct, rfl, hp, lc, hc, ic, ht, q⟩ := h
  refine ⟨_, (pss_one (ps_ret (pe_methD Mholds (hr.mono (by decide)) (pe_fld (pv 0) rfl) (pa_cons (pv 1) pa_nil)))), ?_⟩
  obtain ⟨dc, hc'⟩ := id hc
  exact ⟨_, rfl, p, C_Cover, dx, fs, _, rfl, hp, L.cl_Cover, L.na_Cover_condition, lc, cp, _, dc, _, rfl, hc', famH_of _ _ _ _ ic, no_holds c, _, rfl, cp, c, t, th, ca, ct, rfl, hc, rfl, ht, q⟩
end


/-! ### the law's own names -/
def ltr (i : Int) : Nat := 97 + (i % 26).toNat
theorem ltr_letter (i : Int) : letter (ltr i) := by
  unfold letter ltr
  have h0 : 0 ≤ i % 26 := Int.emod_nonneg _ (by decide)
  have h1 : i % 26 < 26 := Int.emod_lt_of_pos _ (by decide)
  omega
theorem abc_at (i : Int) : atI (Str.ofString "abcdefghijklmnopqrstuvwxyz").cps.toList (i % 26) = some (ltr i) := by
  have e : (Str.ofString "abcdefghijklmnopqrstuvwxyz").cps.toList = (List.range 26).map (97 + ·) := by decide +kernel
  have h0 : 0 ≤ i % 26 := Int.emod_nonneg _ (by decide)
  have h1 : i % 26 < 26 := Int.emod_lt_of_pos _ (by decide)
  obtain ⟨k, ek⟩ := Int.eq_ofNat_of_zero_le h0
  rw [e]
  unfold ltr
  rw [ek]
  refine atI_nat ?_
  rw [List.getElem?_map, List.getElem?_range (by omega)]
  rfl
theorem abc_len : (Str.ofString "abcdefghijklmnopqrstuvwxyz").length ≤ sizeLine := by
  have e : (Str.ofString "abcdefghijklmnopqrstuvwxyz").length = 26 := by decide +kernel
  rw [e]
  exact le_line (by decide)
theorem join_set {c : Prop} {inst : Decidable c} {te : TE} {i : Nat} {D : Ends} {σ : St} {H : Hp} (G : V → Hp → Prop) (v0 : V) (e0 : σ.set i (some v0) = σ) (g0 : ¬ c → G v0 H) (h : c → ∀ Q : VK, (∀ v H', G v H' → Q v H') → te σ H Q) (R : ∀ v H', G v H' → D.nx (σ.set i (some v)) H') :
    @ite Prop c inst (tAsg te (gName i) D σ H) (tNext D σ H) := by
  by_cases z : c
  · rw [if_pos z]; exact h z _ R
  · rw [if_neg z]
    have r := R v0 H (g0 z)
    rw [e0] at r
    exact r
theorem atσ {nx : St → Hp → Prop} {σ : St} {H : Hp} (σ' : St) (e : σ = σ') (h : nx σ' H) : nx σ H := e ▸ h
theorem hideI {i : Nat} {v : Int} {nx : St → Hp → Prop} {σ : St} {H : Hp} (lo hi : Int) (h0 : lo ≤ v ∧ v ≤ hi) (h : ∀ x : Int, lo ≤ x → x ≤ hi → gName i (.int x) σ H nx) : gName i (.int v) σ H nx := h v h0.1 h0.2
theorem md {a b : Int} (h : 0 < b) : 0 ≤ a % b ∧ a % b ≤ b - 1 := ⟨Int.emod_nonneg _ (by omega), by have := Int.emod_lt_of_pos a h; omega⟩
theorem self_tx : Str.ofString "self" = tx [115, 101, 108, 102] := by decide +kernel
theorem selfs_tx : Str.ofString "selfs" = tx [115, 101, 108, 102, 115] := by decide +kernel
def ltA (bs : List Int) (a k j : Nat) : Nat := ltr (bs.getD j 0 + k * (if j = a then 1 else 0))
def nmL (bs : List Int) (a k : Nat) : List Nat := (List.range bs.length).map (ltA bs a k)
def nmF (bs : List Int) (a k : Nat) : List Nat := if nmL bs a k = [115, 101, 108, 102] then [115, 101, 108, 102, 115] else nmL bs a k
theorem nmL_len (bs : List Int) (a k : Nat) : (nmL bs a k).length = bs.length := by unfold nmL; rw [List.length_map, List.length_range]
theorem nmL_inj {bs : List Int} {a i j : Nat} (ha : a < bs.length) (hi : i < 10) (hj : j < 10) (h : nmL bs a i = nmL bs a j) : i = j := by
  have e := congrArg (fun l => l[a]?) h
  unfold nmL at e
  simp only [List.getElem?_map, List.getElem?_range ha, Option.map_some, Option.some.injEq] at e
  unfold ltA ltr at e
  simp only [if_true] at e
  generalize bs.getD a 0 = m at e
  have a0 : 0 ≤ (m + (i : Int) * 1) % 26 := Int.emod_nonneg _ (by decide)
  have b0 : 0 ≤ (m + (j : Int) * 1) % 26 := Int.emod_nonneg _ (by decide)
  omega
theorem nmF_inj {bs : List Int} {a i j : Nat} (ha : a < bs.length) (hi : i < 10) (hj : j < 10) (h : nmF bs a i = nmF bs a j) : i = j := by
  unfold nmF at h
  split at h
  · rename_i c1
    split at h
    · rename_i c2
      exact nmL_inj ha hi hj (c1.trans c2.symm)
    · have e1 := congrArg List.length h
      have e2 := congrArg List.length c1
      rw [nmL_len] at e1 e2
      simp at e1 e2
      omega
  · split at h
    · rename_i c2
      have e1 := congrArg List.length h
      have e2 := congrArg List.length c2
      rw [nmL_len] at e1 e2
      simp at e1 e2
      omega
    · exact nmL_inj ha hi hj h
theorem nmL_name {bs : List Int} {a k : Nat} (h1 : 1 ≤ bs.length) (h8 : bs.length ≤ 8) : NameL (nmL bs a k) := by
  refine ⟨by rw [nmL_len]; exact ⟨h1, h8⟩, fun c hc => ?_⟩
  unfold nmL at hc
  obtain ⟨j, _, rfl⟩ := List.mem_map.mp hc
  exact ltr_letter _
theorem nmF_name {bs : List Int} {a k : Nat} (h1 : 1 ≤ bs.length) (h8 : bs.length ≤ 8) : NameL (nmF bs a k) := by
  unfold nmF
  split
  · decide
  · exact nmL_name h1 h8
theorem tx_eq {l m : List Nat} (h : tx l = tx m) : l = m := by
  have := congrArg (fun z => z.cps.toList) h
  simpa [tx] using this
theorem nmF_self {bs : List Int} {a k : Nat} : tx (nmF bs a k) ≠ "self" := fun h => by
  have h' : tx (nmF bs a k) = Str.ofString "self" := h
  rw [self_tx] at h'
  have e := tx_eq h'
  unfold nmF at e
  split at e
  · simp at e
  · exact absurd e (by assumption)
structure Nms (ns : List Str) : Prop where
  len : ns.length = 10
  nd : ns.Nodup
  ok : ∀ z ∈ ns, nameV (.str z) = true ∧ z.length ≤ 900 ∧ z ≠ "self"
theorem nms_of {bs : List Int} {a : Nat} (ha : a < bs.length) (h8 : bs.length ≤ 8) : Nms ((List.range 10).map fun k => tx (nmF bs a k)) := by
  refine ⟨by rw [List.length_map, List.length_range], ?_, fun z hz => ?_⟩
  · rw [List.nodup_iff_pairwise_ne, List.pairwise_map]
    refine List.Pairwise.imp_of_mem (R := fun a b => a ≠ b) (fun {i j} hi hj n e => n ?_) (List.nodup_iff_pairwise_ne.mp List.nodup_range)
    exact nmF_inj ha (List.mem_range.mp hi) (List.mem_range.mp hj) (tx_eq e)
  · obtain ⟨k, _, rfl⟩ := List.mem_map.mp hz
    have nm := nmF_name (bs := bs) (a := a) (k := k) (by omega) h8
    refine ⟨decide_eq_true nm, ?_, nmF_self⟩
    rw [tx_len]
    have := nm.1.2
    omega
def spNames : Sp := fun vs H Q _ => ∃ c : Int, vs = [.int c] ∧ 0 ≤ c ∧ ∀ r ns H', Same H H' → H r = none → H' r = some (.lst (ns.map V.str)) → Nms ns → Q (.ref r) H'
section
variable {P : Program} {w : World} {K : PySem.W.Frag} {mg : Str → Option Value} {base : Heap}
theorem sc__law_names : FnScope ["_law_cell_here", "_law_letters", "_law_base", "_law_at", "_law_names_here", "_law_k", "_law_name", "_law_j"] ["_law_cell_here"] (defScope s__law_names) := ⟨rfl, rfl, rfl, by decide +kernel, rfl, by decide +kernel, by decide +kernel⟩
theorem ok__law_names {f : Addr} {fd : FuncData} (F : Fun K "_law_names" "_law_names" s__law_names f fd) (T : Txt K mg) : FnOk P w K mg base CX0 1 f fd ["_law_cell_here"] spNames := by
  have sc := sc__law_names
  refine F.ok sc (fun vs H Q E h => ?_) (fun cdv A outer s H vs Q E hr h => ?_)
  · obtain ⟨_, rfl, _⟩ := h
    rfl
  obtain ⟨c, rfl, c0, q⟩ := h
  refine ⟨_, (pss_cons (ps_set (i := 1) sc.nd rfl (Or.inl rfl) pe_str)
      (pss_cons (ps_comp (NC := ["_law_j", "_law_cell_here"]) (own := ["_law_j"]) (cs := ["_law_cell_here"]) (ix := [0]) (j := 2) sc.nd rfl rfl rfl (CompScope.of rfl) rfl ⟨⟨rfl, .inl rfl, rfl⟩, trivial⟩ (pi_range1 rfl T.n_range (pa_cons (pe_op op_add pe_int (pe_op op_mod (pv 0) pe_int)) pa_nil)) (fun _ _ _ => (pg_name (i := 0) (show (["_law_j", "_law_cell_here"] : List Str).Nodup from by decide +kernel) rfl (Or.inl rfl))) (fun _ _ _ => pts_nil) (fun _ _ _ => (pe_op op_mod (pe_op op_add (pe_op op_fdiv (pv 1) (pe_op op_add (pv 0) pe_int)) (pe_op op_mul (pv 0) (pv 0))) pe_int)))
      (pss_cons (ps_set (i := 3) sc.nd rfl (Or.inl rfl) (pe_op op_mod (pe_op op_fdiv (pv 0) pe_int) (pe_callB call_len_seq rfl T.n_len (show bootBuiltins _ = some (.builtin "len") from rfl) (pa_cons (pv 2) pa_nil))))
      (pss_cons (ps_set (i := 4) sc.nd rfl (Or.inl rfl) (pe_lst pa_nil))
      (pss_cons (ps_for PassesOwn.never rfl (pi_range1 rfl T.n_range (pa_cons pe_int pa_nil)) (pg_name (i := 5) sc.nd rfl (Or.inl rfl))
        (pss_cons (ps_set (i := 6) sc.nd rfl (Or.inl rfl) pe_str)
      (pss_cons (ps_for PassesOwn.never rfl (pi_range1 rfl T.n_range (pa_cons (pe_callB call_len_seq rfl T.n_len (show bootBuiltins _ = some (.builtin "len") from rfl) (pa_cons (pv 2) pa_nil)) pa_nil)) (pg_name (i := 7) sc.nd rfl (Or.inl rfl))
        (pss_one (ps_set (i := 6) sc.nd rfl (Or.inl rfl) (pe_op op_add_str (pv 6) (pe_ix ix_str (pv 1) (pe_op op_mod (pe_op op_add (pe_ix ix_list (pv 2) (pv 7) (fun _ _ => rfl)) (pe_op op_mul (pv 5) (pe_callTy call_int1 rfl T.n_int (show bootBuiltins _ = some (.type "int") from rfl) (pa_cons (pe_cmpR op_eq (pv 7) (pv 3) (nomark _)) pa_nil)))) pe_int) (fun _ _ => rfl))))))
      (pss_cons (ps_if (pt_cmpR op_eq (pv 6) pe_str (nomark _))
        (pss_one (ps_set (i := 6) sc.nd rfl (Or.inl rfl) pe_str))
        pss_nil)
      (pss_one (ps_expr (pe_bm PySem.F.plainAttrs_list PySem.F.slot_list_append PySem.F.type_list_append mt_append (pv 4) (pa_cons (pv 6) pa_nil))))))))
      (pss_one (ps_ret (pv 4)))))))), ?_⟩
  have m0 : 0 ≤ c % 8 := Int.emod_nonneg _ (by decide)
  have m8 : c % 8 < 8 := Int.emod_lt_of_pos _ (by decide)
  -- base
  refine ⟨_, rfl, _, _, rfl, rfl, (by show (0 : Int) < 8; decide), _, _, rfl, rfl, _, rfl, by omega, by omega, fun b nb => ?_⟩
  refine comp_range (lo := 0) (n := (1 + c % 8).toNat) (fun i ys H2 => (∃ bs : List Int, ys = bs.map V.int ∧ bs.length = i) ∧ H2 b = some (.lst ys) ∧ Same H H2) ⟨⟨[], rfl, rfl⟩, upd_same, same_new nb _⟩
    (fun i ys H2 _ ⟨⟨bs, e, l⟩, h1, _⟩ => ⟨h1, by rw [e, List.length_map, l]; exact Nat.le_refl _⟩) (by rw [sizeLine_eq]; omega) (fun i ys H2 hi ⟨⟨bs, e, l⟩, h1, s1⟩ => ?_) (fun ys H2 ⟨⟨bs, e, l⟩, h1, s1⟩ => ?_)
  · refine ⟨_, rfl, _, rfl, _, _, rfl, rfl, _, _, rfl, rfl, ⟨by omega, by omega⟩, _, rfl, _, rfl, _, _, rfl, rfl, .inl ⟨by omega, by omega⟩, _, _, rfl, rfl, _, _, rfl, rfl, (by show (0 : Int) < 26; decide), h1, rfl, ⟨bs ++ [(c / (0 + (i : Int) + 2) + (0 + (i : Int)) * (0 + (i : Int))) % 26], ?_, by rw [List.length_append, l]; rfl⟩, upd_same, fun x o z => ?_⟩
    · rw [List.map_append, e]
      rfl
    · rw [upd_ne (ne_of_none z nb)]
      exact s1 x o z
  subst e
  have b1 : 1 ≤ bs.length := by omega
  have b8 : bs.length ≤ 8 := by omega
  have hl : (List.map V.int bs).length = bs.length := List.length_map _
  -- at
  refine ⟨_, rfl, _, _, rfl, rfl, ⟨by decide, by decide⟩, _, rfl, b, _, rfl, .inl (SqL.of h1), _, _, rfl, rfl, (by rw [hl]; show (0 : Int) < (bs.length : Int); omega), ?_⟩
  rw [hl]
  refine hideI 0 ((bs.length : Int) - 1) (md (by omega)) fun at' at0 at1 => ?_
  obtain ⟨a, rfl⟩ := Int.eq_ofNat_of_zero_le at0
  have ha : a < bs.length := by omega
  -- names
  refine ⟨Nat.zero_le _, fun r nr => ?_⟩
  have hrH : H r = none := s1.free nr
  have s2 := s1.trans (same_new nr (.lst []))
  have nbr : b ≠ r := ne_of_none h1 nr
  refine ⟨_, rfl, by decide, by decide, for_range (lo := 0) (n := (10 : Int).toNat) (fun i σ H3 => (∃ o5 o6 o7, σ = [some (.int c), some (.str "abcdefghijklmnopqrstuvwxyz"), some (.ref b), some (.int a), some (.ref r), o5, o6, o7]) ∧ H3 b = some (.lst (bs.map V.int)) ∧ H3 r = some (.lst (((List.range i).map fun k => tx (nmF bs a k)).map V.str)) ∧ Same H H3)
    ⟨⟨none, none, none, rfl⟩, by rw [upd_ne nbr]; exact h1, upd_same, s2⟩ ?_ ?_⟩
  · rintro i σ H3 hi ⟨⟨o5, o6, o7, rfl⟩, hb3, hr3, s3⟩
    have hi' : i < 10 := hi
    rw [show (0 + (i : Int)) = (i : Int) by omega]
    refine ⟨_, rfl, b, _, rfl, .inl (SqL.of hb3), _, rfl, by rw [hl]; omega, by rw [hl]; omega, ?_⟩
    rw [hl]
    refine for_range (lo := 0) (n := (bs.length : Int).toNat) (fun j σ H4 => (∃ o7, σ = [some (.int c), some (.str "abcdefghijklmnopqrstuvwxyz"), some (.ref b), some (.int a), some (.ref r), some (.int i), some (.str (tx ((List.range j).map (ltA bs a i)))), o7]) ∧ H4 = H3) ⟨⟨o7, rfl⟩, rfl⟩ ?_ ?_
    · rintro j σ H4 hj ⟨⟨o7', rfl⟩, rfl⟩
      have hj' : j < bs.length := by omega
      rw [show (0 + (j : Int)) = (j : Int) by omega]
      have bj : atI (List.map V.int bs) (j : Int) = some (.int (bs.getD j 0)) := at_intI (by omega) (by omega)
      refine ⟨_, rfl, _, rfl, _, rfl, _, rfl, b, _, _, _, rfl, rfl, SqL.of hb3, bj, _, rfl, _, rfl, _, rfl, rfl, .inr ⟨_, rfl, _, _, rfl, rfl, .inl ⟨by omega, by omega⟩, _, _, rfl, rfl, _, _, rfl, rfl, (by show (0 : Int) < 26; decide), _, _, _, rfl, rfl, abc_len, abc_at _, _, _, rfl, rfl, ?_, ⟨some (.int j), ?_⟩, rfl⟩⟩
      · rw [tx_len, List.length_map, List.length_range, sizeLine_eq]
        show j + 1 ≤ _
        omega
      · have e1 : (if decide (V.int (j : Int) = V.int (a : Int)) = true then (1 : Int) else 0) = if j = a then 1 else 0 := by
          by_cases z : j = a
          · rw [if_pos z, if_pos (decide_eq_true (by rw [z]))]
          · rw [if_neg z, if_neg (fun y => z (by have := V.int.inj (of_decide_eq_true y); omega))]
        have e2 : tx ((List.range j).map (ltA bs a i)) ++ (⟨#[ltr (bs.getD j 0 + (i : Int) * (if decide (V.int (j : Int) = V.int (a : Int)) = true then (1 : Int) else 0))]⟩ : Str) = tx ((List.range (j + 1)).map (ltA bs a i)) := by
          rw [e1, List.range_succ, List.map_append]
          exact tx_app _ [_]
        exact congrArg (fun z => [some (V.int c), some (V.str "abcdefghijklmnopqrstuvwxyz"), some (V.ref b), some (V.int a), some (V.ref r), some (V.int i), some (V.str z), some (V.int j)]) e2
    · rintro σ H4 ⟨⟨o7', rfl⟩, rfl⟩
      have el : (List.range (bs.length : Int).toNat).map (ltA bs a i) = nmL bs a i := by rw [Int.toNat_natCast]; rfl
      rw [el]
      refine ⟨_, rfl, rfl, _, rfl, ?_⟩
      refine join_set (fun v H' => v = .str (tx (nmF bs a i)) ∧ H' = H4) (.str (tx (nmL bs a i))) rfl (fun c => ⟨?_, rfl⟩) (fun c Q' k => k _ _ ⟨?_, rfl⟩) ?_
      · unfold nmF
        rw [if_neg]
        intro z
        exact c (decide_eq_true (by rw [z, ← self_tx]))
      · have c' : tx (nmL bs a i) = Str.ofString "self" := V.str.inj (of_decide_eq_true c)
        rw [self_tx] at c'
        unfold nmF
        rw [if_pos (tx_inj c')]
        exact congrArg V.str selfs_tx
      rintro v H' ⟨rfl, rfl⟩
      refine ⟨_, rfl, .inl ⟨rfl, _, SqL.of hr3⟩, _, rfl, r, _, _, rfl, rfl, hr3, ?_, ⟨⟨_, _, _, rfl⟩, ?_, ?_, fun x o z => ?_⟩⟩
      · rw [List.length_map, List.length_map, List.length_range, sizeLine_eq]
        omega
      · rw [upd_ne nbr]; exact hb3
      · rw [upd_same, List.range_succ, List.map_append, List.map_append]
        rfl
      · rw [upd_ne (ne_of_none z hrH)]
        exact s3 x o z
  · rintro σ H3 ⟨⟨o5, o6, o7, rfl⟩, hb3, hr3, s3⟩
    exact ⟨_, rfl, q r _ H3 s3 hrH hr3 (nms_of ha b8)⟩
end


/-! ### the houses that the law draws -/
abbrev Hw := Str × Int
def prV (h : Hw) : Pr := (.str h.1, .int h.2)
structure GoodH (hs : List Hw) : Prop where
  gw : CR.GW (hs.map (·.2))
  nd : (hs.map (·.1)).Nodup
  ok : ∀ h ∈ hs, nameV (.str h.1) = true ∧ h.1.length ≤ 900
def hsN (nms : List Str) (q : Int) (i : Nat) : List Str := (List.range i).map fun k : Nat => nms.getD (((k : Int) + q) % 10).toNat ""
theorem nms_at {nms : List Str} (N : Nms nms) (i : Int) : atI (nms.map V.str) (i % 10) = some (.str (nms.getD (i % 10).toNat "")) ∧ nms.getD (i % 10).toNat "" ∈ nms := by
  have h0 : 0 ≤ i % 10 := Int.emod_nonneg _ (by decide)
  have h1 : i % 10 < 10 := Int.emod_lt_of_pos _ (by decide)
  have l := N.len
  have lt : (i % 10).toNat < nms.length := by omega
  obtain ⟨k, ek⟩ := Int.eq_ofNat_of_zero_le h0
  rw [ek] at lt ⊢
  rw [Int.toNat_natCast] at lt ⊢
  refine ⟨atI_nat ?_, ?_⟩
  · rw [List.getElem?_map, List.getD_eq_getElem?_getD, List.getElem?_eq_getElem lt]
    rfl
  · rw [List.getD_eq_getElem?_getD, List.getElem?_eq_getElem lt]
    exact List.getElem_mem _
theorem hsN_nd {nms : List Str} (N : Nms nms) (q : Int) {i : Nat} (hi : i ≤ 8) : (hsN nms q i).Nodup := by
  unfold hsN
  rw [List.nodup_iff_pairwise_ne, List.pairwise_map]
  refine List.Pairwise.imp_of_mem (R := fun a b => a ≠ b) (fun {x y} hx hy n e => n ?_) (List.nodup_iff_pairwise_ne.mp List.nodup_range)
  have hx' := List.mem_range.mp hx
  have hy' := List.mem_range.mp hy
  have l := N.len
  have x0 : 0 ≤ ((x : Int) + q) % 10 := Int.emod_nonneg _ (by decide)
  have x1 : ((x : Int) + q) % 10 < 10 := Int.emod_lt_of_pos _ (by decide)
  have y0 : 0 ≤ ((y : Int) + q) % 10 := Int.emod_nonneg _ (by decide)
  have y1 : ((y : Int) + q) % 10 < 10 := Int.emod_lt_of_pos _ (by decide)
  rw [List.getD_eq_getElem?_getD, List.getD_eq_getElem?_getD, List.getElem?_eq_getElem (by omega), List.getElem?_eq_getElem (by omega)] at e
  have e' := (List.getElem_inj N.nd).mp (show nms[(((x : Int) + q) % 10).toNat]'(by omega) = nms[(((y : Int) + q) % 10).toNat]'(by omega) from e)
  omega
theorem hsN_mem {nms : List Str} (N : Nms nms) (q : Int) {i : Nat} {z : Str} (h : z ∈ hsN nms q i) : z ∈ nms := by
  unfold hsN at h
  obtain ⟨k, _, rfl⟩ := List.mem_map.mp h
  exact (nms_at N _).2
theorem nd_set {α : Type} [DecidableEq α] : ∀ {l : List α} (j : Nat) {x : α}, l.Nodup → x ∉ l → (l.set j x).Nodup
  | [], _, _, _, _ => List.Pairwise.nil
  | y :: l, 0, x, h, n => by
    rw [List.nodup_cons] at h
    show (x :: l).Nodup
    rw [List.nodup_cons]
    exact ⟨fun z => n (List.mem_cons_of_mem _ z), h.2⟩
  | y :: l, j + 1, x, h, n => by
    rw [List.nodup_cons] at h
    show (y :: l.set j x).Nodup
    rw [List.nodup_cons]
    refine ⟨fun z => ?_, nd_set j h.2 fun z => n (List.mem_cons_of_mem _ z)⟩
    rcases List.mem_or_eq_of_mem_set z with z | z
    · exact h.1 z
    · exact n (by rw [← z]; exact List.mem_cons_self)
def spHs (K : PySem.W.Frag) : Sp := fun vs H Q _ => ∃ a ns b nms, vs = [.ref a, .ref b] ∧ SqL K H a (List.map V.int ns) ∧ ns.length ≤ 63 ∧ H b = some (.lst (nms.map V.str)) ∧ Nms nms ∧
  ∀ r xs hs H', Same H H' → H r = none → H' r = some (.lst xs) → Prs H' xs (hs.map prV) → GoodH hs → Q (.ref r) H'
/-- if c: a statement, then what follows, of either state -/
theorem join_if {c : Prop} {inst : Decidable c} {t : TS} {D : Ends} {σ : St} {H : Hp} (G : St → Hp → Prop) (g0 : ¬ c → G σ H) (h : c → ∀ N : St → Hp → Prop, (∀ σ' H', G σ' H' → N σ' H') → t { D with nx := N } σ H) (R : ∀ σ' H', G σ' H' → D.nx σ' H') :
    @ite Prop c inst (t D σ H) (tNext D σ H) := by
  by_cases z : c
  · rw [if_pos z]; exact h z D.nx R
  · rw [if_neg z]; exact R _ _ (g0 z)
theorem e9 : (10 : Int) ^ (9 : Int).toNat = 1000000000 := by decide +kernel
section
variable {P : Program} {w : World} {K : PySem.W.Frag} {mg : Str → Option Value} {base : Heap}
theorem sc__law_houses : FnScope ["_law_script", "_law_names_here", "_law_head", "_law_many", "_law_pairs", "_law_left", "_law_k", "_law_more"] ["_law_script", "_law_names_here"] (defScope s__law_houses) := ⟨rfl, rfl, rfl, by decide +kernel, rfl, by decide +kernel, by decide +kernel⟩
theorem ok__law_houses {f : Addr} {fd : FuncData} (F : Fun K "_law_houses" "_law_houses" s__law_houses f fd) (T : Txt K mg) (C_law_cell : Cal P w K mg base 1 "_law_cell" ["_law_script", "_law_k"] (spCell K)) : FnOk P w K mg base CX0 2 f fd ["_law_script", "_law_names_here"] (spHs K) := by
  have sc := sc__law_houses
  refine F.ok sc (fun vs H Q E h => ?_) (fun cdv A outer s H vs Q E hr h => ?_)
  · obtain ⟨_, _, _, _, rfl, _⟩ := h
    rfl
  obtain ⟨a, ns, b, nms, rfl, ha, h63, hb, N, q⟩ := h
  refine ⟨_, (pss_cons (ps_set (i := 2) sc.nd rfl (Or.inl rfl) (pe_op op_mod (pe_callC C_law_cell (hr.mono (by decide)) rfl (pa_cons (pv 0) (pa_cons pe_int pa_nil))) (pe_op op_pow pe_int pe_int)))
      (pss_cons (ps_set (i := 3) sc.nd rfl (Or.inl rfl) (pe_op op_add pe_int (pe_op op_mod (pv 2) pe_int)))
      (pss_cons (ps_set (i := 4) sc.nd rfl (Or.inl rfl) (pe_lst pa_nil))
      (pss_cons (ps_set (i := 5) sc.nd rfl (Or.inl rfl) (pe_op op_sub pe_int (pv 3)))
      (pss_cons (ps_for PassesOwn.never rfl (pi_range1 rfl T.n_range (pa_cons (pv 3) pa_nil)) (pg_name (i := 6) sc.nd rfl (Or.inl rfl))
        (pss_cons (ps_set (i := 7) sc.nd rfl (Or.inl rfl) (pe_op op_mod (pe_callC C_law_cell (hr.mono (by decide)) rfl (pa_cons (pv 0) (pa_cons (pe_op op_add pe_int (pv 6)) pa_nil))) (pe_op op_add (pe_callB (call_min2 rfl) rfl T.n_min (show bootBuiltins _ = some (.builtin "min") from rfl) (pa_cons (pv 5) (pa_cons pe_int pa_nil))) pe_int)))
      (pss_cons (ps_set (i := 5) sc.nd rfl (Or.inl rfl) (pe_op op_sub (pv 5) (pv 7)))
      (pss_one (ps_expr (pe_bm PySem.F.plainAttrs_list PySem.F.slot_list_append PySem.F.type_list_append mt_append (pv 4) (pa_cons (pe_tup (pa_cons (pe_ix ix_list (pv 1) (pe_op op_mod (pe_op op_add (pv 6) (pe_op op_fdiv (pv 2) pe_int)) pe_int) (fun _ _ => rfl)) (pa_cons (pe_op op_add pe_int (pv 7)) pa_nil))) pa_nil)))))))
      (pss_cons (ps_if (pt_cmpR op_eq (pe_op op_mod (pe_op op_fdiv (pv 2) pe_int) pe_int) pe_int (nomark _))
        (pss_one (ps_asg (pe_tup (pa_cons pe_str (pa_cons (pe_ix ix_tup (pe_ix ix_list (pv 4) (pe_op op_mod (pe_op op_fdiv (pv 2) pe_int) (pv 3)) (fun _ _ => rfl)) pe_int (fun _ _ => rfl)) pa_nil))) (pg_sub (pv 4) (pe_op op_mod (pe_op op_fdiv (pv 2) pe_int) (pv 3)) set_list)))
        pss_nil)
      (pss_one (ps_ret (pv 4))))))))), ?_⟩
  have two : 2 ≤ sizeLine := by rw [sizeLine_eq]; decide
  refine ⟨_, rfl, a, ns, 4, rfl, ha, by decide, h63, _, _, rfl, rfl, ⟨by decide, by decide, by decide⟩, _, _, rfl, rfl, (by show (0 : Int) < (10 : Int) ^ (9 : Int).toNat; rw [e9]; decide), ?_⟩
  refine hideI 0 ((10 : Int) ^ (9 : Int).toNat - 1) (md (by rw [e9]; decide)) fun head hd0 hd1 => ?_
  refine ⟨_, rfl, _, _, rfl, rfl, (by show (0 : Int) < 8; decide), _, _, rfl, rfl, ?_⟩
  have hm0 : 0 ≤ head % 8 := Int.emod_nonneg _ (by decide)
  have hm8 : head % 8 < 8 := Int.emod_lt_of_pos _ (by decide)
  refine hideI 1 8 ⟨by omega, by omega⟩ fun many mn1 mn8 => ?_
  refine ⟨Nat.zero_le _, fun r nr => ?_⟩
  have s1 := same_new nr (.lst [])
  have nbr : b ≠ r := ne_of_none hb nr
  refine ⟨_, rfl, _, _, rfl, rfl, ?_⟩
  refine ⟨_, rfl, _, rfl, by omega, by omega, for_range (lo := 0) (n := many.toNat)
    (fun i σ H3 => (∃ o6 o7, ∃ left : Int, ∃ hs : List Hw, ∃ xs, σ = [some (.ref a), some (.ref b), some (.int head), some (.int many), some (.ref r), some (.int left), o6, o7] ∧ H3 r = some (.lst xs) ∧ Prs H3 xs (hs.map prV) ∧ hs.length = i ∧ (∀ v ∈ hs.map (·.2), 1 ≤ v) ∧ (hs.map (·.2)).sum + left = 100 - many + i ∧ 0 ≤ left ∧ hs.map (·.1) = hsN nms (head / 8) i) ∧ Same H H3)
    ⟨⟨none, none, _, [], [], rfl, upd_same, trivial, rfl, fun _ z => (nomatch z), by simp, by omega, rfl⟩, s1⟩ ?_ ?_⟩
  · rintro i σ H3 hi ⟨⟨o6, o7, left, hs, xs, rfl, hr3, pr, hlen, hpos, hsum, hleft, hnm⟩, s3⟩
    rw [show (0 + (i : Int)) = (i : Int) by omega]
    refine ⟨_, rfl, _, rfl, _, _, rfl, rfl, a, ns, _, rfl, s3.seq ha, by omega, h63, ?_⟩
    refine ⟨_, rfl, _, _, rfl, _, _, rfl, rfl, _, _, rfl, rfl, ?_, ?_⟩
    · show (0 : Int) < (if 30 < left then 30 else left) + 1
      split <;> omega
    generalize hmn : (if (30 : Int) < left then 30 else left) = mn
    have mn0 : 0 ≤ mn := by rw [← hmn]; split <;> omega
    have mnl : mn ≤ left := by rw [← hmn]; split <;> omega
    refine hideI 0 mn ⟨(md (by omega)).1, by have := (md (a := ns.getD (5 + (i : Int)).toNat 0) (b := mn + 1) (by omega)).2; show _ % (mn + 1) ≤ mn; omega⟩ fun more mo0 mo1 => ?_
    refine ⟨_, rfl, _, rfl, _, _, rfl, rfl, ?_⟩
    obtain ⟨at1, me⟩ := nms_at N ((i : Int) + head / 8)
    refine ⟨_, rfl, .inl ⟨rfl, _, SqL.of hr3⟩, _, rfl, _, rfl, _, rfl, _, _, rfl, rfl, ⟨by decide, by decide⟩, _, _, rfl, rfl, _, _, rfl, rfl, (by show (0 : Int) < 10; decide), b, _, _, _, rfl, rfl, SqL.of (s3 _ _ hb), at1, _, rfl, _, _, rfl, rfl, two, fun t nt => ?_⟩
    have su := same_new nt (.tup [V.str (nms.getD (((i : Int) + head / 8) % 10).toNat ""), V.int (1 + more)])
    have lx := pr.len
    rw [List.length_map] at lx
    refine ⟨r, _, _, rfl, rfl, su _ _ hr3, by rw [lx, sizeLine_eq]; omega, ⟨_, _, left - more, hs ++ [(nms.getD (((i : Int) + head / 8) % 10).toNat "", 1 + more)], xs ++ [.ref t], rfl, upd_same, ?_, ?_, ?_, ?_, by omega, ?_⟩, fun x o z => ?_⟩
    · rw [List.map_append]
      exact ((pr.mono (tst_same su)).app (Prs.one upd_same)).mono (tst_lst (su _ _ hr3) _)
    · rw [List.length_append, hlen]
      rfl
    · intro v hv
      rw [List.map_append] at hv
      rcases List.mem_append.mp hv with hv | hv
      · exact hpos v hv
      · have : v = 1 + more := by simpa using hv
        omega
    · rw [List.map_append, List.sum_append]
      simp
      omega
    · rw [List.map_append, hnm]
      unfold hsN
      rw [List.range_succ, List.map_append]
      rfl
    · rw [upd_ne (ne_of_none z nr)]
      exact su _ _ (s3 x o z)
  · rintro σ H3 ⟨⟨o6, o7, left, hs, xs, rfl, hr3, pr, hlen, hpos, hsum, hleft, hnm⟩, s3⟩
    have lx := pr.len
    rw [List.length_map] at lx
    have gw : CR.GW (hs.map (·.2)) := ⟨by rw [List.length_map]; omega, by rw [List.length_map]; omega, hpos, by omega⟩
    have okh : ∀ h ∈ hs, h.1 ∈ nms := fun h hh => hsN_mem N (head / 8) (i := many.toNat) (by rw [← hnm]; exact List.mem_map.mpr ⟨h, hh, rfl⟩)
    have G : GoodH hs := ⟨gw, by rw [hnm]; exact hsN_nd N _ (by omega), fun h hh => ⟨(N.ok _ (okh h hh)).1, (N.ok _ (okh h hh)).2.1⟩⟩
    refine ⟨_, rfl, _, _, rfl, rfl, ⟨by decide, by decide⟩, _, _, rfl, rfl, (by show (0 : Int) < 4; decide), rfl, _, rfl, ?_⟩
    refine join_if (fun σ' H4 => (∃ hs' xs', σ' = [some (.ref a), some (.ref b), some (.int head), some (.int many), some (.ref r), some (.int left), o6, o7] ∧ H4 r = some (.lst xs') ∧ Prs H4 xs' (hs'.map prV) ∧ GoodH hs') ∧ Same H H4) (fun _ => ⟨⟨hs, xs, rfl, hr3, pr, G⟩, s3⟩) (fun _ N' k => ?_) ?_
    · have ix0 : 0 ≤ head / 320 % many := Int.emod_nonneg _ (by omega)
      have ix1 : head / 320 % many < many := Int.emod_lt_of_pos _ (by omega)
      have jl : (head / 320 % many).toNat < xs.length := by omega
      obtain ⟨t0, p0, hp0, et0, ht0⟩ := pr.get (List.getElem?_eq_getElem jl)
      rw [List.getElem?_map] at hp0
      obtain ⟨h0, hh0, rfl⟩ := Option.map_eq_some_iff.mp hp0
      have ati : atI xs (head / 320 % many) = some (.ref t0) := by
        have e' : head / 320 % many = (((head / 320 % many).toNat : Nat) : Int) := by omega
        rw [e', ← et0]
        exact atI_nat (List.getElem?_eq_getElem jl)
      refine ⟨_, rfl, _, rfl, _, _, rfl, rfl, ⟨by decide, by decide⟩, _, rfl, _, _, rfl, rfl, (by show (0 : Int) < many; omega), r, _, _, _, rfl, rfl, SqL.of hr3, ati, t0, _, _, _, rfl, rfl, SqT.of ht0, rfl, two, fun t nt => ?_⟩
      have su := same_new nt (.tup [V.str "self", V.int h0.2])
      refine ⟨_, rfl, _, rfl, _, _, rfl, rfl, ⟨by decide, by decide⟩, _, rfl, _, _, rfl, rfl, (by show (0 : Int) < many; omega), r, _, _, (head / 320 % many).toNat, rfl, rfl, su _ _ hr3, ix_of (by omega) (by omega), k _ _ ⟨⟨hs.set (head / 320 % many).toNat ("self", h0.2), _, rfl, upd_same, ?_, ?_⟩, fun x o z => ?_⟩⟩
      · rw [List.map_set]
        exact ((pr.mono (tst_same su)).set _ upd_same).mono (tst_lst (su _ _ hr3) _)
      · refine ⟨?_, ?_, fun h hh => ?_⟩
        · have e : (hs.set (head / 320 % many).toNat (("self" : Str), h0.2)).map (·.2) = hs.map (·.2) := by
            rw [List.map_set]
            refine List.ext_getElem? fun m => ?_
            rw [List.getElem?_set]
            split
            · rename_i c
              subst c
              rw [if_pos (by rw [List.length_map]; omega), List.getElem?_map, hh0]
              rfl
            · rfl
          rw [e]
          exact gw
        · rw [List.map_set]
          refine nd_set _ G.nd fun z => ?_
          obtain ⟨h, hh, e⟩ := List.mem_map.mp z
          exact (N.ok _ (okh h hh)).2.2 e
        · rcases List.mem_or_eq_of_mem_set hh with z | z
          · exact G.ok h z
          · subst z
            exact ⟨by show nameV (.str "self") = true; decide +kernel, by show Str.length "self" ≤ 900; decide +kernel⟩
      · rw [upd_ne (ne_of_none z nr)]
        exact su _ _ (s3 x o z)
    · rintro σ' H4 ⟨⟨hs', xs', rfl, h1, h2, h3⟩, s4⟩
      exact ⟨_, rfl, q r xs' hs' H4 s4 nr h1 h2 h3⟩
end


/-! ### a cover refused -/
def spRef (K : PySem.W.Frag) : Sp := fun vs H Q _ => ∃ x T cv cs h0 ys prs, vs = [x, cv, .ref h0] ∧ TyOf K H x (.type T) ∧ okX x ∧ ClsIn H cv cs ∧ H h0 = some (.lst ys) ∧ Prs H ys prs ∧ prs.length ≤ 900 ∧
  (∀ z ∈ prs, okX z.1 ∧ (∃ T, TyOf K H z.1 (.type T)) ∧ ∃ T, TyOf K H z.2 (.type T)) ∧
  (((¬ goodN x ∨ 8 < cs.length ∨ ¬ GoodHs (prs.map (·.1))) ∧ ∀ H', Same H H' → Q (.int 1) H') ∨
   ((goodN x ∧ cs.length ≤ 8 ∧ GoodHs (prs.map (·.1)) ∧ ¬ GoodWs (prs.map (·.2))) ∧ ∀ H', Same H H' → Q (.int 2) H') ∨
   ((goodN x ∧ cs.length ≤ 8 ∧ GoodHs (prs.map (·.1)) ∧ GoodWs (prs.map (·.2))) ∧ ∀ H', Same H H' → Q (.int 0) H'))
section
variable {P : Program} {w : World} {K : PySem.W.Frag} {mg : Str → Option Value} {base : Heap} {C_Own C_CauseIs C_ThingIs C_Over C_Clause C_Deal C_Cover : Addr} {C_CoverError C_NoShares C_NoEntry C_NoClause C_NoCover C_NoBook : Addr}
theorem sc__law_refused : FnScope ["_law_name", "_law_clauses", "_law_pairs", "e", "_law_others", "_law_some"] ["_law_name", "_law_clauses", "_law_pairs"] (defScope s__law_refused) := ⟨rfl, rfl, rfl, by decide +kernel, rfl, by decide +kernel, by decide +kernel⟩
theorem ok__law_refused {f : Addr} {fd : FuncData} (F : Fun K "_law_refused" "_law_refused" s__law_refused f fd) (T : Txt K mg) (Z : Xc K mg C_CoverError C_NoShares C_NoEntry C_NoClause C_NoCover C_NoBook) (KOver : KCal P w K mg base 1 "Over" C_Over ["self", "cents"] (spMkO C_Own C_CauseIs C_ThingIs C_Over))
    (KCoverX : KCalDX P w K mg base 6 "Cover" C_Cover ["self", "name", "condition", "clauses", "houses", "waits"] [.bl false] (spCov K C_Cover C_Deal C_NoCover C_NoShares)) : FnOk P w K mg base CX0 8 f fd ["_law_name", "_law_clauses", "_law_pairs"] (spRef K) := by
  have sc := sc__law_refused
  refine F.ok sc (fun vs H Q E h => ?_) (fun cdv A outer s H vs Q E hr h => ?_)
  · obtain ⟨_, _, _, _, _, _, _, rfl, _⟩ := h
    rfl
  have hu := room_u hr
  obtain ⟨x, T0, cv, cs, h0, ys, prs, rfl, ty, okx, hcl, hh, pp, l9, typ, res⟩ := h
  refine ⟨_, (pss_cons (ps_tryA (i := 3) rfl rfl rfl Z.a_CoverError sc.nd rfl rfl (fun pn E W hW hp =>
        (pss_one (ps_expr (pe_makeDX KCoverX (hr.mono (by decide)) hW rfl (pa_cons (pv 0) (pa_cons (pe_makeC KOver (hr.mono (by decide)) rfl (pa_cons pe_int pa_nil)) (pa_cons (pv 1) (pa_cons (pv 2) pa_nil)))))))) (fun e =>
        (pss_cons (ps_set (i := 4) sc.nd rfl (Or.inl rfl) (pe_lst (pa_cons (pe_callB (call_isinstX (K := K)) rfl T.n_isinstance (show bootBuiltins _ = some (.builtin "isinstance") from rfl) (pa_cons (pv 3) (pa_cons (pe_cls rfl Z.a_NoBook) pa_nil))) (pa_cons (pe_callB (call_isinstX (K := K)) rfl T.n_isinstance (show bootBuiltins _ = some (.builtin "isinstance") from rfl) (pa_cons (pv 3) (pa_cons (pe_cls rfl Z.a_NoClause) pa_nil))) (pa_cons (pe_callB (call_isinstX (K := K)) rfl T.n_isinstance (show bootBuiltins _ = some (.builtin "isinstance") from rfl) (pa_cons (pv 3) (pa_cons (pe_cls rfl Z.a_NoEntry) pa_nil))) pa_nil)))))
      (pss_cons (ps_set (i := 5) sc.nd rfl (Or.inl rfl) (pe_lst (pa_cons (pe_callB (call_isinstX (K := K)) rfl T.n_isinstance (show bootBuiltins _ = some (.builtin "isinstance") from rfl) (pa_cons (pv 3) (pa_cons (pe_cls rfl Z.a_NoCover) pa_nil))) (pa_cons (pe_callB (call_isinstX (K := K)) rfl T.n_isinstance (show bootBuiltins _ = some (.builtin "isinstance") from rfl) (pa_cons (pv 3) (pa_cons (pe_cls rfl Z.a_NoShares) pa_nil))) pa_nil))))
      (pss_cons (ps_if (PW.pt (pw_or (pt_not (pt_val (pe_callB (call_isinstX (K := K)) rfl T.n_isinstance (show bootBuiltins _ = some (.builtin "isinstance") from rfl) (pa_cons (pv 3) (pa_cons (pe_ty "ValueError" rfl T.n_ValueError rfl) pa_nil))))) (pw_or (pt_cmpR (op_in_K (K := K)) pe_bl (pv 4) rfl) (pw_or1 (pt_cmpR (op_eqLK (K := K) hu) (pv 5) (pe_lst (pa_cons pe_bl (pa_cons pe_bl pa_nil))) (nomark _))))))
        (pss_one (ps_ret pe_int))
        pss_nil)
      (pss_one (ps_ret (pe_ifExp (pt_cmpR (op_in_K (K := K)) pe_bl (pv 5) rfl) (pe_op op_add (pe_bmK (K := K) rfl PySem.F.plainAttrs_list PySem.F.slot_list_index PySem.F.type_list_index (mt_indexK (K := K) rfl) (pv 5) (pa_cons pe_bl pa_nil)) pe_int) pe_int))))))))
      (pss_one (ps_ret pe_int))), ?_⟩
  refine ⟨_, rfl, fun o dx no ndx nex => ⟨o, dx, 5, rfl, upd_same, fun H1 kp D => ⟨rfl, ?_⟩⟩⟩
  have s1 : Same H H1 := made_same no ndx kp
  refine ⟨_, rfl, _, rfl, fun p dp np ndp nep => ?_⟩
  have s2 : Same H (upd (upd H1 dp (.own p)) p (.ins C_Cover dp [])) := s1.trans ((same_new ndp _).trans (same_new (by rw [upd_ne (Ne.symm nep)]; exact np) _))
  have back : ∀ {H' : Hp}, KB p (upd (upd H1 dp (.own p)) p (.ins C_Cover dp [])) H' → Same H H' := fun k => s1.trans (made_same np ndp k)
  have ty2 := TyOf.same ty s2
  have hh2 := s2 _ _ hh
  have pp2 := pp.mono (tst_same s2)
  have hcl2 : ClsIn (upd (upd H1 dp (.own p)) p (.ins C_Cover dp [])) cv cs := hcl.imp id fun ⟨c0, e1, e2⟩ => ⟨c0, e1, s2 _ _ e2⟩
  have typ2 : ∀ z ∈ prs, okX z.1 ∧ (∃ T, TyOf K (upd (upd H1 dp (.own p)) p (.ins C_Cover dp [])) z.1 (.type T)) ∧ ∃ T, TyOf K (upd (upd H1 dp (.own p)) p (.ins C_Cover dp [])) z.2 (.type T) := fun z hz => by
    obtain ⟨a1, ⟨T1, a2⟩, T2, a3⟩ := typ z hz
    exact ⟨a1, ⟨T1, TyOf.same a2 s2⟩, T2, TyOf.same a3 s2⟩
  refine ⟨p, dp, x, T0, .ref o, cv, cs, .ref h0, prs, .bl false, rfl, upd_same, ty2, okx, hcl2, .inr ⟨h0, ys, rfl, hh2, pp2⟩, l9, typ2, fun bad H2 k2 => ?_, fun gn l8 gh nw H2 k2 => ?_, fun nm ws ex gn l8 gh ew gw cl h1 d wh wt H2 k2 CV _ _ _ _ _ => ⟨rfl, ?_⟩⟩
  · have q1 : ∀ H', Same H H' → Q (.int 1) H' := by
      rcases res with ⟨_, q⟩ | ⟨⟨g1, g2, g3, _⟩, _⟩ | ⟨⟨g1, g2, g3, _⟩, _⟩
      · exact q
      · rcases bad with z | z | z
        · exact absurd g1 z
        · omega
        · exact absurd g3 z
      · rcases bad with z | z | z
        · exact absurd g1 z
        · omega
        · exact absurd g3 z
    have s3 := back k2
    generalize H2 = H3 at s3
    refine ⟨C_NoCover, rfl, Z.h_NoCover_CoverError, fun e he => ?_⟩
    have ze := Z.e_NoCover
    refine ⟨_, rfl, e, _, _, _, _, rfl, upd_same, ze, ref_is, Z.k_NoCover_NoBook, _, rfl, e, _, _, _, _, rfl, upd_same, ze, ref_is, Z.k_NoCover_NoClause, _, rfl, e, _, _, _, _, rfl, upd_same, ze, ref_is, Z.k_NoCover_NoEntry, le_line (by show 3 ≤ 1000; decide), fun l1 n1 => ?_⟩
    have u0 := same_new he (exO e (.ref C_NoCover) none)
    have e0 : upd H3 e (exO e (.ref C_NoCover) none) e = some (exO e (.ref C_NoCover) none) := upd_same
    generalize upd H3 e (exO e (.ref C_NoCover) none) = H4 at u0 e0 n1
    have u1 := same_new n1 (.lst [V.bl false, .bl false, .bl false])
    have e1 : upd H4 l1 (.lst [V.bl false, .bl false, .bl false]) l1 = some (.lst [V.bl false, .bl false, .bl false]) := upd_same
    generalize upd H4 l1 (.lst [V.bl false, .bl false, .bl false]) = H5 at u1 e1
    have e5 := u1 _ _ e0
    refine ⟨_, rfl, e, _, _, _, _, rfl, e5, ze, ref_is, Z.k_NoCover_NoCover, _, rfl, e, _, _, _, _, rfl, e5, ze, ref_is, Z.k_NoCover_NoShares, le_line (by show 2 ≤ 1000; decide), fun l2 n2 => ?_⟩
    have u2 := same_new n2 (.lst [V.bl true, .bl false])
    have e2 : upd H5 l2 (.lst [V.bl true, .bl false]) l2 = some (.lst [V.bl true, .bl false]) := upd_same
    generalize upd H5 l2 (.lst [V.bl true, .bl false]) = H6 at u2 e2
    have e6 := u2 _ _ e5
    refine ⟨_, rfl, e, _, _, _, _, rfl, e6, ze, ty_is, Z.v_NoCover, _, rfl, iteF ⟨_, rfl, l1, _, rfl, .inl (SqL.of (u2 _ _ e1)), rfl, rfl, _, rfl, iteF ⟨_, rfl, le_line (by show 2 ≤ 1000; decide), fun l3 n3 => ⟨l2, l3, _, _, rfl, rfl, SqL.of (same_new n3 _ _ _ e2), SqL.of upd_same, rfl, rfl, _, rfl, iteF ?_⟩⟩⟩⟩
    have e7 := same_new n3 (.lst [V.bl true, .bl true]) _ _ e2
    refine ⟨_, rfl, l2, _, rfl, .inl (SqL.of e7), rfl, rfl, _, rfl, iteT ⟨_, rfl, .inl ⟨rfl, _, SqL.of e7⟩, l2, _, _, 0, rfl, rfl, SqL.of e7, rfl, rfl, by decide, ⟨_, rfl, rfl⟩, (fun m z hm => absurd hm (Nat.not_lt_zero _)), _, _, rfl, rfl, ?_⟩⟩
    exact q1 _ (s3.trans (u0.trans (u1.trans (u2.trans (same_new n3 _)))))
  · have q1 : ∀ H', Same H H' → Q (.int 2) H' := by
      rcases res with ⟨z, _⟩ | ⟨_, q⟩ | ⟨⟨_, _, _, g4⟩, _⟩
      · rcases z with z | z | z
        · exact absurd gn z
        · omega
        · exact absurd gh z
      · exact q
      · exact absurd g4 nw
    have s3 := back k2
    generalize H2 = H3 at s3
    refine ⟨C_NoShares, rfl, Z.h_NoShares_CoverError, fun e he => ?_⟩
    have ze := Z.e_NoShares
    refine ⟨_, rfl, e, _, _, _, _, rfl, upd_same, ze, ref_is, Z.k_NoShares_NoBook, _, rfl, e, _, _, _, _, rfl, upd_same, ze, ref_is, Z.k_NoShares_NoClause, _, rfl, e, _, _, _, _, rfl, upd_same, ze, ref_is, Z.k_NoShares_NoEntry, le_line (by show 3 ≤ 1000; decide), fun l1 n1 => ?_⟩
    have u0 := same_new he (exO e (.ref C_NoShares) none)
    have e0 : upd H3 e (exO e (.ref C_NoShares) none) e = some (exO e (.ref C_NoShares) none) := upd_same
    generalize upd H3 e (exO e (.ref C_NoShares) none) = H4 at u0 e0 n1
    have u1 := same_new n1 (.lst [V.bl false, .bl false, .bl false])
    have e1 : upd H4 l1 (.lst [V.bl false, .bl false, .bl false]) l1 = some (.lst [V.bl false, .bl false, .bl false]) := upd_same
    generalize upd H4 l1 (.lst [V.bl false, .bl false, .bl false]) = H5 at u1 e1
    have e5 := u1 _ _ e0
    refine ⟨_, rfl, e, _, _, _, _, rfl, e5, ze, ref_is, Z.k_NoShares_NoCover, _, rfl, e, _, _, _, _, rfl, e5, ze, ref_is, Z.k_NoShares_NoShares, le_line (by show 2 ≤ 1000; decide), fun l2 n2 => ?_⟩
    have u2 := same_new n2 (.lst [V.bl false, .bl true])
    have e2 : upd H5 l2 (.lst [V.bl false, .bl true]) l2 = some (.lst [V.bl false, .bl true]) := upd_same
    generalize upd H5 l2 (.lst [V.bl false, .bl true]) = H6 at u2 e2
    have e6 := u2 _ _ e5
    refine ⟨_, rfl, e, _, _, _, _, rfl, e6, ze, ty_is, Z.v_NoShares, _, rfl, iteF ⟨_, rfl, l1, _, rfl, .inl (SqL.of (u2 _ _ e1)), rfl, rfl, _, rfl, iteF ⟨_, rfl, le_line (by show 2 ≤ 1000; decide), fun l3 n3 => ⟨l2, l3, _, _, rfl, rfl, SqL.of (same_new n3 _ _ _ e2), SqL.of upd_same, rfl, rfl, _, rfl, iteF ?_⟩⟩⟩⟩
    have e7 := same_new n3 (.lst [V.bl true, .bl true]) _ _ e2
    refine ⟨_, rfl, l2, _, rfl, .inl (SqL.of e7), rfl, rfl, _, rfl, iteT ⟨_, rfl, .inl ⟨rfl, _, SqL.of e7⟩, l2, _, _, 1, rfl, rfl, SqL.of e7, rfl, rfl, by decide, ⟨_, rfl, rfl⟩, (fun m z hm hz => ?_), _, _, rfl, rfl, ?_⟩⟩
    · obtain rfl : m = 0 := by omega
      have : z = .bl false := by simpa using hz.symm
      subst this
      rfl
    exact q1 _ (s3.trans (u0.trans (u1.trans (u2.trans (same_new n3 _)))))
  · rcases res with ⟨z, _⟩ | ⟨⟨_, _, _, g4⟩, _⟩ | ⟨_, q⟩
    · rcases z with z | z | z
      · exact absurd gn z
      · omega
      · exact absurd gh z
    · exact absurd ⟨ws, ew, gw⟩ g4
    · exact q _ (back k2)
end


/-! ### houses that are none -/
theorem vne {i j : Int} (h : i ≠ j) : ¬ V.int i = V.int j := fun z => h (V.int.inj z)
def TyPr (K : PySem.W.Frag) (H : Hp) (prs : List Pr) : Prop := ∀ z ∈ prs, okX z.1 ∧ (∃ T, TyOf K H z.1 (.type T)) ∧ ∃ T, TyOf K H z.2 (.type T)
theorem TyPr.same {K : PySem.W.Frag} {H H' : Hp} {prs : List Pr} (h : TyPr K H prs) (s : Same H H') : TyPr K H' prs := fun z hz => by
  obtain ⟨a1, ⟨T1, a2⟩, T2, a3⟩ := h z hz
  exact ⟨a1, ⟨T1, TyOf.same a2 s⟩, T2, TyOf.same a3 s⟩
theorem tyPr_hs {K : PySem.W.Frag} {H : Hp} {hs : List Hw} (G : GoodH hs) : TyPr K H (hs.map prV) := fun z hz => by
  obtain ⟨h, hh, rfl⟩ := List.mem_map.mp hz
  exact ⟨fun y e => by cases e; exact (G.ok h hh).2, ⟨_, .str _⟩, _, .int _⟩
theorem goodHs_mem {l : List V} (g : GoodHs l) {y : V} (h : y ∈ l) : nameV y = true := by
  obtain ⟨ns, rfl, h1, _⟩ := g
  obtain ⟨z, hz, rfl⟩ := List.mem_map.mp h
  exact h1 z hz
theorem goodWs_mem {l : List V} (g : GoodWs l) {y : V} (h : y ∈ l) : ∃ i : Int, y = .int i ∧ 1 ≤ i ∧ i ≤ 100 := by
  obtain ⟨ws, rfl, gw⟩ := g
  obtain ⟨i, hi, rfl⟩ := List.mem_map.mp h
  obtain ⟨j, hj, e⟩ := List.getElem_of_mem hi
  have := gw_at gw (k := (j : Int)) (by omega) (by omega)
  rw [Int.toNat_natCast, List.getD_eq_getElem?_getD, List.getElem?_eq_getElem hj] at this
  have e' : ws[j] = i := e
  have t : 1 ≤ ws[j] ∧ ws[j] ≤ 100 := this
  rw [e'] at t
  exact ⟨i, rfl, t⟩
theorem hs_1 (hs : List Hw) : (hs.map prV).map (·.1) = (hs.map (·.1)).map V.str := by rw [List.map_map, List.map_map]; rfl
theorem hs_2 (hs : List Hw) : (hs.map prV).map (·.2) = (hs.map (·.2)).map V.int := by rw [List.map_map, List.map_map]; rfl
theorem goodHs_of {hs : List Hw} (G : GoodH hs) : GoodHs ((hs.map prV).map (·.1)) := ⟨hs.map (·.1), hs_1 hs, fun z hz => by obtain ⟨h, hh, rfl⟩ := List.mem_map.mp hz; exact (G.ok h hh).1, G.nd⟩
theorem goodWs_of {hs : List Hw} (G : GoodH hs) : GoodWs ((hs.map prV).map (·.2)) := ⟨hs.map (·.2), hs_2 hs, G.gw⟩
theorem str_map_inj : ∀ {l m : List Str}, l.map V.str = m.map V.str → l = m
  | [], [], _ => rfl
  | [], _ :: _, h => by simp at h
  | _ :: _, [], h => by simp at h
  | x :: l, y :: m, h => by
    rw [List.map_cons, List.map_cons] at h
    injection h with h1 h2
    rw [V.str.inj h1, str_map_inj h2]
/-- one told twice -/
theorem twice_no {hs : List Hw} {j k : Nat} {h : Hw} {v : V} (hj : hs[j]? = some h) : ¬ GoodHs (((hs.map prV).take k ++ (V.str h.1, v) :: (hs.map prV).drop k).map (·.1)) := fun ⟨ns, e, _, nd⟩ => by
  have e' : ((hs.map prV).take k ++ (V.str h.1, v) :: (hs.map prV).drop k).map (·.1) = ((hs.map (·.1)).take k ++ h.1 :: (hs.map (·.1)).drop k).map V.str := by
    rw [List.map_append, List.map_cons, List.map_append, List.map_cons, List.map_take, List.map_drop, hs_1, List.map_take, List.map_drop]
  rw [e'] at e
  have e2 := str_map_inj e
  rw [← e2, List.nodup_append] at nd
  obtain ⟨_, n2, n3⟩ := nd
  have me : h.1 ∈ hs.map (·.1) := List.mem_map.mpr ⟨h, List.mem_of_getElem? hj, rfl⟩
  rw [← List.take_append_drop k (hs.map (·.1))] at me
  rcases List.mem_append.mp me with z | z
  · exact n3 _ z _ List.mem_cons_self rfl
  · exact (List.nodup_cons.mp n2).1 z
theorem set_mem {l : List Pr} {j : Nat} {x : Pr} (h : j < l.length) : x ∈ l.set j x := List.mem_iff_getElem?.mpr ⟨j, by rw [List.getElem?_set_self h]⟩
def lets11 (n : Nat) : List Pr := (List.range n).map fun k => (V.str (tx [97 + k]), V.int 1)
theorem lets_hs {n : Nat} (h : n ≤ 11) : GoodHs ((lets11 n).map (·.1)) := by
  refine ⟨(List.range n).map fun k => tx [97 + k], by unfold lets11; rw [List.map_map, List.map_map]; rfl, fun z hz => ?_, ?_⟩
  · obtain ⟨k, hk, rfl⟩ := List.mem_map.mp hz
    have hk' := List.mem_range.mp hk
    refine decide_eq_true (show NameL [97 + k] from ⟨⟨by show 1 ≤ 1; decide, by show 1 ≤ 8; decide⟩, fun c hc => ?_⟩)
    have : c = 97 + k := by simpa using hc
    unfold letter
    omega
  · rw [List.nodup_iff_pairwise_ne, List.pairwise_map]
    refine List.Pairwise.imp (fun {x y} n e => n ?_) (List.nodup_iff_pairwise_ne.mp List.nodup_range)
    have := tx_inj e
    simp at this
    exact this
theorem lets_ws {n : Nat} (h : 9 ≤ n) : ¬ GoodWs ((lets11 n).map (·.2)) := fun ⟨ws, e, gw⟩ => by
  have := congrArg List.length e
  rw [List.length_map, List.length_map] at this
  unfold lets11 at this
  rw [List.length_map, List.length_range] at this
  have := gw.hi
  omega
theorem abk_at {k : Nat} (h : k < 11) : atI (Str.ofString "abcdefghijk").cps.toList (k : Int) = some (97 + k) := by
  have e : (Str.ofString "abcdefghijk").cps.toList = (List.range 11).map (97 + ·) := by decide +kernel
  rw [e]
  refine atI_nat ?_
  rw [List.getElem?_map, List.getElem?_range h]
  rfl
def badBy (way : Int) (prs : List Pr) : Prop := (way = 0 ∨ way = 1 ∨ way = 5 → ¬ GoodHs (prs.map (·.1))) ∧ (way = 2 ∨ way = 3 ∨ way = 4 → GoodHs (prs.map (·.1)) ∧ ¬ GoodWs (prs.map (·.2)))
def spBad (K : PySem.W.Frag) : Sp := fun vs H Q _ => ∃ a xs hs, ∃ way cell : Int, vs = [.ref a, .int way, .int cell] ∧ H a = some (.lst xs) ∧ Prs H xs (hs.map prV) ∧ GoodH hs ∧ 0 ≤ way ∧ way < 6 ∧ 0 ≤ cell ∧
  ∀ r ys prs H', Same H H' → H r = none → H' r = some (.lst ys) → Prs H' ys prs → prs.length ≤ 900 → TyPr K H' prs → badBy way prs → Q (.ref r) H'
section
seal L2.PS L2.PSs L2.PE L2.PA
variable {P : Program} {w : World} {K : PySem.W.Frag} {mg : Str → Option Value} {base : Heap}
theorem sc__law_bad_pairs : FnScope ["_law_pairs", "_law_way", "_law_cell_here", "_law_some", "_law_at", "_law_other", "_law_odd"] ["_law_pairs", "_law_way", "_law_cell_here"] (defScope s__law_bad_pairs) := ⟨rfl, rfl, rfl, by decide +kernel, rfl, by decide +kernel, by decide +kernel⟩
theorem ok__law_bad_pairs {f : Addr} {fd : FuncData} (F : Fun K "_law_bad_pairs" "_law_bad_pairs" s__law_bad_pairs f fd) (T : Txt K mg) : FnOk P w K mg base CX0 1 f fd ["_law_pairs", "_law_way", "_law_cell_here"] (spBad K) := by
  have sc := sc__law_bad_pairs
  refine F.ok sc (fun vs H Q E h => ?_) (fun cdv A outer s H vs Q E hr h => ?_)
  · obtain ⟨_, _, _, _, _, rfl, _⟩ := h
    rfl
  obtain ⟨a, xs, hs, way, cell, rfl, ha, pr, G, w0, w6, c0, q⟩ := h
  refine ⟨_, (pss_cons (ps_set (i := 3) sc.nd rfl (Or.inl rfl) (pe_callTy call_list_of rfl T.n_list (show bootBuiltins _ = some (.type "list") from rfl) (pa_cons (pv 0) pa_nil)))
      (pss_cons (ps_set (i := 4) sc.nd rfl (Or.inl rfl) (pe_op op_mod (pv 2) (pe_callB call_len_seq rfl T.n_len (show bootBuiltins _ = some (.builtin "len") from rfl) (pa_cons (pv 3) pa_nil))))
      (pss_cons (ps_set (i := 5) sc.nd rfl (Or.inl rfl) (pe_ix ix_tup (pe_ix ix_list (pv 3) (pe_op op_mod (pe_op op_fdiv (pv 2) pe_int) (pe_callB call_len_seq rfl T.n_len (show bootBuiltins _ = some (.builtin "len") from rfl) (pa_cons (pv 3) pa_nil))) (fun _ _ => rfl)) pe_int (fun _ _ => rfl)))
      (pss_cons (ps_set (i := 6) sc.nd rfl (Or.inl rfl) (pe_lst (pa_cons pe_str (pa_cons pe_str (pa_cons pe_str (pa_cons pe_str (pa_cons pe_int (pa_cons pe_non (pa_cons pe_bl (pa_cons pe_str (pa_cons pe_str (pa_cons pe_str (pa_cons pe_str (pa_cons (pe_tup (pa_cons pe_str pa_nil)) (pa_cons (pe_lst (pa_cons pe_str pa_nil)) (pa_cons pe_str pa_nil))))))))))))))))
      (pss_cons (ps_if (pt_cmpR op_eq (pv 1) pe_int (nomark _))
        (pss_one (ps_asg (pe_tup (pa_cons (pe_ix ix_list (pv 6) (pe_op op_mod (pe_op op_fdiv (pv 2) pe_int) pe_int) (fun _ _ => rfl)) (pa_cons (pe_ix ix_tup (pe_ix ix_list (pv 3) (pv 4) (fun _ _ => rfl)) pe_int (fun _ _ => rfl)) pa_nil))) (pg_sub (pv 3) (pv 4) set_list)))
        pss_nil)
      (pss_cons (ps_if (pt_cmpR op_eq (pv 1) pe_int (nomark _))
        (pss_one (ps_expr (pe_bm PySem.F.plainAttrs_list PySem.F.slot_list_insert PySem.F.type_list_insert mt_insert (pv 3) (pa_cons (pe_op op_mod (pe_op op_fdiv (pv 2) pe_int) (pe_op op_add (pe_callB call_len_seq rfl T.n_len (show bootBuiltins _ = some (.builtin "len") from rfl) (pa_cons (pv 3) pa_nil)) pe_int)) (pa_cons (pe_tup (pa_cons (pv 5) (pa_cons pe_int pa_nil))) pa_nil)))))
        pss_nil)
      (pss_cons (ps_if (pt_cmpR op_eq (pv 1) pe_int (nomark _))
        (pss_one (ps_asg (pe_tup (pa_cons (pe_ix ix_tup (pe_ix ix_list (pv 3) (pv 4) (fun _ _ => rfl)) pe_int (fun _ _ => rfl)) (pa_cons (pe_ix ix_list (pe_lst (pa_cons pe_int (pa_cons (pe_op op_sub (pe_un un_neg pe_int) (pe_op op_mod (pe_op op_fdiv (pv 2) pe_int) (pe_op op_pow pe_int pe_int))) (pa_cons pe_int (pa_cons pe_non pa_nil))))) (pe_op op_mod (pe_op op_fdiv (pv 2) pe_int) pe_int) (fun _ _ => rfl)) pa_nil))) (pg_sub (pv 3) (pv 4) set_list)))
        pss_nil)
      (pss_cons (ps_if (pt_cmpR op_eq (pv 1) pe_int (nomark _))
        (pss_one (ps_set (i := 3) sc.nd rfl (Or.inl rfl) (pe_lst pa_nil)))
        pss_nil)
      (pss_cons (ps_if (pt_cmpR op_eq (pv 1) pe_int (nomark _))
        (pss_one (ps_comp (NC := ["_law_k"]) (own := ["_law_k"]) (cs := []) (ix := []) (j := 3) sc.nd rfl rfl rfl (CompScope.of rfl) rfl trivial (pi_range1 rfl T.n_range (pa_cons (pe_op op_add pe_int (pe_op op_mod (pv 2) pe_int)) pa_nil)) (fun _ _ _ => (pg_name (i := 0) (show (["_law_k"] : List Str).Nodup from by decide +kernel) rfl (Or.inl rfl))) (fun _ _ _ => pts_nil) (fun _ _ _ => (pe_tup (pa_cons (pe_ix ix_str pe_str (pv 0) (fun _ _ => rfl)) (pa_cons pe_int pa_nil))))))
        pss_nil)
      (pss_cons (ps_if (pt_cmpR op_eq (pv 1) pe_int (nomark _))
        (pss_one (ps_expr (pe_bm PySem.F.plainAttrs_list PySem.F.slot_list_insert PySem.F.type_list_insert mt_insert (pv 3) (pa_cons pe_int (pa_cons (pe_tup (pa_cons (pv 5) (pa_cons pe_int pa_nil))) pa_nil)))))
        pss_nil)
      (pss_one (ps_ret (pv 3))))))))))))), ?_⟩
  have one : 1 ≤ sizeLine := by rw [sizeLine_eq]; decide
  have two : 2 ≤ sizeLine := by rw [sizeLine_eq]; decide
  have lx := pr.len
  rw [List.length_map] at lx
  have g1 := G.gw.lo
  have g2 := G.gw.hi
  rw [List.length_map] at g1 g2
  -- some = list(pairs)
  refine ⟨_, rfl, a, _, rfl, .inl (SqL.of ha), fun l nl => ?_⟩
  have s1 := same_new nl (.lst xs)
  have h1 : upd H l (.lst xs) l = some (.lst xs) := upd_same
  generalize upd H l (.lst xs) = H1 at s1 h1
  have pr1 := pr.mono (tst_same s1)
  -- at
  refine ⟨_, rfl, _, rfl, l, _, rfl, .inl (SqL.of h1), _, _, rfl, rfl, (by show (0 : Int) < (xs.length : Int); omega), ?_⟩
  refine hideI 0 ((xs.length : Int) - 1) (md (by omega)) fun at' at0 at1 => ?_
  obtain ⟨j, rfl⟩ := Int.eq_ofNat_of_zero_le at0
  have hj : j < xs.length := by omega
  obtain ⟨tj, pj, hpj, etj, htj⟩ := pr1.get (List.getElem?_eq_getElem hj)
  rw [List.getElem?_map] at hpj
  obtain ⟨hw, hhw, rfl⟩ := Option.map_eq_some_iff.mp hpj
  have atj : atI xs (j : Int) = some (.ref tj) := by rw [← etj]; exact atI_nat (List.getElem?_eq_getElem hj)
  -- other
  have i0 : 0 ≤ cell / 8 % (xs.length : Int) := Int.emod_nonneg _ (by omega)
  have i1 : cell / 8 % (xs.length : Int) < xs.length := Int.emod_lt_of_pos _ (by omega)
  have hi : (cell / 8 % (xs.length : Int)).toNat < xs.length := by omega
  obtain ⟨ti, pi, hpi, eti, hti⟩ := pr1.get (List.getElem?_eq_getElem hi)
  rw [List.getElem?_map] at hpi
  obtain ⟨ho, hho, rfl⟩ := Option.map_eq_some_iff.mp hpi
  have ati : atI xs (cell / 8 % (xs.length : Int)) = some (.ref ti) := by
    have e' : cell / 8 % (xs.length : Int) = (((cell / 8 % (xs.length : Int)).toNat : Nat) : Int) := by omega
    rw [e', ← eti]
    exact atI_nat (List.getElem?_eq_getElem hi)
  refine ⟨_, rfl, _, rfl, _, _, rfl, rfl, ⟨by decide, by decide⟩, _, rfl, l, _, rfl, .inl (SqL.of h1), _, _, rfl, rfl, (by show (0 : Int) < (xs.length : Int); omega), l, _, _, _, rfl, rfl, SqL.of h1, ati, ti, _, _, _, rfl, rfl, SqT.of hti, rfl, ?_⟩
  refine atG [some (.ref a), some (.int way), some (.int cell), some (.ref l), some (.int j), some (.str ho.1), none] rfl ?_
  -- odd
  refine ⟨one, fun p1 n1 => ⟨one, fun p2 n2 => ⟨le_line (by show 14 ≤ 1000; decide), fun p3 n3 => ?_⟩⟩⟩
  have n1' := n1
  have t1 := same_new n1 (.tup [.str "a"])
  have e1 : upd H1 p1 (.tup [.str "a"]) p1 = some (.tup [.str "a"]) := upd_same
  generalize upd H1 p1 (.tup [.str "a"]) = H2 at t1 e1 n2 n3 ⊢
  have n2' := n2
  have t2 := same_new n2 (.lst [.str "b"])
  have e2 : upd H2 p2 (.lst [.str "b"]) p2 = some (.lst [.str "b"]) := upd_same
  generalize upd H2 p2 (.lst [.str "b"]) = H3 at t2 e2 n3 ⊢
  have t3 := same_new n3 (.lst [.str "", .str "Acme", .str "a b", .str "abcdefghi", .int 5, .non, .bl true, .str "a1", .str "a.b", .str " a", .str "a-", .ref p1, .ref p2, .str "aB"])
  have e3 : upd H3 p3 (.lst [.str "", .str "Acme", .str "a b", .str "abcdefghi", .int 5, .non, .bl true, .str "a1", .str "a.b", .str " a", .str "a-", .ref p1, .ref p2, .str "aB"]) p3 = some (.lst [.str "", .str "Acme", .str "a b", .str "abcdefghi", .int 5, .non, .bl true, .str "a1", .str "a.b", .str " a", .str "a-", .ref p1, .ref p2, .str "aB"]) := upd_same
  generalize upd H3 p3 (.lst [.str "", .str "Acme", .str "a b", .str "abcdefghi", .int 5, .non, .bl true, .str "a1", .str "a.b", .str " a", .str "a-", .ref p1, .ref p2, .str "aB"]) = H4 at t3 e3 ⊢
  have t4 := t1.trans (t2.trans t3)
  have s4 := s1.trans t4
  have h4 := t4 _ _ h1
  have pr4 := pr1.mono (tst_same t4)
  have htj4 := t4 _ _ htj
  have d1 : p1 ≠ l := (ne_of_none h1 n1').symm
  have d2 : p2 ≠ l := (ne_of_none (t1 _ _ h1) n2').symm
  have e14 := t3 _ _ (t2 _ _ e1)
  have e24 := t3 _ _ e2
  clear n1 n2 n3 e1 e2 t1 t2 t3
  refine atG [some (.ref a), some (.int way), some (.int cell), some (.ref l), some (.int j), some (.str ho.1), some (.ref p3)] rfl ?_
  have keep : ∀ (H' : Hp) (o : HO), Same H H' → Same H (upd H' l o) := fun H' o s' b u z => by
    rw [upd_ne (ne_of_none z nl)]
    exact s' _ _ z
  have ixl : ixN xs.length (j : Int) = some j := by
    have z := ix_of (n := xs.length) (k := (j : Int)) (by omega) (by omega)
    rw [Int.toNat_natCast] at z
    exact z
  have lm : (hs.map prV).length = xs.length := by rw [List.length_map]; exact lx.symm
  have okho : okX (.str ho.1) := fun y e => by cases e; exact (G.ok ho (List.mem_of_getElem? hho)).2
  have hways : way = 0 ∨ way = 1 ∨ way = 2 ∨ way = 3 ∨ way = 4 ∨ way = 5 := by omega
  rcases hways with rfl | rfl | rfl | rfl | rfl | rfl
  · refine ⟨_, rfl, rfl, _, rfl, dT rfl ?_⟩
    have k0 : 0 ≤ cell / 64 % 14 := Int.emod_nonneg _ (by decide)
    have k1 : cell / 64 % 14 < 14 := Int.emod_lt_of_pos _ (by decide)
    have pk : ∃ v T, atI [V.str "", .str "Acme", .str "a b", .str "abcdefghi", .int 5, .non, .bl true, .str "a1", .str "a.b", .str " a", .str "a-", .ref p1, .ref p2, .str "aB"] (cell / 64 % 14) = some v ∧ nameV v = false ∧ okX v ∧ ∀ H', Same H4 H' → ∀ o, TyOf K (upd H' l o) v (.type T) := by
      have okl : ∀ z : Str, z.length ≤ 900 → okX (.str z) := fun z h y e => by cases e; exact h
      generalize cell / 64 % 14 = i at k0 k1
      have : i = 0 ∨ i = 1 ∨ i = 2 ∨ i = 3 ∨ i = 4 ∨ i = 5 ∨ i = 6 ∨ i = 7 ∨ i = 8 ∨ i = 9 ∨ i = 10 ∨ i = 11 ∨ i = 12 ∨ i = 13 := by omega
      rcases this with rfl | rfl | rfl | rfl | rfl | rfl | rfl | rfl | rfl | rfl | rfl | rfl | rfl | rfl
      · exact ⟨_, _, rfl, by decide +kernel, okl _ (by decide +kernel), fun _ _ _ => .str _⟩
      · exact ⟨_, _, rfl, by decide +kernel, okl _ (by decide +kernel), fun _ _ _ => .str _⟩
      · exact ⟨_, _, rfl, by decide +kernel, okl _ (by decide +kernel), fun _ _ _ => .str _⟩
      · exact ⟨_, _, rfl, by decide +kernel, okl _ (by decide +kernel), fun _ _ _ => .str _⟩
      · exact ⟨_, _, rfl, rfl, (fun y e => by cases e), fun _ _ _ => .int _⟩
      · exact ⟨_, _, rfl, rfl, (fun y e => by cases e), fun _ _ _ => .non⟩
      · exact ⟨_, _, rfl, rfl, (fun y e => by cases e), fun _ _ _ => .bl _⟩
      · exact ⟨_, _, rfl, by decide +kernel, okl _ (by decide +kernel), fun _ _ _ => .str _⟩
      · exact ⟨_, _, rfl, by decide +kernel, okl _ (by decide +kernel), fun _ _ _ => .str _⟩
      · exact ⟨_, _, rfl, by decide +kernel, okl _ (by decide +kernel), fun _ _ _ => .str _⟩
      · exact ⟨_, _, rfl, by decide +kernel, okl _ (by decide +kernel), fun _ _ _ => .str _⟩
      · exact ⟨_, _, rfl, rfl, (fun y e => by cases e), fun H' s' o => .tup (by rw [upd_ne d1]; exact s' _ _ e14)⟩
      · exact ⟨_, _, rfl, rfl, (fun y e => by cases e), fun H' s' o => .lst (by rw [upd_ne d2]; exact s' _ _ e24)⟩
      · exact ⟨_, _, rfl, by decide +kernel, okl _ (by decide +kernel), fun _ _ _ => .str _⟩
    obtain ⟨v, T1, hv, nv, okv, tyv⟩ := pk
    refine ⟨_, rfl, _, rfl, _, _, rfl, rfl, ⟨by decide, by decide⟩, _, _, rfl, rfl, (by show (0 : Int) < 14; decide), p3, _, _, v, rfl, rfl, SqL.of e3, hv, _, rfl, _, rfl, l, _, _, _, rfl, rfl, SqL.of h4, atj, tj, _, _, _, rfl, rfl, SqT.of htj4, rfl, two, fun t nt => ?_⟩
    have su := same_new nt (.tup [v, V.int hw.2])
    have tl : t ≠ l := (ne_of_none h4 nt).symm
    refine ⟨_, rfl, _, rfl, l, _, _, j, rfl, rfl, su _ _ h4, ixl, ?_⟩
    refine ⟨_, rfl, rfl, _, rfl, dF (vne (by decide)) ⟨_, rfl, rfl, _, rfl, dF (vne (by decide)) ⟨_, rfl, rfl, _, rfl, dF (vne (by decide)) ⟨_, rfl, rfl, _, rfl, dF (vne (by decide)) ⟨_, rfl, rfl, _, rfl, dF (vne (by decide)) ⟨_, rfl, q l _ ((hs.map prV).set j (v, .int hw.2)) _ (keep _ _ (s4.trans su)) nl upd_same ?_ ?_ ?_ ?_⟩⟩⟩⟩⟩⟩
    · exact ((pr4.mono (tst_same su)).set j upd_same).mono (tst_lst (su _ _ h4) _)
    · rw [List.length_set, lm]; omega
    · intro z hz
      rcases List.mem_or_eq_of_mem_set hz with e | e
      · exact tyPr_hs G z e
      · subst e
        exact ⟨okv, ⟨T1, tyv _ su _⟩, _, .int _⟩
    · refine ⟨fun _ g => ?_, fun z => by omega⟩
      have := goodHs_mem g (y := v) (List.mem_map.mpr ⟨(v, .int hw.2), set_mem (by rw [lm]; exact hj), rfl⟩)
      rw [nv] at this
      cases this
  · refine ⟨_, rfl, rfl, _, rfl, dF (vne (by decide)) ⟨_, rfl, rfl, _, rfl, dT rfl ?_⟩⟩
    have k0 : 0 ≤ cell / 64 % ((xs.length : Int) + 1) := Int.emod_nonneg _ (by omega)
    have k1 : cell / 64 % ((xs.length : Int) + 1) < (xs.length : Int) + 1 := Int.emod_lt_of_pos _ (by omega)
    refine ⟨_, rfl, .inl ⟨rfl, _, SqL.of h4⟩, _, rfl, _, _, rfl, rfl, ⟨by decide, by decide⟩, _, rfl, l, _, rfl, .inl (SqL.of h4), _, _, rfl, rfl, _, _, rfl, rfl, (by show (0 : Int) < (xs.length : Int) + 1; omega), _, rfl, two, fun t nt => ?_⟩
    have su := same_new nt (.tup [V.str ho.1, V.int 1])
    have ek : cell / 64 % ((xs.length : Int) + 1) = (((cell / 64 % ((xs.length : Int) + 1)).toNat : Nat) : Int) := by omega
    generalize hk : (cell / 64 % ((xs.length : Int) + 1)).toNat = kk at ek
    have kl : kk ≤ xs.length := by omega
    refine ⟨l, xs, kk, .ref t, rfl, congrArg (fun z => [V.int z, V.ref t]) ek, su _ _ h4, kl, by omega, ?_⟩
    refine ⟨_, rfl, rfl, _, rfl, dF (vne (by decide)) ⟨_, rfl, rfl, _, rfl, dF (vne (by decide)) ⟨_, rfl, rfl, _, rfl, dF (vne (by decide)) ⟨_, rfl, rfl, _, rfl, dF (vne (by decide)) ⟨_, rfl, q l _ ((hs.map prV).take kk ++ (V.str ho.1, .int 1) :: (hs.map prV).drop kk) _ (keep _ _ (s4.trans su)) nl upd_same ?_ ?_ ?_ ?_⟩⟩⟩⟩⟩
    · have pu := pr4.mono (tst_same su)
      exact ((pu.take kk).app ((Prs.one (t := t) upd_same).app (pu.drop kk))).mono (tst_lst (su _ _ h4) _)
    · rw [List.length_append, List.length_cons, List.length_take, List.length_drop, lm]; omega
    · intro z hz
      rcases List.mem_append.mp hz with e | e
      · exact tyPr_hs G z (List.mem_of_mem_take e)
      · rcases List.mem_cons.mp e with e | e
        · subst e
          exact ⟨okho, ⟨_, .str _⟩, _, .int _⟩
        · exact tyPr_hs G z (List.mem_of_mem_drop e)
    · exact ⟨fun _ => twice_no hho, fun z => by omega⟩
  · refine ⟨_, rfl, rfl, _, rfl, dF (vne (by decide)) ⟨_, rfl, rfl, _, rfl, dF (vne (by decide)) ⟨_, rfl, rfl, _, rfl, dT rfl ?_⟩⟩⟩
    have k0 : 0 ≤ cell / 64 % 4 := Int.emod_nonneg _ (by decide)
    have k1 : cell / 64 % 4 < 4 := Int.emod_lt_of_pos _ (by decide)
    have m0 : 0 ≤ cell / 64 % (10 : Int) ^ (9 : Int).toNat := Int.emod_nonneg _ (by rw [e9]; decide)
    have pk : ∃ v T, atI [V.int 0, .int (-1 - cell / 64 % (10 : Int) ^ (9 : Int).toNat), .int 101, .non] (cell / 64 % 4) = some v ∧ (∀ i : Int, v = .int i → 1 ≤ i → i ≤ 100 → False) ∧ ∀ H', TyOf K H' v (.type T) := by
      generalize cell / 64 % 4 = i at k0 k1
      have : i = 0 ∨ i = 1 ∨ i = 2 ∨ i = 3 := by omega
      rcases this with rfl | rfl | rfl | rfl
      · exact ⟨_, _, rfl, (fun i e h1 h2 => by injection e with e; omega), fun _ => .int _⟩
      · exact ⟨_, _, rfl, (fun i e h1 h2 => by injection e with e; omega), fun _ => .int _⟩
      · exact ⟨_, _, rfl, (fun i e h1 h2 => by injection e with e; omega), fun _ => .int _⟩
      · exact ⟨_, _, rfl, (fun i e h1 h2 => by cases e), fun _ => .non⟩
    obtain ⟨v, T1, hv, nv, tyv⟩ := pk
    refine ⟨_, rfl, _, rfl, l, _, _, _, rfl, rfl, SqL.of h4, atj, tj, _, _, _, rfl, rfl, SqT.of htj4, rfl, _, rfl, _, rfl, _, _, rfl, rfl, ⟨by decide, by decide⟩, _, _, rfl, rfl, ⟨by decide, by decide, by decide⟩, _, _, rfl, rfl, (by show (0 : Int) < (10 : Int) ^ (9 : Int).toNat; rw [e9]; decide), _, _, rfl, rfl, le_line (by show 4 ≤ 1000; decide), fun p4 n4 => ?_⟩
    have su4 := same_new n4 (.lst [V.int 0, .int (-1 - cell / 64 % (10 : Int) ^ (9 : Int).toNat), .int 101, .non])
    refine ⟨_, rfl, _, _, rfl, rfl, ⟨by decide, by decide⟩, _, _, rfl, rfl, (by show (0 : Int) < 4; decide), p4, _, _, v, rfl, rfl, SqL.of upd_same, hv, two, fun t nt => ?_⟩
    have su := su4.trans (same_new nt (.tup [V.str hw.1, v]))
    refine ⟨_, rfl, _, rfl, l, _, _, j, rfl, rfl, su _ _ h4, ixl, ?_⟩
    refine ⟨_, rfl, rfl, _, rfl, dF (vne (by decide)) ⟨_, rfl, rfl, _, rfl, dF (vne (by decide)) ⟨_, rfl, rfl, _, rfl, dF (vne (by decide)) ⟨_, rfl, q l _ ((hs.map prV).set j (.str hw.1, v)) _ (keep _ _ (s4.trans su)) nl upd_same ?_ ?_ ?_ ?_⟩⟩⟩⟩
    · exact ((pr4.mono (tst_same su)).set j upd_same).mono (tst_lst (su _ _ h4) _)
    · rw [List.length_set, lm]; omega
    · intro z hz
      rcases List.mem_or_eq_of_mem_set hz with e | e
      · exact tyPr_hs G z e
      · subst e
        exact ⟨(fun y e => by cases e; exact (G.ok hw (List.mem_of_getElem? hhw)).2), ⟨_, .str _⟩, _, tyv _⟩
    · refine ⟨fun z => by omega, fun _ => ⟨?_, fun g => ?_⟩⟩
      · have e : ((hs.map prV).set j (V.str hw.1, v)).map (·.1) = (hs.map prV).map (·.1) := by
          rw [List.map_set]
          refine List.ext_getElem? fun m => ?_
          rw [List.getElem?_set]
          split
          · rename_i c
            subst c
            rw [if_pos (by rw [List.length_map, lm]; exact hj), List.getElem?_map, List.getElem?_map, hhw]
            rfl
          · rfl
        rw [e]
        exact goodHs_of G
      · obtain ⟨i, e, h1, h2⟩ := goodWs_mem g (y := v) (List.mem_map.mpr ⟨(.str hw.1, v), set_mem (by rw [lm]; exact hj), rfl⟩)
        exact nv i e h1 h2
  · refine ⟨_, rfl, rfl, _, rfl, dF (vne (by decide)) ⟨_, rfl, rfl, _, rfl, dF (vne (by decide)) ⟨_, rfl, rfl, _, rfl, dF (vne (by decide)) ⟨_, rfl, rfl, _, rfl, dT rfl ?_⟩⟩⟩⟩
    refine ⟨Nat.zero_le _, fun r nr => ?_⟩
    refine ⟨_, rfl, rfl, _, rfl, dF (vne (by decide)) ⟨_, rfl, rfl, _, rfl, dF (vne (by decide)) ⟨_, rfl, q r [] [] _ (s4.trans (same_new nr _)) (s4.free nr) upd_same trivial (by decide) (fun z hz => nomatch hz) ?_⟩⟩⟩
    refine ⟨fun z => by omega, fun _ => ⟨⟨[], rfl, fun _ z => (nomatch z), List.Pairwise.nil⟩, fun ⟨ws, e, gw⟩ => ?_⟩⟩
    have := congrArg List.length e
    rw [List.length_map] at this
    have := gw.lo
    simp at *
    omega
  · refine ⟨_, rfl, rfl, _, rfl, dF (vne (by decide)) ⟨_, rfl, rfl, _, rfl, dF (vne (by decide)) ⟨_, rfl, rfl, _, rfl, dF (vne (by decide)) ⟨_, rfl, rfl, _, rfl, dF (vne (by decide)) ⟨_, rfl, rfl, _, rfl, dT rfl ?_⟩⟩⟩⟩⟩
    have k0 : 0 ≤ cell % 3 := Int.emod_nonneg _ (by decide)
    have k1 : cell % 3 < 3 := Int.emod_lt_of_pos _ (by decide)
    refine ⟨_, rfl, _, _, rfl, rfl, (by show (0 : Int) < 3; decide), _, _, rfl, rfl, _, rfl, by omega, by omega, fun r nr => ?_⟩
    have nm9 : 9 ≤ (9 + cell % 3).toNat := by omega
    have nm11 : (9 + cell % 3).toNat ≤ 11 := by omega
    have ab : (Str.ofString "abcdefghijk").length ≤ sizeLine := by
      have e : (Str.ofString "abcdefghijk").length = 11 := by decide +kernel
      rw [e]
      exact le_line (by decide)
    refine comp_range (lo := 0) (n := (9 + cell % 3).toNat) (fun i ys H5 => Prs H5 ys (lets11 i) ∧ H5 r = some (.lst ys) ∧ Same H4 H5) ⟨trivial, upd_same, same_new nr _⟩
      (fun i ys H5 _ ⟨e, x1, _⟩ => ⟨x1, by rw [e.len]; unfold lets11; rw [List.length_map, List.length_range]; exact Nat.le_refl _⟩) (by rw [sizeLine_eq]; omega) (fun i ys H5 hi ⟨e, x1, x2⟩ => ?_) (fun ys H5 ⟨e, x1, x2⟩ => ?_)
    · rw [show (0 + (i : Int)) = (i : Int) by omega]
      refine ⟨_, rfl, _, _, _, rfl, rfl, ab, abk_at (by omega), two, fun t nt => ?_⟩
      have su := same_new nt (.tup [V.str (tx [97 + i]), V.int 1])
      refine ⟨su _ _ x1, rfl, ?_, upd_same, fun x o z => ?_⟩
      · have el : lets11 (i + 1) = lets11 i ++ [(V.str (tx [97 + i]), V.int 1)] := by unfold lets11; rw [List.range_succ, List.map_append]; rfl
        rw [el]
        exact ((e.mono (tst_same su)).app (Prs.one (t := t) upd_same)).mono (tst_lst (su _ _ x1) _)
      · rw [upd_ne (ne_of_none z nr)]
        exact su _ _ (x2 x o z)
    refine ⟨_, rfl, rfl, _, rfl, dF (vne (by decide)) ⟨_, rfl, q r ys _ H5 (s4.trans x2) (s4.free nr) x1 e ?_ ?_ ⟨fun z => by omega, fun _ => ⟨lets_hs nm11, lets_ws nm9⟩⟩⟩⟩
    · unfold lets11; rw [List.length_map, List.length_range]; omega
    · intro z hz
      unfold lets11 at hz
      obtain ⟨k, _, rfl⟩ := List.mem_map.mp hz
      exact ⟨okX_of (by show 1 ≤ 900; decide), ⟨_, .str _⟩, _, .int _⟩
  · refine ⟨_, rfl, rfl, _, rfl, dF (vne (by decide)) ⟨_, rfl, rfl, _, rfl, dF (vne (by decide)) ⟨_, rfl, rfl, _, rfl, dF (vne (by decide)) ⟨_, rfl, rfl, _, rfl, dF (vne (by decide)) ⟨_, rfl, rfl, _, rfl, dF (vne (by decide)) ⟨_, rfl, rfl, _, rfl, dT rfl ?_⟩⟩⟩⟩⟩⟩
    refine ⟨_, rfl, .inl ⟨rfl, _, SqL.of h4⟩, _, rfl, two, fun t nt => ?_⟩
    have su := same_new nt (.tup [V.str ho.1, V.int 0])
    refine ⟨l, xs, 0, .ref t, rfl, rfl, su _ _ h4, Nat.zero_le _, by omega, ?_⟩
    refine ⟨_, rfl, q l _ ((hs.map prV).take 0 ++ (V.str ho.1, .int 0) :: (hs.map prV).drop 0) _ (keep _ _ (s4.trans su)) nl upd_same ?_ ?_ ?_ ?_⟩
    · have pu := pr4.mono (tst_same su)
      exact ((pu.take 0).app ((Prs.one (t := t) upd_same).app (pu.drop 0))).mono (tst_lst (su _ _ h4) _)
    · rw [List.length_append, List.length_cons, List.length_take, List.length_drop, lm]; omega
    · intro z hz
      rcases List.mem_append.mp hz with e | e
      · exact tyPr_hs G z (List.mem_of_mem_take e)
      · rcases List.mem_cons.mp e with e | e
        · subst e
          exact ⟨okho, ⟨_, .str _⟩, _, .int _⟩
        · exact tyPr_hs G z (List.mem_of_mem_drop e)
    · exact ⟨fun _ => twice_no hho, fun z => by omega⟩
end


/-! ### a cover keeps what it was told -/
theorem kit_bb {K : PySem.W.Frag} : PySem.W.kitOne K (.type "bool") (.type "bool") = some true := by kernel_rfl
theorem eq_strs : ∀ l : List Str, eqL (l.map V.str) (l.map V.str) = true
  | [] => rfl
  | x :: l => by
    rw [List.map_cons]
    unfold eqL
    rw [eq_strs l]
    simp [eqV]
theorem eq_ints (l : List Int) : eqL (l.map V.int) (l.map V.int) = true := by rw [eqL_int, decide_eq_true rfl]
/-- lists of words -/
def Wds (H : Hp) : List V → List (List Str) → Prop
  | [], [] => True
  | x :: xs, p :: ps => (∃ t, x = .ref t ∧ H t = some (.lst (p.map V.str))) ∧ Wds H xs ps
  | _, _ => False
theorem Wds.len {H : Hp} : ∀ {xs : List V} {ps : List (List Str)}, Wds H xs ps → xs.length = ps.length
  | [], [], _ => rfl
  | [], _ :: _, h => h.elim
  | _ :: _, [], h => h.elim
  | x :: xs, p :: ps, h => by rw [List.length_cons, List.length_cons, Wds.len h.2]
theorem Wds.same {H H' : Hp} (s : Same H H') : ∀ {xs : List V} {ps : List (List Str)}, Wds H xs ps → Wds H' xs ps
  | [], [], _ => trivial
  | [], _ :: _, h => h.elim
  | _ :: _, [], h => h.elim
  | x :: xs, p :: ps, ⟨⟨t, e, h⟩, r⟩ => ⟨⟨t, e, s _ _ h⟩, Wds.same s r⟩
/-- a list that none of them is, changed -/
theorem Wds.put {H : Hp} {l : Addr} {o : HO} : ∀ {xs : List V} {ps : List (List Str)}, Wds H xs ps → (∀ x ∈ xs, x ≠ .ref l) → Wds (upd H l o) xs ps
  | [], [], _, _ => trivial
  | [], _ :: _, h, _ => h.elim
  | _ :: _, [], h, _ => h.elim
  | x :: xs, p :: ps, ⟨⟨t, e, h⟩, r⟩, n => ⟨⟨t, e, by rw [upd_ne (fun z => n x List.mem_cons_self (by rw [e, z]))]; exact h⟩, Wds.put r fun y hy => n y (List.mem_cons_of_mem _ hy)⟩
theorem Wds.app {H : Hp} : ∀ {xs : List V} {ps : List (List Str)} {ys : List V} {qs : List (List Str)}, Wds H xs ps → Wds H ys qs → Wds H (xs ++ ys) (ps ++ qs)
  | [], [], _, _, _, h => h
  | [], _ :: _, _, _, r, _ => r.elim
  | _ :: _, [], _, _, r, _ => r.elim
  | x :: xs, p :: ps, _, _, ⟨z, r⟩, h => ⟨z, Wds.app r h⟩
def dS (l : List Str) : List D := l.map fun z => .at (.str z)
theorem dS_rep {K : PySem.W.Frag} {H : Hp} : ∀ l : List Str, Reps K H (dS l) (l.map V.str)
  | [] => by unfold dS; rw [List.map_nil]; unfold Reps; rfl
  | x :: l => by
    unfold dS
    rw [List.map_cons, List.map_cons]
    unfold Reps
    exact ⟨_, _, rfl, by unfold Rep; exact ⟨rfl, rfl⟩, dS_rep l⟩
theorem Wds.rep {K : PySem.W.Frag} {H : Hp} : ∀ {xs : List V} {ps : List (List Str)}, Wds H xs ps → Reps K H (ps.map fun l => .seq false (dS l)) xs
  | [], [], _ => by rw [List.map_nil]; unfold Reps; rfl
  | [], _ :: _, h => h.elim
  | _ :: _, [], h => h.elim
  | x :: xs, p :: ps, ⟨⟨t, e, h⟩, r⟩ => by
    rw [List.map_cons]
    unfold Reps
    refine ⟨_, _, rfl, ?_, Wds.rep r⟩
    unfold Rep
    exact ⟨t, _, e, (fun z => by cases z), fun _ => SqL.of h, dS_rep p⟩
theorem dS_same : ∀ l : List Str, eqDs (dS l) (dS l) = true
  | [] => by unfold dS; rw [List.map_nil]; unfold eqDs; rfl
  | x :: l => by
    unfold dS
    rw [List.map_cons]
    unfold eqDs eqD
    rw [show eqDs (l.map fun z => D.at (.str z)) (l.map fun z => D.at (.str z)) = true from dS_same l]
    simp [eqV]
theorem dW_same : ∀ ps : List (List Str), eqDs (ps.map fun l => D.seq false (dS l)) (ps.map fun l => D.seq false (dS l)) = true
  | [] => by rw [List.map_nil]; unfold eqDs; rfl
  | p :: ps => by
    rw [List.map_cons]
    unfold eqDs eqD
    rw [dW_same ps, dS_same p]
    rfl
theorem dS_dep : ∀ l : List Str, deps (dS l) = 0
  | [] => by unfold dS; rw [List.map_nil]; unfold deps; rfl
  | x :: l => by
    unfold dS
    rw [List.map_cons]
    unfold deps dep
    rw [show deps (l.map fun z => D.at (.str z)) = 0 from dS_dep l]
    rfl
theorem dW_dep : ∀ ps : List (List Str), deps (ps.map fun l => D.seq false (dS l)) ≤ 1
  | [] => by rw [List.map_nil]; unfold deps; omega
  | p :: ps => by
    rw [List.map_cons]
    unfold deps dep
    have := dW_dep ps
    rw [dS_dep p]
    omega
/-- clauses -/
def Obs (C0 C1 C2 C3 : Addr) (H : Hp) : List V → List Ob → Prop
  | [], [] => True
  | x :: xs, p :: ps => (∃ t, x = .ref t ∧ ObAt C0 C1 C2 C3 H t p) ∧ Obs C0 C1 C2 C3 H xs ps
  | _, _ => False
theorem Obs.len {C0 C1 C2 C3 : Addr} {H : Hp} : ∀ {xs : List V} {ps : List Ob}, Obs C0 C1 C2 C3 H xs ps → xs.length = ps.length
  | [], [], _ => rfl
  | [], _ :: _, h => h.elim
  | _ :: _, [], h => h.elim
  | x :: xs, p :: ps, h => by rw [List.length_cons, List.length_cons, Obs.len h.2]
def Ist (H H' : Hp) : Prop := ∀ t C dx fs, H t = some (.ins C dx fs) → H' t = some (.ins C dx fs)
theorem ist_same {H H' : Hp} (s : Same H H') : Ist H H' := fun t _ _ _ h => s t _ h
theorem ist_lst {H : Hp} {l : Addr} {xs : List V} (h : H l = some (.lst xs)) (o : HO) : Ist H (upd H l o) := fun t _ _ _ z => by
  rw [upd_ne (ne_of z h (by intro e; cases e))]
  exact z
theorem Obs.mono {C0 C1 C2 C3 : Addr} {H H' : Hp} (s : Ist H H') : ∀ {xs : List V} {ps : List Ob}, Obs C0 C1 C2 C3 H xs ps → Obs C0 C1 C2 C3 H' xs ps
  | [], [], _ => trivial
  | [], _ :: _, h => h.elim
  | _ :: _, [], h => h.elim
  | x :: xs, p :: ps, ⟨⟨t, e, dx, h⟩, r⟩ => ⟨⟨t, e, dx, s _ _ _ _ h⟩, Obs.mono s r⟩
theorem Obs.app {C0 C1 C2 C3 : Addr} {H : Hp} : ∀ {xs : List V} {ps : List Ob} {ys : List V} {qs : List Ob}, Obs C0 C1 C2 C3 H xs ps → Obs C0 C1 C2 C3 H ys qs → Obs C0 C1 C2 C3 H (xs ++ ys) (ps ++ qs)
  | [], [], _, _, _, h => h
  | [], _ :: _, _, _, r, _ => r.elim
  | _ :: _, [], _, _, r, _ => r.elim
  | x :: xs, p :: ps, _, _, ⟨z, r⟩, h => ⟨z, Obs.app r h⟩
theorem Obs.get {C0 C1 C2 C3 : Addr} {H : Hp} : ∀ {xs : List V} {ps : List Ob} {i : Nat} {x : V}, Obs C0 C1 C2 C3 H xs ps → xs[i]? = some x → ∃ t p, ps[i]? = some p ∧ x = .ref t ∧ ObAt C0 C1 C2 C3 H t p
  | [], [], _, _, _, e => by simp at e
  | [], _ :: _, _, _, h, _ => h.elim
  | _ :: _, [], _, _, h, _ => h.elim
  | x :: xs, p :: ps, 0, y, ⟨⟨t, e, h⟩, r⟩, q => by
    simp at q
    subst q
    exact ⟨t, p, rfl, e, h⟩
  | x :: xs, p :: ps, i + 1, y, ⟨_, r⟩, q => by
    obtain ⟨t, p', h1, h2⟩ := Obs.get (i := i) r (by simpa using q)
    exact ⟨t, p', by simpa using h1, h2⟩
def spKept (C0 C1 C2 C3 C CD : Addr) : Sp := fun vs H Q _ => ∃ p cl hv d wh wt nm cd wb cs, ∃ hs : List Hw, ∃ obs wl wvs pl ys, vs = [.ref p, .str nm, .ref wl, .ref pl, .bl wb] ∧ CvAt C CD H p cl hv d wh wt nm cd (.bl wb) cs ((hs.map prV).map (·.1)) (hs.map (·.2)) ∧ Obs C0 C1 C2 C3 H cs obs ∧ (∀ o ∈ obs, okB o) ∧ obs.length ≤ 8 ∧
  H wl = some (.lst wvs) ∧ Wds H wvs (obs.map wordsB) ∧ H pl = some (.lst ys) ∧ Prs H ys (hs.map prV) ∧ CR.GW (hs.map (·.2)) ∧ ∀ H', Same H H' → Q (.bl true) H'
section
variable {P : Program} {w : World} {K : PySem.W.Frag} {mg : Str → Option Value} {base : Heap} {C_Own C_CauseIs C_ThingIs C_Over C_Clause C_Deal C_Cover : Addr}
theorem sc__law_kept : FnScope ["_law_cover", "_law_name", "_law_clauses", "_law_pairs", "_law_waits", "_law_weights"] ["_law_cover", "_law_name", "_law_clauses", "_law_pairs", "_law_waits"] (defScope s__law_kept) := ⟨rfl, rfl, rfl, by decide +kernel, rfl, by decide +kernel, by decide +kernel⟩
seal L2.PS L2.PSs L2.PE L2.PA
theorem ok__law_kept {f : Addr} {fd : FuncData} (F : Fun K "_law_kept" "_law_kept" s__law_kept f fd) (T : Txt K mg) (L : Kl K mg C_Own C_CauseIs C_ThingIs C_Over C_Clause C_Deal C_Cover) (Mwords : MFam P w K mg base 2 (FamW C_Own C_CauseIs C_ThingIs C_Over) "words" ["self"] (spWords C_Own C_CauseIs C_ThingIs C_Over)) (Mcounts_to : MCal P w K mg base 1 C_Deal "counts_to" ["self", "n"] (spCounts C_Deal))
    (KDeal : KCal P w K mg base 4 "Deal" C_Deal ["self", "weights"] (spInit C_Deal)) : FnOk P w K mg base CX0 6 f fd ["_law_cover", "_law_name", "_law_clauses", "_law_pairs", "_law_waits"] (spKept C_Own C_CauseIs C_ThingIs C_Over C_Cover C_Deal) := by
  have sc := sc__law_kept
  refine F.ok sc (fun vs H Q E h => ?_) (fun cdv A outer s H vs Q E hr h => ?_)
  · obtain ⟨_, _, _, _, _, _, _, _, _, _, _, _, _, _, _, _, rfl, _⟩ := h
    rfl
  have hu := room_u hr
  have hu64 := room_64 hr
  obtain ⟨p, cl, hv, d, wh, wt, nm, cd, wb, cs, hs, obs, wl, wvs, pl, ys, rfl, CV, ob, okb, l8, hwl, wds, hpl, pr, gw, q⟩ := h
  refine ⟨_, (pss_cons (ps_if (PW.pt (pw_or (pt_not (pt_val (pe_callB call_isinst rfl T.n_isinstance (show bootBuiltins _ = some (.builtin "isinstance") from rfl) (pa_cons (pe_fld (pv 0) rfl) (pa_cons (pe_ty "str" rfl T.n_str rfl) pa_nil))))) (pw_or1 (pt_cmpR op_ne (pe_fld (pv 0) rfl) (pv 1) (nomark _)))))
        (pss_one (ps_ret pe_bl))
        pss_nil)
      (pss_cons (ps_if (PW.pt (pw_or (pt_not (pt_val (pe_callB call_isinst rfl T.n_isinstance (show bootBuiltins _ = some (.builtin "isinstance") from rfl) (pa_cons (pe_fld (pv 0) rfl) (pa_cons (pe_ty "bool" rfl T.n_bool rfl) pa_nil))))) (pw_or1 (pt_cmpR op_ne (pe_fld (pv 0) rfl) (pv 4) (nomark _)))))
        (pss_one (ps_ret pe_bl))
        pss_nil)
      (pss_cons (ps_if (PW.pt (pw_or (pt_not (pt_val (pe_callB call_isinst rfl T.n_isinstance (show bootBuiltins _ = some (.builtin "isinstance") from rfl) (pa_cons (pe_fld (pv 0) rfl) (pa_cons (pe_ty "list" rfl T.n_list rfl) pa_nil))))) (pw_or1 (pt_cmpR (op_neD (K := K) hu64) (pe_comp (NC := ["_law_one"]) (own := ["_law_one"]) (cs := []) (ix := []) rfl (CompScope.of rfl) rfl trivial (pi_list (pe_fld (pv 0) rfl)) (fun _ _ _ => (pg_name (i := 0) (show (["_law_one"] : List Str).Nodup from by decide +kernel) rfl (Or.inl rfl))) (fun _ _ _ => pts_nil) (fun _ _ _ => (pe_meth0D Mwords (hr.mono (by decide)) (pv 0)))) (pv 2) (nomark _)))))
        (pss_one (ps_ret pe_bl))
        pss_nil)
      (pss_cons (ps_if (PW.pt (pw_or (pt_not (pt_val (pe_callB call_isinst rfl T.n_isinstance (show bootBuiltins _ = some (.builtin "isinstance") from rfl) (pa_cons (pe_fld (pv 0) rfl) (pa_cons (pe_ty "list" rfl T.n_list rfl) pa_nil))))) (pw_or1 (pt_cmpR (op_neL hu) (pe_fld (pv 0) rfl) (pe_comp (NC := ["_law_house", "_law_weight"]) (own := ["_law_house", "_law_weight"]) (cs := []) (ix := []) rfl (CompScope.of rfl) rfl trivial (pi_list (pv 3)) (fun _ _ _ => (pg_tupK (K := K) (n := 2) rfl rfl (pgs_cons (pg_name (i := 0) (show (["_law_house", "_law_weight"] : List Str).Nodup from by decide +kernel) rfl (Or.inl rfl)) (pgs_cons (pg_name (i := 1) (show (["_law_house", "_law_weight"] : List Str).Nodup from by decide +kernel) rfl (Or.inl rfl)) pgs_nil)))) (fun _ _ _ => pts_nil) (fun _ _ _ => (pv 0))) (nomark _)))))
        (pss_one (ps_ret pe_bl))
        pss_nil)
      (pss_cons (ps_comp (NC := ["_law_house", "_law_weight"]) (own := ["_law_house", "_law_weight"]) (cs := []) (ix := []) (j := 5) sc.nd rfl rfl rfl (CompScope.of rfl) rfl trivial (pi_list (pv 3)) (fun _ _ _ => (pg_tupK (K := K) (n := 2) rfl rfl (pgs_cons (pg_name (i := 0) (show (["_law_house", "_law_weight"] : List Str).Nodup from by decide +kernel) rfl (Or.inl rfl)) (pgs_cons (pg_name (i := 1) (show (["_law_house", "_law_weight"] : List Str).Nodup from by decide +kernel) rfl (Or.inl rfl)) pgs_nil)))) (fun _ _ _ => pts_nil) (fun _ _ _ => (pv 1)))
      (pss_cons (ps_if (PW.pt (pw_or (pt_not (pt_val (pe_callB call_isinst rfl T.n_isinstance (show bootBuiltins _ = some (.builtin "isinstance") from rfl) (pa_cons (pe_fld (pv 0) rfl) (pa_cons (pe_cls rfl L.mg_Deal) pa_nil))))) (pw_or1 (pt_cmpR (op_neL hu) (pe_methC Mcounts_to (hr.mono (by decide)) (pe_fld (pv 0) rfl) (pa_cons pe_int pa_nil)) (pe_methC Mcounts_to (hr.mono (by decide)) (pe_makeC KDeal (hr.mono (by decide)) rfl (pa_cons (pv 5) pa_nil)) (pa_cons pe_int pa_nil)) (nomark _)))))
        (pss_one (ps_ret pe_bl))
        pss_nil)
      (pss_one (ps_ret (pe_cmpR (op_eqL hu) (pe_fld (pe_fld (pv 0) rfl) rfl) (pv 5) (nomark _)))))))))), ?_⟩
  obtain ⟨⟨dx, fs, e1, fn, fc, fcl, fh, fd', fw, fa⟩, hc, hh, DD⟩ := id CV
  have lo := ob.len
  have lp := pr.len
  rw [List.length_map] at lp
  have lg := gw.hi
  rw [List.length_map] at lg
  -- name, waits
  refine ⟨_, rfl, p, C_Cover, dx, fs, _, rfl, e1, L.cl_Cover, L.na_Cover_name, fn, _, _, _, _, _, rfl, ty_is, .str nm, kit_ss, _, rfl, iteF ⟨_, rfl, p, C_Cover, dx, fs, _, rfl, e1, L.cl_Cover, L.na_Cover_name, fn, _, rfl, rfl, _, rfl, nF rfl ?_⟩⟩
  refine ⟨_, rfl, p, C_Cover, dx, fs, _, rfl, e1, L.cl_Cover, L.na_Cover_waits, fw, _, _, _, _, _, rfl, ty_is, .bl wb, kit_bb, _, rfl, iteF ⟨_, rfl, p, C_Cover, dx, fs, _, rfl, e1, L.cl_Cover, L.na_Cover_waits, fw, _, rfl, rfl, _, rfl, nF rfl ?_⟩⟩
  -- clauses
  refine ⟨_, rfl, p, C_Cover, dx, fs, _, rfl, e1, L.cl_Cover, L.na_Cover_clauses, fcl, _, _, _, _, _, rfl, ty_is, .lst hc, kit_ll, _, rfl, iteF ⟨_, rfl, p, C_Cover, dx, fs, _, rfl, e1, L.cl_Cover, L.na_Cover_clauses, fcl, cl, rfl, ⟨_, SqL.of hc⟩, fun b nb => ?_⟩⟩
  refine comp_list (K := K) (a := cl) (xs := cs) (fun i zs H2 => (Wds H2 zs ((obs.take i).map wordsB) ∧ ∀ z ∈ zs, z ≠ .ref b) ∧ H2 b = some (.lst zs) ∧ Same H H2) ⟨⟨trivial, fun _ z => nomatch z⟩, upd_same, same_new nb _⟩
    (fun i zs H2 _ ⟨⟨e, _⟩, x1, x2⟩ => ⟨x1, by rw [e.len, List.length_map, List.length_take]; omega, SqL.of (x2 _ _ hc)⟩) (by rw [sizeLine_eq]; omega) (fun i x zs H2 hi ⟨⟨e, nz⟩, x1, x2⟩ => ?_) (fun zs H2 ⟨⟨e, nz⟩, x1, x2⟩ => ?_)
  · obtain ⟨t, c, hp', rfl, ht⟩ := ob.get hi
    have ht2 := ht.same x2
    obtain ⟨dt, ht3⟩ := id ht2
    refine ⟨_, rfl, t, _, dt, _, rfl, ht3, famW_of _ _ _ _ c, no_words c, t, c, rfl, ht2, rfl, okb c (List.mem_of_getElem? hp'), fun l H3 s3 nl hl => ⟨s3 _ _ x1, rfl, ⟨?_, fun z hz => ?_⟩, upd_same, fun y o z => ?_⟩⟩
    · rw [take_snoc hp', List.map_append]
      have lb : l ≠ b := (ne_of_none x1 nl).symm
      refine Wds.put ((Wds.same s3 e).app ⟨⟨l, rfl, hl⟩, trivial⟩) fun z hz => ?_
      rcases List.mem_append.mp hz with z1 | z1
      · exact nz z z1
      · rw [List.mem_singleton.mp z1]
        intro c
        exact lb (V.ref.inj c)
    · have lb : l ≠ b := (ne_of_none x1 nl).symm
      rcases List.mem_append.mp hz with z1 | z1
      · exact nz z z1
      · rw [List.mem_singleton.mp z1]
        intro c
        exact lb (V.ref.inj c)
    · rw [upd_ne (ne_of_none z nb)]
      exact s3 _ _ (x2 y o z)
  rw [lo, List.take_length] at e
  have dd := dW_dep (obs.map wordsB)
  refine ⟨_, rfl, false, (obs.map wordsB).map fun l => .seq false (dS l), (obs.map wordsB).map fun l => .seq false (dS l), ?_, ?_, by omega, _, rfl, ?_⟩
  · unfold Rep
    exact ⟨b, zs, rfl, (fun z => by cases z), fun _ => SqL.of x1, e.rep⟩
  · unfold Rep
    exact ⟨wl, wvs, rfl, (fun z => by cases z), fun _ => SqL.of (x2 _ _ hwl), (Wds.same x2 wds).rep⟩
  refine bF ?_ ?_
  · show (!eqDs _ _) = false
    rw [dW_same]
    rfl
  have CV2 := CV.same x2
  have pr2 := pr.mono (tst_same x2)
  have hpl2 := x2 _ _ hpl
  have S2 := x2
  clear e x1 nz dd nb x2
  -- houses
  obtain ⟨⟨dx2, fs2, e2, fn2, fc2, fcl2, fh2, fd2, fw2, fa2⟩, hc2, hh2, DD2⟩ := id CV2
  refine ⟨_, rfl, p, C_Cover, dx2, fs2, _, rfl, e2, L.cl_Cover, L.na_Cover_houses, fh2, _, _, _, _, _, rfl, ty_is, .lst hh2, kit_ll, _, rfl, iteF ⟨_, rfl, p, C_Cover, dx2, fs2, _, rfl, e2, L.cl_Cover, L.na_Cover_houses, fh2, _, rfl, pl, rfl, ⟨_, SqL.of hpl2⟩, fun ph nph => ?_⟩⟩
  refine comp_pairs (K := K) (K' := K) (a := pl) (xs := ys) (fun j zs H3 => zs = ((hs.map prV).take j).map (·.1) ∧ H3 ph = some (.lst zs) ∧ Same H2 H3) ⟨rfl, upd_same, same_new nph _⟩
    (fun j zs H3 _ ⟨e, b1, b2⟩ => ⟨b1, by rw [e, List.length_map, List.length_take]; omega, SqL.of (b2 _ _ hpl2)⟩) (le_line (by omega)) (fun j y zs H3 hj ⟨e, b1, b2⟩ => ?_) (fun zs H3 ⟨e, b1, b2⟩ => ?_)
  · obtain ⟨t, z, hz, rfl, ht⟩ := pr2.get hj
    refine ⟨t, _, _, rfl, SqT.of (b2 _ _ ht), ?_⟩
    show ∃ u, _ ∧ _
    refine ⟨_, rfl, b1, rfl, ?_, upd_same, fun x' o y => ?_⟩
    · rw [take_snoc hz, List.map_append, e]
      rfl
    · rw [upd_ne (ne_of_none y nph)]
      exact b2 x' o y
  have tl : (hs.map prV).take ys.length = hs.map prV := by rw [lp, ← List.length_map (f := prV), List.take_length]
  rw [tl] at e
  subst e
  have fl : ((hs.map prV).map (·.1)).all flatV = true := by rw [hs_1]; exact flat_strs _
  refine ⟨hv, ph, _, _, rfl, rfl, SqL.of (b2 _ _ hh2), SqL.of b1, fl, fl, _, rfl, bF ?_ ?_⟩
  · show (!eqL _ _) = false
    rw [hs_1, eq_strs]
    rfl
  have CV3 := CV2.same b2
  have pr3 := pr2.mono (tst_same b2)
  have hpl3 := b2 _ _ hpl2
  have S3 := S2.trans b2
  clear b1 b2 nph
  -- weights
  refine ⟨_, rfl, pl, rfl, ⟨_, SqL.of hpl3⟩, fun pw npw => ?_⟩
  refine comp_pairs (K := K) (K' := K) (a := pl) (xs := ys) (fun j zs H4 => zs = ((hs.map prV).take j).map (·.2) ∧ H4 pw = some (.lst zs) ∧ Same H3 H4) ⟨rfl, upd_same, same_new npw _⟩
    (fun j zs H4 _ ⟨e, b1, b2⟩ => ⟨b1, by rw [e, List.length_map, List.length_take]; omega, SqL.of (b2 _ _ hpl3)⟩) (le_line (by omega)) (fun j y zs H4 hj ⟨e, b1, b2⟩ => ?_) (fun zs H4 ⟨e, b1, b2⟩ => ?_)
  · obtain ⟨t, z, hz, rfl, ht⟩ := pr3.get hj
    refine ⟨t, _, _, rfl, SqT.of (b2 _ _ ht), ?_⟩
    show ∃ u, _ ∧ _
    refine ⟨_, rfl, b1, rfl, ?_, upd_same, fun x' o y => ?_⟩
    · rw [take_snoc hz, List.map_append, e]
      rfl
    · rw [upd_ne (ne_of_none y npw)]
      exact b2 x' o y
  rw [tl, hs_2] at e
  subst e
  have CV4 := CV3.same b2
  have S4 := S3.trans b2
  -- deal
  obtain ⟨⟨dx4, fs4, e4, fn4, fc4, fcl4, fh4, fd4, fw4, fa4⟩, hc4, hh4, DD4⟩ := id CV4
  obtain ⟨dd4, hd4⟩ := DD4.ob
  refine ⟨_, rfl, p, C_Cover, dx4, fs4, _, rfl, e4, L.cl_Cover, L.na_Cover_deal, fd4, _, _, _, _, _, rfl, ref_is, L.ty_Deal hd4, L.kt_Deal_Deal, _, rfl, iteF ⟨_, rfl, p, C_Cover, dx4, fs4, _, rfl, e4, L.cl_Cover, L.na_Cover_deal, fd4, d, dd4, _, rfl, hd4, no_counts _ _, d, wh, wt, hs.map (·.2), 37, rfl, DD4, gw, fun r1 H5 s5 _ h5 => ?_⟩⟩
  refine ⟨_, rfl, fun d2 dd2 nd ndd nde => ?_⟩
  have h15 := s5 _ _ b1
  have nwd : pw ≠ d2 := ne_of_none h15 nd
  have nwdd : pw ≠ dd2 := ne_of_none h15 ndd
  refine ⟨d2, dd2, pw, hs.map (·.2), rfl, upd_same, by rw [upd_ne nwd, upd_ne nwdd]; exact h15, gw, fun wh2 wt2 H6 kp6 D6 _ _ => ⟨rfl, ?_⟩⟩
  have s6 : Same H5 H6 := made_same nd ndd kp6
  obtain ⟨dq, q1⟩ := D6.ob
  refine ⟨d2, dq, _, rfl, q1, no_counts _ _, d2, wh2, wt2, hs.map (·.2), 37, rfl, D6, gw, fun r2 H7 s7 _ h7 => ?_⟩
  refine ⟨r1, r2, _, _, rfl, rfl, SqL.of (s7 _ _ (s6 _ _ h5)), SqL.of h7, flat_ints _, flat_ints _, _, rfl, bF ?_ ?_⟩
  · show (!eqL _ _) = false
    rw [eq_ints]
    rfl
  have s47 := s5.trans (s6.trans s7)
  obtain ⟨⟨dx7, fs7, e7, fn7, fc7, fcl7, fh7, fd7, fw7, fa7⟩, hc7, hh7, DD7⟩ := CV4.same s47
  obtain ⟨⟨dd7, hd7⟩, _, ht7⟩ := DD7
  refine ⟨_, rfl, p, C_Cover, dx7, fs7, _, rfl, e7, L.cl_Cover, L.na_Cover_deal, fd7, d, C_Deal, dd7, _, _, rfl, hd7, L.cl_Deal, L.na_Deal_weights, fldsD_weights _ _, _, rfl, wt, pw, _, _, rfl, rfl, SqL.of ht7, SqL.of (s47 _ _ b1), flat_ints _, flat_ints _, ?_⟩
  show Q (.bl (eqL _ _)) H7
  rw [eq_ints]
  exact q _ (S4.trans s47)
end
/-! ### a cover asked -/
def spAsk3 (C0 C1 C2 C3 C : Addr) : Sp := fun vs H Q _ => ∃ p dx fs cp c nm, ∃ way cents : Int, vs = [.ref p, .int way, .str nm, .int cents] ∧ H p = some (.ins C dx fs) ∧ fs.lookup ("condition" : Str) = some (.ref cp) ∧ fs.lookup ("asks" : Str) = none ∧ ObAt C0 C1 C2 C3 H cp c ∧
  ((way = 0 ∧ c = .cau nm) ∨ (way = 1 ∧ c = .thi nm) ∨ (way = 2 ∧ c = .ovr cents)) ∧ ∀ H', Same H H' → Q (.bl true) H'
section
variable {P : Program} {w : World} {K : PySem.W.Frag} {mg : Str → Option Value} {base : Heap} {C_Own C_CauseIs C_ThingIs C_Over C_Clause C_Deal C_Cover : Addr}
theorem sc__law_asks : FnScope ["_law_cover", "_law_way", "_law_name", "_law_cents", "_law_cause", "_law_thing", "_law_many", "_law_due", "_law_found"] ["_law_cover", "_law_way", "_law_name", "_law_cents"] (defScope s__law_asks) := ⟨rfl, rfl, rfl, by decide +kernel, rfl, by decide +kernel, by decide +kernel⟩
seal L2.PS L2.PSs L2.PE L2.PA
theorem ok__law_asks {f : Addr} {fd : FuncData} (F : Fun K "_law_asks" "_law_asks" s__law_asks f fd) (T : Txt K mg) (L : Kl K mg C_Own C_CauseIs C_ThingIs C_Over C_Clause C_Deal C_Cover) (Masks : MCal P w K mg base 2 C_Cover "asks" ["self", "loss"] (spAsks C_Own C_CauseIs C_ThingIs C_Over C_Cover)) : FnOk P w K mg base CX0 3 f fd ["_law_cover", "_law_way", "_law_name", "_law_cents"] (spAsk3 C_Own C_CauseIs C_ThingIs C_Over C_Cover) := by
  have sc := sc__law_asks
  refine F.ok sc (fun vs H Q E h => ?_) (fun cdv A outer s H vs Q E hr h => ?_)
  · obtain ⟨_, _, _, _, _, _, _, _, rfl, _⟩ := h
    rfl
  obtain ⟨p, dx, fs, cp, c, nm, way, cents, rfl, hp, lc, la, hc, hw, q⟩ := h
  refine ⟨_, (pss_cons (ps_for PassesOwn.never rfl (pi_list (pe_lst (pa_cons (pe_tup (pa_cons (pv 2) (pa_cons pe_str (pa_cons (pe_op op_add (pv 3) pe_int) pa_nil)))) (pa_cons (pe_tup (pa_cons pe_str (pa_cons (pv 2) (pa_cons (pv 3) pa_nil)))) (pa_cons (pe_tup (pa_cons pe_str (pa_cons pe_str (pa_cons (pe_op op_add (pv 3) pe_int) pa_nil)))) pa_nil))))) (pg_tup (n := 3) rfl (pgs_cons (pg_name (i := 4) sc.nd rfl (Or.inl rfl)) (pgs_cons (pg_name (i := 5) sc.nd rfl (Or.inl rfl)) (pgs_cons (pg_name (i := 6) sc.nd rfl (Or.inl rfl)) pgs_nil))))
        (pss_cons (ps_set (i := 7) sc.nd rfl (Or.inl rfl) (pe_ix ix_list (pe_lst (pa_cons (pe_cmpR op_eq (pv 4) (pv 2) (nomark _)) (pa_cons (pe_cmpR op_eq (pv 5) (pv 2) (nomark _)) (pa_cons (pe_cmpR op_gt (pv 6) (pv 3) (nomark _)) pa_nil)))) (pv 1) (fun _ _ => rfl)))
      (pss_cons (ps_set (i := 8) sc.nd rfl (Or.inl rfl) (pe_methC Masks (hr.mono (by decide)) (pv 0) (pa_cons (pe_tup (pa_cons pe_int (pa_cons pe_int (pa_cons pe_str (pa_cons (pv 5) (pa_cons (pv 4) (pa_cons (pv 6) pa_nil))))))) pa_nil)))
      (pss_one (ps_if (PW.pt (pw_or (pt_not (pt_val (pe_callB call_isinst rfl T.n_isinstance (show bootBuiltins _ = some (.builtin "isinstance") from rfl) (pa_cons (pv 8) (pa_cons (pe_ty "bool" rfl T.n_bool rfl) pa_nil))))) (pw_or1 (pt_cmpR op_ne (pv 8) (pv 7) (nomark _)))))
        (pss_one (ps_ret pe_bl))
        pss_nil)))))
      (pss_one (ps_ret pe_bl))), ?_⟩
  have three : 3 ≤ sizeLine := by rw [sizeLine_eq]; decide
  have six : 6 ≤ sizeLine := by rw [sizeLine_eq]; decide
  have ic : isCo c := by rcases hw with ⟨_, rfl⟩ | ⟨_, rfl⟩ | ⟨_, rfl⟩ <;> trivial
  refine ⟨_, rfl, _, rfl, _, _, rfl, rfl, three, fun t1 n1 => ⟨_, rfl, _, rfl, three, fun t2 n2 => ⟨_, rfl, _, _, rfl, rfl, three, fun t3 n3 => ⟨three, fun l nl => ?_⟩⟩⟩⟩
  have u1 := same_new n1 (.tup [V.str nm, .str "zzz", .int (cents + 1)])
  have u2 := same_new n2 (.tup [V.str "zzz", .str nm, .int cents])
  have u3 := same_new n3 (.tup [V.str "zzz", .str "yyy", .int (cents + 1)])
  have u4 := same_new nl (.lst [V.ref t1, .ref t2, .ref t3])
  have S := u1.trans (u2.trans (u3.trans u4))
  have E1 := u4 _ _ (u3 _ _ (u2 _ _ (upd_same (H := H) (a := t1) (o := .tup [V.str nm, .str "zzz", .int (cents + 1)]))))
  have E2 := u4 _ _ (u3 _ _ (upd_same (H := upd H t1 (.tup [V.str nm, .str "zzz", .int (cents + 1)])) (a := t2) (o := .tup [V.str "zzz", .str nm, .int cents])))
  have E3 := u4 _ _ (upd_same (H := upd (upd H t1 (.tup [V.str nm, .str "zzz", .int (cents + 1)])) t2 (.tup [V.str "zzz", .str nm, .int cents])) (a := t3) (o := .tup [V.str "zzz", .str "yyy", .int (cents + 1)]))
  have E4 : upd (upd (upd (upd H t1 (.tup [V.str nm, .str "zzz", .int (cents + 1)])) t2 (.tup [V.str "zzz", .str nm, .int cents])) t3 (.tup [V.str "zzz", .str "yyy", .int (cents + 1)])) l (.lst [V.ref t1, .ref t2, .ref t3]) l = some (.lst [V.ref t1, .ref t2, .ref t3]) := upd_same
  generalize upd (upd (upd (upd H t1 (.tup [V.str nm, .str "zzz", .int (cents + 1)])) t2 (.tup [V.str "zzz", .str nm, .int cents])) t3 (.tup [V.str "zzz", .str "yyy", .int (cents + 1)])) l (.lst [V.ref t1, .ref t2, .ref t3]) = H4 at S E1 E2 E3 E4
  clear u1 u2 u3 u4 n1 n2 n3 nl
  refine ⟨l, rfl, ⟨_, SqL.of E4⟩, for_list (K := K) (a := l) (xs := [V.ref t1, .ref t2, .ref t3]) (fun i σ H5 => (∃ o4 o5 o6 o7 o8, σ = [some (.ref p), some (.int way), some (.str nm), some (.int cents), o4, o5, o6, o7, o8]) ∧ Same H4 H5) ⟨⟨none, none, none, none, none, rfl⟩, Same.refl _⟩ (fun i σ H5 _ ⟨_, e⟩ => SqL.of (e _ _ E4)) ?_ ?_⟩
  · rintro i x σ H5 hi ⟨⟨o4, o5, o6, o7, o8, rfl⟩, s5⟩
    have pk : ∃ t ca th, ∃ ct : Int, x = .ref t ∧ H5 t = some (.tup [.str ca, .str th, .int ct]) := by
      match i, hi with
      | 0, hi => exact ⟨t1, _, _, _, by simpa using hi.symm, s5 _ _ E1⟩
      | 1, hi => exact ⟨t2, _, _, _, by simpa using hi.symm, s5 _ _ E2⟩
      | 2, hi => exact ⟨t3, _, _, _, by simpa using hi.symm, s5 _ _ E3⟩
    obtain ⟨t, ca, th, ct, rfl, ht⟩ := pk
    refine ⟨t, _, rfl, SqT.of ht, rfl, _, _, rfl, _, _, rfl, _, _, rfl, rfl, ?_⟩
    refine atσ [some (.ref p), some (.int way), some (.str nm), some (.int cents), some (.str ca), some (.str th), some (.int ct), o7, o8] rfl ?_
    refine ⟨_, rfl, _, rfl, rfl, _, rfl, _, rfl, rfl, _, rfl, _, rfl, _, _, rfl, rfl, three, fun l2 nl2 => ?_⟩
    have s6 := same_new nl2 (.lst [V.bl (decide (V.str ca = V.str nm)), .bl (decide (V.str th = V.str nm)), .bl (decide (cents < ct))])
    have e6 : upd H5 l2 (.lst [V.bl (decide (V.str ca = V.str nm)), .bl (decide (V.str th = V.str nm)), .bl (decide (cents < ct))]) l2 = some (.lst [V.bl (decide (V.str ca = V.str nm)), .bl (decide (V.str th = V.str nm)), .bl (decide (cents < ct))]) := upd_same
    have ati : atI [V.bl (decide (V.str ca = V.str nm)), .bl (decide (V.str th = V.str nm)), .bl (decide (cents < ct))] way = some (.bl (holdsB c th ca ct)) := by
      rcases hw with ⟨rfl, rfl⟩ | ⟨rfl, rfl⟩ | ⟨rfl, rfl⟩ <;> rfl
    refine ⟨_, rfl, l2, _, _, _, rfl, rfl, SqL.of e6, ati, ?_⟩
    generalize upd H5 l2 (.lst [V.bl (decide (V.str ca = V.str nm)), .bl (decide (V.str th = V.str nm)), .bl (decide (cents < ct))]) = H6 at s6 e6
    refine atG [some (.ref p), some (.int way), some (.str nm), some (.int cents), some (.str ca), some (.str th), some (.int ct), some (.bl (holdsB c th ca ct)), o8] rfl ?_
    have S6 := S.trans (s5.trans s6)
    have hc6 := hc.same S6
    refine ⟨_, rfl, p, dx, fs, rfl, S6 _ _ hp, la, _, rfl, _, rfl, _, rfl, six, fun tl ntl => ?_⟩
    have s7 := same_new ntl (.tup [V.int 7, .int 100, .str "storm", .str th, .str ca, .int ct])
    refine ⟨p, dx, fs, cp, c, tl, th, ca, ct, rfl, s7 _ _ (S6 _ _ hp), lc, hc6.same s7, ic, ⟨_, _, _, upd_same⟩, ?_⟩
    refine ⟨_, rfl, _, _, _, _, _, rfl, ty_is, .bl _, kit_bb, _, rfl, iteF ⟨_, rfl, _, rfl, rfl, _, rfl, nF rfl ⟨⟨_, _, _, _, _, rfl⟩, s5.trans (s6.trans s7)⟩⟩⟩
  · rintro σ H5 ⟨⟨o4, o5, o6, o7, o8, rfl⟩, s5⟩
    exact q _ (S.trans s5)
end


/-! ### the law -/
theorem int_map_inj : ∀ {l m : List Int}, l.map V.int = m.map V.int → l = m
  | [], [], _ => rfl
  | [], _ :: _, h => by simp at h
  | _ :: _, [], h => by simp at h
  | x :: l, y :: m, h => by
    rw [List.map_cons, List.map_cons] at h
    injection h with h1 h2
    rw [V.int.inj h1, int_map_inj h2]
theorem cov_good {K : PySem.W.Frag} {C CD Cn Cs : Addr} {H : Hp} {p dx : Addr} {nm : Str} {cd cv hv wv : V} {cs : List V} {hs : List Hw} {Q : VK} (hp : H p = some (.ins C dx [])) (gn : goodN (.str nm)) (ln : nm.length ≤ 900) (hc : ClsIn H cv cs) (hh : HssIn H (.str nm) hv (hs.map prV)) (l8 : cs.length ≤ 8) (G : GoodH hs)
    (q : ∀ cl h1 d wh wt H', KB p H H' → CvAt C CD H' p cl h1 d wh wt nm cd wv cs ((hs.map prV).map (·.1)) (hs.map (·.2)) → H cl = none → H h1 = none → H d = none → H wh = none → H wt = none → Q .non H') : spCov K C CD Cn Cs [.ref p, .str nm, cd, cv, hv, wv] H Q E0 := by
  have g8 := G.gw.hi
  rw [List.length_map] at g8
  refine ⟨p, dx, .str nm, _, cd, cv, cs, hv, hs.map prV, wv, rfl, hp, .str nm, (fun y e => by cases e; exact ln), hc, hh, by rw [List.length_map]; omega, tyPr_hs G, fun bad => ?_, fun _ _ _ n => absurd (goodWs_of G) n, fun nm' ws e _ _ _ ew _ cl h1 d wh wt H' k cv f1 f2 f3 f4 f5 => ?_⟩
  · rcases bad with z | z | z
    · exact absurd gn z
    · omega
    · exact absurd (goodHs_of G) z
  · cases e
    rw [hs_2] at ew
    have := int_map_inj ew
    subst this
    exact q cl h1 d wh wt H' k cv f1 f2 f3 f4 f5
/-- two lists may have changed -/
def KB2 (l0 l1 : Addr) (H H' : Hp) : Prop := ∀ b o, H b = some o → b ≠ l0 → b ≠ l1 → H' b = some o
theorem CvAt.kb2 {C CD : Addr} {H H' : Hp} {l0 l1 p cl hv d wh wt : Addr} {nm : Str} {cd wv : V} {cs hs : List V} {ws : List Int} {xs ys : List V} (h : CvAt C CD H p cl hv d wh wt nm cd wv cs hs ws) (k : KB2 l0 l1 H H') (h0 : H l0 = some (.lst xs)) (h1 : H l1 = some (.lst ys))
    (a1 : cl ≠ l0) (a2 : cl ≠ l1) (b1 : hv ≠ l0) (b2 : hv ≠ l1) (c1 : wh ≠ l0) (c2 : wh ≠ l1) (d1 : wt ≠ l0) (d2 : wt ≠ l1) : CvAt C CD H' p cl hv d wh wt nm cd wv cs hs ws := by
  obtain ⟨⟨dx, fs, e, r⟩, g1, g2, ⟨dy, g3⟩, g4, g5⟩ := h
  have ni : ∀ {b l : Addr} {C dx : Addr} {fs : List (Str × V)} {xs : List V}, H b = some (.ins C dx fs) → H l = some (.lst xs) → b ≠ l := fun e1 e2 => ne_of e1 e2 (by intro z; cases z)
  exact ⟨⟨dx, fs, k _ _ e (ni e h0) (ni e h1), r⟩, k _ _ g1 a1 a2, k _ _ g2 b1 b2, ⟨dy, k _ _ g3 (ni g3 h0) (ni g3 h1)⟩, k _ _ g4 c1 c2, k _ _ g5 d1 d2⟩
theorem gw_one : CR.GW [1] := ⟨by decide, by decide, by decide, by decide⟩
theorem goodH_one {nm : Str} (h : nameV (.str nm) = true) (l : nm.length ≤ 900) : GoodH [(nm, 1)] := ⟨gw_one, List.pairwise_singleton _ _, fun h' hh => by rw [List.mem_singleton.mp hh]; exact ⟨h, l⟩⟩
theorem e11 : (10 : Int) ^ (11 : Int).toNat = 100000000000 := by decide +kernel
theorem e12 : (10 : Int) ^ (12 : Int).toNat = 1000000000000 := by decide +kernel
theorem own_okV {C0 C1 C2 C3 : Addr} {H : Hp} : ∀ {xs : List V} {ps : List Ob}, Obs C0 C1 C2 C3 H xs ps → xs.all okV = true
  | [], [], _ => rfl
  | [], _ :: _, h => h.elim
  | _ :: _, [], h => h.elim
  | x :: xs, p :: ps, ⟨⟨t, e, _⟩, r⟩ => by
    rw [List.all_cons, own_okV r, e]
    rfl
theorem prs_okV {H : Hp} : ∀ {xs : List V} {ps : List Pr}, Prs H xs ps → xs.all okV = true
  | [], [], _ => rfl
  | [], _ :: _, h => h.elim
  | _ :: _, [], h => h.elim
  | x :: xs, p :: ps, ⟨⟨t, e, _⟩, r⟩ => by
    rw [List.all_cons, prs_okV r, e]
    rfl
theorem Obs.one {C0 C1 C2 C3 : Addr} {H : Hp} {t : Addr} {c : Ob} (h : ObAt C0 C1 C2 C3 H t c) : Obs C0 C1 C2 C3 H [.ref t] [c] := ⟨⟨t, rfl, h⟩, trivial⟩
/-- how a cover is refused, told as a number -/
def refNo (x : V) (cs : List V) (prs : List Pr) (due : Int) : Prop := (due = 1 ∧ (¬ goodN x ∨ 8 < cs.length ∨ ¬ GoodHs (prs.map (·.1)))) ∨ (due = 2 ∧ goodN x ∧ cs.length ≤ 8 ∧ GoodHs (prs.map (·.1)) ∧ ¬ GoodWs (prs.map (·.2))) ∨ (due = 0 ∧ goodN x ∧ cs.length ≤ 8 ∧ GoodHs (prs.map (·.1)) ∧ GoodWs (prs.map (·.2)))
theorem ref_of {K : PySem.W.Frag} {H : Hp} {Q : VK} {E : XK} {x cv : V} {T : String} {cs ys : List V} {h0 : Addr} {prs : List Pr} {due : Int} (rn : refNo x cs prs due) (ty : TyOf K H x (.type T)) (okx : okX x) (hc : ClsIn H cv cs) (hh : H h0 = some (.lst ys)) (pp : Prs H ys prs) (l9 : prs.length ≤ 900) (typ : TyPr K H prs)
    (k : ∀ H', Same H H' → Q (.int due) H') : spRef K [x, cv, .ref h0] H Q E := by
  refine ⟨x, T, cv, cs, h0, ys, prs, rfl, ty, okx, hc, hh, pp, l9, typ, ?_⟩
  rcases rn with ⟨rfl, h⟩ | ⟨rfl, h⟩ | ⟨rfl, h⟩
  · exact .inl ⟨h, k⟩
  · exact .inr (.inl ⟨h, k⟩)
  · exact .inr (.inr ⟨h, k⟩)
def spLaw (K : PySem.W.Frag) : Sp := fun vs H Q _ => ∃ (a : Addr) (ns : List Int), vs = [.ref a] ∧ SqL K H a (ns.map V.int) ∧ ns.length ≤ 63 ∧ ∀ H', Q (.bl true) H'
section
variable {P : Program} {w : World} {K : PySem.W.Frag} {mg : Str → Option Value} {base : Heap} {C_Own C_CauseIs C_ThingIs C_Over C_Clause C_Deal C_Cover : Addr} {C_CoverError C_NoShares C_NoEntry C_NoClause C_NoCover C_NoBook : Addr}
theorem sc_law : FnScope ["_law_script", "_law_head", "_law_names_here", "_law_name", "_law_cents", "_law_pairs", "_law_amounts", "_law_clauses", "_law_words", "_law_condition", "_law_waits", "_law_handed", "_law_cover", "_law_plain", "_law_k", "_law_cell_here", "_law_bad", "_law_due", "_law_odd", "_law_nine"] ["_law_script"] (defScope s_law) := ⟨rfl, rfl, rfl, by decide +kernel, rfl, by decide +kernel, by decide +kernel⟩
seal L2.PS L2.PSs L2.PE L2.PA CRL.spRef
theorem ok_law {f : Addr} {fd : FuncData} (F : Fun K "law" "law" s_law f fd) (T : Txt K mg) (L : Kl K mg C_Own C_CauseIs C_ThingIs C_Over C_Clause C_Deal C_Cover) (C_law_cell : Cal P w K mg base 1 "_law_cell" ["_law_script", "_law_k"] (spCell K)) (C_law_names : Cal P w K mg base 1 "_law_names" ["_law_cell_here"] spNames)
    (C_law_houses : Cal P w K mg base 2 "_law_houses" ["_law_script", "_law_names_here"] (spHs K)) (C_law_refused : Cal P w K mg base 8 "_law_refused" ["_law_name", "_law_clauses", "_law_pairs"] (spRef K)) (C_law_bad_pairs : Cal P w K mg base 1 "_law_bad_pairs" ["_law_pairs", "_law_way", "_law_cell_here"] (spBad K))
    (C_law_kept : Cal P w K mg base 6 "_law_kept" ["_law_cover", "_law_name", "_law_clauses", "_law_pairs", "_law_waits"] (spKept C_Own C_CauseIs C_ThingIs C_Over C_Cover C_Deal)) (C_law_asks : Cal P w K mg base 3 "_law_asks" ["_law_cover", "_law_way", "_law_name", "_law_cents"] (spAsk3 C_Own C_CauseIs C_ThingIs C_Over C_Cover))
    (KOwn : KCal P w K mg base 4 "Own" C_Own ["self", "by", "cents"] (spOwn C_Own C_CauseIs C_ThingIs C_Over)) (KCauseIs : KCal P w K mg base 1 "CauseIs" C_CauseIs ["self", "name"] (spMkN C_Own C_CauseIs C_ThingIs C_Over C_CauseIs .cau)) (KThingIs : KCal P w K mg base 1 "ThingIs" C_ThingIs ["self", "name"] (spMkN C_Own C_CauseIs C_ThingIs C_Over C_ThingIs .thi)) (KOver : KCal P w K mg base 1 "Over" C_Over ["self", "cents"] (spMkO C_Own C_CauseIs C_ThingIs C_Over))
    (Mwords : MFam P w K mg base 2 (FamW C_Own C_CauseIs C_ThingIs C_Over) "words" ["self"] (spWords C_Own C_CauseIs C_ThingIs C_Over))
    (KCover : KCal P w K mg base 6 "Cover" C_Cover ["self", "name", "condition", "clauses", "houses", "waits"] (fun vs H Q _ => spCov K C_Cover C_Deal C_NoCover C_NoShares vs H Q E0))
    (KCoverD : KCalD P w K mg base 6 "Cover" C_Cover ["self", "name", "condition", "clauses", "houses", "waits"] [.non, .non, .bl false] (fun vs H Q _ => spCov K C_Cover C_Deal C_NoCover C_NoShares vs H Q E0)) : FnOk P w K mg base CX0 9 f fd ["_law_script"] (spLaw K) := by
  have sc := sc_law
  refine F.ok sc (fun vs H Q E h => ?_) (fun cdv A outer s H vs Q E hr h => ?_)
  · obtain ⟨_, _, rfl, _⟩ := h
    rfl
  have hu := room_u hr
  have hu64 := room_64 hr
  obtain ⟨a, ns, rfl, ha, h63, q⟩ := h
  refine ⟨_, (pss_cons (ps_set (i := 1) sc.nd rfl (Or.inr rfl) (pe_op op_mod (pe_callC C_law_cell (hr.mono (by decide)) rfl (pa_cons (pv 0) (pa_cons pe_int pa_nil))) (pe_op op_pow pe_int pe_int)))
      (pss_cons (ps_set (i := 2) sc.nd rfl (Or.inl rfl) (pe_callC C_law_names (hr.mono (by decide)) rfl (pa_cons (pe_op op_mod (pe_callC C_law_cell (hr.mono (by decide)) rfl (pa_cons (pv 0) (pa_cons pe_int pa_nil))) pe_int) pa_nil)))
      (pss_cons (ps_set (i := 3) sc.nd rfl (Or.inl rfl) (pe_ix ix_list (pv 2) pe_int (fun _ _ => rfl)))
      (pss_cons (ps_set (i := 4) sc.nd rfl (Or.inr rfl) (pe_op op_add pe_int (pe_op op_mod (pe_callC C_law_cell (hr.mono (by decide)) rfl (pa_cons (pv 0) (pa_cons pe_int pa_nil))) (pe_op op_pow pe_int pe_int))))
      (pss_cons (ps_set (i := 5) sc.nd rfl (Or.inl rfl) (pe_callC C_law_houses (hr.mono (by decide)) rfl (pa_cons (pv 0) (pa_cons (pv 2) pa_nil))))
      (pss_cons (ps_comp (NC := ["_law_k", "_law_cents", "_law_head"]) (own := ["_law_k"]) (cs := ["_law_cents", "_law_head"]) (ix := [4, 1]) (j := 6) sc.nd rfl rfl rfl (CompScope.of rfl) rfl ⟨⟨rfl, .inl rfl, rfl⟩, ⟨⟨rfl, .inl rfl, rfl⟩, trivial⟩⟩ (pi_range1 rfl T.n_range (pa_cons (pe_op op_mod (pv 1) pe_int) pa_nil)) (fun _ _ _ => (pg_name (i := 0) (show (["_law_k", "_law_cents", "_law_head"] : List Str).Nodup from by decide +kernel) rfl (Or.inl rfl))) (fun _ _ _ => pts_nil) (fun _ _ _ => (pe_op op_mod (pe_op op_add (pv 1) (pe_op op_mul (pv 0) (pv 2))) (pe_op op_pow pe_int pe_int))))
      (pss_cons (ps_comp (NC := ["_law_one"]) (own := ["_law_one"]) (cs := []) (ix := []) (j := 7) sc.nd rfl rfl rfl (CompScope.of rfl) rfl trivial (pi_list (pv 6)) (fun _ _ _ => (pg_name (i := 0) (show (["_law_one"] : List Str).Nodup from by decide +kernel) rfl (Or.inl rfl))) (fun _ _ _ => pts_nil) (fun _ _ _ => (pe_makeC KOwn (hr.mono (by decide)) rfl (pa_cons pe_str (pa_cons (pv 0) pa_nil)))))
      (pss_cons (ps_comp (NC := ["_law_one"]) (own := ["_law_one"]) (cs := []) (ix := []) (j := 8) sc.nd rfl rfl rfl (CompScope.of rfl) rfl trivial (pi_list (pv 7)) (fun _ _ _ => (pg_name (i := 0) (show (["_law_one"] : List Str).Nodup from by decide +kernel) rfl (Or.inl rfl))) (fun _ _ _ => pts_nil) (fun _ _ _ => (pe_meth0D Mwords (hr.mono (by decide)) (pv 0))))
      (pss_cons (ps_set (i := 9) sc.nd rfl (Or.inl rfl) (pe_ix ix_list (pe_lst (pa_cons (pe_makeC KCauseIs (hr.mono (by decide)) rfl (pa_cons (pv 3) pa_nil)) (pa_cons (pe_makeC KThingIs (hr.mono (by decide)) rfl (pa_cons (pv 3) pa_nil)) (pa_cons (pe_makeC KOver (hr.mono (by decide)) rfl (pa_cons (pv 4) pa_nil)) pa_nil)))) (pe_op op_mod (pe_op op_fdiv (pv 1) pe_int) pe_int) (fun _ _ => rfl)))
      (pss_cons (ps_set (i := 10) sc.nd rfl (Or.inl rfl) (pe_cmpR op_eq (pe_op op_mod (pe_op op_fdiv (pv 1) pe_int) pe_int) pe_int (nomark _)))
      (pss_cons (ps_set (i := 11) sc.nd rfl (Or.inl rfl) (pe_lst (pa_cons (pe_callTy call_list_of rfl T.n_list (show bootBuiltins _ = some (.type "list") from rfl) (pa_cons (pv 7) pa_nil)) (pa_cons (pe_callTy call_list_of rfl T.n_list (show bootBuiltins _ = some (.type "list") from rfl) (pa_cons (pv 5) pa_nil)) pa_nil))))
      (pss_cons (ps_set (i := 12) sc.nd rfl (Or.inl rfl) (pe_makeC KCover (hr.mono (by decide)) rfl (pa_cons (pv 3) (pa_cons (pv 9) (pa_cons (pe_ix ix_list (pv 11) pe_int (fun _ _ => rfl)) (pa_cons (pe_ix ix_list (pv 11) pe_int (fun _ _ => rfl)) (pa_cons (pv 10) pa_nil)))))))
      (pss_cons (ps_set (i := 13) sc.nd rfl (Or.inl rfl) (pe_makeD KCoverD (hr.mono (by decide)) rfl (pa_cons (pv 3) (pa_cons (pv 9) pa_nil))))
      (pss_cons (ps_if (pt_cmpR (op_neSS (K := K) hu64) (pv 11) (pe_lst (pa_cons (pv 7) (pa_cons (pv 5) pa_nil))) (nomark _))
        (pss_one (ps_ret pe_bl))
        pss_nil)
      (pss_cons (ps_expr (pe_bm PySem.F.plainAttrs_list PySem.F.slot_list_append PySem.F.type_list_append mt_append (pe_ix ix_list (pv 11) pe_int (fun _ _ => rfl)) (pa_cons (pe_makeC KOwn (hr.mono (by decide)) rfl (pa_cons pe_str (pa_cons pe_int pa_nil))) pa_nil)))
      (pss_cons (ps_expr (pe_bm PySem.F.plainAttrs_list PySem.F.slot_list_append PySem.F.type_list_append mt_append (pe_ix ix_list (pv 11) pe_int (fun _ _ => rfl)) (pa_cons (pe_tup (pa_cons pe_str (pa_cons pe_int pa_nil))) pa_nil)))
      (pss_cons (ps_if (PW.pt (pw_or (pt_not (pt_val (pe_callC C_law_kept (hr.mono (by decide)) rfl (pa_cons (pv 12) (pa_cons (pv 3) (pa_cons (pv 8) (pa_cons (pv 5) (pa_cons (pv 10) pa_nil)))))))) (pw_or1 (pt_not (pt_val (pe_callC C_law_kept (hr.mono (by decide)) rfl (pa_cons (pv 13) (pa_cons (pv 3) (pa_cons (pe_lst pa_nil) (pa_cons (pe_lst (pa_cons (pe_tup (pa_cons (pv 3) (pa_cons pe_int pa_nil))) pa_nil)) (pa_cons pe_bl pa_nil)))))))))))
        (pss_one (ps_ret pe_bl))
        pss_nil)
      (pss_cons (ps_if (PW.pt (pw_or (pt_cmpR (op_neL hu) (pe_meth0D Mwords (hr.mono (by decide)) (pe_fld (pv 12) rfl)) (pe_meth0D Mwords (hr.mono (by decide)) (pv 9)) (nomark _)) (pw_or1 (pt_cmpR (op_neL hu) (pe_meth0D Mwords (hr.mono (by decide)) (pe_fld (pv 13) rfl)) (pe_meth0D Mwords (hr.mono (by decide)) (pv 9)) (nomark _)))))
        (pss_one (ps_ret pe_bl))
        pss_nil)
      (pss_cons (ps_if (PW.pt (pw_or (pt_not (pt_val (pe_callC C_law_asks (hr.mono (by decide)) rfl (pa_cons (pv 12) (pa_cons (pe_op op_mod (pe_op op_fdiv (pv 1) pe_int) pe_int) (pa_cons (pv 3) (pa_cons (pv 4) pa_nil))))))) (pw_or1 (pt_not (pt_val (pe_callC C_law_asks (hr.mono (by decide)) rfl (pa_cons (pv 13) (pa_cons (pe_op op_mod (pe_op op_fdiv (pv 1) pe_int) pe_int) (pa_cons (pv 3) (pa_cons (pv 4) pa_nil))))))))))
        (pss_one (ps_ret pe_bl))
        pss_nil)
      (pss_cons (ps_for PassesOwn.never rfl (pi_range1 rfl T.n_range (pa_cons pe_int pa_nil)) (pg_name (i := 14) sc.nd rfl (Or.inl rfl))
        (pss_cons (ps_set (i := 15) sc.nd rfl (Or.inl rfl) (pe_op op_mod (pe_callC C_law_cell (hr.mono (by decide)) rfl (pa_cons (pv 0) (pa_cons (pe_op op_add pe_int (pv 14)) pa_nil))) (pe_op op_pow pe_int pe_int)))
      (pss_cons (ps_set (i := 16) sc.nd rfl (Or.inl rfl) (pe_callC C_law_bad_pairs (hr.mono (by decide)) rfl (pa_cons (pv 5) (pa_cons (pv 14) (pa_cons (pv 15) pa_nil)))))
      (pss_cons (ps_set (i := 17) sc.nd rfl (Or.inl rfl) (pe_ix ix_list (pe_lst (pa_cons pe_int (pa_cons pe_int (pa_cons pe_int (pa_cons pe_int (pa_cons pe_int (pa_cons pe_int pa_nil))))))) (pv 14) (fun _ _ => rfl)))
      (pss_cons (ps_if (PW.pt (pw_or (pt_cmpR op_ne (pe_callC C_law_refused (hr.mono (by decide)) rfl (pa_cons (pv 3) (pa_cons (pv 7) (pa_cons (pv 16) pa_nil)))) (pv 17) (nomark _)) (pw_or1 (pt_cmpR op_ne (pe_callC C_law_refused (hr.mono (by decide)) rfl (pa_cons (pv 3) (pa_cons pe_non (pa_cons (pv 16) pa_nil)))) (pv 17) (nomark _)))))
        (pss_one (ps_ret pe_bl))
        pss_nil)
      (pss_cons (ps_set (i := 18) sc.nd rfl (Or.inl rfl) (pe_ix ix_list (pe_lst (pa_cons pe_str (pa_cons pe_str (pa_cons pe_str (pa_cons pe_str (pa_cons pe_str (pa_cons pe_int (pa_cons pe_non (pa_cons pe_bl (pa_cons pe_str (pa_cons (pe_lst (pa_cons pe_str pa_nil)) pa_nil))))))))))) (pe_op op_mod (pv 15) pe_int) (fun _ _ => rfl)))
      (pss_cons (ps_set (i := 19) sc.nd rfl (Or.inl rfl) (pe_op op_cat (pv 7) (pe_op op_rep (pe_lst (pa_cons (pe_makeC KOwn (hr.mono (by decide)) rfl (pa_cons pe_str (pa_cons pe_int pa_nil))) pa_nil)) (pe_op op_sub pe_int (pe_callB call_len_seq rfl T.n_len (show bootBuiltins _ = some (.builtin "len") from rfl) (pa_cons (pv 7) pa_nil))))))
      (pss_cons (ps_if (PW.pt (pw_or (pt_cmpR op_ne (pe_callC C_law_refused (hr.mono (by decide)) rfl (pa_cons (pv 18) (pa_cons (pv 7) (pa_cons (pv 5) pa_nil)))) pe_int (nomark _)) (pw_or1 (pt_cmpR op_ne (pe_callC C_law_refused (hr.mono (by decide)) rfl (pa_cons (pv 18) (pa_cons pe_non (pa_cons (pv 16) pa_nil)))) pe_int (nomark _)))))
        (pss_one (ps_ret pe_bl))
        pss_nil)
      (pss_one (ps_if (PW.pt (pw_or (pt_cmpR op_ne (pe_callC C_law_refused (hr.mono (by decide)) rfl (pa_cons (pv 3) (pa_cons (pv 19) (pa_cons (pv 5) pa_nil)))) pe_int (nomark _)) (pw_or1 (pt_cmpR op_ne (pe_callC C_law_refused (hr.mono (by decide)) rfl (pa_cons (pv 3) (pa_cons (pv 19) (pa_cons (pv 16) pa_nil)))) pe_int (nomark _)))))
        (pss_one (ps_ret pe_bl))
        pss_nil))))))))))
      (pss_one (ps_ret (pe_cmpR op_eq (pe_callC C_law_refused (hr.mono (by decide)) rfl (pa_cons (pv 3) (pa_cons (pv 7) (pa_cons (pv 5) pa_nil)))) pe_int (nomark _)))))))))))))))))))))))), ?_⟩
  have one : 1 ≤ sizeLine := by rw [sizeLine_eq]; decide
  have two : 2 ≤ sizeLine := by rw [sizeLine_eq]; decide
  have three : 3 ≤ sizeLine := by rw [sizeLine_eq]; decide
  -- head, names, name, cents
  refine ⟨_, rfl, a, ns, 0, rfl, ha, by decide, h63, _, _, rfl, rfl, ⟨by decide, by decide, by decide⟩, _, _, rfl, rfl, (by show (0 : Int) < (10 : Int) ^ (9 : Int).toNat; rw [e9]; decide), ?_⟩
  refine hideI 0 ((10 : Int) ^ (9 : Int).toNat - 1) (md (by rw [e9]; decide)) fun head hd0 hd1 => ?_
  refine ⟨_, rfl, a, ns, 1, rfl, ha, by decide, h63, _, _, rfl, rfl, (by show (0 : Int) < 1000003; decide), _, rfl, Int.emod_nonneg _ (by decide), fun b nms H1 s1 nb hb N => ?_⟩
  obtain ⟨nm, hnm⟩ : ∃ z, nms[0]? = some z := ⟨_, List.getElem?_eq_getElem (by rw [N.len]; decide)⟩
  have at0' : (nms.map V.str)[0]? = some (.str nm) := by rw [List.getElem?_map, hnm]; rfl
  have at0 : atI (nms.map V.str) 0 = some (.str nm) := atI_nat at0'
  obtain ⟨nok, nlen, nself⟩ := N.ok nm (List.mem_of_getElem? hnm)
  have gn : goodN (.str nm) := ⟨nok, fun z => nself (V.str.inj z)⟩
  refine ⟨_, rfl, b, _, _, _, rfl, rfl, SqL.of hb, at0, ?_⟩
  refine ⟨_, rfl, a, ns, 2, rfl, s1.seq ha, by decide, h63, _, _, rfl, rfl, ⟨by decide, by decide, by decide⟩, _, _, rfl, rfl, (by show (0 : Int) < (10 : Int) ^ (11 : Int).toNat; rw [e11]; decide), _, _, rfl, rfl, ?_⟩
  have b2 := md (a := ns.getD (2 : Int).toNat 0) (b := (10 : Int) ^ (11 : Int).toNat) (by rw [e11]; decide)
  refine hideI 1 100000000000 ⟨by show 1 ≤ 1 + _ % (10 : Int) ^ (11 : Int).toNat; omega, by have := b2.2; rw [e11] at this; show 1 + _ % (10 : Int) ^ (11 : Int).toNat ≤ _; rw [e11]; omega⟩ fun cents ce0 ce1 => ?_
  -- pairs
  refine ⟨_, rfl, _, rfl, a, ns, b, nms, rfl, s1.seq ha, h63, hb, N, fun r xs hs H2 s2 nr hr2 pr G => ?_⟩
  refine atG [some (.ref a), some (.int head), some (.ref b), some (.str nm), some (.int cents), some (.ref r), none, none, none, none, none, none, none, none, none, none, none, none, none, none] rfl ?_
  have S2 := s1.trans s2
  clear hb at0 at0' b2 hnm
  -- amounts
  have m0 : 0 ≤ head % 9 := Int.emod_nonneg _ (by decide)
  have m9 : head % 9 < 9 := Int.emod_lt_of_pos _ (by decide)
  refine ⟨_, rfl, _, _, rfl, rfl, (by show (0 : Int) < 9; decide), _, rfl, by omega, by omega, fun am nam => ?_⟩
  refine comp_range (lo := 0) (n := (head % 9).toNat) (fun i ys H3 => (∃ ms : List Int, ys = ms.map V.int ∧ ms.length = i ∧ ∀ m ∈ ms, amt m) ∧ H3 am = some (.lst ys) ∧ Same H2 H3) ⟨⟨[], rfl, rfl, fun _ z => nomatch z⟩, upd_same, same_new nam _⟩
    (fun i ys H3 _ ⟨⟨ms, e, l, _⟩, h1, _⟩ => ⟨h1, by rw [e, List.length_map, l]; exact Nat.le_refl _⟩) (by rw [sizeLine_eq]; omega) (fun i ys H3 hi ⟨⟨ms, e, l, ok⟩, h1, s3⟩ => ?_) (fun ys H3 ⟨⟨ms, e, l, ok⟩, h1, s3⟩ => ?_)
  · refine ⟨_, rfl, _, rfl, _, rfl, _, _, rfl, rfl, .inl ⟨by omega, by omega⟩, _, _, rfl, rfl, _, _, rfl, rfl, ⟨by decide, by decide, by decide⟩, _, _, rfl, rfl, (by show (0 : Int) < (10 : Int) ^ (11 : Int).toNat; rw [e11]; decide), h1, rfl, ⟨ms ++ [(cents + (0 + (i : Int)) * head) % (10 : Int) ^ (11 : Int).toNat], ?_, by rw [List.length_append, l]; rfl, fun m hm => ?_⟩, upd_same, fun x o z => ?_⟩
    · rw [List.map_append, e]
      rfl
    · rcases List.mem_append.mp hm with z | z
      · exact ok m z
      · rw [List.mem_singleton.mp z]
        have b := md (a := cents + (0 + (i : Int)) * head) (b := (10 : Int) ^ (11 : Int).toNat) (by rw [e11]; decide)
        refine ⟨b.1, ?_⟩
        have := b.2
        rw [e11] at this ⊢
        omega
    · rw [upd_ne (ne_of_none z nam)]
      exact s3 x o z
  subst e
  have lm : ms.length ≤ 8 := by omega
  have S3 := S2.trans s3
  have pr3 := pr.mono (tst_same s3)
  have hr3 := s3 _ _ hr2
  clear nam
  -- clauses
  refine ⟨_, rfl, am, rfl, ⟨_, SqL.of h1⟩, fun cl ncl => ?_⟩
  refine comp_list (K := K) (a := am) (xs := ms.map V.int) (fun i ys H4 => Obs C_Own C_CauseIs C_ThingIs C_Over H4 ys ((ms.take i).map (Ob.own "year")) ∧ H4 cl = some (.lst ys) ∧ Same H3 H4) ⟨trivial, upd_same, same_new ncl _⟩
    (fun i ys H4 _ ⟨e, x1, x2⟩ => ⟨x1, by rw [e.len, List.length_map, List.length_take]; omega, SqL.of (x2 _ _ h1)⟩) (by rw [List.length_map, sizeLine_eq]; omega) (fun i x ys H4 hi ⟨e, x1, x2⟩ => ?_) (fun cs H4 ⟨ob, x1, x2⟩ => ?_)
  · obtain ⟨m, hm, rfl⟩ := item_int hi
    refine ⟨_, rfl, fun ox dx nx ndx nex => ⟨ox, dx, "year", m, rfl, upd_same, .inr (.inr (.inl rfl)), ok m (List.mem_of_getElem? hm), fun H5 kp D => ⟨rfl, ?_⟩⟩⟩
    have s5 : Same H4 H5 := made_same nx ndx kp
    refine ⟨s5 _ _ x1, rfl, ?_, upd_same, fun x o z => ?_⟩
    · rw [take_snoc hm, List.map_append]
      exact ((e.mono (ist_same s5)).app (Obs.one D)).mono (ist_lst (s5 _ _ x1) _)
    · rw [upd_ne (ne_of_none z ncl)]
      exact s5 _ _ (x2 x o z)
  rw [List.length_map, List.take_length] at ob
  have okb : ∀ o ∈ ms.map (Ob.own "year"), okB o := fun o ho => by
    obtain ⟨m, hm, rfl⟩ := List.mem_map.mp ho
    exact ok m hm
  have lob : (ms.map (Ob.own "year")).length ≤ 8 := by rw [List.length_map]; exact lm
  generalize ms.map (Ob.own "year") = obs at ob okb lob
  have lcs : cs.length ≤ 8 := by rw [ob.len]; exact lob
  have S4 := S3.trans x2
  have pr4 := pr3.mono (tst_same x2)
  have hr4 := x2 _ _ hr3
  clear ncl h1 hr3 pr3 s3 hr2 pr
  -- words
  refine ⟨_, rfl, cl, rfl, ⟨_, SqL.of x1⟩, fun wl nwl => ?_⟩
  refine comp_list (K := K) (a := cl) (xs := cs) (fun i zs H5 => (Wds H5 zs ((obs.take i).map wordsB) ∧ ∀ z ∈ zs, z ≠ .ref wl) ∧ H5 wl = some (.lst zs) ∧ Same H4 H5) ⟨⟨trivial, fun _ z => nomatch z⟩, upd_same, same_new nwl _⟩
    (fun i zs H5 _ ⟨⟨e, _⟩, y1, y2⟩ => ⟨y1, by rw [e.len, List.length_map, List.length_take]; omega, SqL.of (y2 _ _ x1)⟩) (by rw [sizeLine_eq]; omega) (fun i x zs H5 hi ⟨⟨e, nz⟩, y1, y2⟩ => ?_) (fun wvs H5 ⟨⟨wds, nz⟩, y1, y2⟩ => ?_)
  · obtain ⟨t, c, hp', rfl, ht⟩ := ob.get hi
    have ht2 := ht.same y2
    obtain ⟨dt, ht3⟩ := id ht2
    refine ⟨_, rfl, t, _, dt, _, rfl, ht3, famW_of _ _ _ _ c, no_words c, t, c, rfl, ht2, rfl, okb c (List.mem_of_getElem? hp'), fun l H6 s6 nl hl => ⟨s6 _ _ y1, rfl, ⟨?_, fun z hz => ?_⟩, upd_same, fun y o z => ?_⟩⟩
    · rw [take_snoc hp', List.map_append]
      have lb : l ≠ wl := (ne_of_none y1 nl).symm
      refine Wds.put ((Wds.same s6 e).app ⟨⟨l, rfl, hl⟩, trivial⟩) fun z hz => ?_
      rcases List.mem_append.mp hz with z1 | z1
      · exact nz z z1
      · rw [List.mem_singleton.mp z1]
        intro c
        exact lb (V.ref.inj c)
    · have lb : l ≠ wl := (ne_of_none y1 nl).symm
      rcases List.mem_append.mp hz with z1 | z1
      · exact nz z z1
      · rw [List.mem_singleton.mp z1]
        intro c
        exact lb (V.ref.inj c)
    · rw [upd_ne (ne_of_none z nwl)]
      exact s6 _ _ (y2 y o z)
  rw [ob.len, List.take_length] at wds
  have S5 := S4.trans y2
  have pr5 := pr4.mono (tst_same y2)
  have hr5 := y2 _ _ hr4
  have ob5 := ob.mono (ist_same y2)
  have hcl5 := y2 _ _ x1
  clear nwl nz hr4 pr4 ob x1 x2
  refine atG [some (.ref a), some (.int head), some (.ref b), some (.str nm), some (.int cents), some (.ref r), some (.ref am), some (.ref cl), some (.ref wl), none, none, none, none, none, none, none, none, none, none, none] rfl ?_
  -- condition
  refine ⟨_, rfl, fun o1 dx1 no1 nd1 ne1 => ⟨o1, dx1, nm, rfl, upd_same, fun H6 kp6 D1 => ⟨rfl, ?_⟩⟩⟩
  have u6 : Same H5 H6 := made_same no1 nd1 kp6
  refine ⟨_, rfl, fun o2 dx2 no2 nd2 ne2 => ⟨o2, dx2, nm, rfl, upd_same, fun H7 kp7 D2 => ⟨rfl, ?_⟩⟩⟩
  have u7 : Same H6 H7 := made_same no2 nd2 kp7
  refine ⟨_, rfl, fun o3 dx3 no3 nd3 ne3 => ⟨o3, dx3, cents, rfl, upd_same, fun H8 kp8 D3 => ⟨rfl, three, fun lc nlc => ?_⟩⟩⟩
  have u8 : Same H7 H8 := made_same no3 nd3 kp8
  have u9 := same_new nlc (.lst [V.ref o1, .ref o2, .ref o3])
  have w0 : 0 ≤ head / 9 % 3 := Int.emod_nonneg _ (by decide)
  have w3 : head / 9 % 3 < 3 := Int.emod_lt_of_pos _ (by decide)
  have pk : ∃ cp c, atI [V.ref o1, .ref o2, .ref o3] (head / 9 % 3) = some (.ref cp) ∧ ObAt C_Own C_CauseIs C_ThingIs C_Over (upd H8 lc (.lst [V.ref o1, .ref o2, .ref o3])) cp c ∧ okB c ∧ ((head / 9 % 3 = 0 ∧ c = .cau nm) ∨ (head / 9 % 3 = 1 ∧ c = .thi nm) ∨ (head / 9 % 3 = 2 ∧ c = .ovr cents)) := by
    have z : head / 9 % 3 = 0 ∨ head / 9 % 3 = 1 ∨ head / 9 % 3 = 2 := by omega
    rcases z with z | z | z
    · rw [z]; exact ⟨o1, _, rfl, ((D1.same u7).same u8).same u9, trivial, .inl ⟨rfl, rfl⟩⟩
    · rw [z]; exact ⟨o2, _, rfl, (D2.same u8).same u9, trivial, .inr (.inl ⟨rfl, rfl⟩)⟩
    · rw [z]; exact ⟨o3, _, rfl, D3.same u9, ⟨by omega, by omega⟩, .inr (.inr ⟨rfl, rfl⟩)⟩
  obtain ⟨cp, c, atc, hco, okc, hway⟩ := pk
  refine ⟨_, rfl, _, _, rfl, rfl, ⟨by decide, by decide⟩, _, _, rfl, rfl, (by show (0 : Int) < 3; decide), lc, _, _, _, rfl, rfl, SqL.of upd_same, atc, ?_⟩
  have u59 := u6.trans (u7.trans (u8.trans u9))
  have S9 := S5.trans u59
  have pr9 := pr5.mono (tst_same u59)
  have hr9 := u59 _ _ hr5
  have ob9 := ob5.mono (ist_same u59)
  have hcl9 := u59 _ _ hcl5
  have wds9 := wds.same u59
  have hwl9 := u59 _ _ y1
  generalize upd H8 lc (.lst [V.ref o1, .ref o2, .ref o3]) = H9 at hco u59 S9 pr9 hr9 ob9 hcl9 wds9 hwl9
  clear u9 D1 D2 D3 u6 u7 u8 hr5 pr5 ob5 hcl5 wds y1 no1 nd1 ne1 kp6 no2 nd2 ne2 kp7 no3 nd3 ne3 kp8 nlc atc
  refine atG [some (.ref a), some (.int head), some (.ref b), some (.str nm), some (.int cents), some (.ref r), some (.ref am), some (.ref cl), some (.ref wl), some (.ref cp), none, none, none, none, none, none, none, none, none, none] rfl ?_
  -- waits
  refine ⟨_, rfl, _, _, rfl, rfl, ⟨by decide, by decide⟩, _, _, rfl, rfl, (by show (0 : Int) < 2; decide), rfl, ?_⟩
  show gName _ (V.bl (decide (V.int (head / 27 % 2) = V.int 1))) _ _ _
  generalize decide (V.int (head / 27 % 2) = V.int 1) = wb
  -- handed
  refine ⟨_, rfl, cl, _, rfl, .inl (SqL.of hcl9), fun l0 n0 => ?_⟩
  have v0 := same_new n0 (.lst cs)
  have hl0 : upd H9 l0 (.lst cs) l0 = some (.lst cs) := upd_same
  refine ⟨_, rfl, r, _, rfl, .inl (SqL.of (v0 _ _ hr9)), fun l1 n1 => ⟨two, fun lh nlh => ?_⟩⟩
  have n1' : H9 l1 = none := v0.free n1
  have v1 := same_new n1 (.lst xs)
  have hl1 : upd (upd H9 l0 (.lst cs)) l1 (.lst xs) l1 = some (.lst xs) := upd_same
  have v2 := same_new nlh (.lst [V.ref l0, .ref l1])
  have hlh : upd (upd (upd H9 l0 (.lst cs)) l1 (.lst xs)) lh (.lst [V.ref l0, .ref l1]) lh = some (.lst [V.ref l0, .ref l1]) := upd_same
  have v10 := v0.trans (v1.trans v2)
  have hl0' := v2 _ _ (v1 _ _ hl0)
  have hl1' := v2 _ _ hl1
  have n01 : l0 ≠ l1 := ne_of_none hl0 n1
  generalize upd (upd (upd H9 l0 (.lst cs)) l1 (.lst xs)) lh (.lst [V.ref l0, .ref l1]) = H10 at v10 hl0' hl1' hlh
  have nh0 : lh ≠ l0 := (ne_of_none (v1 _ _ hl0) nlh).symm
  have nh1 : lh ≠ l1 := (ne_of_none hl1 nlh).symm
  clear v0 v1 v2 hl0 hl1 n1 nlh
  refine atG [some (.ref a), some (.int head), some (.ref b), some (.str nm), some (.int cents), some (.ref r), some (.ref am), some (.ref cl), some (.ref wl), some (.ref cp), some (.bl wb), some (.ref lh), none, none, none, none, none, none, none, none] rfl ?_
  -- the covers
  have S10 := S9.trans v10
  have pr10 := pr9.mono (tst_same v10)
  refine ⟨_, rfl, _, rfl, _, rfl, lh, _, _, _, rfl, rfl, SqL.of hlh, rfl, _, rfl, lh, _, _, _, rfl, rfl, SqL.of hlh, rfl, _, rfl, fun p1 dp1 np1 ndp1 nep1 => ?_⟩
  have m11 : Same H10 (upd (upd H10 dp1 (.own p1)) p1 (.ins C_Cover dp1 [])) := (same_new ndp1 _).trans (same_new (by rw [upd_ne (Ne.symm nep1)]; exact np1) _)
  refine cov_good upd_same gn nlen (.inr ⟨l0, rfl, m11 _ _ hl0'⟩) (.inr ⟨l1, xs, rfl, m11 _ _ hl1', pr10.mono (tst_same m11)⟩) lcs G fun cl1 hv1 d1 wh1 wt1 H11 k11 CV1 a1 a2 a3 a4 a5 => ⟨rfl, ?_⟩
  have s11 : Same H10 H11 := made_same np1 ndp1 k11
  have a1 := made_none a1
  have a2 := made_none a2
  have a4 := made_none a4
  have a5 := made_none a5
  clear m11 k11 np1 ndp1 nep1
  have nw : ∀ {b : Addr}, H10 b = none → b ≠ l0 ∧ b ≠ l1 := fun e => ⟨(ne_of_none hl0' e).symm, (ne_of_none hl1' e).symm⟩
  refine ⟨_, rfl, _, rfl, fun p2 dp2 np2 ndp2 nep2 => ?_⟩
  have hl011 := s11 _ _ hl0'
  have hl111 := s11 _ _ hl1'
  refine cov_good (hs := [(nm, 1)]) upd_same gn nlen (.inl ⟨rfl, rfl⟩) (.inl ⟨rfl, rfl⟩) (by decide) (goodH_one nok nlen) fun cl2 hv2 d2 wh2 wt2 H12 k12 CV2 c1 c2 c3 c4 c5 => ⟨rfl, ?_⟩
  have s12 : Same H11 H12 := made_same np2 ndp2 k12
  have c1 := made_none c1
  have c2 := made_none c2
  have c4 := made_none c4
  have c5 := made_none c5
  clear k12 np2 ndp2 nep2
  have nw2 : ∀ {b : Addr}, H11 b = none → b ≠ l0 ∧ b ≠ l1 := fun e => ⟨(ne_of_none hl011 e).symm, (ne_of_none hl111 e).symm⟩
  have CV1 := CV1.same s12
  have s1012 := s11.trans s12
  have hl012 := s12 _ _ hl011
  have hl112 := s12 _ _ hl111
  have hlh12 := s1012 _ _ hlh
  have v12 := v10.trans s1012
  refine atG [some (.ref a), some (.int head), some (.ref b), some (.str nm), some (.int cents), some (.ref r), some (.ref am), some (.ref cl), some (.ref wl), some (.ref cp), some (.bl wb), some (.ref lh), some (.ref p1), some (.ref p2), none, none, none, none, none, none] rfl ?_
  -- handed != [clauses, pairs]
  refine ⟨_, rfl, _, rfl, _, rfl, two, fun lq nlq => ?_⟩
  have s13 := same_new nlq (.lst [V.ref cl, .ref r])
  have hlq : upd H12 lq (.lst [V.ref cl, .ref r]) lq = some (.lst [V.ref cl, .ref r]) := upd_same
  generalize upd H12 lq (.lst [V.ref cl, .ref r]) = H13 at s13 hlq
  have v13 := v12.trans s13
  have hl013 := s13 _ _ hl012
  have hl113 := s13 _ _ hl112
  have hlh13 := s13 _ _ hlh12
  refine ⟨lh, lq, _, _, rfl, rfl, SqL.of hlh13, SqL.of hlq, ⟨⟨l0, cl, cs, rfl, rfl, SqL.of hl013, SqL.of (v13 _ _ hcl9), own_okV ob9⟩, ⟨l1, r, xs, rfl, rfl, SqL.of hl113, SqL.of (v13 _ _ hr9), prs_okV pr9⟩, trivial⟩, _, rfl, iteF ?_⟩
  have CV1 := CV1.same s13
  have CV2 := CV2.same s13
  clear hlq nlq
  -- handed[0].append(Own("loss", 1))
  refine ⟨_, rfl, lh, _, _, _, rfl, rfl, SqL.of hlh13, rfl, .inl ⟨rfl, _, SqL.of hl013⟩, fun ox dx nx ndx nex => ⟨ox, dx, "loss", 1, rfl, upd_same, .inr (.inr (.inr rfl)), ⟨by decide, by decide⟩, fun H14 kp D => ⟨rfl, ?_⟩⟩⟩
  have s14 : Same H13 H14 := made_same nx ndx kp
  refine ⟨l0, _, _, rfl, rfl, s14 _ _ hl013, by rw [sizeLine_eq]; omega, ?_⟩
  have hlh14 : upd H14 l0 (.lst (cs ++ [V.ref ox])) lh = some (.lst [V.ref l0, .ref l1]) := by rw [upd_ne nh0]; exact s14 _ _ hlh13
  have hl114 : upd H14 l0 (.lst (cs ++ [V.ref ox])) l1 = some (.lst xs) := by rw [upd_ne n01.symm]; exact s14 _ _ hl113
  have lxs : xs.length ≤ 8 := by
    have z := pr9.len
    have g8 := G.gw.hi
    rw [List.length_map] at z g8
    omega
  refine ⟨_, rfl, lh, _, _, _, rfl, rfl, SqL.of hlh14, rfl, .inl ⟨rfl, _, SqL.of hl114⟩, two, fun tz ntz => ?_⟩
  have sz := same_new ntz (.tup [V.str "zz", .int 1])
  refine ⟨l1, _, _, rfl, rfl, sz _ _ hl114, by rw [sizeLine_eq]; omega, ?_⟩
  have k15 : KB2 l0 l1 H13 (upd (upd (upd H14 l0 (.lst (cs ++ [V.ref ox]))) tz (.tup [V.str "zz", .int 1])) l1 (.lst (xs ++ [V.ref tz]))) := fun b o z m0 m1 => by
    rw [upd_ne m1]
    refine sz _ _ ?_
    rw [upd_ne m0]
    exact s14 _ _ z
  generalize upd (upd (upd H14 l0 (.lst (cs ++ [V.ref ox]))) tz (.tup [V.str "zz", .int 1])) l1 (.lst (xs ++ [V.ref tz])) = H15 at k15
  have CV1 := CV1.kb2 k15 hl013 hl113 (nw a1).1 (nw a1).2 (nw a2).1 (nw a2).2 (nw a4).1 (nw a4).2 (nw a5).1 (nw a5).2
  have CV2 := CV2.kb2 k15 hl013 hl113 (nw2 c1).1 (nw2 c1).2 (nw2 c2).1 (nw2 c2).2 (nw2 c4).1 (nw2 c4).2 (nw2 c5).1 (nw2 c5).2
  have v15 : Same H9 H15 := fun b o z => k15 _ _ (v13 _ _ z) (ne_of_none z n0) (ne_of_none z n1')
  have S15 := S9.trans v15
  have pr15 := pr9.mono (tst_same v15)
  have hr15 := v15 _ _ hr9
  have ob15 := ob9.mono (ist_same v15)
  have hcl15 := v15 _ _ hcl9
  have wds15 := wds9.same v15
  have hwl15 := v15 _ _ hwl9
  have hco15 := hco.same v15
  have ha15 := S15.seq ha
  clear k15 v13 v12 s13 s14 sz kp D nx ndx nex ntz hlh14 hl114 hlh13 hl013 hl113 hl012 hl112 hlh12 s1012 hl011 hl111 nw nw2 a1 a2 a3 a4 a5 c1 c2 c3 c4 c5 s11 s12 hlh hl0' hl1' v10 n0 n1' nh0 nh1 n01 S10 pr10 pr9 hr9 ob9 hcl9 wds9 hwl9 hco S9 u59
  -- kept
  refine ⟨_, rfl, _, rfl, _, rfl, _, rfl, _, rfl, p1, cl1, hv1, d1, wh1, wt1, nm, _, wb, cs, hs, obs, wl, wvs, r, xs, rfl, CV1, ob15, okb, lob, hwl15, wds15, hr15, pr15, G.gw, fun H16 s16 => ⟨_, rfl, iteF ?_⟩⟩
  refine ⟨_, rfl, _, rfl, Nat.zero_le _, fun le nle => ⟨_, rfl, two, fun tp ntp => ⟨one, fun lp nlp => ?_⟩⟩⟩
  have z1 := same_new nle (.lst [])
  have z2 := same_new ntp (.tup [V.str nm, .int 1])
  have z3 := same_new nlp (.lst [V.ref tp])
  have z13 := z1.trans (z2.trans z3)
  refine ⟨p2, cl2, hv2, d2, wh2, wt2, nm, _, false, [], [(nm, 1)], [], le, [], lp, [.ref tp], rfl, (CV2.same s16).same z13, trivial, fun _ z => (nomatch z), Nat.zero_le _, z3 _ _ (z2 _ _ upd_same), trivial, upd_same, Prs.one (z3 _ _ upd_same), gw_one, fun H17 s17 => ⟨_, rfl, iteF ?_⟩⟩
  have v17 := s16.trans (z13.trans s17)
  clear z1 z2 z3 z13 nle ntp nlp s16 s17
  -- the conditions' words
  have CV1 := CV1.same v17
  have CV2 := CV2.same v17
  have hco17 := hco15.same v17
  obtain ⟨⟨dy1, fs1, q1, _, fc1, _, _, _, _, fa1⟩, _⟩ := id CV1
  obtain ⟨⟨dy2, fs2, q2, _, fc2, _, _, _, _, fa2⟩, _⟩ := id CV2
  obtain ⟨dc, hdc⟩ := id hco17
  have fam := famW_of C_Own C_CauseIs C_ThingIs C_Over c
  have now := no_words c
  refine ⟨_, rfl, p1, C_Cover, dy1, fs1, _, rfl, q1, L.cl_Cover, L.na_Cover_condition, fc1, cp, _, dc, _, rfl, hdc, fam, now, cp, c, rfl, hco17, rfl, okc, fun w1 H18 s18 _ hw1 => ?_⟩
  refine ⟨_, rfl, cp, _, dc, _, rfl, s18 _ _ hdc, fam, now, cp, c, rfl, hco17.same s18, rfl, okc, fun w2 H19 s19 _ hw2 => ?_⟩
  refine ⟨w1, w2, _, _, rfl, rfl, SqL.of (s19 _ _ hw1), SqL.of hw2, flat_strs _, flat_strs _, _, rfl, bF (by show (!eqL _ _) = false; rw [eq_strs]; rfl) ?_⟩
  have s1719 := s18.trans s19
  refine ⟨_, rfl, p2, C_Cover, dy2, fs2, _, rfl, s1719 _ _ q2, L.cl_Cover, L.na_Cover_condition, fc2, cp, _, dc, _, rfl, s1719 _ _ hdc, fam, now, cp, c, rfl, hco17.same s1719, rfl, okc, fun w3 H20 s20 _ hw3 => ?_⟩
  have s1720 := s1719.trans s20
  refine ⟨_, rfl, cp, _, dc, _, rfl, s1720 _ _ hdc, fam, now, cp, c, rfl, hco17.same s1720, rfl, okc, fun w4 H21 s21 _ hw4 => ?_⟩
  refine ⟨w3, w4, _, _, rfl, rfl, SqL.of (s21 _ _ hw3), SqL.of hw4, flat_strs _, flat_strs _, _, rfl, bF (by show (!eqL _ _) = false; rw [eq_strs]; rfl) ?_⟩
  have s1721 := s1720.trans s21
  have v21 := v17.trans s1721
  have hco21 := hco17.same s1721
  have q1 := s1721 _ _ q1
  have q2 := s1721 _ _ q2
  clear hw1 hw2 hw3 hw4 s18 s19 s20 s21 s1719 s1720 s1721 v17 hco17 hdc CV1 CV2
  -- asks
  refine ⟨_, rfl, _, rfl, _, _, rfl, rfl, ⟨by decide, by decide⟩, _, _, rfl, rfl, (by show (0 : Int) < 3; decide), _, rfl, _, rfl, p1, dy1, fs1, cp, c, nm, _, cents, rfl, q1, fc1, fa1, hco21, hway, fun H22 s22 => ⟨_, rfl, iteF ?_⟩⟩
  refine ⟨_, rfl, _, rfl, _, _, rfl, rfl, ⟨by decide, by decide⟩, _, _, rfl, rfl, (by show (0 : Int) < 3; decide), _, rfl, _, rfl, p2, dy2, fs2, cp, c, nm, _, cents, rfl, s22 _ _ q2, fc2, fa2, hco21.same s22, hway, fun H23 s23 => ⟨_, rfl, iteF ?_⟩⟩
  have v23 := v21.trans (s22.trans s23)
  have ha23 := v23.seq ha15
  have hr23 := v23 _ _ hr15
  have pr23 := pr15.mono (tst_same v23)
  have hcl23 := v23 _ _ hcl15
  clear q1 q2 s22 s23 v21 hco21 hco15 hwl15 wds15 ob15 hcl15 hr15 pr15 ha15 S15 v15 v23 hway fc1 fc2 fa1 fa2
  have okn : okX (.str nm) := fun y e => by cases e; exact nlen
  have g8 := G.gw.hi
  rw [List.length_map] at g8
  have l9 : (hs.map prV).length ≤ 900 := by rw [List.length_map]; omega
  -- the spoilt ones
  refine ⟨_, rfl, by decide, by decide, for_range (lo := 0) (n := (6 : Int).toNat) (fun i σ H24 => (∃ o14 o15 o16 o17 o18 o19, σ = [some (.ref a), some (.int head), some (.ref b), some (.str nm), some (.int cents), some (.ref r), some (.ref am), some (.ref cl), some (.ref wl), some (.ref cp), some (.bl wb), some (.ref lh), some (.ref p1), some (.ref p2), o14, o15, o16, o17, o18, o19]) ∧ Same H23 H24) ⟨⟨_, _, _, _, _, _, rfl⟩, Same.refl _⟩ ?_ ?_⟩
  · rintro i σ H24 hi ⟨⟨o14, o15, o16, o17, o18, o19, rfl⟩, s24⟩
    have hi' : i < 6 := hi
    rw [show (0 + (i : Int)) = (i : Int) by omega]
    refine ⟨_, rfl, _, rfl, _, _, rfl, rfl, a, ns, _, rfl, s24.seq ha23, by omega, h63, _, _, rfl, rfl, ⟨by decide, by decide, by decide⟩, _, _, rfl, rfl, (by show (0 : Int) < (10 : Int) ^ (12 : Int).toNat; rw [e12]; decide), ?_⟩
    refine hideI 0 ((10 : Int) ^ (12 : Int).toNat - 1) (md (by rw [e12]; decide)) fun cell c0 c1 => ?_
    refine ⟨_, rfl, _, rfl, _, rfl, r, xs, hs, _, _, rfl, s24 _ _ hr23, pr23.mono (tst_same s24), G, by omega, by omega, c0, fun rb ys prs H25 s25 nrb hrb prb lb typ bad => ?_⟩
    refine atG [some (.ref a), some (.int head), some (.ref b), some (.str nm), some (.int cents), some (.ref r), some (.ref am), some (.ref cl), some (.ref wl), some (.ref cp), some (.bl wb), some (.ref lh), some (.ref p1), some (.ref p2), some (.int i), some (.int cell), some (.ref rb), o17, o18, o19] rfl ?_
    -- due
    refine ⟨le_line (by show 6 ≤ 1000; decide), fun ld nld => ?_⟩
    have s26 := same_new nld (.lst [V.int 1, .int 1, .int 2, .int 2, .int 2, .int 1])
    have pk : ∃ due : Int, atI [V.int 1, .int 1, .int 2, .int 2, .int 2, .int 1] (i : Int) = some (.int due) ∧ ((due = 1 ∧ ¬ GoodHs (prs.map (·.1))) ∨ (due = 2 ∧ GoodHs (prs.map (·.1)) ∧ ¬ GoodWs (prs.map (·.2)))) := by
      obtain ⟨b1, b2⟩ := bad
      have : i = 0 ∨ i = 1 ∨ i = 2 ∨ i = 3 ∨ i = 4 ∨ i = 5 := by omega
      rcases this with rfl | rfl | rfl | rfl | rfl | rfl
      · exact ⟨1, rfl, .inl ⟨rfl, b1 (.inl rfl)⟩⟩
      · exact ⟨1, rfl, .inl ⟨rfl, b1 (.inr (.inl rfl))⟩⟩
      · exact ⟨2, rfl, .inr ⟨rfl, b2 (.inl rfl)⟩⟩
      · exact ⟨2, rfl, .inr ⟨rfl, b2 (.inr (.inl rfl))⟩⟩
      · exact ⟨2, rfl, .inr ⟨rfl, b2 (.inr (.inr rfl))⟩⟩
      · exact ⟨1, rfl, .inl ⟨rfl, b1 (.inr (.inr rfl))⟩⟩
    obtain ⟨due, atd, hdue⟩ := pk
    refine ⟨_, rfl, ld, _, _, _, rfl, rfl, SqL.of upd_same, atd, ?_⟩
    generalize upd H25 ld (.lst [V.int 1, .int 1, .int 2, .int 2, .int 2, .int 1]) = H26 at s26
    have res : ∀ {cs' : List V}, cs'.length ≤ 8 → refNo (.str nm) cs' prs due := fun l8 => by
      rcases hdue with ⟨e, h⟩ | ⟨e, h1, h2⟩
      · exact .inl ⟨e, .inr (.inr h)⟩
      · exact .inr (.inl ⟨e, gn, l8, h1, h2⟩)
    have s2426 := s25.trans s26
    have hrb26 := s26 _ _ hrb
    have prb26 := prb.mono (tst_same s26)
    have typ26 := typ.same s26
    have hcl26 := s2426 _ _ (s24 _ _ hcl23)
    refine atG [some (.ref a), some (.int head), some (.ref b), some (.str nm), some (.int cents), some (.ref r), some (.ref am), some (.ref cl), some (.ref wl), some (.ref cp), some (.bl wb), some (.ref lh), some (.ref p1), some (.ref p2), some (.int i), some (.int cell), some (.ref rb), some (.int due), o18, o19] rfl ?_
    refine ⟨_, rfl, _, rfl, _, rfl, ?_⟩
    show spRef K [V.str nm, V.ref cl, V.ref rb] H26 _ _
    refine ref_of (res lcs) (.str nm) okn (.inr ⟨cl, rfl, hcl26⟩) hrb26 prb26 lb typ26 fun H27 s27 => ⟨_, rfl, rfl, _, rfl, nF rfl ?_⟩
    refine ⟨_, rfl, _, rfl, ?_⟩
    show spRef K [V.str nm, V.non, V.ref rb] H27 _ _
    refine ref_of (res (cs' := []) (Nat.zero_le _)) (.str nm) okn (.inl ⟨rfl, rfl⟩) (s27 _ _ hrb26) (prb26.mono (tst_same s27)) lb (typ26.same s27) fun H28 s28 => ⟨_, rfl, rfl, _, rfl, nF rfl ?_⟩
    have s2628 := s27.trans s28
    -- odd
    refine ⟨one, fun q1 m1 => ⟨le_line (by show 10 ≤ 1000; decide), fun q2 m2 => ?_⟩⟩
    have t1 := same_new m1 (.lst [.str "a"])
    have t2 := same_new m2 (.lst [.str "", .str "self", .str "Acme", .str "a b", .str "abcdefghi", .int 5, .non, .bl true, .str "a.b", .ref q1])
    have k0 : 0 ≤ cell % 10 := Int.emod_nonneg _ (by decide)
    have k1 : cell % 10 < 10 := Int.emod_lt_of_pos _ (by decide)
    have e1 := t2 _ _ (upd_same (H := H28) (a := q1) (o := .lst [.str "a"]))
    have e2 : upd (upd H28 q1 (.lst [.str "a"])) q2 (.lst [.str "", .str "self", .str "Acme", .str "a b", .str "abcdefghi", .int 5, .non, .bl true, .str "a.b", .ref q1]) q2 = some (.lst [.str "", .str "self", .str "Acme", .str "a b", .str "abcdefghi", .int 5, .non, .bl true, .str "a.b", .ref q1]) := upd_same
    have t12 := t1.trans t2
    generalize upd (upd H28 q1 (.lst [.str "a"])) q2 (.lst [.str "", .str "self", .str "Acme", .str "a b", .str "abcdefghi", .int 5, .non, .bl true, .str "a.b", .ref q1]) = H29 at e1 e2 t12
    have pko : ∃ v T, atI [V.str "", .str "self", .str "Acme", .str "a b", .str "abcdefghi", .int 5, .non, .bl true, .str "a.b", .ref q1] (cell % 10) = some v ∧ ¬ goodN v ∧ okX v ∧ TyOf K H29 v (.type T) := by
      have okl : ∀ z : Str, z.length ≤ 900 → okX (.str z) := fun z h y e => by cases e; exact h
      have ng : ∀ {v : V}, nameV v = false → ¬ goodN v := fun h g => by rw [g.1] at h; cases h
      generalize cell % 10 = j at k0 k1
      have : j = 0 ∨ j = 1 ∨ j = 2 ∨ j = 3 ∨ j = 4 ∨ j = 5 ∨ j = 6 ∨ j = 7 ∨ j = 8 ∨ j = 9 := by omega
      rcases this with rfl | rfl | rfl | rfl | rfl | rfl | rfl | rfl | rfl | rfl
      · exact ⟨_, _, rfl, ng (by decide +kernel), okl _ (by decide +kernel), .str _⟩
      · exact ⟨_, _, rfl, fun g => g.2 rfl, okl _ (by decide +kernel), .str _⟩
      · exact ⟨_, _, rfl, ng (by decide +kernel), okl _ (by decide +kernel), .str _⟩
      · exact ⟨_, _, rfl, ng (by decide +kernel), okl _ (by decide +kernel), .str _⟩
      · exact ⟨_, _, rfl, ng (by decide +kernel), okl _ (by decide +kernel), .str _⟩
      · exact ⟨_, _, rfl, ng rfl, (fun y e => by cases e), .int _⟩
      · exact ⟨_, _, rfl, ng rfl, (fun y e => by cases e), .non⟩
      · exact ⟨_, _, rfl, ng rfl, (fun y e => by cases e), .bl _⟩
      · exact ⟨_, _, rfl, ng (by decide +kernel), okl _ (by decide +kernel), .str _⟩
      · exact ⟨_, _, rfl, ng rfl, (fun y e => by cases e), .lst e1⟩
    obtain ⟨v, T1, atv, ngv, okv, tyv⟩ := pko
    refine ⟨_, rfl, _, _, rfl, rfl, (by show (0 : Int) < 10; decide), q2, _, _, v, rfl, rfl, SqL.of e2, atv, ?_⟩
    have s2629 := s2628.trans t12
    have hcl29 := s2629 _ _ hcl26
    -- nine
    refine ⟨_, rfl, fun ox dx nx ndx nex => ⟨ox, dx, "loss", 1, rfl, upd_same, .inr (.inr (.inr rfl)), ⟨by decide, by decide⟩, fun H30 kp D => ⟨rfl, one, fun l5 n5 => ?_⟩⟩⟩
    have s30 : Same H29 H30 := made_same nx ndx kp
    have s31 := same_new n5 (.lst [V.ref ox])
    have hcl31 := s31 _ _ (s30 _ _ hcl29)
    refine ⟨_, rfl, cl, _, rfl, .inl (SqL.of hcl31), _, _, rfl, rfl, l5, _, _, rfl, rfl, upd_same, ?_, ?_, ?_, fun l6 n6 => ?_⟩
    · omega
    · omega
    · show 1 * (9 - (cs.length : Int)).toNat ≤ sizeLine
      rw [sizeLine_eq]
      omega
    have s32 := same_new n6 (.lst (List.replicate (9 - (cs.length : Int)).toNat [V.ref ox]).flatten)
    have lf : (List.replicate (9 - (cs.length : Int)).toNat [V.ref ox]).flatten.length = 9 - cs.length := by
      rw [List.length_flatten, List.map_replicate, List.sum_replicate_nat]
      simp
    refine ⟨cl, l6, _, _, rfl, rfl, s32 _ _ hcl31, upd_same, by rw [lf, sizeLine_eq]; omega, fun l7 n7 => ?_⟩
    have s33 := same_new n7 (.lst (cs ++ (List.replicate (9 - (cs.length : Int)).toNat [V.ref ox]).flatten))
    have l79 : 8 < (cs ++ (List.replicate (9 - (cs.length : Int)).toNat [V.ref ox]).flatten).length := by rw [List.length_append, lf]; omega
    have h33 : upd (upd (upd H30 l5 (.lst [V.ref ox])) l6 (.lst (List.replicate (9 - (cs.length : Int)).toNat [V.ref ox]).flatten)) l7 (.lst (cs ++ (List.replicate (9 - (cs.length : Int)).toNat [V.ref ox]).flatten)) l7 = some (.lst (cs ++ (List.replicate (9 - (cs.length : Int)).toNat [V.ref ox]).flatten)) := upd_same
    have s2933 := s30.trans (s31.trans (s32.trans s33))
    generalize upd (upd (upd H30 l5 (.lst [V.ref ox])) l6 (.lst (List.replicate (9 - (cs.length : Int)).toNat [V.ref ox]).flatten)) l7 (.lst (cs ++ (List.replicate (9 - (cs.length : Int)).toNat [V.ref ox]).flatten)) = H33 at h33 s2933
    generalize cs ++ (List.replicate (9 - (cs.length : Int)).toNat [V.ref ox]).flatten = c9 at l79 h33
    refine atG [some (.ref a), some (.int head), some (.ref b), some (.str nm), some (.int cents), some (.ref r), some (.ref am), some (.ref cl), some (.ref wl), some (.ref cp), some (.bl wb), some (.ref lh), some (.ref p1), some (.ref p2), some (.int i), some (.int cell), some (.ref rb), some (.int due), some v, some (.ref l7)] rfl ?_
    have s2633 := s2629.trans s2933
    have s2333 := s24.trans (s2426.trans s2633)
    have hr33 := s2333 _ _ hr23
    have pr33 := pr23.mono (tst_same s2333)
    have hcl33 := s2633 _ _ hcl26
    have hrb33 := s2633 _ _ hrb26
    have prb33 := prb26.mono (tst_same s2633)
    have typ33 := typ26.same s2633
    have tyv33 := TyOf.same tyv s2933
    have tyh : ∀ Hx, TyPr K Hx (hs.map prV) := fun _ => tyPr_hs G
    refine ⟨_, rfl, _, rfl, _, rfl, ?_⟩
    show spRef K [v, V.ref cl, V.ref r] H33 _ _
    refine ref_of (.inl ⟨rfl, .inl ngv⟩) tyv33 okv (.inr ⟨cl, rfl, hcl33⟩) hr33 pr33 l9 (tyh _) fun H34 s34 => ⟨rfl, _, rfl, nF rfl ?_⟩
    refine ⟨_, rfl, _, rfl, ?_⟩
    show spRef K [v, V.non, V.ref rb] H34 _ _
    refine ref_of (cs := []) (.inl ⟨rfl, .inl ngv⟩) (TyOf.same tyv33 s34) okv (.inl ⟨rfl, rfl⟩) (s34 _ _ hrb33) (prb33.mono (tst_same s34)) lb (typ33.same s34) fun H35 s35 => ⟨rfl, _, rfl, nF rfl ?_⟩
    have s3335 := s34.trans s35
    refine ⟨_, rfl, _, rfl, _, rfl, ?_⟩
    show spRef K [V.str nm, V.ref l7, V.ref r] H35 _ _
    refine ref_of (.inl ⟨rfl, .inr (.inl l79)⟩) (.str nm) okn (.inr ⟨l7, rfl, s3335 _ _ h33⟩) (s3335 _ _ hr33) (pr33.mono (tst_same s3335)) l9 (tyh _) fun H36 s36 => ⟨rfl, _, rfl, nF rfl ?_⟩
    have s3336 := s3335.trans s36
    refine ⟨_, rfl, _, rfl, _, rfl, ?_⟩
    show spRef K [V.str nm, V.ref l7, V.ref rb] H36 _ _
    refine ref_of (.inl ⟨rfl, .inr (.inl l79)⟩) (.str nm) okn (.inr ⟨l7, rfl, s3336 _ _ h33⟩) (s3336 _ _ hrb33) (prb33.mono (tst_same s3336)) lb (typ33.same s3336) fun H37 s37 => ⟨rfl, _, rfl, nF rfl ⟨⟨_, _, _, _, _, _, rfl⟩, s2333.trans (s3336.trans s37)⟩⟩
  · rintro σ H24 ⟨⟨o14, o15, o16, o17, o18, o19, rfl⟩, s24⟩
    refine ⟨_, rfl, _, rfl, _, rfl, ?_⟩
    show spRef K [V.str nm, V.ref cl, V.ref r] H24 _ _
    refine ref_of (.inr (.inr ⟨rfl, gn, lcs, goodHs_of G, goodWs_of G⟩)) (.str nm) okn (.inr ⟨cl, rfl, s24 _ _ hcl23⟩) (s24 _ _ hr23) (pr23.mono (tst_same s24)) l9 (tyPr_hs G) fun H25 s25 => ⟨rfl, ?_⟩
    exact q _
end


theorem all_mk {l : PySem.W.OpenLaw} {w : World} {K : PySem.W.Frag} {h : Heap} {mg : Str → Option Value} {fa : Addr} (X : K.In h) (G : h.Ns mainGlobals mg) (hfa : mg "law" = some (.ref fa))
    {f0 : Addr} {od0 an0 : Option Addr} {sl0 : Array (Option Value)} {oc0 kV0 dc0 pm0 cd0 ct0 : Value}
    (a0 : PySem.W.nsIn K mainGlobals "is_whole" = some (some (.ref f0))) (l0 : K.lookup f0 = some ⟨oc0, od0, .func (PySem.W.fnOf "is_whole" "is_whole" (defArgs s_is_whole) (defBody s_is_whole) (defScope s_is_whole) .none kV0 dc0 pm0 an0 cd0 ct0), sl0⟩) (c0 : PySem.W.codeIn K cd0 "is_whole" = true) (k0 : PySem.W.keepIn K (.ref f0) = true)
    {f1 : Addr} {od1 an1 : Option Addr} {sl1 : Array (Option Value)} {oc1 kV1 dc1 pm1 cd1 ct1 : Value}
    (a1 : PySem.W.nsIn K mainGlobals "show_cents" = some (some (.ref f1))) (l1 : K.lookup f1 = some ⟨oc1, od1, .func (PySem.W.fnOf "show_cents" "show_cents" (defArgs s_show_cents) (defBody s_show_cents) (defScope s_show_cents) .none kV1 dc1 pm1 an1 cd1 ct1), sl1⟩) (c1 : PySem.W.codeIn K cd1 "show_cents" = true) (k1 : PySem.W.keepIn K (.ref f1) = true)
    {f2 : Addr} {od2 an2 : Option Addr} {sl2 : Array (Option Value)} {oc2 kV2 dc2 pm2 cd2 ct2 : Value}
    (a2 : PySem.W.nsIn K mainGlobals "has_letters_alone" = some (some (.ref f2))) (l2 : K.lookup f2 = some ⟨oc2, od2, .func (PySem.W.fnOf "has_letters_alone" "has_letters_alone" (defArgs s_has_letters_alone) (defBody s_has_letters_alone) (defScope s_has_letters_alone) .none kV2 dc2 pm2 an2 cd2 ct2), sl2⟩) (c2 : PySem.W.codeIn K cd2 "has_letters_alone" = true) (k2 : PySem.W.keepIn K (.ref f2) = true)
    {f3 : Addr} {od3 an3 : Option Addr} {sl3 : Array (Option Value)} {oc3 kV3 dc3 pm3 cd3 ct3 : Value}
    (a3 : PySem.W.nsIn K mainGlobals "is_name" = some (some (.ref f3))) (l3 : K.lookup f3 = some ⟨oc3, od3, .func (PySem.W.fnOf "is_name" "is_name" (defArgs s_is_name) (defBody s_is_name) (defScope s_is_name) .none kV3 dc3 pm3 an3 cd3 ct3), sl3⟩) (c3 : PySem.W.codeIn K cd3 "is_name" = true) (k3 : PySem.W.keepIn K (.ref f3) = true)
    {f4 : Addr} {od4 an4 : Option Addr} {sl4 : Array (Option Value)} {oc4 kV4 dc4 pm4 cd4 ct4 : Value}
    (a4 : PySem.W.nsIn K mainGlobals "is_amount" = some (some (.ref f4))) (l4 : K.lookup f4 = some ⟨oc4, od4, .func (PySem.W.fnOf "is_amount" "is_amount" (defArgs s_is_amount) (defBody s_is_amount) (defScope s_is_amount) .none kV4 dc4 pm4 an4 cd4 ct4), sl4⟩) (c4 : PySem.W.codeIn K cd4 "is_amount" = true) (k4 : PySem.W.keepIn K (.ref f4) = true)
    {f5 : Addr} {od5 an5 : Option Addr} {sl5 : Array (Option Value)} {oc5 kV5 dc5 pm5 cd5 ct5 : Value}
    (a5 : PySem.W.nsIn K mainGlobals "are_weights" = some (some (.ref f5))) (l5 : K.lookup f5 = some ⟨oc5, od5, .func (PySem.W.fnOf "are_weights" "are_weights" (defArgs s_are_weights) (defBody s_are_weights) (defScope s_are_weights) .none kV5 dc5 pm5 an5 cd5 ct5), sl5⟩) (c5 : PySem.W.codeIn K cd5 "are_weights" = true) (k5 : PySem.W.keepIn K (.ref f5) = true)
    {f6 : Addr} {od6 an6 : Option Addr} {sl6 : Array (Option Value)} {oc6 kV6 dc6 pm6 cd6 ct6 : Value}
    (a6 : PySem.W.nsIn K mainGlobals "may_have" = some (some (.ref f6))) (l6 : K.lookup f6 = some ⟨oc6, od6, .func (PySem.W.fnOf "may_have" "may_have" (defArgs s_may_have) (defBody s_may_have) (defScope s_may_have) .none kV6 dc6 pm6 an6 cd6 ct6), sl6⟩) (c6 : PySem.W.codeIn K cd6 "may_have" = true) (k6 : PySem.W.keepIn K (.ref f6) = true)
    {f7 : Addr} {od7 an7 : Option Addr} {sl7 : Array (Option Value)} {oc7 kV7 dc7 pm7 cd7 ct7 : Value}
    (a7 : PySem.W.nsIn K mainGlobals "due_by" = some (some (.ref f7))) (l7 : K.lookup f7 = some ⟨oc7, od7, .func (PySem.W.fnOf "due_by" "due_by" (defArgs s_due_by) (defBody s_due_by) (defScope s_due_by) .none kV7 dc7 pm7 an7 cd7 ct7), sl7⟩) (c7 : PySem.W.codeIn K cd7 "due_by" = true) (k7 : PySem.W.keepIn K (.ref f7) = true)
    {f8 : Addr} {od8 an8 : Option Addr} {sl8 : Array (Option Value)} {oc8 kV8 dc8 pm8 cd8 ct8 : Value}
    (a8 : PySem.W.nsIn K mainGlobals "place_of_turn" = some (some (.ref f8))) (l8 : K.lookup f8 = some ⟨oc8, od8, .func (PySem.W.fnOf "place_of_turn" "place_of_turn" (defArgs s_place_of_turn) (defBody s_place_of_turn) (defScope s_place_of_turn) .none kV8 dc8 pm8 an8 cd8 ct8), sl8⟩) (c8 : PySem.W.codeIn K cd8 "place_of_turn" = true) (k8 : PySem.W.keepIn K (.ref f8) = true)
    {f9 : Addr} {od9 an9 : Option Addr} {sl9 : Array (Option Value)} {oc9 kV9 dc9 pm9 cd9 ct9 : Value}
    (a9 : PySem.W.nsIn K mainGlobals "turns" = some (some (.ref f9))) (l9 : K.lookup f9 = some ⟨oc9, od9, .func (PySem.W.fnOf "turns" "turns" (defArgs s_turns) (defBody s_turns) (defScope s_turns) .none kV9 dc9 pm9 an9 cd9 ct9), sl9⟩) (c9 : PySem.W.codeIn K cd9 "turns" = true) (k9 : PySem.W.keepIn K (.ref f9) = true)
    {f10 : Addr} {od10 an10 : Option Addr} {sl10 : Array (Option Value)} {oc10 kV10 dc10 pm10 cd10 ct10 : Value}
    (a10 : PySem.W.nsIn K mainGlobals "check_houses" = some (some (.ref f10))) (l10 : K.lookup f10 = some ⟨oc10, od10, .func (PySem.W.fnOf "check_houses" "check_houses" (defArgs s_check_houses) (defBody s_check_houses) (defScope s_check_houses) .none kV10 dc10 pm10 an10 cd10 ct10), sl10⟩) (c10 : PySem.W.codeIn K cd10 "check_houses" = true) (k10 : PySem.W.keepIn K (.ref f10) = true)
    {f11 : Addr} {od11 an11 : Option Addr} {sl11 : Array (Option Value)} {oc11 kV11 dc11 pm11 cd11 ct11 : Value}
    (a11 : PySem.W.nsIn K mainGlobals "checked_amount" = some (some (.ref f11))) (l11 : K.lookup f11 = some ⟨oc11, od11, .func (PySem.W.fnOf "checked_amount" "checked_amount" (defArgs s_checked_amount) (defBody s_checked_amount) (defScope s_checked_amount) .none kV11 dc11 pm11 an11 cd11 ct11), sl11⟩) (c11 : PySem.W.codeIn K cd11 "checked_amount" = true) (k11 : PySem.W.keepIn K (.ref f11) = true)
    {f12 : Addr} {od12 an12 : Option Addr} {sl12 : Array (Option Value)} {oc12 kV12 dc12 pm12 cd12 ct12 : Value}
    (a12 : PySem.W.nsIn K mainGlobals "_law_cell" = some (some (.ref f12))) (l12 : K.lookup f12 = some ⟨oc12, od12, .func (PySem.W.fnOf "_law_cell" "_law_cell" (defArgs s__law_cell) (defBody s__law_cell) (defScope s__law_cell) .none kV12 dc12 pm12 an12 cd12 ct12), sl12⟩) (c12 : PySem.W.codeIn K cd12 "_law_cell" = true) (k12 : PySem.W.keepIn K (.ref f12) = true)
    {f13 : Addr} {od13 an13 : Option Addr} {sl13 : Array (Option Value)} {oc13 kV13 dc13 pm13 cd13 ct13 : Value}
    (a13 : PySem.W.nsIn K mainGlobals "_law_names" = some (some (.ref f13))) (l13 : K.lookup f13 = some ⟨oc13, od13, .func (PySem.W.fnOf "_law_names" "_law_names" (defArgs s__law_names) (defBody s__law_names) (defScope s__law_names) .none kV13 dc13 pm13 an13 cd13 ct13), sl13⟩) (c13 : PySem.W.codeIn K cd13 "_law_names" = true) (k13 : PySem.W.keepIn K (.ref f13) = true)
    {f14 : Addr} {od14 an14 : Option Addr} {sl14 : Array (Option Value)} {oc14 kV14 dc14 pm14 cd14 ct14 : Value}
    (a14 : PySem.W.nsIn K mainGlobals "_law_houses" = some (some (.ref f14))) (l14 : K.lookup f14 = some ⟨oc14, od14, .func (PySem.W.fnOf "_law_houses" "_law_houses" (defArgs s__law_houses) (defBody s__law_houses) (defScope s__law_houses) .none kV14 dc14 pm14 an14 cd14 ct14), sl14⟩) (c14 : PySem.W.codeIn K cd14 "_law_houses" = true) (k14 : PySem.W.keepIn K (.ref f14) = true)
    {f15 : Addr} {od15 an15 : Option Addr} {sl15 : Array (Option Value)} {oc15 kV15 dc15 pm15 cd15 ct15 : Value}
    (a15 : PySem.W.nsIn K mainGlobals "_law_refused" = some (some (.ref f15))) (l15 : K.lookup f15 = some ⟨oc15, od15, .func (PySem.W.fnOf "_law_refused" "_law_refused" (defArgs s__law_refused) (defBody s__law_refused) (defScope s__law_refused) .none kV15 dc15 pm15 an15 cd15 ct15), sl15⟩) (c15 : PySem.W.codeIn K cd15 "_law_refused" = true) (k15 : PySem.W.keepIn K (.ref f15) = true)
    {f16 : Addr} {od16 an16 : Option Addr} {sl16 : Array (Option Value)} {oc16 kV16 dc16 pm16 cd16 ct16 : Value}
    (a16 : PySem.W.nsIn K mainGlobals "_law_bad_pairs" = some (some (.ref f16))) (l16 : K.lookup f16 = some ⟨oc16, od16, .func (PySem.W.fnOf "_law_bad_pairs" "_law_bad_pairs" (defArgs s__law_bad_pairs) (defBody s__law_bad_pairs) (defScope s__law_bad_pairs) .none kV16 dc16 pm16 an16 cd16 ct16), sl16⟩) (c16 : PySem.W.codeIn K cd16 "_law_bad_pairs" = true) (k16 : PySem.W.keepIn K (.ref f16) = true)
    {f17 : Addr} {od17 an17 : Option Addr} {sl17 : Array (Option Value)} {oc17 kV17 dc17 pm17 cd17 ct17 : Value}
    (a17 : PySem.W.nsIn K mainGlobals "_law_kept" = some (some (.ref f17))) (l17 : K.lookup f17 = some ⟨oc17, od17, .func (PySem.W.fnOf "_law_kept" "_law_kept" (defArgs s__law_kept) (defBody s__law_kept) (defScope s__law_kept) .none kV17 dc17 pm17 an17 cd17 ct17), sl17⟩) (c17 : PySem.W.codeIn K cd17 "_law_kept" = true) (k17 : PySem.W.keepIn K (.ref f17) = true)
    {f18 : Addr} {od18 an18 : Option Addr} {sl18 : Array (Option Value)} {oc18 kV18 dc18 pm18 cd18 ct18 : Value}
    (a18 : PySem.W.nsIn K mainGlobals "_law_asks" = some (some (.ref f18))) (l18 : K.lookup f18 = some ⟨oc18, od18, .func (PySem.W.fnOf "_law_asks" "_law_asks" (defArgs s__law_asks) (defBody s__law_asks) (defScope s__law_asks) .none kV18 dc18 pm18 an18 cd18 ct18), sl18⟩) (c18 : PySem.W.codeIn K cd18 "_law_asks" = true) (k18 : PySem.W.keepIn K (.ref f18) = true)
    {f19 : Addr} {od19 an19 : Option Addr} {sl19 : Array (Option Value)} {oc19 kV19 dc19 pm19 cd19 ct19 : Value}
    (a19 : PySem.W.nsIn K mainGlobals "law" = some (some (.ref f19))) (l19 : K.lookup f19 = some ⟨oc19, od19, .func (PySem.W.fnOf "law" "law" (defArgs s_law) (defBody s_law) (defScope s_law) .none kV19 dc19 pm19 an19 cd19 ct19), sl19⟩) (c19 : PySem.W.codeIn K cd19 "law" = true) (k19 : PySem.W.keepIn K (.ref f19) = true)
    {C_Own : Addr} (q_Own : PySem.W.nsIn K mainGlobals "Own" = some (some (.ref C_Own)))
    (pg_Own : PySem.W.plainGet K C_Own Str.empty = true) (hd_Own : PySem.W.hasDictIn K C_Own = true) (po_Own : PySem.W.plainOver K C_Own = true) (sa_Own : PySem.W.findIn K (.ref C_Own) "__setattr__" = some (some (.builtin "object.__setattr__"))) (mk_Own : PySem.W.makesIn K C_Own = true) (kc_Own : PySem.W.keepIn K (.ref C_Own) = true)
    (na_Own_cents : PySem.W.findIn K (.ref C_Own) "cents" = some none)
    (na_Own_by : PySem.W.findIn K (.ref C_Own) "by" = some none)
    {C_CauseIs : Addr} (q_CauseIs : PySem.W.nsIn K mainGlobals "CauseIs" = some (some (.ref C_CauseIs)))
    (pg_CauseIs : PySem.W.plainGet K C_CauseIs Str.empty = true) (hd_CauseIs : PySem.W.hasDictIn K C_CauseIs = true) (po_CauseIs : PySem.W.plainOver K C_CauseIs = true) (sa_CauseIs : PySem.W.findIn K (.ref C_CauseIs) "__setattr__" = some (some (.builtin "object.__setattr__"))) (mk_CauseIs : PySem.W.makesIn K C_CauseIs = true) (kc_CauseIs : PySem.W.keepIn K (.ref C_CauseIs) = true)
    (na_CauseIs_name : PySem.W.findIn K (.ref C_CauseIs) "name" = some none)
    {C_ThingIs : Addr} (q_ThingIs : PySem.W.nsIn K mainGlobals "ThingIs" = some (some (.ref C_ThingIs)))
    (pg_ThingIs : PySem.W.plainGet K C_ThingIs Str.empty = true) (hd_ThingIs : PySem.W.hasDictIn K C_ThingIs = true) (po_ThingIs : PySem.W.plainOver K C_ThingIs = true) (sa_ThingIs : PySem.W.findIn K (.ref C_ThingIs) "__setattr__" = some (some (.builtin "object.__setattr__"))) (mk_ThingIs : PySem.W.makesIn K C_ThingIs = true) (kc_ThingIs : PySem.W.keepIn K (.ref C_ThingIs) = true)
    (na_ThingIs_name : PySem.W.findIn K (.ref C_ThingIs) "name" = some none)
    {C_Over : Addr} (q_Over : PySem.W.nsIn K mainGlobals "Over" = some (some (.ref C_Over)))
    (pg_Over : PySem.W.plainGet K C_Over Str.empty = true) (hd_Over : PySem.W.hasDictIn K C_Over = true) (po_Over : PySem.W.plainOver K C_Over = true) (sa_Over : PySem.W.findIn K (.ref C_Over) "__setattr__" = some (some (.builtin "object.__setattr__"))) (mk_Over : PySem.W.makesIn K C_Over = true) (kc_Over : PySem.W.keepIn K (.ref C_Over) = true)
    (na_Over_cents : PySem.W.findIn K (.ref C_Over) "cents" = some none)
    {C_Clause : Addr} (q_Clause : PySem.W.nsIn K mainGlobals "Clause" = some (some (.ref C_Clause)))
    (pg_Clause : PySem.W.plainGet K C_Clause Str.empty = true) (hd_Clause : PySem.W.hasDictIn K C_Clause = true) (po_Clause : PySem.W.plainOver K C_Clause = true) (sa_Clause : PySem.W.findIn K (.ref C_Clause) "__setattr__" = some (some (.builtin "object.__setattr__"))) (mk_Clause : PySem.W.makesIn K C_Clause = true) (kc_Clause : PySem.W.keepIn K (.ref C_Clause) = true)
    (na_Clause_by : PySem.W.findIn K (.ref C_Clause) "by" = some none)
    {C_Deal : Addr} (q_Deal : PySem.W.nsIn K mainGlobals "Deal" = some (some (.ref C_Deal)))
    (pg_Deal : PySem.W.plainGet K C_Deal Str.empty = true) (hd_Deal : PySem.W.hasDictIn K C_Deal = true) (po_Deal : PySem.W.plainOver K C_Deal = true) (sa_Deal : PySem.W.findIn K (.ref C_Deal) "__setattr__" = some (some (.builtin "object.__setattr__"))) (mk_Deal : PySem.W.makesIn K C_Deal = true) (kc_Deal : PySem.W.keepIn K (.ref C_Deal) = true)
    (na_Deal_wheel : PySem.W.findIn K (.ref C_Deal) "wheel" = some none)
    (na_Deal_weights : PySem.W.findIn K (.ref C_Deal) "weights" = some none)
    (ha_Deal : PySem.W.findIn K (.ref C_Deal) "__class__" = some (some (.builtin "object.__class__"))) (hm_Deal : PySem.W.mroIn K C_Deal (.type "object") = some true)
    (gs : PySem.W.specialIn K (.builtin "object.__class__") "__get__" = some (some (.builtin "getset_descriptor.__get__"))) (tk : PySem.W.takesIn K (.builtin "object.__class__") = some true)
    {C_Cover : Addr} (q_Cover : PySem.W.nsIn K mainGlobals "Cover" = some (some (.ref C_Cover)))
    (pg_Cover : PySem.W.plainGet K C_Cover Str.empty = true) (hd_Cover : PySem.W.hasDictIn K C_Cover = true) (po_Cover : PySem.W.plainOver K C_Cover = true) (sa_Cover : PySem.W.findIn K (.ref C_Cover) "__setattr__" = some (some (.builtin "object.__setattr__"))) (mk_Cover : PySem.W.makesIn K C_Cover = true) (kc_Cover : PySem.W.keepIn K (.ref C_Cover) = true)
    (na_Cover_name : PySem.W.findIn K (.ref C_Cover) "name" = some none)
    (na_Cover_condition : PySem.W.findIn K (.ref C_Cover) "condition" = some none)
    (na_Cover_clauses : PySem.W.findIn K (.ref C_Cover) "clauses" = some none)
    (na_Cover_houses : PySem.W.findIn K (.ref C_Cover) "houses" = some none)
    (na_Cover_deal : PySem.W.findIn K (.ref C_Cover) "deal" = some none)
    (na_Cover_waits : PySem.W.findIn K (.ref C_Cover) "waits" = some none)
    (kt_Deal_Deal : PySem.W.kitOne K (.ref C_Deal) (.ref C_Deal) = some true)
    (nd_C : ([C_Own, C_CauseIs, C_ThingIs, C_Over, C_Clause, C_Deal, C_Cover] : List Addr).Nodup)
    {fOwn___init__ : Addr} {odOwn___init__ anOwn___init__ : Option Addr} {slOwn___init__ : Array (Option Value)} {ocOwn___init__ kVOwn___init__ dcOwn___init__ pmOwn___init__ cdOwn___init__ ctOwn___init__ : Value}
    (a_Own___init__ : PySem.W.findIn K (.ref C_Own) "__init__" = some (some (.ref fOwn___init__)))
    (iOwn___init__ : PySem.W.isFn K (.ref fOwn___init__) = true) (lOwn___init__ : K.lookup fOwn___init__ = some ⟨ocOwn___init__, odOwn___init__, .func (PySem.W.fnOf "__init__" "Own.__init__" (defArgs s_Own___init__) (defBody s_Own___init__) (defScope s_Own___init__) .none kVOwn___init__ dcOwn___init__ pmOwn___init__ anOwn___init__ cdOwn___init__ ctOwn___init__), slOwn___init__⟩) (cOwn___init__ : PySem.W.codeIn K cdOwn___init__ "Own.__init__" = true) (kOwn___init__ : PySem.W.keepIn K (.ref fOwn___init__) = true)
    {fOwn_words : Addr} {odOwn_words anOwn_words : Option Addr} {slOwn_words : Array (Option Value)} {ocOwn_words kVOwn_words dcOwn_words pmOwn_words cdOwn_words ctOwn_words : Value}
    (a_Own_words : PySem.W.findIn K (.ref C_Own) "words" = some (some (.ref fOwn_words)))
    (iOwn_words : PySem.W.isFn K (.ref fOwn_words) = true) (lOwn_words : K.lookup fOwn_words = some ⟨ocOwn_words, odOwn_words, .func (PySem.W.fnOf "words" "Own.words" (defArgs s_Own_words) (defBody s_Own_words) (defScope s_Own_words) .none kVOwn_words dcOwn_words pmOwn_words anOwn_words cdOwn_words ctOwn_words), slOwn_words⟩) (cOwn_words : PySem.W.codeIn K cdOwn_words "Own.words" = true) (kOwn_words : PySem.W.keepIn K (.ref fOwn_words) = true)
    {fCauseIs___init__ : Addr} {odCauseIs___init__ anCauseIs___init__ : Option Addr} {slCauseIs___init__ : Array (Option Value)} {ocCauseIs___init__ kVCauseIs___init__ dcCauseIs___init__ pmCauseIs___init__ cdCauseIs___init__ ctCauseIs___init__ : Value}
    (a_CauseIs___init__ : PySem.W.findIn K (.ref C_CauseIs) "__init__" = some (some (.ref fCauseIs___init__)))
    (iCauseIs___init__ : PySem.W.isFn K (.ref fCauseIs___init__) = true) (lCauseIs___init__ : K.lookup fCauseIs___init__ = some ⟨ocCauseIs___init__, odCauseIs___init__, .func (PySem.W.fnOf "__init__" "CauseIs.__init__" (defArgs s_CauseIs___init__) (defBody s_CauseIs___init__) (defScope s_CauseIs___init__) .none kVCauseIs___init__ dcCauseIs___init__ pmCauseIs___init__ anCauseIs___init__ cdCauseIs___init__ ctCauseIs___init__), slCauseIs___init__⟩) (cCauseIs___init__ : PySem.W.codeIn K cdCauseIs___init__ "CauseIs.__init__" = true) (kCauseIs___init__ : PySem.W.keepIn K (.ref fCauseIs___init__) = true)
    {fCauseIs_holds : Addr} {odCauseIs_holds anCauseIs_holds : Option Addr} {slCauseIs_holds : Array (Option Value)} {ocCauseIs_holds kVCauseIs_holds dcCauseIs_holds pmCauseIs_holds cdCauseIs_holds ctCauseIs_holds : Value}
    (a_CauseIs_holds : PySem.W.findIn K (.ref C_CauseIs) "holds" = some (some (.ref fCauseIs_holds)))
    (iCauseIs_holds : PySem.W.isFn K (.ref fCauseIs_holds) = true) (lCauseIs_holds : K.lookup fCauseIs_holds = some ⟨ocCauseIs_holds, odCauseIs_holds, .func (PySem.W.fnOf "holds" "CauseIs.holds" (defArgs s_CauseIs_holds) (defBody s_CauseIs_holds) (defScope s_CauseIs_holds) .none kVCauseIs_holds dcCauseIs_holds pmCauseIs_holds anCauseIs_holds cdCauseIs_holds ctCauseIs_holds), slCauseIs_holds⟩) (cCauseIs_holds : PySem.W.codeIn K cdCauseIs_holds "CauseIs.holds" = true) (kCauseIs_holds : PySem.W.keepIn K (.ref fCauseIs_holds) = true)
    {fCauseIs_words : Addr} {odCauseIs_words anCauseIs_words : Option Addr} {slCauseIs_words : Array (Option Value)} {ocCauseIs_words kVCauseIs_words dcCauseIs_words pmCauseIs_words cdCauseIs_words ctCauseIs_words : Value}
    (a_CauseIs_words : PySem.W.findIn K (.ref C_CauseIs) "words" = some (some (.ref fCauseIs_words)))
    (iCauseIs_words : PySem.W.isFn K (.ref fCauseIs_words) = true) (lCauseIs_words : K.lookup fCauseIs_words = some ⟨ocCauseIs_words, odCauseIs_words, .func (PySem.W.fnOf "words" "CauseIs.words" (defArgs s_CauseIs_words) (defBody s_CauseIs_words) (defScope s_CauseIs_words) .none kVCauseIs_words dcCauseIs_words pmCauseIs_words anCauseIs_words cdCauseIs_words ctCauseIs_words), slCauseIs_words⟩) (cCauseIs_words : PySem.W.codeIn K cdCauseIs_words "CauseIs.words" = true) (kCauseIs_words : PySem.W.keepIn K (.ref fCauseIs_words) = true)
    {fThingIs___init__ : Addr} {odThingIs___init__ anThingIs___init__ : Option Addr} {slThingIs___init__ : Array (Option Value)} {ocThingIs___init__ kVThingIs___init__ dcThingIs___init__ pmThingIs___init__ cdThingIs___init__ ctThingIs___init__ : Value}
    (a_ThingIs___init__ : PySem.W.findIn K (.ref C_ThingIs) "__init__" = some (some (.ref fThingIs___init__)))
    (iThingIs___init__ : PySem.W.isFn K (.ref fThingIs___init__) = true) (lThingIs___init__ : K.lookup fThingIs___init__ = some ⟨ocThingIs___init__, odThingIs___init__, .func (PySem.W.fnOf "__init__" "ThingIs.__init__" (defArgs s_ThingIs___init__) (defBody s_ThingIs___init__) (defScope s_ThingIs___init__) .none kVThingIs___init__ dcThingIs___init__ pmThingIs___init__ anThingIs___init__ cdThingIs___init__ ctThingIs___init__), slThingIs___init__⟩) (cThingIs___init__ : PySem.W.codeIn K cdThingIs___init__ "ThingIs.__init__" = true) (kThingIs___init__ : PySem.W.keepIn K (.ref fThingIs___init__) = true)
    {fThingIs_holds : Addr} {odThingIs_holds anThingIs_holds : Option Addr} {slThingIs_holds : Array (Option Value)} {ocThingIs_holds kVThingIs_holds dcThingIs_holds pmThingIs_holds cdThingIs_holds ctThingIs_holds : Value}
    (a_ThingIs_holds : PySem.W.findIn K (.ref C_ThingIs) "holds" = some (some (.ref fThingIs_holds)))
    (iThingIs_holds : PySem.W.isFn K (.ref fThingIs_holds) = true) (lThingIs_holds : K.lookup fThingIs_holds = some ⟨ocThingIs_holds, odThingIs_holds, .func (PySem.W.fnOf "holds" "ThingIs.holds" (defArgs s_ThingIs_holds) (defBody s_ThingIs_holds) (defScope s_ThingIs_holds) .none kVThingIs_holds dcThingIs_holds pmThingIs_holds anThingIs_holds cdThingIs_holds ctThingIs_holds), slThingIs_holds⟩) (cThingIs_holds : PySem.W.codeIn K cdThingIs_holds "ThingIs.holds" = true) (kThingIs_holds : PySem.W.keepIn K (.ref fThingIs_holds) = true)
    {fThingIs_words : Addr} {odThingIs_words anThingIs_words : Option Addr} {slThingIs_words : Array (Option Value)} {ocThingIs_words kVThingIs_words dcThingIs_words pmThingIs_words cdThingIs_words ctThingIs_words : Value}
    (a_ThingIs_words : PySem.W.findIn K (.ref C_ThingIs) "words" = some (some (.ref fThingIs_words)))
    (iThingIs_words : PySem.W.isFn K (.ref fThingIs_words) = true) (lThingIs_words : K.lookup fThingIs_words = some ⟨ocThingIs_words, odThingIs_words, .func (PySem.W.fnOf "words" "ThingIs.words" (defArgs s_ThingIs_words) (defBody s_ThingIs_words) (defScope s_ThingIs_words) .none kVThingIs_words dcThingIs_words pmThingIs_words anThingIs_words cdThingIs_words ctThingIs_words), slThingIs_words⟩) (cThingIs_words : PySem.W.codeIn K cdThingIs_words "ThingIs.words" = true) (kThingIs_words : PySem.W.keepIn K (.ref fThingIs_words) = true)
    {fOver___init__ : Addr} {odOver___init__ anOver___init__ : Option Addr} {slOver___init__ : Array (Option Value)} {ocOver___init__ kVOver___init__ dcOver___init__ pmOver___init__ cdOver___init__ ctOver___init__ : Value}
    (a_Over___init__ : PySem.W.findIn K (.ref C_Over) "__init__" = some (some (.ref fOver___init__)))
    (iOver___init__ : PySem.W.isFn K (.ref fOver___init__) = true) (lOver___init__ : K.lookup fOver___init__ = some ⟨ocOver___init__, odOver___init__, .func (PySem.W.fnOf "__init__" "Over.__init__" (defArgs s_Over___init__) (defBody s_Over___init__) (defScope s_Over___init__) .none kVOver___init__ dcOver___init__ pmOver___init__ anOver___init__ cdOver___init__ ctOver___init__), slOver___init__⟩) (cOver___init__ : PySem.W.codeIn K cdOver___init__ "Over.__init__" = true) (kOver___init__ : PySem.W.keepIn K (.ref fOver___init__) = true)
    {fOver_holds : Addr} {odOver_holds anOver_holds : Option Addr} {slOver_holds : Array (Option Value)} {ocOver_holds kVOver_holds dcOver_holds pmOver_holds cdOver_holds ctOver_holds : Value}
    (a_Over_holds : PySem.W.findIn K (.ref C_Over) "holds" = some (some (.ref fOver_holds)))
    (iOver_holds : PySem.W.isFn K (.ref fOver_holds) = true) (lOver_holds : K.lookup fOver_holds = some ⟨ocOver_holds, odOver_holds, .func (PySem.W.fnOf "holds" "Over.holds" (defArgs s_Over_holds) (defBody s_Over_holds) (defScope s_Over_holds) .none kVOver_holds dcOver_holds pmOver_holds anOver_holds cdOver_holds ctOver_holds), slOver_holds⟩) (cOver_holds : PySem.W.codeIn K cdOver_holds "Over.holds" = true) (kOver_holds : PySem.W.keepIn K (.ref fOver_holds) = true)
    {fOver_words : Addr} {odOver_words anOver_words : Option Addr} {slOver_words : Array (Option Value)} {ocOver_words kVOver_words dcOver_words pmOver_words cdOver_words ctOver_words : Value}
    (a_Over_words : PySem.W.findIn K (.ref C_Over) "words" = some (some (.ref fOver_words)))
    (iOver_words : PySem.W.isFn K (.ref fOver_words) = true) (lOver_words : K.lookup fOver_words = some ⟨ocOver_words, odOver_words, .func (PySem.W.fnOf "words" "Over.words" (defArgs s_Over_words) (defBody s_Over_words) (defScope s_Over_words) .none kVOver_words dcOver_words pmOver_words anOver_words cdOver_words ctOver_words), slOver_words⟩) (cOver_words : PySem.W.codeIn K cdOver_words "Over.words" = true) (kOver_words : PySem.W.keepIn K (.ref fOver_words) = true)
    {fDeal___init__ : Addr} {odDeal___init__ anDeal___init__ : Option Addr} {slDeal___init__ : Array (Option Value)} {ocDeal___init__ kVDeal___init__ dcDeal___init__ pmDeal___init__ cdDeal___init__ ctDeal___init__ : Value}
    (a_Deal___init__ : PySem.W.findIn K (.ref C_Deal) "__init__" = some (some (.ref fDeal___init__)))
    (iDeal___init__ : PySem.W.isFn K (.ref fDeal___init__) = true) (lDeal___init__ : K.lookup fDeal___init__ = some ⟨ocDeal___init__, odDeal___init__, .func (PySem.W.fnOf "__init__" "Deal.__init__" (defArgs s_Deal___init__) (defBody s_Deal___init__) (defScope s_Deal___init__) .none kVDeal___init__ dcDeal___init__ pmDeal___init__ anDeal___init__ cdDeal___init__ ctDeal___init__), slDeal___init__⟩) (cDeal___init__ : PySem.W.codeIn K cdDeal___init__ "Deal.__init__" = true) (kDeal___init__ : PySem.W.keepIn K (.ref fDeal___init__) = true)
    {fDeal_counts_to : Addr} {odDeal_counts_to anDeal_counts_to : Option Addr} {slDeal_counts_to : Array (Option Value)} {ocDeal_counts_to kVDeal_counts_to dcDeal_counts_to pmDeal_counts_to cdDeal_counts_to ctDeal_counts_to : Value}
    (a_Deal_counts_to : PySem.W.findIn K (.ref C_Deal) "counts_to" = some (some (.ref fDeal_counts_to)))
    (iDeal_counts_to : PySem.W.isFn K (.ref fDeal_counts_to) = true) (lDeal_counts_to : K.lookup fDeal_counts_to = some ⟨ocDeal_counts_to, odDeal_counts_to, .func (PySem.W.fnOf "counts_to" "Deal.counts_to" (defArgs s_Deal_counts_to) (defBody s_Deal_counts_to) (defScope s_Deal_counts_to) .none kVDeal_counts_to dcDeal_counts_to pmDeal_counts_to anDeal_counts_to cdDeal_counts_to ctDeal_counts_to), slDeal_counts_to⟩) (cDeal_counts_to : PySem.W.codeIn K cdDeal_counts_to "Deal.counts_to" = true) (kDeal_counts_to : PySem.W.keepIn K (.ref fDeal_counts_to) = true)
    {fCover___init__ dvCover___init__ : Addr} {odCover___init__ anCover___init__ : Option Addr} {slCover___init__ : Array (Option Value)} {ocCover___init__ kVCover___init__ dcCover___init__ pmCover___init__ cdCover___init__ ctCover___init__ : Value}
    (a_Cover___init__ : PySem.W.findIn K (.ref C_Cover) "__init__" = some (some (.ref fCover___init__)))
    (iCover___init__ : PySem.W.isFn K (.ref fCover___init__) = true) (lCover___init__ : K.lookup fCover___init__ = some ⟨ocCover___init__, odCover___init__, .func (PySem.W.fnOf "__init__" "Cover.__init__" (defArgs s_Cover___init__) (defBody s_Cover___init__) (defScope s_Cover___init__) (.ref dvCover___init__) kVCover___init__ dcCover___init__ pmCover___init__ anCover___init__ cdCover___init__ ctCover___init__), slCover___init__⟩) (cCover___init__ : PySem.W.codeIn K cdCover___init__ "Cover.__init__" = true) (kCover___init__ : PySem.W.keepIn K (.ref fCover___init__) = true)
    {ndCover___init__ : Nat} (dlCover___init__ : K.lookup dvCover___init__ = some ⟨.type "tuple", none, .seq #[.none, .none, .bool false] ndCover___init__, #[]⟩)
    {fCover_asks : Addr} {odCover_asks anCover_asks : Option Addr} {slCover_asks : Array (Option Value)} {ocCover_asks kVCover_asks dcCover_asks pmCover_asks cdCover_asks ctCover_asks : Value}
    (a_Cover_asks : PySem.W.findIn K (.ref C_Cover) "asks" = some (some (.ref fCover_asks)))
    (iCover_asks : PySem.W.isFn K (.ref fCover_asks) = true) (lCover_asks : K.lookup fCover_asks = some ⟨ocCover_asks, odCover_asks, .func (PySem.W.fnOf "asks" "Cover.asks" (defArgs s_Cover_asks) (defBody s_Cover_asks) (defScope s_Cover_asks) .none kVCover_asks dcCover_asks pmCover_asks anCover_asks cdCover_asks ctCover_asks), slCover_asks⟩) (cCover_asks : PySem.W.codeIn K cdCover_asks "Cover.asks" = true) (kCover_asks : PySem.W.keepIn K (.ref fCover_asks) = true)
    {fClause___init__ : Addr} {odClause___init__ anClause___init__ : Option Addr} {slClause___init__ : Array (Option Value)} {ocClause___init__ kVClause___init__ dcClause___init__ pmClause___init__ cdClause___init__ ctClause___init__ : Value}
    (a_Clause___init__ : PySem.W.findIn K (.ref C_Clause) "__init__" = some (some (.ref fClause___init__)))
    (iClause___init__ : PySem.W.isFn K (.ref fClause___init__) = true) (lClause___init__ : K.lookup fClause___init__ = some ⟨ocClause___init__, odClause___init__, .func (PySem.W.fnOf "__init__" "Clause.__init__" (defArgs s_Clause___init__) (defBody s_Clause___init__) (defScope s_Clause___init__) .none kVClause___init__ dcClause___init__ pmClause___init__ anClause___init__ cdClause___init__ ctClause___init__), slClause___init__⟩) (cClause___init__ : PySem.W.codeIn K cdClause___init__ "Clause.__init__" = true) (kClause___init__ : PySem.W.keepIn K (.ref fClause___init__) = true)
    (bg_Clause___init__ : PySem.W.specialIn K (.ref C_Clause) "__getattribute__" = some (some (.builtin "type.__getattribute__"))) (br_Clause___init__ : PySem.W.readsIn K C_Clause (.type "type") = true) (bf_Clause___init__ : PySem.W.findCls K (.ref C_Clause) (.type "type") "__init__" = some (.val (.ref fClause___init__)))
    {w_WAYS : Addr} {nw_WAYS : Nat} {tk_WAYS0 tk_WAYS1 tk_WAYS2 tk_WAYS3 : Tok} (z_WAYS : PySem.W.nsIn K mainGlobals "WAYS" = some (some (.ref w_WAYS))) (lw_WAYS : K.lookup w_WAYS = some ⟨.type "tuple", none, .seq #[.str "event" tk_WAYS0, .str "thing" tk_WAYS1, .str "year" tk_WAYS2, .str "loss" tk_WAYS3] nw_WAYS, #[]⟩)
    {tk_CAUSE : Tok} (z_CAUSE : PySem.W.nsIn K mainGlobals "CAUSE" = some (some (.int 4 tk_CAUSE)))
    {tk_CENTS : Tok} (z_CENTS : PySem.W.nsIn K mainGlobals "CENTS" = some (some (.int 5 tk_CENTS)))
    {tk_COVERED_ONE : Tok} (z_COVERED_ONE : PySem.W.nsIn K mainGlobals "COVERED_ONE" = some (some (.str "self" tk_COVERED_ONE)))
    {tk_LETTERS : Tok} (z_LETTERS : PySem.W.nsIn K mainGlobals "LETTERS" = some (some (.str "abcdefghijklmnopqrstuvwxyz" tk_LETTERS)))
    {tk_LONGEST_NAME : Tok} (z_LONGEST_NAME : PySem.W.nsIn K mainGlobals "LONGEST_NAME" = some (some (.int 8 tk_LONGEST_NAME)))
    {tk_MOST_CENTS : Tok} (z_MOST_CENTS : PySem.W.nsIn K mainGlobals "MOST_CENTS" = some (some (.int 999999999999 tk_MOST_CENTS)))
    {tk_MOST_CLAUSES : Tok} (z_MOST_CLAUSES : PySem.W.nsIn K mainGlobals "MOST_CLAUSES" = some (some (.int 8 tk_MOST_CLAUSES)))
    {tk_MOST_PLACES : Tok} (z_MOST_PLACES : PySem.W.nsIn K mainGlobals "MOST_PLACES" = some (some (.int 8 tk_MOST_PLACES)))
    {tk_MOST_TURNS : Tok} (z_MOST_TURNS : PySem.W.nsIn K mainGlobals "MOST_TURNS" = some (some (.int 100 tk_MOST_TURNS)))
    {tk_THING : Tok} (z_THING : PySem.W.nsIn K mainGlobals "THING" = some (some (.int 3 tk_THING)))
    (z_ValueError : PySem.W.nsIn K mainGlobals "ValueError" = some none)
    (z_bool : PySem.W.nsIn K mainGlobals "bool" = some none)
    (z_enumerate : PySem.W.nsIn K mainGlobals "enumerate" = some none)
    (z_int : PySem.W.nsIn K mainGlobals "int" = some none)
    (z_isinstance : PySem.W.nsIn K mainGlobals "isinstance" = some none)
    (z_len : PySem.W.nsIn K mainGlobals "len" = some none)
    (z_list : PySem.W.nsIn K mainGlobals "list" = some none)
    (z_min : PySem.W.nsIn K mainGlobals "min" = some none)
    (z_range : PySem.W.nsIn K mainGlobals "range" = some none)
    (z_str : PySem.W.nsIn K mainGlobals "str" = some none)
    (z_sum : PySem.W.nsIn K mainGlobals "sum" = some none)
    {C_CoverError : Addr} (q_CoverError : PySem.W.nsIn K mainGlobals "CoverError" = some (some (.ref C_CoverError)))
    {C_NoShares : Addr} (q_NoShares : PySem.W.nsIn K mainGlobals "NoShares" = some (some (.ref C_NoShares)))
    {C_NoEntry : Addr} (q_NoEntry : PySem.W.nsIn K mainGlobals "NoEntry" = some (some (.ref C_NoEntry)))
    {C_NoClause : Addr} (q_NoClause : PySem.W.nsIn K mainGlobals "NoClause" = some (some (.ref C_NoClause)))
    {C_NoCover : Addr} (q_NoCover : PySem.W.nsIn K mainGlobals "NoCover" = some (some (.ref C_NoCover)))
    {C_NoBook : Addr} (q_NoBook : PySem.W.nsIn K mainGlobals "NoBook" = some (some (.ref C_NoBook)))
    (r_NoCover : PySem.W.excIn K C_NoCover [.type "ValueError", .type "Exception", .type "BaseException", .type "object"] "ValueError.__new__" = true)
    (ga_NoCover : PySem.W.findIn K (.ref C_NoCover) "__getattribute__" = some (some (.builtin "BaseException.__getattribute__")))
    (gt_NoCover : PySem.W.findIn K (.ref C_NoCover) "__getattr__" = some none)
    (cl_NoCover : PySem.W.findIn K (.ref C_NoCover) "__class__" = some (some (.builtin "object.__class__")))
    (ob_NoCover : PySem.W.mroIn K C_NoCover (.type "object") = some true)
    (sb_NoCover : PySem.W.subIn K (.ref C_NoCover) (.type "BaseException") = some true)
    (ic_NoCover : PySem.W.isClsIn K C_NoCover = true)
    (hd_NoCover : PySem.W.hasDictIn K C_NoCover = true)
    (v_NoCover : PySem.W.kitOne K (.ref C_NoCover) (.type "ValueError") = some true)
    (k_NoCover_CoverError : PySem.W.kitOne K (.ref C_NoCover) (.ref C_CoverError) = some true)
    (k_NoCover_NoShares : PySem.W.kitOne K (.ref C_NoCover) (.ref C_NoShares) = some false)
    (k_NoCover_NoEntry : PySem.W.kitOne K (.ref C_NoCover) (.ref C_NoEntry) = some false)
    (k_NoCover_NoClause : PySem.W.kitOne K (.ref C_NoCover) (.ref C_NoClause) = some false)
    (k_NoCover_NoCover : PySem.W.kitOne K (.ref C_NoCover) (.ref C_NoCover) = some true)
    (k_NoCover_NoBook : PySem.W.kitOne K (.ref C_NoCover) (.ref C_NoBook) = some false)
    (h_NoCover_CoverError : PySem.W.exmOne K (.ref C_NoCover) (.ref C_CoverError) = some true)
    (r_NoShares : PySem.W.excIn K C_NoShares [.type "ValueError", .type "Exception", .type "BaseException", .type "object"] "ValueError.__new__" = true)
    (ga_NoShares : PySem.W.findIn K (.ref C_NoShares) "__getattribute__" = some (some (.builtin "BaseException.__getattribute__")))
    (gt_NoShares : PySem.W.findIn K (.ref C_NoShares) "__getattr__" = some none)
    (cl_NoShares : PySem.W.findIn K (.ref C_NoShares) "__class__" = some (some (.builtin "object.__class__")))
    (ob_NoShares : PySem.W.mroIn K C_NoShares (.type "object") = some true)
    (sb_NoShares : PySem.W.subIn K (.ref C_NoShares) (.type "BaseException") = some true)
    (ic_NoShares : PySem.W.isClsIn K C_NoShares = true)
    (hd_NoShares : PySem.W.hasDictIn K C_NoShares = true)
    (v_NoShares : PySem.W.kitOne K (.ref C_NoShares) (.type "ValueError") = some true)
    (k_NoShares_CoverError : PySem.W.kitOne K (.ref C_NoShares) (.ref C_CoverError) = some true)
    (k_NoShares_NoShares : PySem.W.kitOne K (.ref C_NoShares) (.ref C_NoShares) = some true)
    (k_NoShares_NoEntry : PySem.W.kitOne K (.ref C_NoShares) (.ref C_NoEntry) = some false)
    (k_NoShares_NoClause : PySem.W.kitOne K (.ref C_NoShares) (.ref C_NoClause) = some false)
    (k_NoShares_NoCover : PySem.W.kitOne K (.ref C_NoShares) (.ref C_NoCover) = some false)
    (k_NoShares_NoBook : PySem.W.kitOne K (.ref C_NoShares) (.ref C_NoBook) = some false)
    (h_NoShares_CoverError : PySem.W.exmOne K (.ref C_NoShares) (.ref C_CoverError) = some true) :
    ∃ fd : FuncData, (∀ (s : Shared) (v : Value), BindsTo s fd ⟨[v], []⟩ [("_law_script", v)]) ∧ ∀ base : Heap, K.In base → base.Ns mainGlobals mg → FnOk l.prog w K mg base CX0 9 fa fd ["_law_script"] (spLaw K) := by
  have e := hfa.symm.trans (PySem.W.mg_of X G a19)
  cases e
  have F0 := fun_mk (st := s_is_whole) l0 c0 k0
  have B0 := F0.binds (ps := ["thing"]) fun _ _ _ _ _ _ us hl => match us, hl with | [_], _ => rfl
  have D_is_whole : Def K mg "is_whole" s_is_whole ["thing"] := ⟨f0, _, F0, B0, PySem.W.mg_of X G a0⟩
  have F1 := fun_mk (st := s_show_cents) l1 c1 k1
  have B1 := F1.binds (ps := ["cents"]) fun _ _ _ _ _ _ us hl => match us, hl with | [_], _ => rfl
  have D_show_cents : Def K mg "show_cents" s_show_cents ["cents"] := ⟨f1, _, F1, B1, PySem.W.mg_of X G a1⟩
  have F2 := fun_mk (st := s_has_letters_alone) l2 c2 k2
  have B2 := F2.binds (ps := ["text"]) fun _ _ _ _ _ _ us hl => match us, hl with | [_], _ => rfl
  have D_has_letters_alone : Def K mg "has_letters_alone" s_has_letters_alone ["text"] := ⟨f2, _, F2, B2, PySem.W.mg_of X G a2⟩
  have F3 := fun_mk (st := s_is_name) l3 c3 k3
  have B3 := F3.binds (ps := ["thing"]) fun _ _ _ _ _ _ us hl => match us, hl with | [_], _ => rfl
  have D_is_name : Def K mg "is_name" s_is_name ["thing"] := ⟨f3, _, F3, B3, PySem.W.mg_of X G a3⟩
  have F4 := fun_mk (st := s_is_amount) l4 c4 k4
  have B4 := F4.binds (ps := ["thing"]) fun _ _ _ _ _ _ us hl => match us, hl with | [_], _ => rfl
  have D_is_amount : Def K mg "is_amount" s_is_amount ["thing"] := ⟨f4, _, F4, B4, PySem.W.mg_of X G a4⟩
  have F5 := fun_mk (st := s_are_weights) l5 c5 k5
  have B5 := F5.binds (ps := ["thing"]) fun _ _ _ _ _ _ us hl => match us, hl with | [_], _ => rfl
  have D_are_weights : Def K mg "are_weights" s_are_weights ["thing"] := ⟨f5, _, F5, B5, PySem.W.mg_of X G a5⟩
  have F6 := fun_mk (st := s_may_have) l6 c6 k6
  have B6 := F6.binds (ps := ["weight", "dealt", "total", "turn"]) fun _ _ _ _ _ _ us hl => match us, hl with | [_, _, _, _], _ => rfl
  have D_may_have : Def K mg "may_have" s_may_have ["weight", "dealt", "total", "turn"] := ⟨f6, _, F6, B6, PySem.W.mg_of X G a6⟩
  have F7 := fun_mk (st := s_due_by) l7 c7 k7
  have B7 := F7.binds (ps := ["weight", "dealt", "total"]) fun _ _ _ _ _ _ us hl => match us, hl with | [_, _, _], _ => rfl
  have D_due_by : Def K mg "due_by" s_due_by ["weight", "dealt", "total"] := ⟨f7, _, F7, B7, PySem.W.mg_of X G a7⟩
  have F8 := fun_mk (st := s_place_of_turn) l8 c8 k8
  have B8 := F8.binds (ps := ["weights", "dealt", "turn"]) fun _ _ _ _ _ _ us hl => match us, hl with | [_, _, _], _ => rfl
  have D_place_of_turn : Def K mg "place_of_turn" s_place_of_turn ["weights", "dealt", "turn"] := ⟨f8, _, F8, B8, PySem.W.mg_of X G a8⟩
  have F9 := fun_mk (st := s_turns) l9 c9 k9
  have B9 := F9.binds (ps := ["weights"]) fun _ _ _ _ _ _ us hl => match us, hl with | [_], _ => rfl
  have D_turns : Def K mg "turns" s_turns ["weights"] := ⟨f9, _, F9, B9, PySem.W.mg_of X G a9⟩
  have F10 := fun_mk (st := s_check_houses) l10 c10 k10
  have B10 := F10.binds (ps := ["houses"]) fun _ _ _ _ _ _ us hl => match us, hl with | [_], _ => rfl
  have D_check_houses : Def K mg "check_houses" s_check_houses ["houses"] := ⟨f10, _, F10, B10, PySem.W.mg_of X G a10⟩
  have F11 := fun_mk (st := s_checked_amount) l11 c11 k11
  have B11 := F11.binds (ps := ["thing"]) fun _ _ _ _ _ _ us hl => match us, hl with | [_], _ => rfl
  have D_checked_amount : Def K mg "checked_amount" s_checked_amount ["thing"] := ⟨f11, _, F11, B11, PySem.W.mg_of X G a11⟩
  have F12 := fun_mk (st := s__law_cell) l12 c12 k12
  have B12 := F12.binds (ps := ["_law_script", "_law_k"]) fun _ _ _ _ _ _ us hl => match us, hl with | [_, _], _ => rfl
  have D__law_cell : Def K mg "_law_cell" s__law_cell ["_law_script", "_law_k"] := ⟨f12, _, F12, B12, PySem.W.mg_of X G a12⟩
  have F13 := fun_mk (st := s__law_names) l13 c13 k13
  have B13 := F13.binds (ps := ["_law_cell_here"]) fun _ _ _ _ _ _ us hl => match us, hl with | [_], _ => rfl
  have D__law_names : Def K mg "_law_names" s__law_names ["_law_cell_here"] := ⟨f13, _, F13, B13, PySem.W.mg_of X G a13⟩
  have F14 := fun_mk (st := s__law_houses) l14 c14 k14
  have B14 := F14.binds (ps := ["_law_script", "_law_names_here"]) fun _ _ _ _ _ _ us hl => match us, hl with | [_, _], _ => rfl
  have D__law_houses : Def K mg "_law_houses" s__law_houses ["_law_script", "_law_names_here"] := ⟨f14, _, F14, B14, PySem.W.mg_of X G a14⟩
  have F15 := fun_mk (st := s__law_refused) l15 c15 k15
  have B15 := F15.binds (ps := ["_law_name", "_law_clauses", "_law_pairs"]) fun _ _ _ _ _ _ us hl => match us, hl with | [_, _, _], _ => rfl
  have D__law_refused : Def K mg "_law_refused" s__law_refused ["_law_name", "_law_clauses", "_law_pairs"] := ⟨f15, _, F15, B15, PySem.W.mg_of X G a15⟩
  have F16 := fun_mk (st := s__law_bad_pairs) l16 c16 k16
  have B16 := F16.binds (ps := ["_law_pairs", "_law_way", "_law_cell_here"]) fun _ _ _ _ _ _ us hl => match us, hl with | [_, _, _], _ => rfl
  have D__law_bad_pairs : Def K mg "_law_bad_pairs" s__law_bad_pairs ["_law_pairs", "_law_way", "_law_cell_here"] := ⟨f16, _, F16, B16, PySem.W.mg_of X G a16⟩
  have F17 := fun_mk (st := s__law_kept) l17 c17 k17
  have B17 := F17.binds (ps := ["_law_cover", "_law_name", "_law_clauses", "_law_pairs", "_law_waits"]) fun _ _ _ _ _ _ us hl => match us, hl with | [_, _, _, _, _], _ => rfl
  have D__law_kept : Def K mg "_law_kept" s__law_kept ["_law_cover", "_law_name", "_law_clauses", "_law_pairs", "_law_waits"] := ⟨f17, _, F17, B17, PySem.W.mg_of X G a17⟩
  have F18 := fun_mk (st := s__law_asks) l18 c18 k18
  have B18 := F18.binds (ps := ["_law_cover", "_law_way", "_law_name", "_law_cents"]) fun _ _ _ _ _ _ us hl => match us, hl with | [_, _, _, _], _ => rfl
  have D__law_asks : Def K mg "_law_asks" s__law_asks ["_law_cover", "_law_way", "_law_name", "_law_cents"] := ⟨f18, _, F18, B18, PySem.W.mg_of X G a18⟩
  have F19 := fun_mk (st := s_law) l19 c19 k19
  have B19 := F19.binds (ps := ["_law_script"]) fun _ _ _ _ _ _ us hl => match us, hl with | [_], _ => rfl
  have F_Own___init__ := fun_mk (x := "__init__") (qual := "Own.__init__") (st := s_Own___init__) lOwn___init__ cOwn___init__ kOwn___init__
  have B_Own___init__ := F_Own___init__.binds (ps := ["self", "by", "cents"]) fun _ _ _ _ _ _ us hl => match us, hl with | [_, _, _], _ => rfl
  have F_Own_words := fun_mk (x := "words") (qual := "Own.words") (st := s_Own_words) lOwn_words cOwn_words kOwn_words
  have B_Own_words := F_Own_words.binds (ps := ["self"]) fun _ _ _ _ _ _ us hl => match us, hl with | [_], _ => rfl
  have F_CauseIs___init__ := fun_mk (x := "__init__") (qual := "CauseIs.__init__") (st := s_CauseIs___init__) lCauseIs___init__ cCauseIs___init__ kCauseIs___init__
  have B_CauseIs___init__ := F_CauseIs___init__.binds (ps := ["self", "name"]) fun _ _ _ _ _ _ us hl => match us, hl with | [_, _], _ => rfl
  have F_CauseIs_holds := fun_mk (x := "holds") (qual := "CauseIs.holds") (st := s_CauseIs_holds) lCauseIs_holds cCauseIs_holds kCauseIs_holds
  have B_CauseIs_holds := F_CauseIs_holds.binds (ps := ["self", "loss"]) fun _ _ _ _ _ _ us hl => match us, hl with | [_, _], _ => rfl
  have F_CauseIs_words := fun_mk (x := "words") (qual := "CauseIs.words") (st := s_CauseIs_words) lCauseIs_words cCauseIs_words kCauseIs_words
  have B_CauseIs_words := F_CauseIs_words.binds (ps := ["self"]) fun _ _ _ _ _ _ us hl => match us, hl with | [_], _ => rfl
  have F_ThingIs___init__ := fun_mk (x := "__init__") (qual := "ThingIs.__init__") (st := s_ThingIs___init__) lThingIs___init__ cThingIs___init__ kThingIs___init__
  have B_ThingIs___init__ := F_ThingIs___init__.binds (ps := ["self", "name"]) fun _ _ _ _ _ _ us hl => match us, hl with | [_, _], _ => rfl
  have F_ThingIs_holds := fun_mk (x := "holds") (qual := "ThingIs.holds") (st := s_ThingIs_holds) lThingIs_holds cThingIs_holds kThingIs_holds
  have B_ThingIs_holds := F_ThingIs_holds.binds (ps := ["self", "loss"]) fun _ _ _ _ _ _ us hl => match us, hl with | [_, _], _ => rfl
  have F_ThingIs_words := fun_mk (x := "words") (qual := "ThingIs.words") (st := s_ThingIs_words) lThingIs_words cThingIs_words kThingIs_words
  have B_ThingIs_words := F_ThingIs_words.binds (ps := ["self"]) fun _ _ _ _ _ _ us hl => match us, hl with | [_], _ => rfl
  have F_Over___init__ := fun_mk (x := "__init__") (qual := "Over.__init__") (st := s_Over___init__) lOver___init__ cOver___init__ kOver___init__
  have B_Over___init__ := F_Over___init__.binds (ps := ["self", "cents"]) fun _ _ _ _ _ _ us hl => match us, hl with | [_, _], _ => rfl
  have F_Over_holds := fun_mk (x := "holds") (qual := "Over.holds") (st := s_Over_holds) lOver_holds cOver_holds kOver_holds
  have B_Over_holds := F_Over_holds.binds (ps := ["self", "loss"]) fun _ _ _ _ _ _ us hl => match us, hl with | [_, _], _ => rfl
  have F_Over_words := fun_mk (x := "words") (qual := "Over.words") (st := s_Over_words) lOver_words cOver_words kOver_words
  have B_Over_words := F_Over_words.binds (ps := ["self"]) fun _ _ _ _ _ _ us hl => match us, hl with | [_], _ => rfl
  have F_Deal___init__ := fun_mk (x := "__init__") (qual := "Deal.__init__") (st := s_Deal___init__) lDeal___init__ cDeal___init__ kDeal___init__
  have B_Deal___init__ := F_Deal___init__.binds (ps := ["self", "weights"]) fun _ _ _ _ _ _ us hl => match us, hl with | [_, _], _ => rfl
  have F_Deal_counts_to := fun_mk (x := "counts_to") (qual := "Deal.counts_to") (st := s_Deal_counts_to) lDeal_counts_to cDeal_counts_to kDeal_counts_to
  have B_Deal_counts_to := F_Deal_counts_to.binds (ps := ["self", "n"]) fun _ _ _ _ _ _ us hl => match us, hl with | [_, _], _ => rfl
  have F_Cover___init__ := funD_mk (x := "__init__") (qual := "Cover.__init__") (st := s_Cover___init__) lCover___init__ cCover___init__ kCover___init__
  have B_Cover___init__ : Binds K _ ["self", "name", "condition", "clauses", "houses", "waits"] [] := fun s us X hl => by
    rw [List.append_nil] at hl ⊢
    match us, hl with | [_, _, _, _, _, _], _ => exact BindsTo.of_defaults (fd := PySem.W.fnOf "__init__" "Cover.__init__" (defArgs s_Cover___init__) (defBody s_Cover___init__) (defScope s_Cover___init__) (.ref dvCover___init__) kVCover___init__ dcCover___init__ pmCover___init__ anCover___init__ cdCover___init__ ctCover___init__) rfl (X _ _ dlCover___init__) rfl rfl rfl
  have F_Cover_asks := fun_mk (x := "asks") (qual := "Cover.asks") (st := s_Cover_asks) lCover_asks cCover_asks kCover_asks
  have B_Cover_asks := F_Cover_asks.binds (ps := ["self", "loss"]) fun _ _ _ _ _ _ us hl => match us, hl with | [_, _], _ => rfl
  have F_Clause___init__ := fun_mk (x := "__init__") (qual := "Clause.__init__") (st := s_Clause___init__) lClause___init__ cClause___init__ kClause___init__
  have B_Clause___init__ := F_Clause___init__.binds (ps := ["self", "by"]) fun _ _ _ _ _ _ us hl => match us, hl with | [_, _], _ => rfl
  have H_Own_make : Mk K C_Own fOwn___init__ := ⟨mk_Own, a_Own___init__, iOwn___init__, kc_Own⟩
  have H_Own_words : Meth K C_Own "words" fOwn_words := ⟨a_Own_words, iOwn_words, kOwn_words⟩
  have H_CauseIs_make : Mk K C_CauseIs fCauseIs___init__ := ⟨mk_CauseIs, a_CauseIs___init__, iCauseIs___init__, kc_CauseIs⟩
  have H_CauseIs_holds : Meth K C_CauseIs "holds" fCauseIs_holds := ⟨a_CauseIs_holds, iCauseIs_holds, kCauseIs_holds⟩
  have H_CauseIs_words : Meth K C_CauseIs "words" fCauseIs_words := ⟨a_CauseIs_words, iCauseIs_words, kCauseIs_words⟩
  have H_ThingIs_make : Mk K C_ThingIs fThingIs___init__ := ⟨mk_ThingIs, a_ThingIs___init__, iThingIs___init__, kc_ThingIs⟩
  have H_ThingIs_holds : Meth K C_ThingIs "holds" fThingIs_holds := ⟨a_ThingIs_holds, iThingIs_holds, kThingIs_holds⟩
  have H_ThingIs_words : Meth K C_ThingIs "words" fThingIs_words := ⟨a_ThingIs_words, iThingIs_words, kThingIs_words⟩
  have H_Over_make : Mk K C_Over fOver___init__ := ⟨mk_Over, a_Over___init__, iOver___init__, kc_Over⟩
  have H_Over_holds : Meth K C_Over "holds" fOver_holds := ⟨a_Over_holds, iOver_holds, kOver_holds⟩
  have H_Over_words : Meth K C_Over "words" fOver_words := ⟨a_Over_words, iOver_words, kOver_words⟩
  have H_Deal_make : Mk K C_Deal fDeal___init__ := ⟨mk_Deal, a_Deal___init__, iDeal___init__, kc_Deal⟩
  have H_Deal_counts_to : Meth K C_Deal "counts_to" fDeal_counts_to := ⟨a_Deal_counts_to, iDeal_counts_to, kDeal_counts_to⟩
  have H_Cover_make : Mk K C_Cover fCover___init__ := ⟨mk_Cover, a_Cover___init__, iCover___init__, kc_Cover⟩
  have H_Cover_asks : Meth K C_Cover "asks" fCover_asks := ⟨a_Cover_asks, iCover_asks, kCover_asks⟩
  have Z_Clause___init__ : BMeth K C_Clause "__init__" fClause___init__ := ⟨bg_Clause___init__, br_Clause___init__, bf_Clause___init__, kClause___init__⟩
  have L : Kl K mg C_Own C_CauseIs C_ThingIs C_Over C_Clause C_Deal C_Cover := ⟨PySem.W.mg_of X G q_Own, ⟨pg_Own, hd_Own, po_Own, sa_Own⟩, na_Own_cents, na_Own_by, PySem.W.mg_of X G q_CauseIs, ⟨pg_CauseIs, hd_CauseIs, po_CauseIs, sa_CauseIs⟩, na_CauseIs_name, PySem.W.mg_of X G q_ThingIs, ⟨pg_ThingIs, hd_ThingIs, po_ThingIs, sa_ThingIs⟩, na_ThingIs_name, PySem.W.mg_of X G q_Over, ⟨pg_Over, hd_Over, po_Over, sa_Over⟩, na_Over_cents, PySem.W.mg_of X G q_Clause, ⟨pg_Clause, hd_Clause, po_Clause, sa_Clause⟩, na_Clause_by, PySem.W.mg_of X G q_Deal, ⟨pg_Deal, hd_Deal, po_Deal, sa_Deal⟩, na_Deal_wheel, na_Deal_weights, fun e => .ins e ⟨pg_Deal, hd_Deal, po_Deal, sa_Deal⟩ ha_Deal gs tk hm_Deal, PySem.W.mg_of X G q_Cover, ⟨pg_Cover, hd_Cover, po_Cover, sa_Cover⟩, na_Cover_name, na_Cover_condition, na_Cover_clauses, na_Cover_houses, na_Cover_deal, na_Cover_waits, kt_Deal_Deal, nd_C⟩
  have T : Txt K mg := ⟨⟨tk_CAUSE, PySem.W.mg_of X G z_CAUSE⟩, ⟨tk_CENTS, PySem.W.mg_of X G z_CENTS⟩, ⟨tk_COVERED_ONE, PySem.W.mg_of X G z_COVERED_ONE⟩, ⟨tk_LETTERS, PySem.W.mg_of X G z_LETTERS⟩, ⟨tk_LONGEST_NAME, PySem.W.mg_of X G z_LONGEST_NAME⟩, ⟨tk_MOST_CENTS, PySem.W.mg_of X G z_MOST_CENTS⟩, ⟨tk_MOST_CLAUSES, PySem.W.mg_of X G z_MOST_CLAUSES⟩, ⟨tk_MOST_PLACES, PySem.W.mg_of X G z_MOST_PLACES⟩, ⟨tk_MOST_TURNS, PySem.W.mg_of X G z_MOST_TURNS⟩, ⟨tk_THING, PySem.W.mg_of X G z_THING⟩, PySem.W.mg_none_of X G z_ValueError, PySem.W.mg_none_of X G z_bool, PySem.W.mg_none_of X G z_enumerate, PySem.W.mg_none_of X G z_int, PySem.W.mg_none_of X G z_isinstance, PySem.W.mg_none_of X G z_len, PySem.W.mg_none_of X G z_list, PySem.W.mg_none_of X G z_min, PySem.W.mg_none_of X G z_range, PySem.W.mg_none_of X G z_str, PySem.W.mg_none_of X G z_sum, ⟨w_WAYS, PySem.W.mg_of X G z_WAYS, fun H => .inr ⟨_, _, _, lw_WAYS, rfl, rfl, by show 4 ≤ sizeLine; rw [sizeLine_eq]; decide, .cons ⟨_, rfl⟩ (.cons ⟨_, rfl⟩ (.cons ⟨_, rfl⟩ (.cons ⟨_, rfl⟩ (.nil))))⟩⟩⟩
  have Z : Xc K mg C_CoverError C_NoShares C_NoEntry C_NoClause C_NoCover C_NoBook := ⟨PySem.W.mg_of X G q_CoverError, PySem.W.mg_of X G q_NoShares, PySem.W.mg_of X G q_NoEntry, PySem.W.mg_of X G q_NoClause, PySem.W.mg_of X G q_NoCover, PySem.W.mg_of X G q_NoBook, ⟨PySem.W.mg_of X G q_NoCover, _, _, _, _, r_NoCover, PySem.F.excBase_ValueError⟩, ⟨ga_NoCover, gt_NoCover, cl_NoCover, ob_NoCover, sb_NoCover, ic_NoCover, hd_NoCover, gs, tk⟩, v_NoCover, k_NoCover_CoverError, k_NoCover_NoShares, k_NoCover_NoEntry, k_NoCover_NoClause, k_NoCover_NoCover, k_NoCover_NoBook, h_NoCover_CoverError, ⟨PySem.W.mg_of X G q_NoShares, _, _, _, _, r_NoShares, PySem.F.excBase_ValueError⟩, ⟨ga_NoShares, gt_NoShares, cl_NoShares, ob_NoShares, sb_NoShares, ic_NoShares, hd_NoShares, gs, tk⟩, v_NoShares, k_NoShares_CoverError, k_NoShares_NoShares, k_NoShares_NoEntry, k_NoShares_NoClause, k_NoShares_NoCover, k_NoShares_NoBook, h_NoShares_CoverError⟩
  refine ⟨PySem.W.fnOf "law" "law" (defArgs s_law) (defBody s_law) (defScope s_law) .none kV19 dc19 pm19 an19 cd19 ct19, fun s v => .of_eq rfl, fun base _ _ => ?_⟩
  have Cis_whole : Cal l.prog w K mg base 1 "is_whole" ["thing"] (spWhole K) := D_is_whole.cal fun f fd F => ok_is_whole F T
  have Cis_amount : Cal l.prog w K mg base 2 "is_amount" ["thing"] (spInB K 999999999999) := D_is_amount.cal fun f fd F => ok_is_amount F T Cis_whole
  have Cchecked_amount : Cal l.prog w K mg base 3 "checked_amount" ["thing"] spChk := D_checked_amount.cal fun f fd F => ok_checked_amount F T Cis_amount
  have Cshow_cents : Cal l.prog w K mg base 1 "show_cents" ["cents"] spShow := D_show_cents.cal fun f fd F => ok_show_cents F T
  have BClause___init__ : BCal l.prog w K mg base 2 "Clause" "__init__" ["self", "by"] (spCI K) := ⟨_, _, _, ok_Clause___init__ F_Clause___init__ T, B_Clause___init__, Z_Clause___init__, L.mg_Clause⟩
  have KOwn : KCal l.prog w K mg base 4 "Own" C_Own ["self", "by", "cents"] (spOwn C_Own C_CauseIs C_ThingIs C_Over) := ⟨_, _, H_Own_make, ok_Own___init__ F_Own___init__ T L BClause___init__ Cchecked_amount, B_Own___init__, L.mg_Own⟩
  have KCauseIs : KCal l.prog w K mg base 1 "CauseIs" C_CauseIs ["self", "name"] (spMkN C_Own C_CauseIs C_ThingIs C_Over C_CauseIs .cau) := ⟨_, _, H_CauseIs_make, ok_CauseIs___init__ F_CauseIs___init__ T L, B_CauseIs___init__, L.mg_CauseIs⟩
  have KThingIs : KCal l.prog w K mg base 1 "ThingIs" C_ThingIs ["self", "name"] (spMkN C_Own C_CauseIs C_ThingIs C_Over C_ThingIs .thi) := ⟨_, _, H_ThingIs_make, ok_ThingIs___init__ F_ThingIs___init__ T L, B_ThingIs___init__, L.mg_ThingIs⟩
  have KOver : KCal l.prog w K mg base 1 "Over" C_Over ["self", "cents"] (spMkO C_Own C_CauseIs C_ThingIs C_Over) := ⟨_, _, H_Over_make, ok_Over___init__ F_Over___init__ T L, B_Over___init__, L.mg_Over⟩
  have Mholds : MFam l.prog w K mg base 1 (FamH C_Own C_CauseIs C_ThingIs C_Over) "holds" ["self", "loss"] (spHolds C_Own C_CauseIs C_ThingIs C_Over) := ⟨fun C hC => by
    rcases hC with rfl | rfl | rfl
    · exact ⟨⟨_, _, ok_CauseIs_holds F_CauseIs_holds T L, B_CauseIs_holds, H_CauseIs_holds⟩, L.cl_CauseIs⟩
    · exact ⟨⟨_, _, ok_ThingIs_holds F_ThingIs_holds T L, B_ThingIs_holds, H_ThingIs_holds⟩, L.cl_ThingIs⟩
    · exact ⟨⟨_, _, ok_Over_holds F_Over_holds T L, B_Over_holds, H_Over_holds⟩, L.cl_Over⟩⟩
  have Mwords : MFam l.prog w K mg base 2 (FamW C_Own C_CauseIs C_ThingIs C_Over) "words" ["self"] (spWords C_Own C_CauseIs C_ThingIs C_Over) := ⟨fun C hC => by
    rcases hC with rfl | rfl | rfl | rfl
    · exact ⟨⟨_, _, ok_Own_words F_Own_words T L Cshow_cents, B_Own_words, H_Own_words⟩, L.cl_Own⟩
    · exact ⟨⟨_, _, ok_CauseIs_words F_CauseIs_words T L, B_CauseIs_words, H_CauseIs_words⟩, L.cl_CauseIs⟩
    · exact ⟨⟨_, _, ok_ThingIs_words F_ThingIs_words T L, B_ThingIs_words, H_ThingIs_words⟩, L.cl_ThingIs⟩
    · exact ⟨⟨_, _, ok_Over_words F_Over_words T L Cshow_cents, B_Over_words, H_Over_words⟩, L.cl_Over⟩⟩
  have Care_weights : Cal l.prog w K mg base 2 "are_weights" ["thing"] spWeights := D_are_weights.cal fun f fd F => ok_are_weights F T Cis_whole
  have Care_no : Cal l.prog w K mg base 2 "are_weights" ["thing"] (spAreNo K) := D_are_weights.cal fun f fd F => ok_are_no F T Cis_whole
  have Cmay_have : Cal l.prog w K mg base 1 "may_have" ["weight", "dealt", "total", "turn"] spMay := D_may_have.cal fun f fd F => ok_may_have F T
  have Cdue_by : Cal l.prog w K mg base 1 "due_by" ["weight", "dealt", "total"] spDue := D_due_by.cal fun f fd F => ok_due_by F T
  have Cplace_of_turn : Cal l.prog w K mg base 2 "place_of_turn" ["weights", "dealt", "turn"] spPlace := D_place_of_turn.cal fun f fd F => ok_place_of_turn F T Cmay_have Cdue_by
  have Cturns : Cal l.prog w K mg base 3 "turns" ["weights"] spTurns := D_turns.cal fun f fd F => ok_turns F T Care_weights Cplace_of_turn
  have Cturns_no : CalX l.prog w K mg base 3 "turns" ["weights"] (spTurnsNo K C_NoShares) := D_turns.calX fun f fd F => ok_turns_no F T Z Care_no Cplace_of_turn
  have DL : Dl K C_Deal := ⟨L.cl_Deal, L.na_Deal_wheel, L.na_Deal_weights⟩
  have KDeal : KCal l.prog w K mg base 4 "Deal" C_Deal ["self", "weights"] (spInit C_Deal) := ⟨_, _, H_Deal_make, ok_Deal___init__ F_Deal___init__ T DL Cturns, B_Deal___init__, L.mg_Deal⟩
  have KDealX : KCalX l.prog w K mg base 4 "Deal" C_Deal ["self", "weights"] (fun vs H Q E => spInit C_Deal vs H Q E ∨ spInitNo K C_NoShares vs H Q E) := ⟨_, _, H_Deal_make, FnOk.or (FnOk.toX (ok_Deal___init__ F_Deal___init__ T DL Cturns)) (ok_init_no (C := C_Deal) F_Deal___init__ T Z Cturns_no), B_Deal___init__, L.mg_Deal⟩
  have Mcounts_to : MCal l.prog w K mg base 1 C_Deal "counts_to" ["self", "n"] (spCounts C_Deal) := ⟨⟨_, _, ok_Deal_counts_to F_Deal_counts_to T DL, B_Deal_counts_to, H_Deal_counts_to⟩, L.cl_Deal⟩
  have Chas_letters_alone : Cal l.prog w K mg base 1 "has_letters_alone" ["text"] spLet := D_has_letters_alone.cal fun f fd F => ok_has_letters_alone F T
  have Cis_name : Cal l.prog w K mg base 2 "is_name" ["thing"] (spName K) := D_is_name.cal fun f fd F => ok_is_name F T Chas_letters_alone
  have Ccheck_houses : CalX l.prog w K mg base 3 "check_houses" ["houses"] (spHouses K C_NoCover) := D_check_houses.calX fun f fd F => ok_check_houses F T Z Cis_name
  have BD5 : Binds K (PySem.W.fnOf "__init__" "Cover.__init__" (defArgs s_Cover___init__) (defBody s_Cover___init__) (defScope s_Cover___init__) (.ref dvCover___init__) kVCover___init__ dcCover___init__ pmCover___init__ anCover___init__ cdCover___init__ ctCover___init__) ["self", "name", "condition", "clauses", "houses", "waits"] [.bool false] := fun s us X hl => by
    have hl' : us.length = 5 := by simpa using hl
    match us, hl' with | [_, _, _, _, _], _ => exact BindsTo.of_defaults rfl (X _ _ dlCover___init__) rfl rfl rfl
  have BD3 : Binds K (PySem.W.fnOf "__init__" "Cover.__init__" (defArgs s_Cover___init__) (defBody s_Cover___init__) (defScope s_Cover___init__) (.ref dvCover___init__) kVCover___init__ dcCover___init__ pmCover___init__ anCover___init__ cdCover___init__ ctCover___init__) ["self", "name", "condition", "clauses", "houses", "waits"] [.none, .none, .bool false] := fun s us X hl => by
    have hl' : us.length = 3 := by simpa using hl
    match us, hl' with | [_, _, _], _ => exact BindsTo.of_defaults rfl (X _ _ dlCover___init__) rfl rfl rfl
  have CX := ok_Cover___init__ F_Cover___init__ T L Z Cis_name Ccheck_houses KDealX
  have KCoverX : KCalDX l.prog w K mg base 6 "Cover" C_Cover ["self", "name", "condition", "clauses", "houses", "waits"] [.bl false] (spCov K C_Cover C_Deal C_NoCover C_NoShares) := ⟨_, _, [.bool false], H_Cover_make, CX, BD5, .cons rfl .nil, L.mg_Cover⟩
  have KCover : KCal l.prog w K mg base 6 "Cover" C_Cover ["self", "name", "condition", "clauses", "houses", "waits"] (fun vs H Q _ => spCov K C_Cover C_Deal C_NoCover C_NoShares vs H Q E0) := ⟨_, _, H_Cover_make, CX.ofX, B_Cover___init__, L.mg_Cover⟩
  have KCoverD : KCalD l.prog w K mg base 6 "Cover" C_Cover ["self", "name", "condition", "clauses", "houses", "waits"] [.non, .non, .bl false] (fun vs H Q _ => spCov K C_Cover C_Deal C_NoCover C_NoShares vs H Q E0) := ⟨_, _, [.none, .none, .bool false], H_Cover_make, CX.ofX, BD3, .cons rfl (.cons rfl (.cons rfl .nil)), L.mg_Cover⟩
  have Masks : MCal l.prog w K mg base 2 C_Cover "asks" ["self", "loss"] (spAsks C_Own C_CauseIs C_ThingIs C_Over C_Cover) := ⟨⟨_, _, ok_Cover_asks F_Cover_asks T L Mholds, B_Cover_asks, H_Cover_asks⟩, L.cl_Cover⟩
  have C_law_cell : Cal l.prog w K mg base 1 "_law_cell" ["_law_script", "_law_k"] (spCell K) := D__law_cell.cal fun f fd F => ok__law_cell F T
  have C_law_names : Cal l.prog w K mg base 1 "_law_names" ["_law_cell_here"] spNames := D__law_names.cal fun f fd F => ok__law_names F T
  have C_law_houses : Cal l.prog w K mg base 2 "_law_houses" ["_law_script", "_law_names_here"] (spHs K) := D__law_houses.cal fun f fd F => ok__law_houses F T C_law_cell
  have C_law_refused : Cal l.prog w K mg base 8 "_law_refused" ["_law_name", "_law_clauses", "_law_pairs"] (spRef K) := D__law_refused.cal fun f fd F => ok__law_refused F T Z KOver KCoverX
  have C_law_bad_pairs : Cal l.prog w K mg base 1 "_law_bad_pairs" ["_law_pairs", "_law_way", "_law_cell_here"] (spBad K) := D__law_bad_pairs.cal fun f fd F => ok__law_bad_pairs F T
  have C_law_kept : Cal l.prog w K mg base 6 "_law_kept" ["_law_cover", "_law_name", "_law_clauses", "_law_pairs", "_law_waits"] (spKept C_Own C_CauseIs C_ThingIs C_Over C_Cover C_Deal) := D__law_kept.cal fun f fd F => ok__law_kept F T L Mwords Mcounts_to KDeal
  have C_law_asks : Cal l.prog w K mg base 3 "_law_asks" ["_law_cover", "_law_way", "_law_name", "_law_cents"] (spAsk3 C_Own C_CauseIs C_ThingIs C_Over C_Cover) := D__law_asks.cal fun f fd F => ok__law_asks F T L Masks
  exact ok_law F19 T L C_law_cell C_law_names C_law_houses C_law_refused C_law_bad_pairs C_law_kept C_law_asks KOwn KCauseIs KThingIs KOver Mwords KCover KCoverD
theorem walk {l : PySem.W.OpenLaw} {q : Program} {loose : List Str} {XP : (Str → Option Value) → Heap → Prop} {YP : World → Heap → Prop} {d : DefRec} {K : Params → PySem.W.Frag} (hn : l.most = some 63) (hdf : d.params.defaults = [])
    (hY : ∀ (w : World) (h : Heap), YP w h → (K w.params).In h)
    (F : ∀ (w : World) (mg : Str → Option Value) (fa : Addr) (h : Heap), (K w.params).In h → h.Ns mainGlobals mg → mg d.name = some (.ref fa) →
      ∃ fd : FuncData, (∀ (s : Shared) (u : Value), BindsTo s fd ⟨[u], []⟩ [("_law_script", u)]) ∧ ∀ base : Heap, (K w.params).In base → base.Ns mainGlobals mg → FnOk l.prog w (K w.params) mg base CX0 9 fa fd ["_law_script"] (spLaw (K w.params))) :
    PySem.W.WalkO q loose XP YP l.row.toRowW d [] (fun f vs => PySem.call f vs) :=
  L2.walk_of (n := 63) (k := 9) (x := "_law_script") (CX := fun _ => CX0) (sp := fun w => spLaw (K w.params)) hn (by decide) hdf ⟨rfl, by decide, by decide⟩ hY F (fun _ _ a ns hl _ hS => ⟨a, ns, rfl, hS, hl, fun _ => rfl⟩) fun _ _ _ _ _ z => z
end CRL
open PySem PySem.W PyProof.Rows
def PySem.W.Fast.tw5539264625985368996 : Unit := ()
def PySem.W.Fast.tw6168805413152332547 : Unit := ()
def PySem.W.Fast.tw15923868754649873050 : Unit := ()
def PySem.W.Fast.tw2691375923148982356 : Unit := ()
def PySem.W.Fast.tw5659309445420834933 : Unit := ()
def PySem.W.Fast.tw7309754486247165662 : Unit := ()
def PySem.W.Fast.tw924901336567979482 : Unit := ()
def PySem.W.Fast.tw10017258797746985287 : Unit := ()
def PySem.W.Fast.tw8666177147704958070 : Unit := ()
def PySem.W.Fast.tw9741579667103765240 : Unit := ()
def PySem.W.Fast.tw14392385726203545007 : Unit := ()
def PySem.W.Fast.tw5971138666553128871 : Unit := ()
def PySem.W.Fast.tw13021811199959056431 : Unit := ()
def PySem.W.Fast.tw16185290508061489686 : Unit := ()
def PySem.W.Fast.tw6864260058002587935 : Unit := ()
set_option maxRecDepth 100000 in
set_option maxHeartbeats 0 in
theorem PySem.Challenge.cw_coverroll_k38_no_covers_holds : PySem.Challenge.rw_coverroll_k38_no_covers.Holds := by
  w_on; o_law; k_head; (case hw => w_witness2)
  k_fill
  refine CRL.walk (l := PySem.Challenge.rw_coverroll_k38_no_covers) rfl rfl (fun w h Y => PySem.W.kIn_of Y) ?F
  case F =>
    intro w mg fa h KX G hmg
    refine' CRL.all_mk KX G hmg ?a0 ?l0 ?c0 ?k0 ?a1 ?l1 ?c1 ?k1 ?a2 ?l2 ?c2 ?k2 ?a3 ?l3 ?c3 ?k3 ?a4 ?l4 ?c4 ?k4 ?a5 ?l5 ?c5 ?k5 ?a6 ?l6 ?c6 ?k6 ?a7 ?l7 ?c7 ?k7 ?a8 ?l8 ?c8 ?k8 ?a9 ?l9 ?c9 ?k9 ?a10 ?l10 ?c10 ?k10 ?a11 ?l11 ?c11 ?k11 ?a12 ?l12 ?c12 ?k12 ?a13 ?l13 ?c13 ?k13 ?a14 ?l14 ?c14 ?k14 ?a15 ?l15 ?c15 ?k15 ?a16 ?l16 ?c16 ?k16 ?a17 ?l17 ?c17 ?k17 ?a18 ?l18 ?c18 ?k18 ?a19 ?l19 ?c19 ?k19 ?q_Own ?pg_Own ?hd_Own ?po_Own ?sa_Own ?mk_Own ?kc_Own ?na_Own_cents ?na_Own_by ?q_CauseIs ?pg_CauseIs ?hd_CauseIs ?po_CauseIs ?sa_CauseIs ?mk_CauseIs ?kc_CauseIs ?na_CauseIs_name ?q_ThingIs ?pg_ThingIs ?hd_ThingIs ?po_ThingIs ?sa_ThingIs ?mk_ThingIs ?kc_ThingIs ?na_ThingIs_name ?q_Over ?pg_Over ?hd_Over ?po_Over ?sa_Over ?mk_Over ?kc_Over ?na_Over_cents ?q_Clause ?pg_Clause ?hd_Clause ?po_Clause ?sa_Clause ?mk_Clause ?kc_Clause ?na_Clause_by ?q_Deal ?pg_Deal ?hd_Deal ?po_Deal ?sa_Deal ?mk_Deal ?kc_Deal ?na_Deal_wheel ?na_Deal_weights ?ha_Deal ?hm_Deal ?gs ?tk ?q_Cover ?pg_Cover ?hd_Cover ?po_Cover ?sa_Cover ?mk_Cover ?kc_Cover ?na_Cover_name ?na_Cover_condition ?na_Cover_clauses ?na_Cover_houses ?na_Cover_deal ?na_Cover_waits ?kt_Deal_Deal ?nd_C ?a_Own___init__ ?iOwn___init__ ?lOwn___init__ ?cOwn___init__ ?kOwn___init__ ?a_Own_words ?iOwn_words ?lOwn_words ?cOwn_words ?kOwn_words ?a_CauseIs___init__ ?iCauseIs___init__ ?lCauseIs___init__ ?cCauseIs___init__ ?kCauseIs___init__ ?a_CauseIs_holds ?iCauseIs_holds ?lCauseIs_holds ?cCauseIs_holds ?kCauseIs_holds ?a_CauseIs_words ?iCauseIs_words ?lCauseIs_words ?cCauseIs_words ?kCauseIs_words ?a_ThingIs___init__ ?iThingIs___init__ ?lThingIs___init__ ?cThingIs___init__ ?kThingIs___init__ ?a_ThingIs_holds ?iThingIs_holds ?lThingIs_holds ?cThingIs_holds ?kThingIs_holds ?a_ThingIs_words ?iThingIs_words ?lThingIs_words ?cThingIs_words ?kThingIs_words ?a_Over___init__ ?iOver___init__ ?lOver___init__ ?cOver___init__ ?kOver___init__ ?a_Over_holds ?iOver_holds ?lOver_holds ?cOver_holds ?kOver_holds ?a_Over_words ?iOver_words ?lOver_words ?cOver_words ?kOver_words ?a_Deal___init__ ?iDeal___init__ ?lDeal___init__ ?cDeal___init__ ?kDeal___init__ ?a_Deal_counts_to ?iDeal_counts_to ?lDeal_counts_to ?cDeal_counts_to ?kDeal_counts_to ?a_Cover___init__ ?iCover___init__ ?lCover___init__ ?cCover___init__ ?kCover___init__ ?dlCover___init__ ?a_Cover_asks ?iCover_asks ?lCover_asks ?cCover_asks ?kCover_asks ?a_Clause___init__ ?iClause___init__ ?lClause___init__ ?cClause___init__ ?kClause___init__ ?bg_Clause___init__ ?br_Clause___init__ ?bf_Clause___init__ ?z_WAYS ?lw_WAYS ?z_CAUSE ?z_CENTS ?z_COVERED_ONE ?z_LETTERS ?z_LONGEST_NAME ?z_MOST_CENTS ?z_MOST_CLAUSES ?z_MOST_PLACES ?z_MOST_TURNS ?z_THING ?z_ValueError ?z_bool ?z_enumerate ?z_int ?z_isinstance ?z_len ?z_list ?z_min ?z_range ?z_str ?z_sum ?q_CoverError ?q_NoShares ?q_NoEntry ?q_NoClause ?q_NoCover ?q_NoBook ?r_NoCover ?ga_NoCover ?gt_NoCover ?cl_NoCover ?ob_NoCover ?sb_NoCover ?ic_NoCover ?hd_NoCover ?v_NoCover ?k_NoCover_CoverError ?k_NoCover_NoShares ?k_NoCover_NoEntry ?k_NoCover_NoClause ?k_NoCover_NoCover ?k_NoCover_NoBook ?h_NoCover_CoverError ?r_NoShares ?ga_NoShares ?gt_NoShares ?cl_NoShares ?ob_NoShares ?sb_NoShares ?ic_NoShares ?hd_NoShares ?v_NoShares ?k_NoShares_CoverError ?k_NoShares_NoShares ?k_NoShares_NoEntry ?k_NoShares_NoClause ?k_NoShares_NoCover ?k_NoShares_NoBook ?h_NoShares_CoverError
    (case a0 => k_is)
    (case l0 => k_is)
    (case c0 => k_is)
    (case k0 => k_is)
    (case a1 => k_is)
    (case l1 => k_is)
    (case c1 => k_is)
    (case k1 => k_is)
    (case a2 => k_is)
    (case l2 => k_is)
    (case c2 => k_is)
    (case k2 => k_is)
    (case a3 => k_is)
    (case l3 => k_is)
    (case c3 => k_is)
    (case k3 => k_is)
    (case a4 => k_is)
    (case l4 => k_is)
    (case c4 => k_is)
    (case k4 => k_is)
    (case a5 => k_is)
    (case l5 => k_is)
    (case c5 => k_is)
    (case k5 => k_is)
    (case a6 => k_is)
    (case l6 => k_is)
    (case c6 => k_is)
    (case k6 => k_is)
    (case a7 => k_is)
    (case l7 => k_is)
    (case c7 => k_is)
    (case k7 => k_is)
    (case a8 => k_is)
    (case l8 => k_is)
    (case c8 => k_is)
    (case k8 => k_is)
    (case a9 => k_is)
    (case l9 => k_is)
    (case c9 => k_is)
    (case k9 => k_is)
    (case a10 => k_is)
    (case l10 => k_is)
    (case c10 => k_is)
    (case k10 => k_is)
    (case a11 => k_is)
    (case l11 => k_is)
    (case c11 => k_is)
    (case k11 => k_is)
    (case a12 => k_is)
    (case l12 => k_is)
    (case c12 => k_is)
    (case k12 => k_is)
    (case a13 => k_is)
    (case l13 => k_is)
    (case c13 => k_is)
    (case k13 => k_is)
    (case a14 => k_is)
    (case l14 => k_is)
    (case c14 => k_is)
    (case k14 => k_is)
    (case a15 => k_is)
    (case l15 => k_is)
    (case c15 => k_is)
    (case k15 => k_is)
    (case a16 => k_is)
    (case l16 => k_is)
    (case c16 => k_is)
    (case k16 => k_is)
    (case a17 => k_is)
    (case l17 => k_is)
    (case c17 => k_is)
    (case k17 => k_is)
    (case a18 => k_is)
    (case l18 => k_is)
    (case c18 => k_is)
    (case k18 => k_is)
    (case a19 => k_is)
    (case l19 => k_is)
    (case c19 => k_is)
    (case k19 => k_is)
    (case q_Own => k_is)
    (case pg_Own => k_is)
    (case hd_Own => k_is)
    (case po_Own => k_is)
    (case sa_Own => k_is)
    (case mk_Own => k_is)
    (case kc_Own => k_is)
    (case na_Own_cents => k_is)
    (case na_Own_by => k_is)
    (case q_CauseIs => k_is)
    (case pg_CauseIs => k_is)
    (case hd_CauseIs => k_is)
    (case po_CauseIs => k_is)
    (case sa_CauseIs => k_is)
    (case mk_CauseIs => k_is)
    (case kc_CauseIs => k_is)
    (case na_CauseIs_name => k_is)
    (case q_ThingIs => k_is)
    (case pg_ThingIs => k_is)
    (case hd_ThingIs => k_is)
    (case po_ThingIs => k_is)
    (case sa_ThingIs => k_is)
    (case mk_ThingIs => k_is)
    (case kc_ThingIs => k_is)
    (case na_ThingIs_name => k_is)
    (case q_Over => k_is)
    (case pg_Over => k_is)
    (case hd_Over => k_is)
    (case po_Over => k_is)
    (case sa_Over => k_is)
    (case mk_Over => k_is)
    (case kc_Over => k_is)
    (case na_Over_cents => k_is)
    (case q_Clause => k_is)
    (case pg_Clause => k_is)
    (case hd_Clause => k_is)
    (case po_Clause => k_is)
    (case sa_Clause => k_is)
    (case mk_Clause => k_is)
    (case kc_Clause => k_is)
    (case na_Clause_by => k_is)
    (case q_Deal => k_is)
    (case pg_Deal => k_is)
    (case hd_Deal => k_is)
    (case po_Deal => k_is)
    (case sa_Deal => k_is)
    (case mk_Deal => k_is)
    (case kc_Deal => k_is)
    (case na_Deal_wheel => k_is)
    (case na_Deal_weights => k_is)
    (case ha_Deal => k_is)
    (case hm_Deal => k_is)
    (case gs => k_is)
    (case tk => k_is)
    (case q_Cover => k_is)
    (case pg_Cover => k_is)
    (case hd_Cover => k_is)
    (case po_Cover => k_is)
    (case sa_Cover => k_is)
    (case mk_Cover => k_is)
    (case kc_Cover => k_is)
    (case na_Cover_name => k_is)
    (case na_Cover_condition => k_is)
    (case na_Cover_clauses => k_is)
    (case na_Cover_houses => k_is)
    (case na_Cover_deal => k_is)
    (case na_Cover_waits => k_is)
    (case kt_Deal_Deal => kit_is)
    (case nd_C => decide)
    (case a_Own___init__ => k_is)
    (case iOwn___init__ => k_is)
    (case lOwn___init__ => k_is)
    (case cOwn___init__ => k_is)
    (case kOwn___init__ => k_is)
    (case a_Own_words => k_is)
    (case iOwn_words => k_is)
    (case lOwn_words => k_is)
    (case cOwn_words => k_is)
    (case kOwn_words => k_is)
    (case a_CauseIs___init__ => k_is)
    (case iCauseIs___init__ => k_is)
    (case lCauseIs___init__ => k_is)
    (case cCauseIs___init__ => k_is)
    (case kCauseIs___init__ => k_is)
    (case a_CauseIs_holds => k_is)
    (case iCauseIs_holds => k_is)
    (case lCauseIs_holds => k_is)
    (case cCauseIs_holds => k_is)
    (case kCauseIs_holds => k_is)
    (case a_CauseIs_words => k_is)
    (case iCauseIs_words => k_is)
    (case lCauseIs_words => k_is)
    (case cCauseIs_words => k_is)
    (case kCauseIs_words => k_is)
    (case a_ThingIs___init__ => k_is)
    (case iThingIs___init__ => k_is)
    (case lThingIs___init__ => k_is)
    (case cThingIs___init__ => k_is)
    (case kThingIs___init__ => k_is)
    (case a_ThingIs_holds => k_is)
    (case iThingIs_holds => k_is)
    (case lThingIs_holds => k_is)
    (case cThingIs_holds => k_is)
    (case kThingIs_holds => k_is)
    (case a_ThingIs_words => k_is)
    (case iThingIs_words => k_is)
    (case lThingIs_words => k_is)
    (case cThingIs_words => k_is)
    (case kThingIs_words => k_is)
    (case a_Over___init__ => k_is)
    (case iOver___init__ => k_is)
    (case lOver___init__ => k_is)
    (case cOver___init__ => k_is)
    (case kOver___init__ => k_is)
    (case a_Over_holds => k_is)
    (case iOver_holds => k_is)
    (case lOver_holds => k_is)
    (case cOver_holds => k_is)
    (case kOver_holds => k_is)
    (case a_Over_words => k_is)
    (case iOver_words => k_is)
    (case lOver_words => k_is)
    (case cOver_words => k_is)
    (case kOver_words => k_is)
    (case a_Deal___init__ => k_is)
    (case iDeal___init__ => k_is)
    (case lDeal___init__ => k_is)
    (case cDeal___init__ => k_is)
    (case kDeal___init__ => k_is)
    (case a_Deal_counts_to => k_is)
    (case iDeal_counts_to => k_is)
    (case lDeal_counts_to => k_is)
    (case cDeal_counts_to => k_is)
    (case kDeal_counts_to => k_is)
    (case a_Cover___init__ => k_is)
    (case iCover___init__ => k_is)
    (case lCover___init__ => k_is)
    (case cCover___init__ => k_is)
    (case kCover___init__ => k_is)
    (case dlCover___init__ => k_is)
    (case a_Cover_asks => k_is)
    (case iCover_asks => k_is)
    (case lCover_asks => k_is)
    (case cCover_asks => k_is)
    (case kCover_asks => k_is)
    (case a_Clause___init__ => k_is)
    (case iClause___init__ => k_is)
    (case lClause___init__ => k_is)
    (case cClause___init__ => k_is)
    (case kClause___init__ => k_is)
    (case bg_Clause___init__ => k_is)
    (case br_Clause___init__ => k_is)
    (case bf_Clause___init__ => k_is)
    (case z_WAYS => k_is)
    (case lw_WAYS => k_is)
    (case z_CAUSE => k_is)
    (case z_CENTS => k_is)
    (case z_COVERED_ONE => k_is)
    (case z_LETTERS => k_is)
    (case z_LONGEST_NAME => k_is)
    (case z_MOST_CENTS => k_is)
    (case z_MOST_CLAUSES => k_is)
    (case z_MOST_PLACES => k_is)
    (case z_MOST_TURNS => k_is)
    (case z_THING => k_is)
    (case z_ValueError => k_is)
    (case z_bool => k_is)
    (case z_enumerate => k_is)
    (case z_int => k_is)
    (case z_isinstance => k_is)
    (case z_len => k_is)
    (case z_list => k_is)
    (case z_min => k_is)
    (case z_range => k_is)
    (case z_str => k_is)
    (case z_sum => k_is)
    (case q_CoverError => k_is)
    (case q_NoShares => k_is)
    (case q_NoEntry => k_is)
    (case q_NoClause => k_is)
    (case q_NoCover => k_is)
    (case q_NoBook => k_is)
    (case r_NoCover => k_exc)
    (case ga_NoCover => k_is)
    (case gt_NoCover => k_is)
    (case cl_NoCover => k_is)
    (case ob_NoCover => k_is)
    (case sb_NoCover => k_is)
    (case ic_NoCover => k_is)
    (case hd_NoCover => k_is)
    (case v_NoCover => kit_is)
    (case k_NoCover_CoverError => kit_is)
    (case k_NoCover_NoShares => kit_is)
    (case k_NoCover_NoEntry => kit_is)
    (case k_NoCover_NoClause => kit_is)
    (case k_NoCover_NoCover => kit_is)
    (case k_NoCover_NoBook => kit_is)
    (case h_NoCover_CoverError => kts_exm)
    (case r_NoShares => k_exc)
    (case ga_NoShares => k_is)
    (case gt_NoShares => k_is)
    (case cl_NoShares => k_is)
    (case ob_NoShares => k_is)
    (case sb_NoShares => k_is)
    (case ic_NoShares => k_is)
    (case hd_NoShares => k_is)
    (case v_NoShares => kit_is)
    (case k_NoShares_CoverError => kit_is)
    (case k_NoShares_NoShares => kit_is)
    (case k_NoShares_NoEntry => kit_is)
    (case k_NoShares_NoClause => kit_is)
    (case k_NoShares_NoCover => kit_is)
    (case k_NoShares_NoBook => kit_is)
    (case h_NoShares_CoverError => kts_exm)
