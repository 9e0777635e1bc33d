import PyProof.Rows.All
import Wide.All
import OpenK.AllK
import Wide.FinOn
import Lean
import PyProof.EqAt
import PyProof.EqKinds
import PyProof.TupleCall
import PySem.Challenge.RW_coverroll_k37_rests
set_option Elab.async false
set_option linter.all false
set_option maxRecDepth 100000
set_option maxHeartbeats 4000000
/-! THE HAND LAYER, for ints, bools, texts, own classes, LISTS and tuples (index, slices, in, append, pop ..), calls, loops. Paste it whole ahead of your own text; what your proof does not reach may be deleted. -/
namespace L2
open PySem PySem.Spec PyProof.Rows

/-- a key: an int or a str -/
abbrev Key := Sum Int Str
def keyIs : Key → Value → Bool
  | .inl k, v => Value.isInt k v
  | .inr x, v => Value.isStrOf x v
def keyH (w : World) : Key → Int
  | .inl k => hashInt k
  | .inr x => hashStr w x
theorem keyIs_shape : ∀ {k : Key} {v : Value}, keyIs k v = true → (∃ i t, k = Sum.inl i ∧ v = Value.int i t) ∨ (∃ x t, k = Sum.inr x ∧ v = Value.str x t)
  | .inl i, v, h => by
    obtain ⟨t, e⟩ := Value.isInt_shape (k := i) (v := v) h
    exact .inl ⟨i, t, rfl, e⟩
  | .inr x, v, h => by
    obtain ⟨t, e⟩ := Value.isStrOf_shape (x := x) (v := v) h
    exact .inr ⟨x, t, rfl, e⟩
theorem key_ll (a b : Int) : decide ((Sum.inl a : Key) = Sum.inl b) = (a == b) := by
  by_cases e : a = b
  · subst e; simp
  · have h : ¬ (Sum.inl a : Key) = Sum.inl b := fun q => e (Sum.inl.inj q)
    rw [decide_eq_false h]
    exact (beq_eq_false_iff_ne.mpr e).symm
theorem key_rr (a b : Str) : decide ((Sum.inr a : Key) = Sum.inr b) = decide (a = b) := by
  by_cases e : a = b
  · subst e; simp
  · have h : ¬ (Sum.inr a : Key) = Sum.inr b := fun q => e (Sum.inr.inj q)
    rw [decide_eq_false h, decide_eq_false e]
theorem key_lr (a : Int) (b : Str) : decide ((Sum.inl a : Key) = Sum.inr b) = false := decide_eq_false (fun q => nomatch q)
theorem key_rl (a : Str) (b : Int) : decide ((Sum.inr a : Key) = Sum.inl b) = false := decide_eq_false (fun q => nomatch q)

def mixKind (prog : Program) (w : World) : PySem.KeyKind prog w Key where
  is := keyIs
  hash := keyH w
  inj := fun v a b ha hb => by
    rcases keyIs_shape ha with ⟨i, t, rfl, rfl⟩ | ⟨x, t, rfl, rfl⟩
    · rcases keyIs_shape hb with ⟨j, u, rfl, e⟩ | ⟨y, u, rfl, e⟩
      · injection e with e1 _; rw [e1]
      · exact nomatch e
    · rcases keyIs_shape hb with ⟨j, u, rfl, e⟩ | ⟨y, u, rfl, e⟩
      · exact nomatch e
      · injection e with e1 _; rw [e1]
  byValue := fun k v h => by
    rcases keyIs_shape h with ⟨i, t, rfl, rfl⟩ | ⟨x, t, rfl, rfl⟩ <;> rfl
  pyHash := fun hv h => by
    rcases keyIs_shape hv with ⟨i, t, rfl, rfl⟩ | ⟨x, t, rfl, rfl⟩
    · exact wpAny_pyHash_int h
    · exact wpAny_pyHash_str h
  eqBool := fun hu hv h => by
    rcases keyIs_shape hu with ⟨i, t, rfl, rfl⟩ | ⟨x, t, rfl, rfl⟩
    · rcases keyIs_shape hv with ⟨j, u, rfl, rfl⟩ | ⟨y, u, rfl, rfl⟩
      · rw [key_ll] at h; exact wpAny_eqBool_int h
      · rw [key_lr] at h; exact SeqAt.EqAt.int_str i t y u _ _ _ _ h
    · rcases keyIs_shape hv with ⟨j, u, rfl, rfl⟩ | ⟨y, u, rfl, rfl⟩
      · rw [key_rl] at h; exact SeqAt.EqAt.str_int x t j u _ _ _ _ h
      · rw [key_rr] at h; exact wpAny_eqBool_str h
  «strs» := fun k x t v h => by
    rcases keyIs_shape h with ⟨i, u, rfl, e⟩ | ⟨y, u, rfl, e⟩
    · exact nomatch e
    · injection e with e1 _
      subst e1
      cases v <;> rfl

end L2

namespace L2
open PySem PySem.Spec PyProof.Rows

/-- a value, without the heap -/
inductive V where
  | non | bl (b : Bool) | int (i : Int) | str (x : Str) | byt (b : Array UInt8) | flt (b : UInt64) | ref (a : Addr) | ty (n : String)
  deriving DecidableEq

def RelV : V → Value → Prop
  | .non, u => u = Value.none
  | .bl b, u => u = Value.bool b
  | .int i, u => ∃ t, u = Value.int i t
  | .str x, u => ∃ t, u = Value.str x t
  | .byt b, u => ∃ t, u = Value.bytes b t
  | .flt b, u => ∃ t, u = Value.float b t
  | .ref a, u => u = Value.ref a
  | .ty n, u => u = Value.type n

abbrev Vals : List V → List Value → Prop := Paired RelV
theorem Vals.length {xs : List V} {us : List Value} (r : Vals xs us) : xs.length = us.length := Paired.length r
theorem Vals.get : ∀ {xs : List V} {us : List Value} {i : Nat} {x : V}, Vals xs us → xs[i]? = some x → ∃ u, us[i]? = some u ∧ RelV x u
  | _, _, _, _, .nil, e => by simp at e
  | _, _, 0, _, .cons r _, e => by simp at e; subst e; exact ⟨_, rfl, r⟩
  | _, _, i + 1, x, .cons _ t, e => by
    obtain ⟨u, h1, h2⟩ := Vals.get (i := i) (x := x) t (by simpa using e)
    exact ⟨u, by simpa using h1, h2⟩
theorem Vals.set {x : V} {u : Value} (r : RelV x u) : ∀ {xs : List V} {us : List Value} (i : Nat), Vals xs us → Vals (xs.set i x) (us.set i u)
  | _, _, _, .nil => .nil
  | _, _, 0, .cons _ t => .cons r t
  | _, _, i + 1, .cons q t => .cons q (Vals.set r i t)
theorem Vals.append : ∀ {xs ys : List V} {us ws : List Value}, Vals xs us → Vals ys ws → Vals (xs ++ ys) (us ++ ws)
  | _, _, _, _, .nil, s => s
  | _, _, _, _, .cons r t, s => .cons r (Vals.append t s)
theorem Vals.take : ∀ {xs : List V} {us : List Value} (n : Nat), Vals xs us → Vals (xs.take n) (us.take n)
  | _, _, 0, _ => .nil
  | _, _, _ + 1, .nil => .nil
  | _, _, n + 1, .cons r t => .cons r (Vals.take n t)
theorem Vals.drop : ∀ {xs : List V} {us : List Value} (n : Nat), Vals xs us → Vals (xs.drop n) (us.drop n)
  | _, _, 0, r => r
  | _, _, _ + 1, .nil => .nil
  | _, _, n + 1, .cons _ t => Vals.drop n t

def RelO : Option V → Option Value → Prop
  | some v, some u => RelV v u
  | none, none => True
  | _, _ => False
def KV {κ : Type} : List (κ × V) → List (κ × Value) → Prop := Paired fun (p : κ × V) (q : κ × Value) => p.1 = q.1 ∧ RelV p.2 q.2

/-- a key of a dict (00_mix): an int or a text -/
def kV : Key → V
  | .inl i => .int i
  | .inr x => .str x

/-- what stands at a tracked address -/
inductive HO where
  /-- a list -/
  | lst (xs : List V)
  /-- a tuple (never changes) -/
  | tup (xs : List V)
  /-- a dict whose keys are ints and texts; one whose keys are tuples of ints and texts (the empty one is both) -/
  | dK (kvs : List (Key × V)) | dT (kvs : List (List Key × V))
  /-- a set of ints: its members, its size -/
  | set (S : Int → Bool) (n : Nat)
  /-- an instance of the class at C, its dict at dx, its attributes -/
  | ins (C dx : Addr) (fs : List (Str × V))
  /-- the dict of the instance at x -/
  | own (x : Addr)
  /-- the dict of an exception -/
  | xd (fs : List (Str × V))
  /-- a bound method, f of x -/
  | met (f x : Addr)
  /-- a range object lo, lo + 1, .. below hi -/
  | rng (lo hi : Int)
  /-- a thing that is known to the object (the script; a dict while a loop walks it): read, never written while it is so -/
  | frz (o : Obj) (u : HO)
  /-- a code object's table -/
  | tbl (ps : Array Value)
  /-- any other thing, by what is true of its one object (a def of one's own: SetO a S n := HO.ext fun h => ..) -/
  | ext (φ : Heap → Prop)

abbrev Hp := Addr → Option HO
def upd (H : Hp) (a : Addr) (o : HO) : Hp := fun b => if b = a then some o else H b
theorem upd_same {H : Hp} {a : Addr} {o : HO} : upd H a o a = some o := by unfold upd; rw [if_pos rfl]
theorem upd_ne {H : Hp} {a b : Addr} {o : HO} (h : b ≠ a) : upd H a o b = H b := by unfold upd; rw [if_neg h]
/-- two objects of different content stand apart -/
theorem ne_of {H : Hp} {a b : Addr} {o u : HO} (h : H a = some o) (h' : H b = some u) (d : o ≠ u) : a ≠ b := by
  intro e; subst e; rw [h] at h'; exact d (Option.some.inj h')
theorem ne_of_none {H : Hp} {a b : Addr} {o : HO} (h : H a = some o) (h' : H b = none) : a ≠ b := by
  intro e; subst e; rw [h] at h'; cases h'

section
variable (P : Program) (w : World)
def ObjOk (H : Hp) (h : Heap) (a : Addr) : HO → Prop
  | .lst xs => xs.length ≤ sizeLine ∧ ∃ (its : List Value) (n : Nat), Vals xs its ∧ h.get? a = some { cls := .type "list", data := .seq its.toArray n }
  | .tup xs => xs.length ≤ sizeLine ∧ ∃ its : List Value, Vals xs its ∧ IsTup h a its.toArray
  | .dK kvs => kvs.length ≤ sizeLine ∧ (a == sysModules) = false ∧ ∃ vs, KV kvs vs ∧ h.DictOf (mixKind P w) a vs
  | .dT kvs => kvs.length ≤ sizeLine ∧ (a == sysModules) = false ∧ ∃ xs : List (List Key × Addr × Value),
      Paired (fun (p : List Key × V) (q : List Key × Addr × Value) => p.1 = q.1 ∧ H q.2.1 = some (.tup (p.1.map kV)) ∧ RelV p.2 q.2.2) kvs xs ∧
      ∃ o es ep, h.get? a = some o ∧ o.ExactDict ∧ o.data = .dict es ep ∧ es.toList = xs.map (entryOfKey (tupleKind (mixKind P w))) ∧ (xs.map (·.1)).Nodup
  | .set S n => h.SetOf (intKind P w) a S n
  | .ins C dx fs => H dx = some (.own a) ∧ fs.length ≤ 1000 ∧ dx ≠ a ∧ h.get? a = some (PySem.W.instObj C dx) ∧
      ∃ mA, h.Ns1 dx mA ∧ (∀ f, RelO (fs.lookup f) (mA f)) ∧ PySem.Within mA (fs.map (·.1))
  | .own _ => ∃ o, h.get? a = some o
  | .xd fs => ∃ mA, h.Ns1 a mA ∧ ∀ f, RelO (fs.lookup f) (mA f)
  | .rng lo hi => ∃ t u v, h.get? a = some { cls := .type "range", data := .fields #[.int lo t, .int hi u, .int 1 v] }
  | .frz o u => h.get? a = some o ∧ ObjOk H h a u
  | .tbl ps => h.get? a = some { cls := .none, data := .fields ps }
  | .met f x => h.get? a = some (PySem.W.methodObj (.ref f) (.ref x))
  | .ext φ => φ h ∧ (∃ o, h.get? a = some o) ∧ ∀ h1 h2 : Heap, φ h1 → (∀ o, h1.get? a = some o → h2.get? a = some o) → φ h2
/-- the abstract heap is held -/
def HOk (H : Hp) (h : Heap) : Prop := ∀ a o, H a = some o → ObjOk P w H h a o
end

section
variable {P : Program} {w : World} {H H' : Hp} {h h' : Heap} {a : Addr} {o : HO}
theorem ObjOk.lt (x : ObjOk P w H h a o) : a < h.objs.size := by
  cases o with
  | lst xs => obtain ⟨_, _, _, _, e⟩ := x; exact Heap.lt_size e
  | tup xs => obtain ⟨_, _, _, p⟩ := x; exact p.lt
  | dK kvs => obtain ⟨_, _, _, _, o, _, _, e, _⟩ := x; exact Heap.lt_size e
  | dT kvs => obtain ⟨_, _, _, _, o, _, _, e, _⟩ := x; exact Heap.lt_size e
  | set S n => obtain ⟨o, _, _, _, e, _⟩ := x; exact Heap.lt_size e
  | ins C dx fs => obtain ⟨_, _, _, e, _⟩ := x; exact Heap.lt_size e
  | own y => obtain ⟨_, e⟩ := x; exact Heap.lt_size e
  | xd fs => obtain ⟨_, ⟨_, _, _, e, _⟩, _⟩ := x; exact Heap.lt_size e
  | rng lo hi => obtain ⟨_, _, _, e⟩ := x; exact Heap.lt_size e
  | frz ob u => obtain ⟨e, _⟩ := x; exact Heap.lt_size e
  | tbl ps => exact Heap.lt_size (show h.get? a = some _ from x)
  | met f y => exact Heap.lt_size (show h.get? a = some _ from x)
  | ext φ => obtain ⟨_, ⟨_, e⟩, _⟩ := x; exact Heap.lt_size e
theorem Paired.mapP {α β : Type} {F G : α → β → Prop} : ∀ {l₁ : List α} {l₂ : List β}, Paired F l₁ l₂ → (∀ a b, F a b → G a b) → Paired G l₁ l₂
  | _, _, .nil, _ => .nil
  | _, _, .cons r t, f => .cons (f _ _ r) (Paired.mapP t f)
/-- what an object's description leans on: its own object, its own dict, the tuples -/
theorem ObjOk.stay (x : ObjOk P w H h a o) (k : ∀ b u, (b = a ∨ H b = some (.own a)) → h.get? b = some u → h'.get? b = some u)
    (ho : ∀ b, H b = some (.own a) → H' b = some (.own a)) (ht : ∀ b xs, H b = some (.tup xs) → H' b = some (.tup xs)) : ObjOk P w H' h' a o := by
  induction o with
  | lst xs => obtain ⟨z, its, n, r, e⟩ := x; exact ⟨z, its, n, r, k _ _ (.inl rfl) e⟩
  | tup xs => obtain ⟨z, its, r, ob, e, c⟩ := x; exact ⟨z, its, r, ob, k _ _ (.inl rfl) e, c⟩
  | dK kvs => obtain ⟨z, y, vs, r, ob, es, ep, e, c⟩ := x; exact ⟨z, y, vs, r, ob, es, ep, k _ _ (.inl rfl) e, c⟩
  | dT kvs =>
    obtain ⟨z, y, xs, r, ob, es, ep, e, c⟩ := x
    exact ⟨z, y, xs, Paired.mapP r fun p q z => ⟨z.1, ht _ _ z.2.1, z.2.2⟩, ob, es, ep, k _ _ (.inl rfl) e, c⟩
  | set S n => obtain ⟨ob, es, ep, t, e, c⟩ := x; exact ⟨ob, es, ep, t, k _ _ (.inl rfl) e, c⟩
  | ins C dx fs =>
    obtain ⟨d, z, ne, e, mA, ⟨od, es, ep, e2, c⟩, r⟩ := x
    exact ⟨ho _ d, z, ne, k _ _ (.inl rfl) e, mA, ⟨od, es, ep, k _ _ (.inr d) e2, c⟩, r⟩
  | own y => obtain ⟨ob, e⟩ := x; exact ⟨ob, k _ _ (.inl rfl) e⟩
  | xd fs => obtain ⟨mA, ⟨od, es, ep, e, c⟩, r⟩ := x; exact ⟨mA, ⟨od, es, ep, k _ _ (.inl rfl) e, c⟩, r⟩
  | rng lo hi => obtain ⟨t, u, v, e⟩ := x; exact ⟨t, u, v, k _ _ (.inl rfl) e⟩
  | frz ob u ih => obtain ⟨e, q⟩ := x; exact ⟨k _ _ (.inl rfl) e, ih q⟩
  | tbl ps =>
    have e : h.get? a = some { cls := .none, data := .fields ps } := x
    show h'.get? a = some { cls := .none, data := .fields ps }
    exact k a _ (.inl rfl) e
  | met f y =>
    have e : h.get? a = some (PySem.W.methodObj (.ref f) (.ref y)) := x
    show h'.get? a = some (PySem.W.methodObj (.ref f) (.ref y))
    exact k a _ (.inl rfl) e
  | ext φ => obtain ⟨p, ⟨o, e⟩, st⟩ := x; exact ⟨st _ _ p fun o q => k _ _ (.inl rfl) q, ⟨o, k _ _ (.inl rfl) e⟩, st⟩
theorem HOk.lt (x : HOk P w H h) (e : H a = some o) : a < h.objs.size := (x a o e).lt
theorem HOk.fresh (x : HOk P w H h) (e : h.objs.size ≤ a) : H a = none := by
  cases q : H a with
  | none => rfl
  | some u => exact absurd (Nat.lt_of_lt_of_le (x.lt q) e) (Nat.lt_irrefl _)
/-- every object of the heap is kept -/
theorem HOk.kept (x : HOk P w H h) (k : ∀ b u, h.get? b = some u → h'.get? b = some u) : HOk P w H h' := fun a o e =>
  (x a o e).stay (fun b u _ q => k b u q) (fun _ q => q) fun _ _ q => q
/-- a new object is laid and tracked -/
theorem HOk.laid (x : HOk P w H h) (k : ∀ b u, h.get? b = some u → h'.get? b = some u) (hp : h.objs.size ≤ a) (new : ObjOk P w (upd H a o) h' a o) : HOk P w (upd H a o) h' := fun b u e => by
  have hn := x.fresh hp
  by_cases hb : b = a
  · subst hb; rw [upd_same] at e; cases e; exact new
  · rw [upd_ne hb] at e
    exact (x b u e).stay (fun c v _ q => k c v q) (fun c q => by rw [upd_ne (ne_of_none q hn)]; exact q) fun c xs q => by rw [upd_ne (ne_of_none q hn)]; exact q
end

/-- what may be read as u: it is u, or a known u -/
def Rd (H : Hp) (a : Addr) (u : HO) : Prop := H a = some u ∨ ∃ o, H a = some (.frz o u)
theorem Rd.ok {P : Program} {w : World} {H : Hp} {h : Heap} {a : Addr} {u : HO} (r : Rd H a u) (x : HOk P w H h) : ObjOk P w H h a u := by
  rcases r with r | ⟨o, r⟩
  · exact x a u r
  · obtain ⟨_, q⟩ := x a _ r
    exact q
/-- what may be written -/
def Mut : Option HO → Prop
  | some (.lst _) => True
  | some (.dK _) => True
  | some (.dT _) => True
  | some (.set _ _) => True
  | some (.ins _ _ _) => True
  | some (.ext _) => True
  | _ => False
section
variable {P : Program} {w : World} {H : Hp} {h h' : Heap} {x e : Addr} {o' : HO}
/-- the object at e is changed: x itself, or the dict of the instance x -/
theorem HOk.write (ok : HOk P w H h) (mu : Mut (H x)) (he : e = x ∨ H e = some (.own x)) (k : ∀ b u, b ≠ e → h.get? b = some u → h'.get? b = some u) (heo : ∃ u, h'.get? e = some u)
    (new : ObjOk P w (upd H x o') h' x o') : HOk P w (upd H x o') h' := fun b u q => by
  have nown : ∀ c y, H c = some (.own y) → c ≠ x := fun c y r z => by subst z; rw [r] at mu; exact mu
  have ntup : ∀ c xs, H c = some (.tup xs) → c ≠ x := fun c xs r z => by subst z; rw [r] at mu; exact mu
  by_cases hb : b = x
  · subst hb; rw [upd_same] at q; cases q; exact new
  · rw [upd_ne hb] at q
    by_cases hbe : b = e
    · have q' : H b = some (.own x) := by
        rcases he with z | z
        · exact absurd (hbe.trans z) hb
        · rw [hbe]; exact z
      rw [q] at q'; cases q'
      obtain ⟨v, hv⟩ := heo
      exact ⟨v, by rw [hbe]; exact hv⟩
    · refine (ok b u q).stay (fun c v hc r => k c v ?_ r) (fun c r => by rw [upd_ne (nown c b r)]; exact r) fun c xs r => by rw [upd_ne (ntup c xs r)]; exact r
      rcases hc with rfl | hc
      · exact hbe
      · rintro rfl
        rcases he with z | z
        · exact nown c b hc z
        · rw [hc] at z; cases z; exact hb rfl
end

/-! ### kept unless tracked; of the frames at fs (the callers') the slots may change (an exception that passes writes there); of the records at ex (iterators) nothing is said -/
structure Un (fs ex : List Addr) (H H' : Hp) (h h' : Heap) : Prop where
  keep : ∀ b o, h.get? b = some o → H b = none → b ∉ fs → b ∉ ex → h'.get? b = some o
  slot : ∀ b o, h.get? b = some o → H b = none → b ∈ fs → b ∉ ex → ∃ sl, h'.get? b = some { o with slots := sl }
  free : ∀ b o, h.get? b = some o → H b = none → b ∉ ex → H' b = none
  there : ∀ b o, h.get? b = some o → b ∉ ex → ∃ o', h'.get? b = some o'
  tups : ∀ b xs, H b = some (.tup xs) → H' b = some (.tup xs)
  frzs : ∀ b o u, H b = some (.frz o u) → H' b = some (.frz o u)
  tbls : ∀ b ps, H b = some (.tbl ps) → ∃ more, H' b = some (.tbl (ps ++ more))
section
variable {fs fs' ex ex' : List Addr} {H H1 H2 : Hp} {h h1 h2 h' : Heap} {a x e : Addr} {o : HO}
theorem Un.any (u : Un fs ex H H1 h h1) {b : Addr} {ob : Obj} (q : h.get? b = some ob) (n : H b = none) (hx : b ∉ ex) : ∃ sl, h1.get? b = some { ob with slots := sl } := by
  by_cases hb : b ∈ fs
  · exact u.slot b ob q n hb hx
  · exact ⟨ob.slots, u.keep b ob q n hb hx⟩
theorem Un.kept (k : ∀ b u, h.get? b = some u → h'.get? b = some u) : Un fs ex H H h h' :=
  ⟨fun b ob q _ _ _ => k b ob q, fun b ob q _ _ _ => ⟨ob.slots, k b ob q⟩, fun _ _ _ n _ => n, fun b ob q _ => ⟨ob, k b ob q⟩, fun _ _ q => q, fun _ _ _ q => q, fun _ ps q => ⟨#[], by rw [q]; simp⟩⟩
theorem Un.refl : Un fs ex H H h h := Un.kept fun _ _ q => q
theorem Un.laid (k : ∀ b u, h.get? b = some u → h'.get? b = some u) (hp : h.objs.size ≤ a) (hn : H a = none) : Un fs ex H (upd H a o) h h' where
  keep := fun b u q _ _ _ => k b u q
  slot := fun b u q _ _ _ => ⟨u.slots, k b u q⟩
  free := fun b u q n _ => by rw [upd_ne (Nat.ne_of_lt (Nat.lt_of_lt_of_le (Heap.lt_size q) hp))]; exact n
  there := fun b u q _ => ⟨u, k b u q⟩
  tups := fun b xs q => by rw [upd_ne (ne_of_none q hn)]; exact q
  frzs := fun b u xs q => by rw [upd_ne (ne_of_none q hn)]; exact q
  tbls := fun b ps q => ⟨#[], by rw [upd_ne (ne_of_none q hn), q]; simp⟩
theorem Un.write (mu : Mut (H x)) (he : e = x ∨ H e = some (.own x)) (k : ∀ b u, b ≠ e → h.get? b = some u → h'.get? b = some u) (heo : ∃ u, h'.get? e = some u) : Un fs ex H (upd H x o) h h' := by
  have hx : ∀ b, H b = none → b ≠ x := fun b n z => by subst z; rw [n] at mu; exact mu
  have hb : ∀ b, H b = none → b ≠ e := fun b n z => by
    subst z
    rcases he with r | r
    · exact hx b n r
    · rw [n] at r; cases r
  have hm : ∀ b u, H b = some u → ¬ Mut (some u) → b ≠ x := fun b u q nm z => by subst z; rw [q] at mu; exact nm mu
  refine ⟨fun b u q n _ _ => k b u (hb b n) q, fun b u q n _ _ => ⟨u.slots, k b u (hb b n) q⟩, fun b u q n _ => by rw [upd_ne (hx b n)]; exact n, fun b u q _ => ?_,
    fun b xs q => by rw [upd_ne (hm b _ q fun z => z)]; exact q, fun b u xs q => by rw [upd_ne (hm b _ q fun z => z)]; exact q, fun b ps q => ⟨#[], by rw [upd_ne (hm b _ q fun z => z), q]; simp⟩⟩
  by_cases hbe : b = e
  · subst hbe; exact heo
  · exact ⟨u, k b u hbe q⟩
end

/-! ### the heap without what is tracked -/
def trk (h : Heap) (H : Hp) : List Addr := (List.range h.objs.size).filter fun a => (H a).isSome
def hidT (h : Heap) (H : Hp) : Heap := PySem.W.hideAll h (trk h H)
theorem hidT_size (h : Heap) (H : Hp) : (hidT h H).objs.size = h.objs.size := PySem.W.hideAll_size _ _
theorem hidT_get {h : Heap} {H : Hp} {b : Addr} {o : Obj} (e : h.get? b = some o) (n : H b = none) : (hidT h H).get? b = some o :=
  PySem.W.hideAll_get _ e fun hm => by
    have q : (H b).isSome = true := (List.mem_filter.mp hm).2
    rw [n] at q; simp at q
theorem of_hidT {h : Heap} {H : Hp} {b : Addr} {o : Obj} (e : (hidT h H).get? b = some o) : h.get? b = some o ∧ H b = none := by
  have e' : h.get? b = some o := PySem.W.of_hideAll (trk h H) e
  refine ⟨e', ?_⟩
  cases q : H b with
  | none => rfl
  | some x =>
    have hm : b ∈ trk h H := List.mem_filter.mpr ⟨List.mem_range.mpr (Heap.lt_size e'), by simp [q]⟩
    have z : (hidT h H).get? b = none := PySem.W.hideAll_none (trk h H) hm
    rw [z] at e; cases e

/-! ### OpenK's ledger, filled with every new object but one -/
end L2

namespace L2
open PySem PySem.Spec PyProof.Rows

/-- the module's facts, over the base: the heap at the law's entry without what is tracked there -/
structure Mod (K : PySem.W.Frag) (mg : Str → Option Value) (base : Heap) : Prop where
  kin : K.In base
  glob : base.Ns mainGlobals mg
  blt : ∃ mb, base.Ns builtinsNs mb ∧ ∀ x : Str, x ≠ "__name__" → mb x = bootBuiltins x
  nolimit : base.NoLimit

/-- the context: a def's body (or a comprehension's block) running. base: fixed through the whole law; s₀, H₀: the entry; outer: the frames whose slots others may change (a def's callers); stack: all frames that run;
   ex: iterators that were made ahead of the entry and are walked here (a comprehension's); fn: the names whose cells were made at the entry (a def: all; a comprehension's block: its own); calm: not within an except suite; pn: pins that every state bears; xe: what is wanted of an exception that leaves the code -/
structure Cx where
  prog : Program
  w : World
  K : PySem.W.Frag
  mg : Str → Option Value
  base : Heap
  A : Around
  N : List Str
  s₀ : Shared
  H₀ : Hp
  env : Env
  outer : List Env
  stack : List Env
  ex : List Addr
  fn : Str → Bool
  calm : Bool
  pn : List (Addr × Obj)
  xe : Value → Shared → Prop
/-- the callers' frames -/
def frs (l : List Env) : List Addr := l.filterMap (·.frame)
abbrev Cx.fs (X : Cx) : List Addr := frs X.outer

def Vis (sc : Scope) (x : Str) : Prop := sc.names.lookup x = some .local ∨ sc.names.lookup x = some .cell ∨ sc.names.lookup x = some .free
def Loc (sc : Scope) (x : Str) : Prop := sc.names.lookup x = some .local ∨ sc.names.lookup x = some .cell
def Look (env : Env) (h : Heap) (m : Str → Option Value) (x : Str) (u : Value) : Prop :=
  (env.kindOf x = some .local ∧ m x = some u) ∨ ((env.kindOf x = some .cell ∨ env.kindOf x = some .free) ∧ ∃ c, env.cells.lookup x = some c ∧ h.IsCell c (some u))

structure Cx.Ok (X : Cx) : Prop where
  mod : Mod X.K X.mg X.base
  kind : X.env.scope.kind = .function
  glob : X.env.globals = mainGlobals
  blt : X.env.builtins = builtinsNs
  above : X.s₀.heap.objs.size ≤ X.env.locals
  inj : ∀ x y c, X.env.cells.lookup x = some c → X.env.cells.lookup y = some c → x = y
  has : ∀ x, (X.env.kindOf x = some .cell ∨ X.env.kindOf x = some .free) → ∃ c, X.env.cells.lookup x = some c
  cab : ∀ x c, X.fn x = true → X.env.cells.lookup x = some c → X.s₀.heap.objs.size ≤ c
  hd : X.calm = true → X.A.handled = none
  frames : X.A.frames = some X.stack
  stk : X.stack = X.outer ∨ (X.stack = X.env :: X.outer ∧ X.env.frame = some X.env.locals)
  exf : ∀ b ∈ X.ex, b ≠ X.env.locals ∧ ∀ x c, X.env.cells.lookup x = some c → c ≠ b
  bs : ∀ b o, X.base.get? b = some o → X.s₀.heap.get? b = some o ∧ X.H₀ b = none
  bsz : X.base.objs.size ≤ X.s₀.heap.objs.size
  noex : ∀ b o, X.base.get? b = some o → b ∉ X.ex
  exfs : ∀ b ∈ X.ex, b ∉ X.fs
  funs : X.s₀.heap.FunFrames X.base X.outer
  frf : ∀ b ∈ X.fs, X.H₀ b = none

structure Inv (X : Cx) (pins : List (Addr × Obj)) (σ : List (Option V)) (H : Hp) (s : Shared) : Prop where
  ok : X.Ok
  os : s.os = X.s₀.os
  bare : AllBare s.gens
  base : Un X.fs X.ex X.H₀ H X.s₀.heap s.heap
  loc : ∃ m, s.heap.Ns X.env.locals m ∧ ∀ (i : Nat) (x : Str) (v : V), X.N[i]? = some x → σ[i]? = some (some v) → Vis X.env.scope x → ∃ u, RelV v u ∧ Look X.env s.heap m x u
  cell : ∀ x c, X.env.cells.lookup x = some c → ∃ v, s.heap.IsCell c v
  free : H X.env.locals = none
  freeC : ∀ x c, X.env.cells.lookup x = some c → H c = none
  pin : ∀ p ∈ X.pn ++ pins, s.heap.get? p.1 = some p.2 ∧ H p.1 = none ∧ p.1 ≠ X.env.locals ∧ p.1 ∉ X.fs ∧ ∀ v, p.2.data ≠ .cell v
  hok : HOk X.prog X.w H s.heap
  len : σ.length = X.N.length

section
variable {X : Cx} {pins : List (Addr × Obj)} {σ : List (Option V)} {H H' : Hp} {s : Shared} {h' : Heap}

theorem Cx.Ok.nofr (ok : X.Ok) {b : Addr} {o : Obj} (e : X.base.get? b = some o) : b ∉ X.fs := fun hb => by
  have := (ok.funs.mem hb).1
  rw [e] at this; cases this
theorem Inv.bs (I : Inv X pins σ H s) : ∀ b o, X.base.get? b = some o → s.heap.get? b = some o ∧ H b = none := fun b o e =>
  ⟨I.base.keep b o (I.ok.bs b o e).1 (I.ok.bs b o e).2 (I.ok.nofr e) (I.ok.noex b o e), I.base.free b o (I.ok.bs b o e).1 (I.ok.bs b o e).2 (I.ok.noex b o e)⟩
theorem Inv.bk (I : Inv X pins σ H s) : ∀ b o, X.base.get? b = some o → s.heap.get? b = some o := fun b o e => (I.bs b o e).1
theorem Inv.mod (I : Inv X pins σ H s) : Mod X.K X.mg X.base := I.ok.mod
theorem Inv.kIn (I : Inv X pins σ H s) : X.K.In s.heap := I.ok.mod.kin.keeps I.bk
theorem Inv.lt (I : Inv X pins σ H s) : X.env.locals < s.heap.objs.size := let ⟨_, hn, _⟩ := I.loc; hn.lt
theorem Inv.sz (I : Inv X pins σ H s) : X.s₀.heap.objs.size ≤ s.heap.objs.size := Nat.le_trans I.ok.above (Nat.le_of_lt I.lt)
theorem Inv.nofs (I : Inv X pins σ H s) {a : Addr} (h : s.heap.objs.size ≤ a) : a ∉ X.fs := fun hb => by
  obtain ⟨_, o, ho, _⟩ := I.ok.funs.mem hb
  exact absurd (Nat.lt_of_lt_of_le (Heap.lt_size ho) (Nat.le_trans I.sz h)) (Nat.lt_irrefl _)
theorem Inv.cne (I : Inv X pins σ H s) : ∀ x c, X.env.cells.lookup x = some c → c ≠ X.env.locals := fun x c e z => by
  obtain ⟨v, o, ho, hd⟩ := I.cell x c e
  obtain ⟨m, ⟨o', es, ep, ho', hd', _⟩, _⟩ := I.loc
  rw [z, ho'] at ho; cases ho; rw [hd'] at hd; cases hd
theorem Inv.funs (I : Inv X pins σ H s) : s.heap.FunFrames X.base X.outer := by
  have all : ∀ (l : List Env), (∀ b ∈ frs l, b ∈ X.fs) → X.s₀.heap.FunFrames X.base l → s.heap.FunFrames X.base l := by
    intro l
    induction l with
    | nil => intro _ _; trivial
    | cons env r ih =>
      intro hs hl
      obtain ⟨hk, ⟨L, o, hf, hn, ho, hd⟩, hr⟩ := hl
      have hL : L ∈ X.fs := hs L (by unfold frs; rw [List.filterMap_cons, hf]; exact List.mem_cons_self)
      obtain ⟨sl, e⟩ := I.base.slot L o ho (I.ok.frf L hL) hL fun z => I.ok.exfs L z hL
      exact ⟨hk, ⟨L, _, hf, hn, e, hd⟩, ih (fun b hb => hs b (by unfold frs; rw [List.filterMap_cons, hf]; exact List.mem_cons_of_mem _ hb)) hr⟩
  exact all X.outer (fun _ hb => hb) I.ok.funs

/-- the frames that run, for a call -/
theorem Inv.stack (I : Inv X pins σ H s) : s.heap.FunFrames X.base X.stack := by
  rcases I.ok.stk with e | ⟨e, hf⟩
  · rw [e]; exact I.funs
  · rw [e]
    obtain ⟨m, hn, _⟩ := I.loc
    refine .cons (by rw [I.ok.kind]; decide) hf hn ?_ I.funs
    exact Heap.get?_none_of_le (Nat.le_trans I.ok.bsz I.ok.above)
theorem Inv.stkSub (I : Inv X pins σ H s) : ∀ b ∈ frs X.stack, b ∈ X.env.locals :: X.fs := fun b hb => by
  rcases I.ok.stk with e | ⟨e, hf⟩
  · rw [e] at hb; exact List.mem_cons_of_mem _ hb
  · rw [e] at hb
    unfold frs at hb
    rw [List.filterMap_cons, hf] at hb
    exact hb
theorem Inv.stkFree (I : Inv X pins σ H s) : ∀ b ∈ frs X.stack, H b = none := fun b hb => by
  rcases List.mem_cons.mp (I.stkSub b hb) with e | hb
  · rw [e]; exact I.free
  · obtain ⟨_, o, ho, _⟩ := I.ok.funs.mem hb
    exact I.base.free b o ho (I.ok.frf b hb) fun z => I.ok.exfs b z hb

/-- THE STEP: the untracked objects but the frame and the records at ch are kept (the callers' frames up to slots), the frame's map is kept, the new abstract heap is held -/
theorem Inv.step {g' : Array GenState} {t' : Nat} {d' : Drawn} {ch : List Addr} (I : Inv X pins σ H s)
    (hch : ∀ b ∈ ch, (b ∈ X.ex ∨ X.s₀.heap.objs.size ≤ b) ∧ b ≠ X.env.locals ∧ (∀ x c, X.env.cells.lookup x = some c → c ≠ b) ∧ ∀ p ∈ X.pn ++ pins, p.1 ≠ b)
    (keep : ∀ b o, b ≠ X.env.locals → b ∉ X.fs → b ∉ ch → s.heap.get? b = some o → H b = none → h'.get? b = some o)
    (slot : ∀ b o, b ≠ X.env.locals → b ∈ X.fs → b ∉ ch → s.heap.get? b = some o → H b = none → ∃ sl, h'.get? b = some { o with slots := sl }) (free : ∀ b o, b ∉ ch → s.heap.get? b = some o → H b = none → H' b = none)
    (there : ∀ b o, b ∉ ch → s.heap.get? b = some o → ∃ o', h'.get? b = some o')
    (tups : ∀ b xs, H b = some (.tup xs) → H' b = some (.tup xs)) (frzs : ∀ b o u, H b = some (.frz o u) → H' b = some (.frz o u)) (tbls : ∀ b ps, H b = some (.tbl ps) → ∃ more, H' b = some (.tbl (ps ++ more)))
    (ns : ∀ m, s.heap.Ns X.env.locals m → h'.Ns X.env.locals m) (hok : HOk X.prog X.w H' h') (hg : AllBare g') :
    Inv X pins σ H' { s with heap := h', gens := g', drawn := d', toks := t' } := by
  have neL : ∀ b o, X.s₀.heap.get? b = some o → b ≠ X.env.locals := fun b o e => Nat.ne_of_lt (Nat.lt_of_lt_of_le (Heap.lt_size e) I.ok.above)
  have neC : ∀ b o, X.s₀.heap.get? b = some o → b ∉ X.ex → b ∉ ch := fun b o e hx hb => by
    rcases (hch b hb).1 with z | z
    · exact hx z
    · exact absurd (Nat.lt_of_lt_of_le (Heap.lt_size e) z) (Nat.lt_irrefl _)
  have cellK : ∀ x c, X.env.cells.lookup x = some c → ∀ v, s.heap.IsCell c v → h'.IsCell c v := fun x c e v ⟨o, ho, hd⟩ => by
    have nch : c ∉ ch := fun z => (hch c z).2.2.1 x c e rfl
    by_cases hc : c ∈ X.fs
    · obtain ⟨sl, q⟩ := slot c o (I.cne x c e) hc nch ho (I.freeC x c e)
      exact ⟨_, q, hd⟩
    · exact ⟨o, keep c o (I.cne x c e) hc nch ho (I.freeC x c e), hd⟩
  refine ⟨I.ok, I.os, hg, ⟨fun b o e n hb hx => ?_, fun b o e n hb hx => ?_, fun b o e n hx => ?_, fun b o e hx => ?_, fun b xs e => tups b xs (I.base.tups b xs e), fun b o xs e => frzs b o xs (I.base.frzs b o xs e), fun b ps e => ?_⟩, ?_, fun x c e => ?_, ?_, fun x c e => ?_, fun p hp => ?_, hok, I.len⟩
  · exact keep b o (neL b o e) hb (neC b o e hx) (I.base.keep b o e n hb hx) (I.base.free b o e n hx)
  · obtain ⟨sl, e1⟩ := I.base.slot b o e n hb hx
    obtain ⟨sl', e2⟩ := slot b _ (neL b o e) hb (neC b o e hx) e1 (I.base.free b o e n hx)
    exact ⟨sl', e2⟩
  · obtain ⟨o', e1⟩ := I.base.there b o e hx
    exact free b o' (neC b o e hx) e1 (I.base.free b o e n hx)
  · obtain ⟨o', e1⟩ := I.base.there b o e hx
    exact there b o' (neC b o e hx) e1
  · obtain ⟨m1, e1⟩ := I.base.tbls b ps e
    obtain ⟨m2, e2⟩ := tbls b _ e1
    exact ⟨m1 ++ m2, by rw [e2, Array.append_assoc]⟩
  · obtain ⟨m, hn, hl⟩ := I.loc
    refine ⟨m, ns m hn, fun i x v e1 e2 e3 => ?_⟩
    obtain ⟨u, r, l⟩ := hl i x v e1 e2 e3
    refine ⟨u, r, ?_⟩
    rcases l with l | ⟨k, c, e, z⟩
    · exact .inl l
    · exact .inr ⟨k, c, e, cellK x c e _ z⟩
  · obtain ⟨v, z⟩ := I.cell x c e
    exact ⟨v, cellK x c e v z⟩
  · obtain ⟨m, ⟨o, _, _, ho, _⟩, _⟩ := I.loc
    exact free _ o (fun z => (hch _ z).2.1 rfl) ho I.free
  · obtain ⟨v, o, ho, hd⟩ := I.cell x c e
    exact free c o (fun z => (hch c z).2.2.1 x c e rfl) ho (I.freeC x c e)
  · obtain ⟨e, n, ne, nf, d⟩ := I.pin p hp
    have nch : p.1 ∉ ch := fun z => (hch p.1 z).2.2.2 p hp rfl
    exact ⟨keep p.1 p.2 ne nf nch e n, free p.1 p.2 nch e n, ne, nf, d⟩
/-- .. where the frame's own object is kept too -/
theorem Inv.un {t' : Nat} (I : Inv X pins σ H s) (u : Un X.fs [] H H' s.heap h') (hok : HOk X.prog X.w H' h') : Inv X pins σ H' { s with heap := h', toks := t' } := by
  obtain ⟨m, ⟨o, es, ep, ho, r⟩, _⟩ := id I.loc
  obtain ⟨sl, hL⟩ := u.any ho I.free (by simp)
  exact I.step (g' := s.gens) (d' := s.drawn) (ch := []) (fun _ z => nomatch z) (fun b o _ hb _ e n => u.keep b o e n hb (by simp)) (fun b o _ hb _ e n => u.slot b o e n hb (by simp)) (fun b o _ e n => u.free b o e n (by simp)) (fun b o _ e => u.there b o e (by simp)) u.tups u.frzs u.tbls (fun m' hm => by
    obtain ⟨o', es', ep', ho', r'⟩ := hm
    rw [ho] at ho'; cases ho'
    exact ⟨_, es', ep', hL, r'⟩) hok I.bare
/-- behind a call (or a comprehension's block): the slots of this frame may have changed too, the records at ch may have turned -/
theorem Inv.call {g' : Array GenState} {t' : Nat} {d' : Drawn} {ch : List Addr} (I : Inv X pins σ H s) (u : Un (frs X.stack) ch H H' s.heap h') (hok : HOk X.prog X.w H' h') (hg : AllBare g')
    (hch : ∀ b ∈ ch, (b ∈ X.ex ∨ X.s₀.heap.objs.size ≤ b) ∧ b ≠ X.env.locals ∧ (∀ x c, X.env.cells.lookup x = some c → c ≠ b) ∧ ∀ p ∈ X.pn ++ pins, p.1 ≠ b) :
    Inv X pins σ H' { s with heap := h', gens := g', drawn := d', toks := t' } := by
  obtain ⟨m, ⟨o, es, ep, ho, r⟩, _⟩ := id I.loc
  obtain ⟨sl, hL⟩ := u.any ho I.free fun z => (hch _ z).2.1 rfl
  exact I.step (ch := ch) hch (fun b o hL hb hc e n => u.keep b o e n (fun z => (List.mem_cons.mp (I.stkSub b z)).elim hL hb) hc) (fun b o _ _ hc e n => u.any e n hc) (fun b o hc e n => u.free b o e n hc) (fun b o hc e => u.there b o e hc) u.tups u.frzs u.tbls (fun m' hm => by
    obtain ⟨o', es', ep', ho', r'⟩ := hm
    rw [ho] at ho'; cases ho'
    exact ⟨_, es', ep', hL, r'⟩) hok hg
/-- an untracked record of ours (an iterator) has turned -/
theorem Inv.turned {t' : Nat} {it : Addr} (I : Inv X pins σ H s) (k : ∀ b o, b ≠ it → s.heap.get? b = some o → h'.get? b = some o) (hn : H it = none) (hL : it ≠ X.env.locals)
    (h1 : it ∈ X.ex ∨ X.s₀.heap.objs.size ≤ it) (h2 : ∀ x c, X.env.cells.lookup x = some c → c ≠ it) (h3 : ∀ p ∈ X.pn ++ pins, p.1 ≠ it) : Inv X pins σ H { s with heap := h', toks := t' } := by
  have nit : ∀ b u, H b = some u → b ≠ it := fun b u e z => by rw [z, hn] at e; cases e
  refine I.step (g' := s.gens) (d' := s.drawn) (ch := [it]) (fun b hb => ?_) (fun b o _ _ hc e _ => k b o (fun z => hc (by simp [z])) e) (fun b o _ _ hc e _ => ⟨o.slots, k b o (fun z => hc (by simp [z])) e⟩) (fun _ _ _ _ n => n)
    (fun b o hc e => ⟨o, k b o (fun z => hc (by simp [z])) e⟩) (fun _ _ e => e) (fun _ _ _ e => e) (fun b ps e => ⟨#[], by rw [e]; simp⟩) (fun m hm => ?_) (fun b u e => ?_) I.bare
  · have e : b = it := by simpa using hb
    subst e
    exact ⟨h1, hL, h2, h3⟩
  · obtain ⟨o, es, ep, ho, r⟩ := hm
    exact ⟨o, es, ep, k _ o (Ne.symm hL) ho, r⟩
  · refine (I.hok b u e).stay (fun c v hc q => k c v ?_ q) (fun _ q => q) fun _ _ q => q
    rcases hc with z | z
    · rw [z]; exact nit b u e
    · exact nit c _ z
theorem Inv.tok (I : Inv X pins σ H s) (t : Nat) : Inv X pins σ H { s with toks := t } := I.un (h' := s.heap) (t' := t) Un.refl I.hok
/-- all objects kept -/
theorem Inv.kept {t' : Nat} (I : Inv X pins σ H s) (k : ∀ b u, s.heap.get? b = some u → h'.get? b = some u) : Inv X pins σ H { s with heap := h', toks := t' } := I.un (Un.kept k) (I.hok.kept k)
/-- a new object laid and tracked -/
theorem Inv.laid {a : Addr} {o : HO} {t' : Nat} (I : Inv X pins σ H s) (k : ∀ b u, s.heap.get? b = some u → h'.get? b = some u) (hp : s.heap.objs.size ≤ a) (new : ObjOk X.prog X.w (upd H a o) h' a o) :
    Inv X pins σ (upd H a o) { s with heap := h', toks := t' } := I.un (Un.laid k hp (I.hok.fresh hp)) (I.hok.laid k hp new)
/-- an object written -/
theorem Inv.write {x e : Addr} {o : HO} {t' : Nat} (I : Inv X pins σ H s) (mu : Mut (H x)) (he : e = x ∨ H e = some (.own x)) (k : ∀ b u, b ≠ e → s.heap.get? b = some u → h'.get? b = some u) (heo : ∃ u, h'.get? e = some u)
    (new : ObjOk X.prog X.w (upd H x o) h' x o) : Inv X pins σ (upd H x o) { s with heap := h', toks := t' } := I.un (Un.write mu he k heo) (I.hok.write mu he k heo new)
theorem Inv.pins_of {pins' : List (Addr × Obj)} (I : Inv X pins σ H s) (h : ∀ p ∈ pins', s.heap.get? p.1 = some p.2 ∧ H p.1 = none ∧ p.1 ≠ X.env.locals ∧ p.1 ∉ X.fs ∧ ∀ v, p.2.data ≠ .cell v) : Inv X pins' σ H s :=
  ⟨I.ok, I.os, I.bare, I.base, I.loc, I.cell, I.free, I.freeC, fun p hp => (List.mem_append.mp hp).elim (fun z => I.pin p (List.mem_append_left _ z)) (h p), I.hok, I.len⟩

theorem nodup_ix {N : List Str} (hN : N.Nodup) {i j : Nat} {x : Str} (a : N[i]? = some x) (b : N[j]? = some x) : i = j := by
  obtain ⟨h1, e1⟩ := List.getElem?_eq_some_iff.mp a
  obtain ⟨h2, e2⟩ := List.getElem?_eq_some_iff.mp b
  exact (List.getElem_inj hN).mp (e1.trans e2.symm)

/-- a name is stored; what changed -/
theorem store_ok2 {M : Model} {A : Around} {E : Value → Shared → Prop} {i : Nat} {x : Str} {v : V} {u : Value} {Q : Unit → Shared → Prop} (I : Inv X pins σ H s) (hN : X.N.Nodup) (hi : X.N[i]? = some x) (hx : Loc X.env.scope x) (r : RelV v u)
    (h : ∀ s', Inv X pins (σ.set i (some v)) H s' → (∃ a, Heap.SameBut a s.heap s'.heap ∧ (a = X.env.locals ∨ X.env.cells.lookup x = some a)) → Q () s') (hf : X.fn x = true ∨ X.env.scope.names.lookup x = some .local := by first | exact .inl rfl | exact .inr rfl | assumption) : wpAny M A (storeName X.env x u) Q E s := by
  obtain ⟨m, hn, hl⟩ := id I.loc
  have hcls : (X.env.scope.kind == .class || (X.env.scope.kind == .module && X.env.locals != X.env.globals)) = false := by rw [I.ok.kind]; rfl
  have hiσ : i < σ.length := by rw [I.len]; exact (List.getElem?_eq_some_iff.mp hi).1
  have cne := I.cne
  have tracked : ∀ {a : Addr} {h' : Heap}, (∃ o, s.heap.get? a = some o ∧ H a = none) → Heap.SameBut a s.heap h' → HOk X.prog X.w H h' := fun {a h'} ha hs b ob e => by
    obtain ⟨_, _, hfree⟩ := ha
    refine (I.hok b ob e).stay (fun c w' hc q => (hs.2 c ?_).trans q) (fun _ q => q) fun _ _ q => q
    rintro rfl
    rcases hc with rfl | hc
    · rw [hfree] at e; cases e
    · rw [hfree] at hc; cases hc
  rcases hx with hk | hk
  · refine wpAny_storeName_local hk hn (fun h' hn' hs => ?_) hcls
    obtain ⟨oL, _, _, hoL, _⟩ := id hn
    refine h _ ⟨I.ok, I.os, I.bare, ⟨fun b o e n hb hx => ?_, fun b o e n hb hx => ?_, I.base.free, fun b o e hx => ?_, I.base.tups, I.base.frzs, I.base.tbls⟩, ⟨_, hn', fun j y v' e1 e2 e3 => ?_⟩, fun y c e => ?_, I.free, I.freeC, fun p hp => ?_, tracked ⟨oL, hoL, I.free⟩ hs, by simpa using I.len⟩ ⟨_, hs, .inl rfl⟩
    · exact (hs.2 b (Nat.ne_of_lt (Nat.lt_of_lt_of_le (Heap.lt_size e) I.ok.above))).trans (I.base.keep b o e n hb hx)
    · obtain ⟨sl, e1⟩ := I.base.slot b o e n hb hx
      exact ⟨sl, (hs.2 b (Nat.ne_of_lt (Nat.lt_of_lt_of_le (Heap.lt_size e) I.ok.above))).trans e1⟩
    · obtain ⟨o', e1⟩ := I.base.there b o e hx
      exact ⟨o', (hs.2 b (Nat.ne_of_lt (Nat.lt_of_lt_of_le (Heap.lt_size e) I.ok.above))).trans e1⟩
    · by_cases hj : j = i
      · subst hj
        rw [hi] at e1; cases e1
        rw [List.getElem?_set_self hiσ] at e2
        cases e2
        exact ⟨u, r, .inl ⟨hk, by simp⟩⟩
      · rw [List.getElem?_set_ne (Ne.symm hj)] at e2
        obtain ⟨u', r', q⟩ := hl j y v' e1 e2 e3
        refine ⟨u', r', ?_⟩
        rcases q with ⟨k, e⟩ | ⟨k, c, e, z⟩
        · refine .inl ⟨k, ?_⟩
          have : y ≠ x := fun e => hj (nodup_ix hN e1 (e ▸ hi))
          simp [this, e]
        · exact .inr ⟨k, c, e, z.sameBut hs (cne y c e)⟩
    · obtain ⟨w', z⟩ := I.cell y c e
      exact ⟨w', z.sameBut hs (cne y c e)⟩
    · obtain ⟨e, n, ne, nf, d⟩ := I.pin p hp
      exact ⟨(hs.2 p.1 ne).trans e, n, ne, nf, d⟩
  · have hfn : X.fn x = true := by
      rcases hf with z | z
      · exact z
      · rw [z] at hk; cases hk
    obtain ⟨c, hc⟩ := I.ok.has x (.inl hk)
    obtain ⟨w', z⟩ := I.cell x c hc
    refine wpAny_storeName_cell I.ok.kind hk hc z (fun h' hc' hs => ?_)
    obtain ⟨oc, hoc, hocd⟩ := id z
    refine h { s with heap := h' } ⟨I.ok, I.os, I.bare, ⟨fun b o e n hb hx => ?_, fun b o e n hb hx => ?_, I.base.free, fun b o e hx => ?_, I.base.tups, I.base.frzs, I.base.tbls⟩, ⟨m, hn.sameBut hs (Ne.symm (cne x c hc)), fun j y v' e1 e2 e3 => ?_⟩, fun y c' e => ?_, I.free, I.freeC, fun p hp => ?_, tracked ⟨oc, hoc, I.freeC x c hc⟩ hs, by simpa using I.len⟩ ⟨c, hs, .inr hc⟩
    · exact (hs.2 b (Nat.ne_of_lt (Nat.lt_of_lt_of_le (Heap.lt_size e) (I.ok.cab x c hfn hc)))).trans (I.base.keep b o e n hb hx)
    · obtain ⟨sl, e1⟩ := I.base.slot b o e n hb hx
      exact ⟨sl, (hs.2 b (Nat.ne_of_lt (Nat.lt_of_lt_of_le (Heap.lt_size e) (I.ok.cab x c hfn hc)))).trans e1⟩
    · obtain ⟨o', e1⟩ := I.base.there b o e hx
      exact ⟨o', (hs.2 b (Nat.ne_of_lt (Nat.lt_of_lt_of_le (Heap.lt_size e) (I.ok.cab x c hfn hc)))).trans e1⟩
    · by_cases hj : j = i
      · subst hj
        rw [hi] at e1; cases e1
        rw [List.getElem?_set_self hiσ] at e2
        cases e2
        exact ⟨u, r, .inr ⟨.inl hk, c, hc, hc'⟩⟩
      · rw [List.getElem?_set_ne (Ne.symm hj)] at e2
        obtain ⟨u', r', q⟩ := hl j y v' e1 e2 e3
        refine ⟨u', r', ?_⟩
        rcases q with q | ⟨k, c', e, z'⟩
        · exact .inl q
        · refine .inr ⟨k, c', e, z'.sameBut hs ?_⟩
          rintro rfl
          exact hj (nodup_ix hN e1 (I.ok.inj _ _ _ e hc ▸ hi))
    · by_cases hcc : c' = c
      · subst hcc; exact ⟨_, hc'⟩
      · obtain ⟨w2, z2⟩ := I.cell y c' e
        exact ⟨w2, z2.sameBut hs hcc⟩
    · obtain ⟨e, n, ne, nf, d⟩ := I.pin p hp
      refine ⟨(hs.2 p.1 ?_).trans e, n, ne, nf, d⟩
      intro q
      rw [q, hoc] at e
      have q' : oc = p.2 := Option.some.inj e
      exact d w' (by rw [← q']; exact hocd)
theorem store_ok {M : Model} {A : Around} {E : Value → Shared → Prop} {i : Nat} {x : Str} {v : V} {u : Value} {Q : Unit → Shared → Prop} (I : Inv X pins σ H s) (hN : X.N.Nodup) (hi : X.N[i]? = some x) (hx : Loc X.env.scope x) (r : RelV v u)
    (h : ∀ s', Inv X pins (σ.set i (some v)) H s' → Q () s') (hf : X.fn x = true ∨ X.env.scope.names.lookup x = some .local := by first | exact .inl rfl | exact .inr rfl | assumption) : wpAny M A (storeName X.env x u) Q E s :=
  store_ok2 I hN hi hx r (fun s' I' _ => h s' I') hf
end

/-! ### the judgements -/
/-- an exception: its class, its own dict's address (where it has one), the abstract heap behind it -/
abbrev XK := Value → Option Addr → Hp → Prop
abbrev St := List (Option V)
abbrev VK := V → Hp → Prop
/-- an expression's reading; a test's; an argument list's -/
abbrev TE := St → Hp → VK → Prop
abbrev TT := St → Hp → (Bool → Hp → Prop) → Prop
abbrev TA := St → Hp → (List V → Hp → Prop) → Prop
/-- what is wanted behind a statement -/
structure Ends where
  nx : St → Hp → Prop
  rt : VK
  bk : St → Hp → Prop := fun _ _ => False
  ct : St → Hp → Prop := fun _ _ => False
abbrev TS := Ends → St → Hp → Prop

def EP (X : Cx) (pins : List (Addr × Obj)) (σ : St) (Q : VK) (u : Value) (s' : Shared) : Prop := ∃ v H', Inv X pins σ H' s' ∧ RelV v u ∧ Q v H'
def TP (X : Cx) (pins : List (Addr × Obj)) (σ : St) (Q : Bool → Hp → Prop) (b : Bool) (s' : Shared) : Prop := ∃ H', Inv X pins σ H' s' ∧ Q b H'
def AP (X : Cx) (pins : List (Addr × Obj)) (σ : St) (Q : List V → Hp → Prop) (us : List Value) (s' : Shared) : Prop := ∃ vs H', Inv X pins σ H' s' ∧ Vals vs us ∧ Q vs H'
def SP (X : Cx) (pins : List (Addr × Obj)) (D : Ends) (f : Flow) (s' : Shared) : Prop :=
  match f with
  | .next => ∃ σ' H', Inv X pins σ' H' s' ∧ D.nx σ' H'
  | .brk => ∃ σ' H', Inv X pins σ' H' s' ∧ D.bk σ' H'
  | .cont => ∃ σ' H', Inv X pins σ' H' s' ∧ D.ct σ' H'
  | .ret u => ∃ v σ' H', Inv X pins σ' H' s' ∧ RelV v u ∧ D.rt v H'

def PE (X : Cx) (e : Expr) (t : TE) : Prop :=
  ∀ (pins : List (Addr × Obj)) (s : Shared) (σ : St) (H : Hp) (Q : VK), Inv X pins σ H s → t σ H Q → wpAny (model X.prog X.w) X.A (eval e X.env) (EP X pins σ Q) X.xe s
def PT (X : Cx) (e : Expr) (t : TT) : Prop :=
  ∀ (pins : List (Addr × Obj)) (s : Shared) (σ : St) (H : Hp) (Q : Bool → Hp → Prop), Inv X pins σ H s → t σ H Q → wpAny (model X.prog X.w) X.A (isTrue e X.env (eval e X.env)) (TP X pins σ Q) X.xe s
/-- a test whatever its 'whole' is (and, or) -/
def PW (X : Cx) (e : Expr) (t : TT) : Prop :=
  ∀ (whole : Sem Value) (pins : List (Addr × Obj)) (s : Shared) (σ : St) (H : Hp) (Q : Bool → Hp → Prop), Inv X pins σ H s → t σ H Q → wpAny (model X.prog X.w) X.A (isTrue e X.env whole) (TP X pins σ Q) X.xe s
theorem PW.pt {X : Cx} {e : Expr} {t : TT} (h : PW X e t) : PT X e t := h _
/-- an argument list (no star), from the left -/
def PA (X : Cx) (es : List Expr) (t : TA) : Prop :=
  ∀ (pos : Pos) (pins : List (Addr × Obj)) (s : Shared) (σ : St) (H : Hp) (Q : List V → Hp → Prop), Inv X pins σ H s → t σ H Q → wpAny (model X.prog X.w) X.A (spliced (backTo pos (starEach es X.env))) (AP X pins σ Q) X.xe s
def PS (X : Cx) (st : Stmt) (t : TS) : Prop :=
  ∀ (pins : List (Addr × Obj)) (s : Shared) (σ : St) (H : Hp) (D : Ends), Inv X pins σ H s → t D σ H → wpAny (model X.prog X.w) X.A (exec st X.env) (SP X pins D) X.xe s
def PSs (X : Cx) (st : List Stmt) (t : TS) : Prop :=
  ∀ (pins : List (Addr × Obj)) (s : Shared) (σ : St) (H : Hp) (D : Ends), Inv X pins σ H s → t D σ H → wpAny (model X.prog X.w) X.A (execs st X.env) (SP X pins D) X.xe s
/-- weaken the end -/
theorem thn {α : Type} {t : Sem α} {Q Q' : α → Shared → Prop} {M : Model} {A : Around} {E : Value → Shared → Prop} {s : Shared} (h : wpAny M A t Q E s) (hQ : ∀ a s, Q a s → Q' a s) : wpAny M A t Q' E s := wpAny_mono h hQ fun _ _ x => x
end L2

namespace L2
open PySem PySem.Spec PyProof.Rows
section
variable {X : Cx}

/-- two expressions in a row -/
theorem bin {a b : Expr} {ta tb : TE} (ha : PE X a ta) (hb : PE X b tb) {pins : List (Addr × Obj)} {s : Shared} {σ : St} {H : Hp} {R : V → V → Hp → Prop} (I : Inv X pins σ H s) (h : ta σ H fun x H1 => tb σ H1 fun y H2 => R x y H2)
    {α : Type} {Q : α → Shared → Prop} {f : Value → Value → Sem α}
    (hf : ∀ v u s2 x y H2, Inv X pins σ H2 s2 → RelV x v → RelV y u → R x y H2 → wpAny (model X.prog X.w) X.A (f v u) Q X.xe s2) :
    wpAny (model X.prog X.w) X.A (eval a X.env) (fun v s₁ => wpAny (model X.prog X.w) X.A (eval b X.env) (fun u s₂ => wpAny (model X.prog X.w) X.A (f v u) Q X.xe s₂) X.xe s₁) X.xe s := by
  refine thn (ha pins s σ H _ I h) fun v s1 ⟨x, H1, I1, r1, q1⟩ => ?_
  refine thn (hb pins s1 σ H1 _ I1 q1) fun u s2 ⟨y, H2, I2, r2, q2⟩ => ?_
  exact hf v u s2 x y H2 I2 r1 r2 q2

/-! ### names and constants -/
def tVar (i : Nat) : TE := fun σ H Q => ∃ v, σ[i]? = some (some v) ∧ Q v H
def tC (v : V) : TE := fun _ H Q => Q v H
theorem pe_var {i : Nat} {x : Str} {pos : Pos} (hN : X.N[i]? = some x) (hv : Vis X.env.scope x) (hd : (x == ("__debug__" : Str)) = false := by decide) (hcd : (x == ("__classdict__" : Str)) = false := by decide) : PE X (.Name x pos) (tVar i) := by
  intro pins s σ H Q I h
  obtain ⟨v, e, h⟩ := h
  obtain ⟨m, hn, hl⟩ := I.loc
  obtain ⟨u, r, l⟩ := hl i x v hN e hv
  have fin : EP X pins σ Q u s := ⟨v, H, I, r, h⟩
  rcases l with ⟨hk, hm⟩ | ⟨hk, c, hc, hcell⟩
  · exact wpAny_Name (wpAny_loadName_local I.ok.kind hk hn hm fin) hd
  · rcases hk with hk | hk
    · exact wpAny_Name (wpAny_loadName_cell I.ok.kind hk hc hcell fin) hd
    · exact wpAny_Name (wpAny_loadName_free I.ok.kind hk hc hcell fin hcd) hd
theorem pe_int {i j pos} : PE X (.Constant (.int i) j pos) (tC (.int i)) := fun _ _ _ H _ I h => wpAny_Constant_int ⟨.int i, H, I.tok _, ⟨_, rfl⟩, h⟩
theorem pe_bl {b j pos} : PE X (.Constant (.bool b) j pos) (tC (.bl b)) := fun _ _ _ H _ I h => Constant_bool ⟨.bl b, H, I, rfl, h⟩
theorem pe_non {j pos} : PE X (.Constant .none j pos) (tC .non) := fun _ _ _ H _ I h => Constant_none ⟨.non, H, I, rfl, h⟩
theorem pe_str {x j pos} : PE X (.Constant (.str x) j pos) (tC (.str x)) := fun _ _ _ H _ I h => Calls.Constant_str ⟨.str x, H, I.tok _, ⟨_, rfl⟩, h⟩

/-- a global name of the def -/
def Gl (X : Cx) (x : Str) : Prop := X.env.kindOf x = some .globalImplicit
theorem ld_glob {E : Value → Shared → Prop} {pins : List (Addr × Obj)} {s : Shared} {σ : St} {H : Hp} {x : Str} {u : Value} {pos : Pos} {Q : Value → Shared → Prop} (I : Inv X pins σ H s) (hg : Gl X x) (hm : X.mg x = some u) (h : Q u s)
    (hd : (x == ("__debug__" : Str)) = false := by decide) : wpAny (model X.prog X.w) X.A (eval (.Name x pos) X.env) Q E s :=
  Calls.Name_function_global I.ok.kind hg (Calls.loadGlobal_global (by rw [I.ok.glob]; exact I.mod.glob.keeps I.bk) hm h) hd
theorem ld_blt {E : Value → Shared → Prop} {pins : List (Addr × Obj)} {s : Shared} {σ : St} {H : Hp} {x : Str} {u : Value} {pos : Pos} {Q : Value → Shared → Prop} (I : Inv X pins σ H s) (hg : Gl X x) (hm : X.mg x = none) (hv : bootBuiltins x = some u) (h : Q u s)
    (hn : x ≠ "__name__" := by decide) (hd : (x == ("__debug__" : Str)) = false := by decide) : wpAny (model X.prog X.w) X.A (eval (.Name x pos) X.env) Q E s := by
  obtain ⟨mb, h1, h2⟩ := I.mod.blt
  exact Calls.Name_function_global I.ok.kind hg (Calls.loadGlobal_builtin (by rw [I.ok.glob]; exact I.mod.glob.keeps I.bk) hm (by rw [I.ok.blt]; exact h1.keeps I.bk) ((h2 x hn).trans hv) h) hd
/-- a module's constant, a class, a function, as a value -/
theorem pe_glob {x : Str} {v : V} {u : Value} {pos : Pos} (hg : Gl X x) (hm : X.mg x = some u) (r : RelV v u) (hd : (x == ("__debug__" : Str)) = false := by decide) : PE X (.Name x pos) (tC v) :=
  fun _ _ _ H _ I h => ld_glob I hg hm ⟨v, H, I, r, h⟩ hd
theorem pe_bltn {x : Str} {v : V} {u : Value} {pos : Pos} (hg : Gl X x) (hm : X.mg x = none) (hv : bootBuiltins x = some u) (r : RelV v u) (hn : x ≠ "__name__" := by decide) (hd : (x == ("__debug__" : Str)) = false := by decide) : PE X (.Name x pos) (tC v) :=
  fun _ _ _ H _ I h => ld_blt I hg hm hv ⟨v, H, I, r, h⟩ hn hd

/-! ### arithmetic -/
variable {a b : Expr} {ta tb : TE} {pos : Pos}

/-! ### comparisons -/
def PC (X : Cx) (op : CmpOp) (a b : Expr) (t : TE) : Prop :=
  ∀ (pins : List (Addr × Obj)) (s : Shared) (σ : St) (H : Hp) (Q : VK), Inv X pins σ H s → t σ H Q →
    wpAny (model X.prog X.w) X.A (eval a X.env) (fun v s₁ => wpAny (model X.prog X.w) X.A (eval b X.env) (fun u s₂ => wpAny (model X.prog X.w) X.A (compareOp op v u) (EP X pins σ Q) X.xe s₂) X.xe s₁) X.xe s
/-- a comparison as a value, as a test -/
def tB (t : TE) : TT := fun σ H Q => t σ H fun x H1 => ∃ c, x = .bl c ∧ Q c H1
theorem pt_cmp {op : CmpOp} {t : TE} (h : PC X op a b t) (h1 : behindInMarks op b = false := by first | exact nobehind _ (by decide) (by decide) | rfl) : PT X (.Compare a [op] [b] pos) (tB t) := by
  intro pins s σ H Q I hw
  refine wpAny_isTrue_Compare1 (thn (h pins s σ H _ I hw) fun v s1 h1 => thn h1 fun u s2 h2 => thn h2 fun c s3 ⟨x, H1, I1, r1, q1⟩ => ?_) h1
  obtain ⟨d, rfl, q⟩ := q1
  cases r1
  exact wpAny_truthy_bool ⟨H1, I1, q⟩
/-- an expression whose value is a bool, as a test -/
theorem pt_val {e : Expr} {t : TE} (h : PE X e t) (he : ∀ whole, isTrue e X.env whole = (do let v ← whole; standAt e.pos; holding [v] (truthy v)) := by intro _; rfl) : PT X e (tB t) := by
  intro pins s σ H Q I hw
  refine isTrue_plain (thn (h pins s σ H _ I hw) fun v s1 ⟨x, H1, I1, r1, q1⟩ => ?_) (he _)
  obtain ⟨d, rfl, q⟩ := q1
  cases r1
  exact wpAny_truthy_bool ⟨H1, I1, q⟩

/-! ### and, or, not -/
variable {tA tB' : TT} {rest : List Expr}
def tAnd (t u : TT) : TT := fun σ H Q => t σ H fun c H1 => if c = true then u σ H1 Q else Q false H1
def tOr (t u : TT) : TT := fun σ H Q => t σ H fun c H1 => if c = true then Q true H1 else u σ H1 Q
def tNot (t : TT) : TT := fun σ H Q => t σ H fun c H1 => Q (!c) H1
theorem pw_and1 (ha : PT X a tA) : PW X (.BoolOp .And [a] pos) tA := by
  intro wh pins s σ H Q I h
  refine isTrue_and (thn (ha pins s σ H Q I h) fun c s1 e => ?_)
  cases c with
  | true => exact isTrue_and_nil e
  | false => exact e
theorem pw_or1 (ha : PT X a tA) : PW X (.BoolOp .Or [a] pos) tA := by
  intro wh pins s σ H Q I h
  refine isTrue_or (thn (ha pins s σ H Q I h) fun c s1 e => ?_)
  cases c with
  | false => exact isTrue_or_nil e
  | true => exact e
theorem pw_and (ha : PT X a tA) (hb : PW X (.BoolOp .And (b :: rest) pos) tB') : PW X (.BoolOp .And (a :: b :: rest) pos) (tAnd tA tB') := by
  intro wh pins s σ H Q I h
  refine isTrue_and (thn (ha pins s σ H _ I h) fun c s1 ⟨H1, I1, q1⟩ => ?_)
  cases c with
  | true => exact hb wh pins s1 σ H1 Q I1 q1
  | false => exact ⟨H1, I1, q1⟩
theorem pw_or (ha : PT X a tA) (hb : PW X (.BoolOp .Or (b :: rest) pos) tB') : PW X (.BoolOp .Or (a :: b :: rest) pos) (tOr tA tB') := by
  intro wh pins s σ H Q I h
  refine isTrue_or (thn (ha pins s σ H _ I h) fun c s1 ⟨H1, I1, q1⟩ => ?_)
  cases c with
  | true => exact ⟨H1, I1, q1⟩
  | false => exact hb wh pins s1 σ H1 Q I1 q1
theorem pt_not (ha : PT X a tA) : PT X (.UnaryOp .Not a pos) (tNot tA) := by
  intro pins s σ H Q I h
  exact isTrue_not (ha pins s σ H (fun c H1 => Q (!c) H1) I h)
/-- .. as values (bools) -/
def tAndV (ta tb : TE) : TE := fun σ H Q => ta σ H fun x H1 => ∃ c, x = .bl c ∧ if c = true then tb σ H1 Q else Q (.bl false) H1
def tNotV (ta : TE) : TE := fun σ H Q => ta σ H fun x H1 => ∃ c, x = .bl c ∧ Q (.bl (!c)) H1
theorem pe_one {op} {t : TE} (h : PE X a t) : PE X (.BoolOp op [a] pos) t := fun pins s σ H Q I hw => BoolOp_one (h pins s σ H Q I hw)
theorem pe_and (ha : PE X a ta) (hb : PE X (.BoolOp .And (b :: rest) pos) tb) : PE X (.BoolOp .And (a :: b :: rest) pos) (tAndV ta tb) := by
  intro pins s σ H Q I h
  refine BoolOp_and (thn (ha pins s σ H _ I h) fun v s1 ⟨x, H1, I1, r1, q1⟩ => ?_)
  obtain ⟨c, rfl, q1⟩ := q1
  cases r1
  refine wpAny_truthy_bool ?_
  cases c with
  | true => exact hb pins s1 σ H1 Q I1 q1
  | false => exact ⟨.bl false, H1, I1, rfl, q1⟩
theorem pe_not (ha : PE X a ta) : PE X (.UnaryOp .Not a pos) (tNotV ta) := by
  intro pins s σ H Q I h
  refine UnaryOp_ (thn (ha pins s σ H _ I h) fun v s1 ⟨x, H1, I1, r1, q1⟩ => ?_)
  obtain ⟨c, rfl, q1⟩ := q1
  cases r1
  exact not_of (wpAny_truthy_bool ⟨.bl (!c), H1, I1, rfl, q1⟩)
/-- a if t else b -/
def tIf (t : TT) (ta tb : TE) : TE := fun σ H Q => t σ H fun c H1 => if c = true then ta σ H1 Q else tb σ H1 Q
theorem pe_ifExp {c : Expr} (hc : PT X c tA) (ha : PE X a ta) (hb : PE X b tb) : PE X (.IfExp c a b pos) (tIf tA ta tb) := by
  intro pins s σ H Q I h
  refine wpAny_IfExp (thn (hc pins s σ H _ I h) fun d s1 ⟨H1, I1, q1⟩ => ?_)
  cases d with
  | true => exact ha pins s1 σ H1 Q I1 q1
  | false => exact hb pins s1 σ H1 Q I1 q1
end
end L2

namespace L2
open PySem PySem.Spec PyProof.Rows

/-! ### a list, a tuple that is read: tracked, frozen, or an object of the module -/
def SqL (K : PySem.W.Frag) (H : Hp) (a : Addr) (xs : List V) : Prop :=
  Rd H a (.lst xs) ∨
    ∃ (o : Obj) (its : Array Value) (n : Nat), K.lookup a = some o ∧ o.cls = .type "list" ∧ o.dict = none ∧ o.data = .seq its n ∧ its.size ≤ sizeLine ∧ Vals xs its.toList
def SqT (K : PySem.W.Frag) (H : Hp) (a : Addr) (xs : List V) : Prop :=
  Rd H a (.tup xs) ∨
    ∃ (o : Obj) (its : Array Value) (n : Nat), K.lookup a = some o ∧ o.cls = .type "tuple" ∧ o.data = .seq its n ∧ its.size ≤ sizeLine ∧ Vals xs its.toList
def absV : Value → Option V
  | .none => some .non
  | .bool b => some (.bl b)
  | .int i _ => some (.int i)
  | .str x _ => some (.str x)
  | .bytes b _ => some (.byt b)
  | .float b _ => some (.flt b)
  | .ref a => some (.ref a)
  | .type n => some (.ty n)
  | _ => none
theorem RelV.abs {x : V} {u : Value} (r : RelV x u) : absV u = some x := by
  cases x with
  | non => cases r; rfl
  | bl _ => cases r; rfl
  | int _ => obtain ⟨t, rfl⟩ := r; rfl
  | str _ => obtain ⟨t, rfl⟩ := r; rfl
  | byt _ => obtain ⟨t, rfl⟩ := r; rfl
  | flt _ => obtain ⟨t, rfl⟩ := r; rfl
  | ref _ => cases r; rfl
  | ty _ => cases r; rfl
theorem RelV.inj {x y : V} {u : Value} (r : RelV x u) (q : RelV y u) : x = y := Option.some.inj (r.abs.symm.trans q.abs)
theorem Vals.inj : ∀ {xs ys : List V} {us : List Value}, Vals xs us → Vals ys us → xs = ys
  | _, _, _, .nil, .nil => rfl
  | _, _, _, .cons r t, .cons r' t' => by rw [r.inj r', Vals.inj t t']
section
variable {X : Cx} {pins : List (Addr × Obj)} {σ : St} {H : Hp} {s : Shared} {a : Addr} {xs ys : List V}
theorem SqL.of {K : PySem.W.Frag} (h : H a = some (.lst xs)) : SqL K H a xs := .inl (.inl h)
theorem SqT.of {K : PySem.W.Frag} (h : H a = some (.tup xs)) : SqT K H a xs := .inl (.inl h)
theorem Inv.list (I : Inv X pins σ H s) (h : SqL X.K H a xs) : ∃ its : List Value, Vals xs its ∧ PlainL s.heap a its.toArray ∧ xs.length ≤ sizeLine := by
  rcases h with h | ⟨o, its, n, hk, hc, hd, hs, hz, r⟩
  · obtain ⟨z, its, n, r, e⟩ := h.ok I.hok
    exact ⟨its, r, ⟨_, n, e, rfl, rfl, rfl⟩, z⟩
  · refine ⟨its.toList, r, ⟨o, n, I.kIn a o hk, hc, hd, by simpa using hs⟩, ?_⟩
    have e := r.length
    simp only [Array.length_toList] at e
    omega
theorem Inv.tuple (I : Inv X pins σ H s) (h : SqT X.K H a xs) : ∃ its : List Value, Vals xs its ∧ IsTup s.heap a its.toArray ∧ xs.length ≤ sizeLine := by
  rcases h with h | ⟨o, its, n, hk, hc, hs, hz, r⟩
  · obtain ⟨z, its, r, p⟩ := h.ok I.hok
    exact ⟨its, r, p, z⟩
  · refine ⟨its.toList, r, ⟨o, I.kIn a o hk, hc, n, by simpa using hs⟩, ?_⟩
    have e := r.length
    simp only [Array.length_toList] at e
    omega
theorem Inv.list_inj (I : Inv X pins σ H s) (h : SqL X.K H a xs) (h' : SqL X.K H a ys) : xs = ys := by
  obtain ⟨its, r, ⟨o, n, e, _, _, d⟩, _⟩ := I.list h
  obtain ⟨its', r', ⟨o', n', e', _, _, d'⟩, _⟩ := I.list h'
  rw [e] at e'; cases e'
  rw [d] at d'
  injection d' with d1 _
  have : its = its' := by simpa using congrArg Array.toList d1
  subst this
  exact r.inj r'
end

/-! ### another wish about exceptions -/
abbrev Cx.wish (X : Cx) (E : Value → Shared → Prop) : Cx := { X with xe := E }
/-- no exception leaves -/
abbrev Cx.nox (X : Cx) : Cx := X.wish fun _ _ => False
theorem Cx.Ok.wish {X : Cx} (ok : X.Ok) (E : Value → Shared → Prop) : (X.wish E).Ok :=
  ⟨ok.mod, ok.kind, ok.glob, ok.blt, ok.above, ok.inj, ok.has, ok.cab, ok.hd, ok.frames, ok.stk, ok.exf, ok.bs, ok.bsz, ok.noex, ok.exfs, ok.funs, ok.frf⟩
theorem Cx.Ok.unwish {X : Cx} {E : Value → Shared → Prop} (ok : (X.wish E).Ok) : X.Ok :=
  ⟨ok.mod, ok.kind, ok.glob, ok.blt, ok.above, ok.inj, ok.has, ok.cab, ok.hd, ok.frames, ok.stk, ok.exf, ok.bs, ok.bsz, ok.noex, ok.exfs, ok.funs, ok.frf⟩
section
variable {X : Cx} {pins : List (Addr × Obj)} {σ : St} {H : Hp} {s : Shared} {E : Value → Shared → Prop}
theorem Inv.wish (I : Inv X pins σ H s) (E : Value → Shared → Prop) : Inv (X.wish E) pins σ H s := ⟨I.ok.wish E, I.os, I.bare, I.base, I.loc, I.cell, I.free, I.freeC, I.pin, I.hok, I.len⟩
theorem Inv.unwish (I : Inv (X.wish E) pins σ H s) : Inv X pins σ H s := ⟨I.ok.unwish, I.os, I.bare, I.base, I.loc, I.cell, I.free, I.freeC, I.pin, I.hok, I.len⟩
theorem SP.unwish {D : Ends} {f : Flow} {s' : Shared} (h : SP (X.wish E) pins D f s') : SP X pins D f s' := by
  cases f with
  | next => obtain ⟨σ', H', I, q⟩ := h; exact ⟨σ', H', I.unwish, q⟩
  | brk => obtain ⟨σ', H', I, q⟩ := h; exact ⟨σ', H', I.unwish, q⟩
  | cont => obtain ⟨σ', H', I, q⟩ := h; exact ⟨σ', H', I.unwish, q⟩
  | ret u => obtain ⟨v, σ', H', I, r, q⟩ := h; exact ⟨v, σ', H', I.unwish, r, q⟩
theorem PSs.nox {st : List Stmt} {t : TS} (h : PSs X.nox st t) : PSs X st t := fun pins s σ H D I hw =>
  wpAny_mono (h pins s σ H D (I.wish _) hw) (fun _ _ q => q.unwish) fun _ _ z => False.elim z
end

/-! ### blocks and small statements -/
section
variable {X : Cx} {st : Stmt} {rest : List Stmt} {t u : TS} {e : Expr} {te : TE} {pos : Pos}
def tNext : TS := fun D σ H => D.nx σ H
def tSeq (t u : TS) : TS := fun D σ H => t { D with nx := u D } σ H
theorem pss_nil : PSs X [] tNext := fun _ _ σ H _ I h => wpAny_execs_nil ⟨σ, H, I, h⟩
theorem pss_cons (h1 : PS X st t) (h2 : PSs X rest u) : PSs X (st :: rest) (tSeq t u) := by
  intro pins s σ H D I h
  refine wpAny_execs_cons (thn (h1 pins s σ H { D with nx := u D } I h) fun f s1 q => ?_)
  cases f with
  | next =>
    obtain ⟨σ', H', I', q⟩ := q
    exact h2 pins s1 σ' H' D I' q
  | ret v => exact q
  | brk => exact q
  | cont => exact q
theorem pss_one (h1 : PS X st t) : PSs X [st] t := by
  intro pins s σ H D I h
  refine wpAny_execs_cons (thn (h1 pins s σ H D I h) fun f s1 q => ?_)
  cases f with
  | next => exact wpAny_execs_nil q
  | ret v => exact q
  | brk => exact q
  | cont => exact q
/-- in a def's body nothing is shown -/
theorem Inv.quiet {pins : List (Addr × Obj)} {σ : St} {H : Hp} {s : Shared} (I : Inv X pins σ H s) : interactive X.env = false := by simp [interactive, I.ok.kind]
/-- an expression whose value is dropped -/
def tDrop (te : TE) : TS := fun D σ H => te σ H fun _ H1 => D.nx σ H1
theorem ps_expr (he : PE X e te) (hs : swapsWith e none pos.line X.env = pure false := by rfl) : PS X (.Expr e pos) (tDrop te) := by
  intro pins s σ H D I h
  exact wpAny_Expr_any (thn (he pins s σ H _ I h) fun v s1 ⟨x, H1, I1, r1, q1⟩ => ⟨σ, H1, I1, q1⟩) I.quiet hs
def tRet (te : TE) : TS := fun D σ H => te σ H D.rt
theorem ps_ret (he : PE X e te) : PS X (.Return (some e) pos) (tRet te) := by
  intro pins s σ H D I h
  exact wpAny_Return_some (thn (he pins s σ H _ I h) fun v s1 ⟨x, H1, I1, r1, q1⟩ => ⟨x, σ, H1, I1, r1, q1⟩)
def tIfS (c : TT) (t u : TS) : TS := fun D σ H => c σ H fun b H1 => if b = true then t D σ H1 else u D σ H1
theorem ps_if {c : Expr} {a b : List Stmt} {tc : TT} (hc : PT X c tc) (ha : PSs X a t) (hb : PSs X b u) : PS X (.If c a b pos) (tIfS tc t u) := by
  intro pins s σ H D I h
  refine wpAny_If (thn (hc pins s σ H _ I h) fun d s1 ⟨H1, I1, q1⟩ => ?_)
  cases d with
  | true => exact ha pins s1 σ H1 D I1 q1
  | false => exact hb pins s1 σ H1 D I1 q1
/-- code that the proof never comes to -/
def tNever : TS := fun _ _ _ => False
theorem ps_never : PS X st tNever := fun _ _ _ _ _ _ h => h.elim
end

/-! ### targets -/
abbrev TG := V → St → Hp → (St → Hp → Prop) → Prop
abbrev TGs := List V → St → Hp → (St → Hp → Prop) → Prop
def PG (X : Cx) (target : Expr) (t : TG) : Prop :=
  ∀ (pins : List (Addr × Obj)) (s : Shared) (σ : St) (H : Hp) (v : V) (u : Value) (Q : St → Hp → Prop), Inv X pins σ H s → RelV v u → t v σ H Q →
    wpAny (model X.prog X.w) X.A (assign target X.env u) (fun _ s' => ∃ σ' H', Inv X pins σ' H' s' ∧ Q σ' H') X.xe s
/-- several targets, one after another -/
def PGs (X : Cx) (ts : List Expr) (t : TGs) : Prop :=
  ∀ (pins : List (Addr × Obj)) (s : Shared) (σ : St) (H : Hp) (vs : List V) (us : List Value) (Q : St → Hp → Prop), Inv X pins σ H s → Vals vs us → t vs σ H Q →
    wpAny (model X.prog X.w) X.A (assignInOrder ((assignEach ts X.env).map (·.2)) us) (fun _ s' => ∃ σ' H', Inv X pins σ' H' s' ∧ Q σ' H') X.xe s
/-- o[i] = v, by values -/
abbrev TSet := V → V → V → Hp → (Hp → Prop) → Prop
def PSet (X : Cx) (t : TSet) : Prop :=
  ∀ (pins : List (Addr × Obj)) (s : Shared) (σ : St) (H : Hp) (o i v : V) (ov iv u : Value) (Q : Hp → Prop), Inv X pins σ H s → RelV o ov → RelV i iv → RelV v u → t o i v H Q →
    wpAny (model X.prog X.w) X.A (setItem ov iv u) (fun _ s' => ∃ H', Inv X pins σ H' s' ∧ Q H') X.xe s
section
variable {X : Cx} {pos : Pos}
def gName (i : Nat) : TG := fun v σ H Q => Q (σ.set i (some v)) H
theorem pg_name {i : Nat} {x : Str} (hN : X.N.Nodup) (hi : X.N[i]? = some x) (hx : Loc X.env.scope x) (hf : X.fn x = true ∨ X.env.scope.names.lookup x = some .local := by first | exact .inl rfl | exact .inr rfl | assumption) : PG X (.Name x pos) (gName i) := by
  intro pins s σ H v u Q I r h
  exact wpAny_assign_Name (store_ok I hN hi hx r (fun s' I' => ⟨_, H, I', h⟩) hf)
def gNil : TGs := fun vs σ H Q => vs = [] ∧ Q σ H
def gCons (t : TG) (u : TGs) : TGs := fun vs σ H Q => ∃ v r, vs = v :: r ∧ t v σ H fun σ' H' => u r σ' H' Q
theorem pgs_nil : PGs X [] gNil := by
  intro pins s σ H vs us Q I r h
  obtain ⟨e, h⟩ := h
  subst e
  cases r
  exact assignInOrder_nil ⟨σ, H, I, h⟩
theorem pgs_cons {e : Expr} {es : List Expr} {t : TG} {u : TGs} (h1 : PG X e t) (h2 : PGs X es u)
    (hs : (assignEach (e :: es) X.env).map (·.2) = assign e X.env :: (assignEach es X.env).map (·.2) := by rfl) : PGs X (e :: es) (gCons t u) := by
  intro pins s σ H vs us Q I r h
  obtain ⟨v, vr, e1, h⟩ := h
  subst e1
  cases r with
  | cons r rr =>
    rw [hs]
    refine assignInOrder_cons (thn (h1 pins s σ H _ _ _ I r h) fun _ s1 ⟨σ1, H1, I1, q1⟩ => ?_)
    exact h2 pins s1 σ1 H1 _ _ Q I1 rr q1
/-- (a, b, ..) = a tuple of that length -/
def gTup (K : PySem.W.Frag) (n : Nat) (t : TGs) : TG := fun v σ H Q => ∃ a xs, v = .ref a ∧ SqT K H a xs ∧ xs.length = n ∧ t xs σ H Q
theorem pg_tup {es : List Expr} {k : Nat} {t : TGs} {n : Nat} (hc : X.calm = true) (h : PGs X es t)
    (hn : (assignEach es X.env).length = n := by rfl) (hst : (assignEach es X.env).findIdx? (·.1) = none := by rfl) : PG X (.Tuple es k pos) (gTup X.K n t) := by
  intro pins s σ H v u Q I r hw
  obtain ⟨a, xs, e1, hq, hl, hw⟩ := hw
  subst e1
  cases r
  obtain ⟨its, rv, ht, hz⟩ := I.tuple hq
  refine assign_Tuple_tuple (I.ok.hd hc) ht (by simp [hn, ← hl, rv.length]) hst fun h' hx => ?_
  have I1 : Inv X pins σ H { s with heap := h' } := I.kept (t' := s.toks) fun b o e => hx b o (Nat.ne_of_lt (Heap.lt_size e)) e
  exact h pins _ σ H xs _ Q I1 (by simpa using rv) hw
/-- o[i] = .. -/
def gSub (to ti : TE) (t : TSet) : TG := fun v σ H Q => to σ H fun o H1 => ti σ H1 fun i H2 => t o i v H2 fun H3 => Q σ H3
theorem pg_sub {o i : Expr} {to ti : TE} {t : TSet} (ho : PE X o to) (hi : PE X i ti) (hs : PSet X t)
    (ha : ∀ v, assign (.Subscript o i pos) X.env v = (do
      let ov ← holding [v] (eval o X.env)
      let iv ← holding [v, ov] (eval i X.env)
      standAt pos
      holding [v, ov, iv] (setItem ov iv v)
      release [v, ov, iv] []) := by intro _; rfl) : PG X (.Subscript o i pos) (gSub to ti t) := by
  intro pins s σ H v u Q I r h
  rw [ha]
  refine wpAny_bind (wpAny_holding (thn (ho pins s σ H _ I h) fun ov s1 ⟨x, H1, I1, r1, q1⟩ => ?_))
  refine wpAny_bind (wpAny_holding (thn (hi pins s1 σ H1 _ I1 q1) fun iv s2 ⟨y, H2, I2, r2, q2⟩ => ?_))
  refine wpAny_bind (wpAny_standAt (wpAny_bind (wpAny_holding (thn (hs pins s2 σ H2 x y v ov iv u _ I2 r1 r2 r q2) fun _ s3 ⟨H3, I3, q3⟩ => ?_))))
  exact wpAny_release ⟨σ, H3, I3, q3⟩
/-- target = value -/
def tAsg (te : TE) (g : TG) : TS := fun D σ H => te σ H fun x H1 => g x σ H1 D.nx
theorem ps_asg {tg e : Expr} {te : TE} {g : TG} (he : PE X e te) (hg : PG X tg g) (hs : swapsWithSole [tg] e pos.line X.env = pure false := by rfl) (hw : swappedStores [tg] e X.env = pure none := by rfl)
    (h1 : (assignEach [tg] X.env).map (·.2) = [assign tg X.env] := by rfl) : PS X (.Assign [tg] e pos) (tAsg te g) := by
  intro pins s σ H D I h
  refine wpAny_Assign_stores (thn (he pins s σ H _ I h) fun v s1 ⟨x, H1, I1, r1, q1⟩ => ?_) hs hw
  rw [h1]
  exact thn (hg pins s1 σ H1 x v _ I1 r1 q1) fun _ s2 q => q
/-- name = value -/
theorem ps_set {i : Nat} {x : Str} {e : Expr} {te : TE} {pos' : Pos} (hN : X.N.Nodup) (hi : X.N[i]? = some x) (hx : Loc X.env.scope x) (he : PE X e te) (hs : swapsWith e (some (.Name x pos')) pos.line X.env = pure false := by rfl) (hf : X.fn x = true ∨ X.env.scope.names.lookup x = some .local := by first | exact .inl rfl | exact .inr rfl | assumption) :
    PS X (.Assign [.Name x pos'] e pos) (tAsg te (gName i)) := by
  intro pins s σ H D I h
  refine wpAny_Assign_Name (thn (he pins s σ H _ I h) fun v s1 ⟨y, H1, I1, r1, q1⟩ => ?_) hs
  exact store_ok I1 hN hi hx r1 (fun s2 I2 => ⟨_, H1, I2, q1⟩) hf
end

/-! ### while -/
section
variable {X : Cx} {pos : Pos}
end

/-! ### what a loop or a comprehension walks -/
/-- at turn i: it yields x (the heap may grow), or it stops -/
structure It where
  go : Nat → Hp → Prop
  yld : Nat → Hp → V → Hp → Prop
  stop : Nat → Hp → Prop
/-- the iterator's own objects may turn: they are not the frame's, not pinned, younger than the entry (or a comprehension's own) -/
def FpOk (X : Cx) (pins : List (Addr × Obj)) (H : Hp) (b : Addr) : Prop :=
  H b = none ∧ b ≠ X.env.locals ∧ b ∉ X.fs ∧ (b ∈ X.ex ∨ X.s₀.heap.objs.size ≤ b) ∧ (∀ x c, X.env.cells.lookup x = some c → c ≠ b) ∧ ∀ p ∈ X.pn ++ pins, p.1 ≠ b
theorem Inv.fpOk {X : Cx} {pins : List (Addr × Obj)} {σ : St} {H H' : Hp} {s : Shared} {b : Addr} (I : Inv X pins σ H s) (hb : s.heap.objs.size ≤ b) (hn : H' b = none) : FpOk X pins H' b := by
  refine ⟨hn, Nat.ne_of_gt (Nat.lt_of_lt_of_le I.lt hb), I.nofs hb, .inr (Nat.le_trans I.sz hb), fun x c e z => ?_, fun p hp z => ?_⟩
  · obtain ⟨v, q⟩ := I.cell x c e
    exact absurd (Nat.lt_of_lt_of_le q.lt (by rw [z]; exact hb)) (Nat.lt_irrefl _)
  · exact absurd (Nat.lt_of_lt_of_le (Heap.lt_size (I.pin p hp).1) (by rw [z]; exact hb)) (Nat.lt_irrefl _)
structure Turn (P : Program) (w : World) (K : PySem.W.Frag) (tg : Expr) (J : It) (fp : List Addr) (it : Addr) (tn : Nat → Heap → Prop) : Prop where
  mem : it ∈ fp
  obj : ∀ i h, tn i h → ∀ b ∈ fp, ∃ o, h.get? b = some o ∧ ∀ v, o.data ≠ .cell v
  keep : ∀ i h h', tn i h → (∀ b ∈ fp, ∀ o, h.get? b = some o → h'.get? b = some o) → tn i h'
  item : ∀ (X : Cx), X.prog = P → X.w = w → X.K = K → X.calm = true → ∀ (i : Nat) (pins : List (Addr × Obj)) (s : Shared) (σ : St) (H : Hp) (E : Value → Shared → Prop), Inv X pins σ H s → (∀ b ∈ fp, FpOk X pins H b) → tn i s.heap → J.go i H →
    wpAny (model P w) X.A (pyNext (.ref it)) (fun r s1 => ∃ u, r = some u ∧
      wpAny (model P w) X.A (letOwnedTupleGo tg (.ref it) u) (fun _ s2 => ∃ x H', Inv X pins σ H' s2 ∧ RelV x u ∧ J.yld i H x H' ∧ tn (i + 1) s2.heap ∧ ∀ b ∈ fp, H' b = none) E s1) E s
  done : ∀ (X : Cx), X.prog = P → X.w = w → X.K = K → X.calm = true → ∀ (i : Nat) (pins : List (Addr × Obj)) (s : Shared) (σ : St) (H : Hp) (E : Value → Shared → Prop), Inv X pins σ H s → (∀ b ∈ fp, FpOk X pins H b) → tn i s.heap → J.stop i H →
    wpAny (model P w) X.A (pyNext (.ref it)) (fun r s1 => r = none ∧ Inv X pins σ H s1) E s
  self : ∀ (A : Around) (i : Nat) (s : Shared) (Q : Value → Shared → Prop) (E : Value → Shared → Prop), tn i s.heap → Q (.ref it) s → wpAny (model P w) A (pyIter (.ref it)) Q E s
abbrev TI := St → Hp → (It → Hp → Prop) → Prop
/-- an iterator has come -/
def PIE (X : Cx) (pins : List (Addr × Obj)) (σ : St) (tg : Expr) (R : It → Hp → Prop) (itv : Value) (s2 : Shared) : Prop :=
  ∃ (it : Addr) (fp : List Addr) (tn : Nat → Heap → Prop) (J : It) (H' : Hp), itv = .ref it ∧ Inv X pins σ H' s2 ∧ Turn X.prog X.w X.K tg J fp it tn ∧ tn 0 s2.heap ∧ (∀ b ∈ fp, FpOk X pins H' b) ∧ R J H'
def PI (X : Cx) (tg iter : Expr) (wi : TI) : Prop :=
  ∀ (pins : List (Addr × Obj)) (s : Shared) (σ : St) (H : Hp) (R : It → Hp → Prop), Inv X pins σ H s → wi σ H R →
    wpAny (model X.prog X.w) X.A (eval iter X.env) (fun v s1 => wpAny (model X.prog X.w) X.A (pyIter v) (PIE X pins σ tg R) X.xe s1) X.xe s

/-- the step ahead of the store is nothing for an iterator that keeps no tuple -/
theorem go_of {M : Model} {A : Around} {E : Value → Shared → Prop} {s : Shared} {tg : Expr} {it : Addr} {u : Value} {o : Obj} {n : String} {vs : Array Value} {Q : Unit → Shared → Prop} (ho : s.heap.get? it = some o) (hc : o.cls = .type n) (hd : o.data = .fields vs)
    (hn : ["enumerate", "zip", "dict_itemiterator", "dict_reverseitemiterator", "odict_iterator", "itertools.zip_longest", "itertools.pairwise"].contains n = false) (hQ : Q () s) : wpAny M A (letOwnedTupleGo tg (.ref it) u) Q E s := by
  unfold letOwnedTupleGo
  cases tg <;> first
    | exact wpAny_pure hQ
    | (cases u <;> first
        | exact wpAny_pure hQ
        | (refine wpAny_bind (wpAny_load ho ?_)
           rw [hc, hd]
           show wpAny M A (if (["enumerate", "zip", "dict_itemiterator", "dict_reverseitemiterator", "odict_iterator", "itertools.zip_longest", "itertools.pairwise"].contains n && vs[0]? == some (rawInt _)) = true then _ else _) Q E s
           rw [if_neg (by intro h; rw [hn, Bool.false_and] at h; cases h)]
           exact wpAny_pure hQ))

/-- the list at a, as it stands at each turn (a loop may append to it) -/
def Itl (K : PySem.W.Frag) (a : Addr) : It :=
  ⟨fun i H => ∃ xs x, SqL K H a xs ∧ xs[i]? = some x, fun i H x H' => H' = H ∧ ∀ xs, SqL K H a xs → xs[i]? = some x, fun i H => ∃ xs, SqL K H a xs ∧ xs.length ≤ i⟩
/-- lo, lo + 1, .. (n of them) -/
def Itr (lo : Int) (n : Nat) : It := ⟨fun i _ => i < n, fun i H x H' => H' = H ∧ x = .int (lo + i), fun i _ => n ≤ i⟩
theorem turn_list {P : Program} {w : World} {K : PySem.W.Frag} {tg : Expr} (a it : Addr) : Turn P w K tg (Itl K a) [it] it (fun i h => h.IsListIter it a i) where
  mem := by simp
  obj := fun i h st b hb => by
    have e : b = it := by simpa using hb
    subst e
    obtain ⟨o, e, c, d⟩ := st
    exact ⟨o, e, fun v z => by rw [d] at z; cases z⟩
  keep := fun i h h' st k => st.at fun o e => k it (by simp) o e
  item := by
    intro X hP hw hK hc i pins s σ H E I hf st hg
    subst hP hw hK
    obtain ⟨xs, x, hq, hx⟩ := hg
    obtain ⟨its, rv, p, hz⟩ := I.list hq
    obtain ⟨u, hu, ru⟩ := rv.get hx
    obtain ⟨f0, f1, f2, f3, f4, f5⟩ := hf it (by simp)
    refine wpAny_pyNext_list_item st p.isList (x := u) (by simpa using hu) fun h' st' sb => ?_
    have I1 : Inv X pins σ H { s with heap := h' } := I.turned (t' := s.toks) (fun b o hb e => (sb.2 b hb).trans e) f0 f1 f3 f4 f5
    obtain ⟨o, e, c, d⟩ := id st'
    exact ⟨u, rfl, go_of (s := { s with heap := h' }) e c d (by decide) ⟨x, H, I1, ru, ⟨rfl, fun ys hy => by rw [I.list_inj hy hq]; exact hx⟩, st', fun b hb => (hf b hb).1⟩⟩
  done := by
    intro X hP hw hK hc i pins s σ H E I hf st hg
    subst hP hw hK
    obtain ⟨xs, hq, hx⟩ := hg
    obtain ⟨its, rv, p, hz⟩ := I.list hq
    obtain ⟨f0, f1, f2, f3, f4, f5⟩ := hf it (by simp)
    have hl := rv.length
    exact wpAny_pyNext_list_end (I.ok.hd hc) st p.isList (by simp; omega) fun h' eb => ⟨rfl, I.turned (t' := s.toks) (fun b o hb e => eb b o hb e) f0 f1 f3 f4 f5⟩
  self := fun _ _ _ _ _ st h => wpAny_pyIter_listiter st h
theorem turn_range {P : Program} {w : World} {K : PySem.W.Frag} {tg : Expr} (it : Addr) (lo : Int) (n : Nat) : Turn P w K tg (Itr lo n) [it] it (fun i h => IsRangeIter h it (lo + (i : Nat) * 1) ((n : Int) - (i : Nat)) 1) where
  mem := by simp
  obj := fun i h st b hb => by
    have e : b = it := by simpa using hb
    subst e
    exact ⟨_, st, fun v z => by
      have z' : Data.fields _ = Data.cell v := z
      cases z'⟩
  keep := fun i h h' st k => k it (by simp) _ st
  item := by
    intro X hP hw hK hc i pins s σ H E I hf st hg
    subst hP hw hK
    obtain ⟨f0, f1, f2, f3, f4, f5⟩ := hf it (by simp)
    have W := Walks.range (prog := X.prog) (w := X.w) (I.ok.hd hc) it lo 1 n
    refine W.item i s _ _ hg st fun v h' tk hv st' kk => ?_
    obtain ⟨t, rfl⟩ := hv
    have I1 : Inv X pins σ H { s with heap := h', toks := tk } := I.turned (fun b o hb e => kk b o (by simpa using hb) e) f0 f1 f3 f4 f5
    refine ⟨_, rfl, go_of (s := { s with heap := h', toks := tk }) (n := "range_iterator") st' rfl rfl (by decide) ⟨.int (lo + i), H, I1, ⟨t, ?_⟩, ⟨rfl, rfl⟩, st', fun b hb => (hf b hb).1⟩⟩
    rw [Int.mul_one]
  done := by
    intro X hP hw hK hc i pins s σ H E I hf st hg
    subst hP hw hK
    obtain ⟨f0, f1, f2, f3, f4, f5⟩ := hf it (by simp)
    exact wpAny_pyNext_range_end (I.ok.hd hc) st (by have : n ≤ i := hg; omega) fun h' eb => ⟨rfl, I.turned (t' := s.toks) (fun b o hb e => eb b o hb e) f0 f1 f3 f4 f5⟩
  self := fun _ _ _ _ _ st h => wpAny_pyIter_rangeiter st h
end L2

namespace L2
open PySem PySem.Spec PyProof.Rows
section
variable {X : Cx} {tg : Expr}
def iList (K : PySem.W.Frag) (tl : TE) : TI := fun σ H R => tl σ H fun x H1 => ∃ a, x = .ref a ∧ (∃ xs, SqL K H1 a xs) ∧ R (Itl K a) H1
theorem pi_list {l : Expr} {tl : TE} (hl : PE X l tl) : PI X tg l (iList X.K tl) := by
  intro pins s σ H R I h
  refine thn (hl pins s σ H _ I h) fun v s1 ⟨x, H1, I1, r1, q1⟩ => ?_
  obtain ⟨a, e, ⟨xs, hq⟩, q⟩ := q1
  subst e
  cases r1
  obtain ⟨its, rv, p, hz⟩ := I1.list hq
  refine wpAny_pyIter_list p.isList ?_
  refine ⟨s1.heap.objs.size, [s1.heap.objs.size], _, _, H1, rfl, I1.kept (t' := s1.toks) fun b o e => Heap.get?_push_of_some _ e, turn_list a _, ⟨_, Heap.get?_push_size _ rfl, rfl, rfl⟩, fun b hb => ?_, q⟩
  have e : b = s1.heap.objs.size := by simpa using hb
  subst e
  exact I1.fpOk (Nat.le_refl _) (I1.hok.fresh (Nat.le_refl _))
/-- a range object just made, walked -/
theorem range_it {pins : List (Addr × Obj)} {σ : St} {H : Hp} {s : Shared} {R : It → Hp → Prop} {E : Value → Shared → Prop} {lo hi : Int} {t u v : Tok} {tk : Nat} (I : Inv X pins σ H s) (h1 : -(2 ^ 62) ≤ lo) (h2 : lo < 2 ^ 62) (h3 : -(2 ^ 62) ≤ hi) (h4 : hi < 2 ^ 62)
    (q : R (Itr lo (hi - lo).toNat) H) : wpAny (model X.prog X.w) X.A (pyIter (.ref s.heap.objs.size)) (PIE X pins σ tg R) E { s with heap := s.heap.push { cls := .type "range", data := .fields #[.int lo t, .int hi u, .int 1 v] }, toks := tk } := by
  refine wpAny_pyIter_range (IsRange.new ..) (small_one h1 h2 h3 h4) ?_
  have I1 : Inv X pins σ H { s with heap := s.heap.push { cls := .type "range", data := .fields #[.int lo t, .int hi u, .int 1 v] }, toks := tk } := I.kept fun b o e => Heap.get?_push_of_some _ e
  refine ⟨(s.heap.push { cls := .type "range", data := .fields #[.int lo t, .int hi u, .int 1 v] }).objs.size, [(s.heap.push { cls := .type "range", data := .fields #[.int lo t, .int hi u, .int 1 v] }).objs.size], _, _, H, rfl,
    I1.kept (t' := tk) fun b o e => Heap.get?_push_of_some _ e, turn_range _ lo (hi - lo).toNat, ?_, fun b hb => ?_, q⟩
  · have e1 : lo + ((0 : Nat) : Int) * 1 = lo := by simp
    have e2 : (((hi - lo).toNat : Nat) : Int) - ((0 : Nat) : Int) = Builtin.Range.rangeSize lo hi 1 := by rw [rangeSize_one]; split <;> omega
    show IsRangeIter _ _ (lo + ((0 : Nat) : Int) * 1) ((((hi - lo).toNat : Nat) : Int) - ((0 : Nat) : Int)) 1
    rw [e1, e2]
    exact Heap.get?_push_size _ rfl
  · have e : b = (s.heap.push { cls := .type "range", data := .fields #[.int lo t, .int hi u, .int 1 v] }).objs.size := by simpa using hb
    subst e
    exact I1.fpOk (Nat.le_refl _) (I1.hok.fresh (Nat.le_refl _))
def iRng1 (ta : TA) : TI := fun σ H R => ta σ H fun vs H1 => ∃ j : Int, vs = [.int j] ∧ -(2 ^ 62) ≤ j ∧ j < 2 ^ 62 ∧ R (Itr 0 j.toNat) H1
theorem pi_range1 {a : Expr} {ta : TA} {p pos : Pos} (hg : Gl X "range") (hm : X.mg "range" = none) (ha : PA X [a] ta) (hs : starEach [a] X.env = [(false, eval a X.env)] := by rfl) : PI X tg (.Call (.Name "range" p) [a] [] pos) (iRng1 ta) := by
  intro pins s σ H R I h
  refine Call_ (ld_blt I hg hm boot_range (PyProof.Rows.callWith_type1 (thn (ha pos pins s σ H _ I h) fun us s1 ⟨vs, H1, I1, r1, q1⟩ => ?_) hs rfl))
  obtain ⟨j, e, q1, q2, q⟩ := q1
  subst e
  cases r1 with
  | cons r rr =>
    cases rr
    obtain ⟨t, rfl⟩ := r
    exact call_range_1 (range_it I1 (by omega) (by omega) q1 q2 (by simpa using q))

/-! ### for -/
/-- W: the invariant by the turn and a measure; N: what the body is to reach -/
def tFor (wi : TI) (g : TG) (tb : TS) : TS := fun D σ H => wi σ H fun J H1 => ∃ W : Nat → Nat → St → Hp → Prop, (∃ m, W 0 m σ H1) ∧ ∀ i m σ H, W i m σ H →
  (J.stop i H ∧ D.nx σ H) ∨ (J.go i H ∧ ∃ N : St → Hp → Prop, (∀ σ' H', N σ' H' → ∃ m', m' < m ∧ W (i + 1) m' σ' H') ∧ ∀ x H', J.yld i H x H' → g x σ H' fun σ2 H2 => tb { D with nx := N, ct := N, bk := D.nx } σ2 H2)
/-- the records at fp as they stand -/
def pinsAt (fp : List Addr) (h : Heap) : List (Addr × Obj) := fp.filterMap fun b => (h.get? b).map fun o => (b, o)
theorem mem_pinsAt {fp : List Addr} {h : Heap} {b : Addr} {o : Obj} (hb : b ∈ fp) (e : h.get? b = some o) : (b, o) ∈ pinsAt fp h := List.mem_filterMap.mpr ⟨b, hb, by rw [e]; rfl⟩
theorem of_pinsAt {fp : List Addr} {h : Heap} {p : Addr × Obj} (hp : p ∈ pinsAt fp h) : p.1 ∈ fp ∧ h.get? p.1 = some p.2 := by
  obtain ⟨b, hb, e⟩ := List.mem_filterMap.mp hp
  cases q : h.get? b with
  | none => rw [q] at e; cases e
  | some o =>
    rw [q] at e
    have e' : (b, o) = p := Option.some.inj e
    subst e'
    exact ⟨hb, q⟩
theorem Inv.pinned {pins : List (Addr × Obj)} {σ : St} {H : Hp} {s : Shared} {fp : List Addr} (I : Inv X pins σ H s) (hf : ∀ b ∈ fp, FpOk X pins H b) (ho : ∀ b ∈ fp, ∃ o, s.heap.get? b = some o ∧ ∀ v, o.data ≠ .cell v) : Inv X (pins ++ pinsAt fp s.heap) σ H s :=
  I.pins_of fun p hp => (List.mem_append.mp hp).elim (fun z => I.pin p (List.mem_append_right _ z)) fun z => by
    obtain ⟨hb, e⟩ := of_pinsAt z
    obtain ⟨f0, f1, f2, _⟩ := hf p.1 hb
    obtain ⟨o, e', d⟩ := ho p.1 hb
    rw [e] at e'; cases e'
    exact ⟨e, f0, f1, f2, d⟩
theorem Inv.unpinned {pins pl : List (Addr × Obj)} {σ : St} {H : Hp} {s : Shared} (I : Inv X (pins ++ pl) σ H s) : Inv X pins σ H s := I.pins_of fun p hp => I.pin p (List.mem_append_right _ (List.mem_append_left _ hp))
theorem ps_for {iter : Expr} {body : List Stmt} {wi : TI} {g : TG} {tb : TS} {pos : Pos} (hp : PassesOwn (model X.prog X.w) X.A X.env X.xe) (hc : X.calm = true) (hi : PI X tg iter wi) (hg : PG X tg g) (hb : PSs X body tb)
    (hs : ∀ x, foldedSetIterable iter X.env x = pure x := by intro _; rfl) : PS X (.For tg iter body [] pos) (tFor wi g tb) := by
  intro pins s σ H D I h
  refine wpAny_For (thn (hi pins s σ H _ I h) fun v s1 h1 => thn h1 fun itv s2 h2 => ?_) hs
  obtain ⟨it, fp, tn, J, H2, e, I2, T, st2, f2, W, ⟨m0, w0⟩, turn⟩ := h2
  subst e
  -- what stays true of the iterator's objects through the loop
  have stat : ∀ {H' : Hp}, (∀ b ∈ fp, H' b = none) → ∀ b ∈ fp, FpOk X pins H' b := fun hn b hb => ⟨hn b hb, (f2 b hb).2⟩
  refine codeAny_forLoop_any (fun n s' => ∃ i σ' H', Inv X pins σ' H' s' ∧ tn i s'.heap ∧ (∀ b ∈ fp, H' b = none) ∧ W i n σ' H') ?_ m0 ⟨0, σ, H2, I2, st2, fun b hb => (f2 b hb).1, w0⟩
  rintro n s3 ⟨i, σ3, H3, I3, st3, fr3, w3⟩
  rcases turn i n σ3 H3 w3 with ⟨stop, qn⟩ | ⟨go, N, hN, step⟩
  · refine wpAny_passesOwn hp (thn (T.done X rfl rfl rfl hc i pins s3 σ3 H3 X.xe I3 (stat fr3) st3 stop) fun r s4 ⟨hr, I4⟩ => ?_)
    subst hr
    exact wpAny_execs_nil ⟨σ3, H3, I4, qn⟩
  · refine wpAny_passesOwn hp (thn (T.item X rfl rfl rfl hc i pins s3 σ3 H3 X.xe I3 (stat fr3) st3 go) fun r s4 ⟨u, hr, h4⟩ => ?_)
    subst hr
    refine wpAny_passesOwn hp (thn h4 fun _ s5 ⟨x, H5, I5, r5, y5, st5, fr5⟩ => ?_)
    have I5' := I5.pinned (stat fr5) (T.obj _ _ st5)
    refine wpAny_passesOwn hp (thn (hg _ s5 σ3 H5 x u _ I5' r5 (step x H5 y5)) fun _ s6 ⟨σ6, H6, I6, q6⟩ => ?_)
    refine wpAny_passesOwn hp (thn (hb _ s6 σ6 H6 _ I6 q6) fun f s7 q7 => ?_)
    have again : ∀ {σ7 : St} {H7 : Hp}, Inv X (pins ++ pinsAt fp s5.heap) σ7 H7 s7 → N σ7 H7 → ∃ m, m < n ∧ ∃ i σ' H', Inv X pins σ' H' s7 ∧ tn i s7.heap ∧ (∀ b ∈ fp, H' b = none) ∧ W i m σ' H' := fun {σ7 H7} I7 n7 => by
      obtain ⟨m', hm, w7⟩ := hN σ7 H7 n7
      refine ⟨m', hm, i + 1, σ7, H7, I7.unpinned, T.keep _ _ _ st5 fun b hb o e => (I7.pin (b, o) (List.mem_append_right _ (List.mem_append_right _ (mem_pinsAt hb e)))).1, fun b hb => ?_, w7⟩
      obtain ⟨o, e, d⟩ := T.obj _ _ st5 b hb
      exact (I7.pin (b, o) (List.mem_append_right _ (List.mem_append_right _ (mem_pinsAt hb e)))).2.1
    cases f with
    | next => obtain ⟨σ7, H7, I7, n7⟩ := q7; exact again I7 n7
    | cont => obtain ⟨σ7, H7, I7, n7⟩ := q7; exact again I7 n7
    | brk => obtain ⟨σ7, H7, I7, q7⟩ := q7; exact ⟨σ7, H7, I7.unpinned, q7⟩
    | ret v => obtain ⟨x7, σ7, H7, I7, r7, q7⟩ := q7; exact ⟨x7, σ7, H7, I7.unpinned, r7, q7⟩
end

/-! ### the forms one uses -/
/-- over a list that the body leaves as it is -/
theorem for_list {K : PySem.W.Frag} {a : Addr} {xs : List V} {g : TG} {tb : TS} {D : Ends} {σ : St} {H : Hp} (Pv : Nat → St → Hp → Prop) (h0 : Pv 0 σ H) (hl : ∀ i σ H, i ≤ xs.length → Pv i σ H → SqL K H a xs)
    (hs : ∀ i x σ H, xs[i]? = some x → Pv i σ H → g x σ H fun σ2 H2 => tb { D with nx := Pv (i + 1), ct := Pv (i + 1), bk := D.nx } σ2 H2) (hd : ∀ σ H, Pv xs.length σ H → D.nx σ H) :
    ∃ W : Nat → Nat → St → Hp → Prop, (∃ m, W 0 m σ H) ∧ ∀ i m σ H, W i m σ H →
      ((Itl K a).stop i H ∧ D.nx σ H) ∨ ((Itl K a).go i H ∧ ∃ N : St → Hp → Prop, (∀ σ' H', N σ' H' → ∃ m', m' < m ∧ W (i + 1) m' σ' H') ∧ ∀ x H', (Itl K a).yld i H x H' → g x σ H' fun σ2 H2 => tb { D with nx := N, ct := N, bk := D.nx } σ2 H2) := by
  refine ⟨fun i m σ H => m = xs.length - i ∧ i ≤ xs.length ∧ Pv i σ H, ⟨xs.length, by simp, Nat.zero_le _, h0⟩, ?_⟩
  rintro i m σ H ⟨rfl, hi, p⟩
  have q := hl i σ H hi p
  by_cases hlt : i < xs.length
  · refine .inr ⟨⟨xs, xs[i], q, by simp [hlt]⟩, Pv (i + 1), fun σ' H' p' => ⟨xs.length - (i + 1), by omega, rfl, hlt, p'⟩, fun x H' y => ?_⟩
    obtain ⟨e, y⟩ := y
    subst e
    exact hs i x σ _ (y xs q) p
  · have e : i = xs.length := by omega
    subst e
    exact .inl ⟨⟨xs, q, Nat.le_refl _⟩, hd σ H p⟩
theorem for_range {lo : Int} {n : Nat} {g : TG} {tb : TS} {D : Ends} {σ : St} {H : Hp} (Pv : Nat → St → Hp → Prop) (h0 : Pv 0 σ H)
    (hs : ∀ i σ H, i < n → Pv i σ H → g (.int (lo + i)) σ H fun σ2 H2 => tb { D with nx := Pv (i + 1), ct := Pv (i + 1), bk := D.nx } σ2 H2) (hd : ∀ σ H, Pv n σ H → D.nx σ H) :
    ∃ W : Nat → Nat → St → Hp → Prop, (∃ m, W 0 m σ H) ∧ ∀ i m σ H, W i m σ H →
      ((Itr lo n).stop i H ∧ D.nx σ H) ∨ ((Itr lo n).go i H ∧ ∃ N : St → Hp → Prop, (∀ σ' H', N σ' H' → ∃ m', m' < m ∧ W (i + 1) m' σ' H') ∧ ∀ x H', (Itr lo n).yld i H x H' → g x σ H' fun σ2 H2 => tb { D with nx := N, ct := N, bk := D.nx } σ2 H2) := by
  refine ⟨fun i m σ H => m = n - i ∧ i ≤ n ∧ Pv i σ H, ⟨n, by simp, Nat.zero_le _, h0⟩, ?_⟩
  rintro i m σ H ⟨rfl, hi, p⟩
  by_cases hlt : i < n
  · refine .inr ⟨hlt, Pv (i + 1), fun σ' H' p' => ⟨n - (i + 1), by omega, rfl, hlt, p'⟩, fun x H' y => ?_⟩
    obtain ⟨e, y⟩ := y
    subst e y
    exact hs i σ _ hlt p
  · have e : i = n := by omega
    subst e
    exact .inl ⟨Nat.le_refl _, hd σ H p⟩
end L2

namespace L2
open PySem PySem.Spec PyProof.Rows

abbrev R2 := V → V → Hp → VK → Prop
/-- a two-place operation on values: f is binaryOp op, inplaceOp op or compareOp op -/
def OpR (X : Cx) (f : Value → Value → Sem Value) (r : R2) : Prop :=
  ∀ (pins : List (Addr × Obj)) (s : Shared) (σ : St) (H : Hp) (x y : V) (v u : Value) (Q : VK), Inv X pins σ H s → RelV x v → RelV y u → r x y H Q →
    wpAny (model X.prog X.w) X.A (f v u) (EP X pins σ Q) X.xe s
/-- a call of a value that is known (a builtin, a type) with values -/
def CallR (X : Cx) (f : Value) (r : List V → Hp → VK → Prop) : Prop :=
  ∀ (pins : List (Addr × Obj)) (s : Shared) (σ : St) (H : Hp) (xs : List V) (us : List Value) (Q : VK), Inv X pins σ H s → Vals xs us → r xs H Q →
    wpAny (model X.prog X.w) X.A (call f us) (EP X pins σ Q) X.xe s

def tOp (r : R2) (ta tb : TE) : TE := fun σ H Q => ta σ H fun x H1 => tb σ H1 fun y H2 => r x y H2 Q
/-- ints in, under C, and a value out -/
def rI (C : Int → Int → Prop) (g : Int → Int → V) : R2 := fun x y H Q => ∃ i j, x = .int i ∧ y = .int j ∧ C i j ∧ Q (g i j) H
def rI0 (g : Int → Int → V) : R2 := fun x y H Q => ∃ i j, x = .int i ∧ y = .int j ∧ Q (g i j) H

section
variable {X : Cx} {a b c : Expr} {ta tb tc : TE} {pos : Pos}

theorem binT (ha : PE X a ta) (hb : PE X b tb) {pins : List (Addr × Obj)} {s : Shared} {σ : St} {H : Hp} {R : V → V → Hp → Prop} (I : Inv X pins σ H s)
    (h : ta σ H fun x H1 => tb σ H1 fun y H2 => R x y H2) {Q : Value → Shared → Prop} {f : Value → Value → Sem Value}
    (hf : ∀ v u s2 x y H2, Inv X pins σ H2 s2 → RelV x v → RelV y u → R x y H2 → wpAny (model X.prog X.w) X.A (f v u) Q X.xe s2) :
    wpAny (model X.prog X.w) X.A (eval a X.env) (fun v s₁ => wpAny (model X.prog X.w) X.A (eval b X.env) (fun u s₂ => wpAny (model X.prog X.w) X.A (f v u) Q X.xe s₂) X.xe s₁) X.xe s := by
  refine thn (ha pins s σ H _ I h) fun v s1 ⟨x, H1, I1, r1, q1⟩ => ?_
  refine thn (hb pins s1 σ H1 _ I1 q1) fun u s2 ⟨y, H2, I2, r2, q2⟩ => ?_
  exact hf v u s2 x y H2 I2 r1 r2 q2

theorem pe_op {op : Operator} {r : R2} (ho : OpR X (binaryOp op) r) (ha : PE X a ta) (hb : PE X b tb) : PE X (.BinOp a op b pos) (tOp r ta tb) := by
  intro pins s σ H Q I h
  exact wpAny_BinOp (binT ha hb I h fun v u s2 x y H2 I2 rx ry q => ho pins s2 σ H2 x y v u Q I2 rx ry q)

/-! ### ints -/
theorem opI {f : Value → Value → Sem Value} {C : Int → Int → Prop} {g : Int → Int → Int}
    (rule : ∀ (i j : Int) (t u : Tok) (s : Shared) (Q : Value → Shared → Prop) (E : Value → Shared → Prop), C i j → Q (.int (g i j) s.toks) { s with toks := s.toks + 1 } → wpAny (model X.prog X.w) X.A (f (.int i t) (.int j u)) Q E s) :
    OpR X f (rI C fun i j => .int (g i j)) := by
  intro pins s σ H x y v u Q I rx ry h
  obtain ⟨i, j, rfl, rfl, hc, q⟩ := h
  obtain ⟨t, rfl⟩ := rx
  obtain ⟨t', rfl⟩ := ry
  exact rule i j t t' s _ _ hc ⟨.int (g i j), H, I.tok _, ⟨_, rfl⟩, q⟩
theorem opI0 {f : Value → Value → Sem Value} {g : Int → Int → Int}
    (rule : ∀ (i j : Int) (t u : Tok) (s : Shared) (Q : Value → Shared → Prop) (E : Value → Shared → Prop), Q (.int (g i j) s.toks) { s with toks := s.toks + 1 } → wpAny (model X.prog X.w) X.A (f (.int i t) (.int j u)) Q E s) :
    OpR X f (rI0 fun i j => .int (g i j)) := by
  intro pins s σ H x y v u Q I rx ry h
  obtain ⟨i, j, rfl, rfl, q⟩ := h
  obtain ⟨t, rfl⟩ := rx
  obtain ⟨t', rfl⟩ := ry
  exact rule i j t t' s _ _ ⟨.int (g i j), H, I.tok _, ⟨_, rfl⟩, q⟩
theorem opB0 {f : Value → Value → Sem Value} {g : Int → Int → Bool}
    (rule : ∀ (i j : Int) (t u : Tok) (s : Shared) (Q : Value → Shared → Prop) (E : Value → Shared → Prop), Q (.bool (g i j)) s → wpAny (model X.prog X.w) X.A (f (.int i t) (.int j u)) Q E s) :
    OpR X f (rI0 fun i j => .bl (g i j)) := by
  intro pins s σ H x y v u Q I rx ry h
  obtain ⟨i, j, rfl, rfl, q⟩ := h
  obtain ⟨t, rfl⟩ := rx
  obtain ⟨t', rfl⟩ := ry
  exact rule i j t t' s _ _ ⟨.bl (g i j), H, I, rfl, q⟩

def CDiv (i j : Int) : Prop := 0 < j ∧ j < 1073741824
def CPow (i j : Int) : Prop := 0 ≤ j ∧ j ≤ 1000000 ∧ i.natAbs < 2 ^ 64
def CMul (i j : Int) : Prop := (-(2 ^ 64) < i ∧ i < 2 ^ 64) ∨ (-(2 ^ 64) < j ∧ j < 2 ^ 64)
theorem CMul.ok {i j : Int} (h : CMul i j) : IntMulOk i j := by
  rcases h with ⟨h1, h2⟩ | ⟨h1, h2⟩
  · exact .of_left (intBits_le_64 h1 h2)
  · exact .of_right (intBits_le_64 h1 h2)

theorem op_add : OpR X (binaryOp .Add) (rI0 fun i j => .int (i + j)) := opI0 fun _ _ _ _ _ _ _ q => add_int q
theorem op_sub : OpR X (binaryOp .Sub) (rI0 fun i j => .int (i - j)) := opI0 fun _ _ _ _ _ _ _ q => sub_int q
theorem op_mul : OpR X (binaryOp .Mult) (rI CMul fun i j => .int (i * j)) := opI fun _ _ _ _ _ _ _ hc q => mul_int q hc.ok
/-- // by a positive divisor -/
theorem op_fdiv : OpR X (binaryOp .FloorDiv) (rI CDiv fun i j => .int (i / j)) := opI fun i j _ _ _ _ _ hc q => by
  have h1 : (0 : Int) < j := hc.1
  have h2 : j < 1073741824 := hc.2
  exact floordiv_int (by omega) (by rw [Int.fdiv_eq_ediv_of_nonneg i (by omega)]; exact q) (.inl (PyProof.noPylong_small (by omega)))
/-- % by a positive divisor of any size -/
theorem op_mod : OpR X (binaryOp .Mod) (rI (fun _ j => 0 < j) fun i j => .int (i % j)) := opI fun i j _ _ _ _ _ hc q => by
  have h1 : (0 : Int) < j := hc
  exact mod_int' (by omega) (by rw [Int.fmod_eq_emod_of_nonneg i (by omega)]; exact q)
theorem op_pow : OpR X (binaryOp .Pow) (rI CPow fun i j => .int (i ^ j.toNat)) := opI fun _ _ _ _ _ _ _ hc q => pow_int_small hc.1 hc.2.1 hc.2.2 q



/-! ### bools among ints: n += (a < b) -/
end

/-! ### comparisons -/
/-- the scalars that == tells apart as data does -/
def scal : V → V → Bool
  | .non, .non => true | .non, .int _ => true | .int _, .non => true | .non, .bl _ => true | .bl _, .non => true | .non, .str _ => true | .str _, .non => true
  | .int _, .int _ => true | .bl _, .bl _ => true | .str _, .str _ => true | .byt _, .byt _ => true
  | .int _, .str _ => true | .str _, .int _ => true | .bl _, .str _ => true | .str _, .bl _ => true
  | _, _ => false
def rEq : R2 := fun x y H Q => scal x y = true ∧ Q (.bl (decide (x = y))) H
def rNe : R2 := fun x y H Q => scal x y = true ∧ Q (.bl (!decide (x = y))) H

theorem dec_int {i j : Int} : decide (V.int i = V.int j) = (i == j) := by
  rw [Bool.eq_iff_iff]
  simp
theorem dec_bl {i j : Bool} : decide (V.bl i = V.bl j) = (i == j) := by
  rw [Bool.eq_iff_iff]
  simp
theorem dec_str {i j : Str} : decide (V.str i = V.str j) = (i == j) := by
  rw [Bool.eq_iff_iff]
  simp
theorem dec_byt {i j : Array UInt8} : decide (V.byt i = V.byt j) = (i.toList == j.toList) := by
  rw [Bool.eq_iff_iff]
  cases i
  cases j
  simp

section
variable {X : Cx} {a b c : Expr} {ta tb tc : TE} {pos : Pos}
theorem fin_bl {pins : List (Addr × Obj)} {σ : St} {H : Hp} {s : Shared} {Q : VK} {k k' : Bool} (I : Inv X pins σ H s) (q : Q (.bl k) H) (e : k = k') : EP X pins σ Q (.bool k') s := by
  subst e
  exact ⟨.bl k, H, I, rfl, q⟩
theorem op_eq : OpR X (compareOp .Eq) rEq := by
  intro pins s σ H x y v u Q I rx ry h
  obtain ⟨hs, q⟩ := h
  cases x with
  | non =>
    cases rx
    cases y with
    | non => cases ry; exact PySem.EqNone.eq_none_none (fin_bl I q (by simp))
    | bl j => cases ry; exact PySem.EqNone.eq_none_bool (fin_bl I q (by simp))
    | int j => obtain ⟨t', rfl⟩ := ry; exact PySem.EqNone.eq_none_int (fin_bl I q (by simp))
    | str j => obtain ⟨t', rfl⟩ := ry; exact PySem.EqNone.eq_none_str (fin_bl I q (by simp))
    | _ => exact absurd (show false = true from hs) Bool.false_ne_true
  | bl i =>
    cases rx
    cases y with
    | non => cases ry; exact PySem.EqNone.eq_bool_none (fin_bl I q (by simp))
    | bl j => cases ry; exact eq_bool (fin_bl I q dec_bl)
    | str j => obtain ⟨t', rfl⟩ := ry; exact PySem.EqMixed.eq_bool_str (fin_bl I q (by simp))
    | _ => exact absurd (show false = true from hs) Bool.false_ne_true
  | int i =>
    obtain ⟨t, rfl⟩ := rx
    cases y with
    | non => cases ry; exact PySem.EqNone.eq_int_none (fin_bl I q (by simp))
    | int j => obtain ⟨t', rfl⟩ := ry; exact eq_int (fin_bl I q dec_int)
    | str j => obtain ⟨t', rfl⟩ := ry; exact PySem.EqMixed.eq_int_str (fin_bl I q (by simp))
    | _ => exact absurd (show false = true from hs) Bool.false_ne_true
  | str i =>
    obtain ⟨t, rfl⟩ := rx
    cases y with
    | non => cases ry; exact PySem.EqNone.eq_str_none (fin_bl I q (by simp))
    | bl j => cases ry; exact PySem.EqMixed.eq_str_bool (fin_bl I q (by simp))
    | int j => obtain ⟨t', rfl⟩ := ry; exact PySem.EqMixed.eq_str_int (fin_bl I q (by simp))
    | str j => obtain ⟨t', rfl⟩ := ry; exact eq_str (fin_bl I q dec_str)
    | _ => exact absurd (show false = true from hs) Bool.false_ne_true
  | byt i =>
    obtain ⟨t, rfl⟩ := rx
    cases y with
    | byt j => obtain ⟨t', rfl⟩ := ry; exact PySem.W.eq_bytes (fin_bl I q dec_byt)
    | _ => exact absurd (show false = true from hs) Bool.false_ne_true
  | _ => cases y <;> exact absurd (show false = true from hs) Bool.false_ne_true
theorem op_ne : OpR X (compareOp .NotEq) rNe := by
  intro pins s σ H x y v u Q I rx ry h
  obtain ⟨hs, q⟩ := h
  cases x with
  | non =>
    cases rx
    cases y with
    | non => cases ry; exact PySem.EqNone.ne_none_none (fin_bl I q (by simp))
    | bl j => cases ry; exact PySem.EqNone.ne_none_bool (fin_bl I q (by simp))
    | int j => obtain ⟨t', rfl⟩ := ry; exact PySem.EqNone.ne_none_int (fin_bl I q (by simp))
    | str j => obtain ⟨t', rfl⟩ := ry; exact PySem.EqNone.ne_none_str (fin_bl I q (by simp))
    | _ => exact absurd (show false = true from hs) Bool.false_ne_true
  | bl i =>
    cases rx
    cases y with
    | non => cases ry; exact PySem.EqNone.ne_bool_none (fin_bl I q (by simp))
    | bl j => cases ry; exact ne_bool (fin_bl I q (congrArg not dec_bl))
    | str j => obtain ⟨t', rfl⟩ := ry; exact PySem.EqMixed.ne_bool_str (fin_bl I q (by simp))
    | _ => exact absurd (show false = true from hs) Bool.false_ne_true
  | int i =>
    obtain ⟨t, rfl⟩ := rx
    cases y with
    | non => cases ry; exact PySem.EqNone.ne_int_none (fin_bl I q (by simp))
    | int j => obtain ⟨t', rfl⟩ := ry; exact ne_int (fin_bl I q (congrArg not dec_int))
    | str j => obtain ⟨t', rfl⟩ := ry; exact PySem.EqMixed.ne_int_str (fin_bl I q (by simp))
    | _ => exact absurd (show false = true from hs) Bool.false_ne_true
  | str i =>
    obtain ⟨t, rfl⟩ := rx
    cases y with
    | non => cases ry; exact PySem.EqNone.ne_str_none (fin_bl I q (by simp))
    | bl j => cases ry; exact PySem.EqMixed.ne_str_bool (fin_bl I q (by simp))
    | int j => obtain ⟨t', rfl⟩ := ry; exact PySem.EqMixed.ne_str_int (fin_bl I q (by simp))
    | str j => obtain ⟨t', rfl⟩ := ry; exact ne_str (fin_bl I q (congrArg not dec_str))
    | _ => exact absurd (show false = true from hs) Bool.false_ne_true
  | byt i =>
    obtain ⟨t, rfl⟩ := rx
    cases y with
    | byt j => obtain ⟨t', rfl⟩ := ry; exact PySem.W.ne_bytes (fin_bl I q (congrArg not dec_byt))
    | _ => exact absurd (show false = true from hs) Bool.false_ne_true
  | _ => cases y <;> exact absurd (show false = true from hs) Bool.false_ne_true

theorem op_lt : OpR X (compareOp .Lt) (rI0 fun i j => .bl (decide (i < j))) := opB0 fun _ _ _ _ _ _ _ q => lt_int q
theorem op_le : OpR X (compareOp .LtE) (rI0 fun i j => .bl (decide (i ≤ j))) := opB0 fun _ _ _ _ _ _ _ q => le_int q
theorem op_gt : OpR X (compareOp .Gt) (rI0 fun i j => .bl (decide (j < i))) := opB0 fun _ _ _ _ _ _ _ q => gt_int q

/-- is None, is not None: the right side a value none -/
theorem op_isN : OpR X (compareOp .Is) (fun x y H Q => y = .non ∧ Q (.bl (decide (x = .non))) H) := by
  intro pins s σ H x y v u Q I rx ry h
  obtain ⟨rfl, q⟩ := h
  cases ry
  refine is_none_gen (fin_bl I q ?_)
  cases x <;> first
    | (cases rx; rfl)
    | (obtain ⟨t, rfl⟩ := rx; rfl)
theorem op_notN : OpR X (compareOp .IsNot) (fun x y H Q => y = .non ∧ Q (.bl (!decide (x = .non))) H) := by
  intro pins s σ H x y v u Q I rx ry h
  obtain ⟨rfl, q⟩ := h
  cases ry
  refine isnot_none_gen (fin_bl I q ?_)
  cases x <;> first
    | (cases rx; rfl)
    | (obtain ⟨t, rfl⟩ := rx; rfl)



theorem nomark (b : Expr) {op : CmpOp} (h : op ≠ .In := by decide) (h2 : op ≠ .NotIn := by decide) : behindInMarks op b = false := by
  have e1 : (op == CmpOp.In) = false := by cases op <;> first | rfl | exact absurd rfl h
  have e2 : (op == CmpOp.NotIn) = false := by cases op <;> first | rfl | exact absurd rfl h2
  cases b <;> simp [behindInMarks, e1, e2]
/-- a comparison as a value; hm: nomark b, or (for in, not in) by with_unfolding_all rfl -/
theorem pe_cmpR {op : CmpOp} {r : R2} (ho : OpR X (compareOp op) r) (ha : PE X a ta) (hb : PE X b tb) (hm : behindInMarks op b = false) : PE X (.Compare a [op] [b] pos) (tOp r ta tb) := by
  intro pins s σ H Q I h
  exact wpAny_Compare1 (binT ha hb I h fun v u s2 x y H2 I2 rx ry q => ho pins s2 σ H2 x y v u Q I2 rx ry q) hm
/-- a reading of a value as a test -/
def tTest (t : TE) : TT := fun σ H Q => t σ H fun x H' => ∃ k, x = .bl k ∧ Q k H'
theorem pt_cmpR {op : CmpOp} {r : R2} (ho : OpR X (compareOp op) r) (ha : PE X a ta) (hb : PE X b tb) (hm : behindInMarks op b = false) : PT X (.Compare a [op] [b] pos) (tTest (tOp r ta tb)) := by
  intro pins s σ H Q I h
  refine wpAny_isTrue_Compare1 (thn (ha pins s σ H _ I h) fun v s1 ⟨x, H1, I1, r1, q1⟩ => thn (hb pins s1 σ H1 _ I1 q1) fun u s2 ⟨y, H2, I2, r2, q2⟩ =>
    thn (ho pins s2 σ H2 x y v u _ I2 r1 r2 q2) fun c s3 ⟨z, H3, I3, r3, k, e, q3⟩ => ?_) hm
  subst e
  cases r3
  exact wpAny_truthy_bool ⟨H3, I3, q3⟩
/-- a op1 b op2 c -/
def tChain (r r' : R2) (ta tb tc : TE) : TE := fun σ H Q => ta σ H fun x H1 => tb σ H1 fun y H2 => r x y H2 fun z H3 => ∃ k, z = .bl k ∧
  (if k = true then tc σ H3 fun w' H4 => r' y w' H4 Q else Q (.bl false) H3)
theorem pe_chain {op op' : CmpOp} {r r' : R2} (ho : OpR X (compareOp op) r) (ho' : OpR X (compareOp op') r') (ha : PE X a ta) (hb : PE X b tb) (hc : PE X c tc)
    (hm : lastMarks [op, op'] [b, c] = false := by with_unfolding_all rfl) : PE X (.Compare a [op, op'] [b, c] pos) (tChain r r' ta tb tc) := by
  intro pins s σ H Q I h
  refine Compare_chain (thn (ha pins s σ H _ I h) fun v s1 ⟨x, H1, I1, r1, q1⟩ => chain_link (thn (hb pins s1 σ H1 _ I1 q1) fun u s2 ⟨y, H2, I2, r2, q2⟩ =>
    thn (ho pins s2 σ H2 x y v u _ I2 r1 r2 q2) fun d s3 ⟨z, H3, I3, r3, k, e, q3⟩ => ?_)) hm
  subst e
  cases r3
  refine wpAny_truthy_bool ?_
  cases k with
  | false => exact ite_ff ⟨.bl false, H3, I3, rfl, q3⟩
  | true => exact ite_tt (chain_last (thn (hc pins s3 σ H3 _ I3 q3) fun w' s4 ⟨z', H4, I4, r4, q4⟩ => ho' pins s4 σ H4 y z' u w' Q I4 r2 r4 q4))
theorem pt_chain {op op' : CmpOp} {r r' : R2} (ho : OpR X (compareOp op) r) (ho' : OpR X (compareOp op') r') (ha : PE X a ta) (hb : PE X b tb) (hc : PE X c tc)
    (hm : lastMarks [op, op'] [b, c] = false := by with_unfolding_all rfl) : PT X (.Compare a [op, op'] [b, c] pos) (tTest (tChain r r' ta tb tc)) := by
  intro pins s σ H Q I h
  refine isTrue_chain (thn (ha pins s σ H _ I h) fun v s1 ⟨x, H1, I1, r1, q1⟩ => test_link (thn (hb pins s1 σ H1 _ I1 q1) fun u s2 ⟨y, H2, I2, r2, q2⟩ =>
    thn (ho pins s2 σ H2 x y v u _ I2 r1 r2 q2) fun d s3 ⟨z, H3, I3, r3, k, e, q3⟩ => ?_)) hm
  subst e
  cases r3
  refine wpAny_truthy_bool ?_
  cases k with
  | false =>
    obtain ⟨k', e', q'⟩ := q3
    cases e'
    exact ite_ff ⟨H3, I3, q'⟩
  | true =>
    refine ite_tt (test_last (thn (hc pins s3 σ H3 _ I3 q3) fun w' s4 ⟨z', H4, I4, r4, q4⟩ => thn (ho' pins s4 σ H4 y z' u w' _ I4 r2 r4 q4) fun d' s5 ⟨z2, H5, I5, r5, k2, e2, q5⟩ => ?_))
    subst e2
    cases r5
    exact wpAny_truthy_bool ⟨H5, I5, q5⟩

/-! ### truth -/
theorem line63 : (sizeLine : Nat) < 2 ^ 63 := by rw [sizeLine_eq]; decide

/-! ### strs and bytes -/


/-! ### scalar builtins, by CallR -/
theorem vals1 {x : V} {us : List Value} (r : Vals [x] us) : ∃ u, us = [u] ∧ RelV x u := by
  cases r with
  | cons r1 r2 => cases r2; exact ⟨_, rfl, r1⟩
theorem vals2 {x y : V} {us : List Value} (r : Vals [x, y] us) : ∃ u w', us = [u, w'] ∧ RelV x u ∧ RelV y w' := by
  cases r with
  | cons r1 r2 =>
    cases r2 with
    | cons r3 r4 => cases r4; exact ⟨_, _, rfl, r1, r3⟩
theorem call_max2 (hc : X.calm = true) : CallR X (.builtin "max") (fun xs H Q => ∃ i j, xs = [.int i, .int j] ∧ Q (.int (if j > i then j else i)) H) := by
  intro pins s σ H xs us Q I r h
  obtain ⟨i, j, rfl, q⟩ := h
  obtain ⟨u, w', rfl, ⟨t, rfl⟩, ⟨t', rfl⟩⟩ := vals2 r
  refine max_two_ints (I.ok.hd hc) fun h' tk k => ⟨_, H, I.kept k, ?_, q⟩
  by_cases hj : j > i
  · rw [if_pos hj, if_pos hj]; exact ⟨_, rfl⟩
  · rw [if_neg hj, if_neg hj]; exact ⟨_, rfl⟩
end
end L2

namespace L2
open PySem PySem.Spec PyProof.Rows

/-! ### an instance, its attributes a map -/
structure ObjM (h : Heap) (x dx C : Addr) (mA : Str → Option Value) : Prop where
  obj : h.get? x = some (PySem.W.instObj C dx)
  ns : h.Ns1 dx mA
  ne : dx ≠ x

theorem lookIn_ns {h : Heap} {dx : Addr} {mA : Str → Option Value} (n : h.Ns1 dx mA) : ∃ od, h.get? dx = some od ∧ ∀ name, PySem.W.lookIn name od = some (mA name) := by
  obtain ⟨o, es, ep, ho, hd, hk, _, hm⟩ := n
  refine ⟨o, ho, fun name => ?_⟩
  have e := hm name
  unfold nsFind findBy at e
  rw [← Array.find?_toList] at e
  unfold PySem.W.lookIn
  rw [hd]
  dsimp only
  split
  · rename_i y q
    rw [q] at e
    exact congrArg some e
  · rename_i q
    rw [q] at e
    have a : es.toList.any (·.refKey) = false := by
      rw [List.any_eq_false]
      intro y hy
      obtain ⟨z, t, hkey⟩ := hk y (Array.mem_toList_iff.mp hy)
      simp [DictEntry.refKey, hkey]
    have a' : ¬ es.toList.any (·.refKey) = true := by rw [a]; exact Bool.false_ne_true
    rw [if_neg a']
    exact congrArg some e

theorem ObjM.look {h : Heap} {x dx C : Addr} {mA : Str → Option Value} (I : ObjM h x dx C mA) : ∃ od, PySem.W.InstAt h x (PySem.W.instObj C dx) C (some od) ∧ ∀ name, PySem.W.lookIn name od = some (mA name) :=
  let ⟨od, ho, hl⟩ := lookIn_ns I.ns
  ⟨od, ⟨I.obj, rfl, rfl, ho⟩, hl⟩

section
variable {prog : Program} {w : World} {A : Around} {E : Value → Shared → Prop} {s : Shared} {K : PySem.W.Frag} {x dx C f : Addr} {mA : Str → Option Value} {name : Str} {v : Value}

theorem get_map {expr : Bool} {Q : Value → Shared → Prop} (X : K.In s.heap) (I : ObjM s.heap x dx C mA) (hg : PySem.W.plainGet K C name = true) (hh : PySem.W.hasDictIn K C = true)
    (ha : PySem.W.findIn K (.ref C) name = some none) (hv : mA name = some v) (hv' : PySem.W.handedIn v = true) (h : Q v { s with toks := s.toks + 1 }) :
    wpAny (model prog w) A (getAttr (.ref x) name expr) Q E s := by
  obtain ⟨od, J, hl⟩ := I.look
  exact PySem.W.get_value X J (PySem.W.plainGet_of hg).1 (PySem.W.findObj_own hh ha rfl (by rw [hl, hv])) hv' h


theorem get_meth {pl : Sem Bool} {Q : Value × List Value → Shared → Prop} (X : K.In s.heap) (I : ObjM s.heap x dx C mA) (hg : PySem.W.plainGet K C name = true)
    (hf : PySem.W.findIn K (.ref C) name = some (some (.ref f))) (ht : PySem.W.isFn K (.ref f) = true) (hv : mA name = none) (h : Q (.ref f, [.ref x]) s) :
    wpAny (model prog w) A (getMethod (.ref x) name pl) Q E s := by
  obtain ⟨od, J, hl⟩ := I.look
  exact PySem.W.method_fn X J (PySem.W.plainGet_of hg).1 (PySem.W.plainGet_of hg).2 hf (beq_iff_eq.mp ht) (by show (PySem.W.lookIn name od).map (·.isSome) = some false; rw [hl, hv]; rfl) h

theorem set_map {ns : List Str} {Q : Unit → Shared → Prop} (X : K.In s.heap) (I : ObjM s.heap x dx C mA)
    (hs : PySem.W.findIn K (.ref C) "__setattr__" = some (some (.builtin "object.__setattr__"))) (hp : PySem.W.plainOver K C = true) (ht : PySem.W.takerIn K C name = some none) (hh : PySem.W.hasDictIn K C = true)
    (hw : PySem.Within mA ns) (hsz : ns.length ≤ sizeLine)
    (h : ∀ h', ObjM h' x dx C (fun y => if y = name then some v else mA y) → Heap.SameBut dx s.heap h' → Q () { s with heap := h', toks := s.toks + 2 }) :
    wpAny (model prog w) A (setAttr (.ref x) name v) Q E s := by
  obtain ⟨od, J, hl⟩ := I.look
  refine PySem.W.set_plain X J hs (PySem.W.osa_open (s := { s with toks := s.toks + 1 }) (r := none) X J hp ht fun b => ?_)
  obtain ⟨cd, hc, hd'⟩ := PySem.W.any_some hh
  have hx : s.heap.get? x = some ⟨.ref C, some dx, .plain, #[]⟩ := I.obj
  refine wpAny_bind (wpAny_pure (wpAny_bind (wpAny_bind (wpAny_loadPart hx (wpAny_bind (PySem.W.Looks.here (s := { s with toks := s.toks + 1 }) (PySem.W.looks_clsIn X hc) ?_))))))
  rw [hd']
  refine wpAny_pure (a := some dx) (wpAny_bind (wpAny_pure (wpAny_bind ?_)))
  refine wpAny_nsSet1 (s := { s with toks := s.toks + 1 }) I.ns fun h' hn2 hs2 => ?_
  obtain ⟨oD, esD, epD, hoD, hdD, hcD⟩ := hn2.count (PySem.Within.cons name v hw)
  refine wpAny_bind (wpAny_lookBehind hoD (by rw [hdD]; exact pastItsLine_dict (Nat.le_trans hcD (by rw [List.length_cons]; omega))) ?_)
  exact wpAny_pure (h _ ⟨(hs2.2 _ (Ne.symm I.ne)).trans I.obj, hn2, I.ne⟩ hs2)

/-- C(..): the dict at the heap's end, the instance behind it; then its __init__ -/
theorem make_map {R : Result → Shared → Prop} {vs : List Value} {kw : List (Str × Value)} (X : K.In s.heap) (hm : PySem.W.makesIn K C = true)
    (hi : PySem.W.findIn K (.ref C) "__init__" = some (some (.ref f))) (hf : PySem.W.typeIn K (.ref f) = some (.type "function"))
    (h : codeAny (model prog w) (A.under (.builtin "type.__call__" ⟨.ref C :: vs, kw⟩)) (.call (.ref f) ⟨.ref (s.heap.objs.size + 1) :: vs, kw⟩) (PySem.W.InitBack (s.heap.objs.size + 1) R)
      { s with heap := (s.heap.push PySem.W.emptyDict).push (PySem.W.instObj C s.heap.objs.size) }) :
    codeAny (model prog w) A (.call (.ref C) ⟨vs, kw⟩) R s := by
  obtain ⟨hh, g, d, t, os⟩ := s
  exact PySem.W.make_core (PySem.W.makes_of X hm) (PySem.W.looks_findIn X hi) (fun self => PySem.W.bind_fn X self hf) (.inl rfl) h
/-- C() where there is no __init__ but object's -/
theorem make_map0 {R : Result → Shared → Prop} (X : K.In s.heap) (hm : PySem.W.makesIn K C = true)
    (hi : PySem.W.findIn K (.ref C) "__init__" = some (some (.builtin "object.__init__")))
    (hb : ∀ self, PySem.W.Looks (model prog w) s.heap (bindSpecial (.builtin "object.__init__") self) (.builtin "object.__init__", [self]))
    (h : codeAny (model prog w) (A.under (.builtin "type.__call__" ⟨[.ref C], []⟩)) (.call (.builtin "object.__init__") ⟨[.ref (s.heap.objs.size + 1)], []⟩) (PySem.W.InitBack (s.heap.objs.size + 1) R)
      { s with heap := (s.heap.push PySem.W.emptyDict).push (PySem.W.instObj C s.heap.objs.size) }) :
    codeAny (model prog w) A (.call (.ref C) ⟨[], []⟩) R s := by
  obtain ⟨hh, g, d, t, os⟩ := s
  exact PySem.W.make_core (PySem.W.makes_of X hm) (PySem.W.looks_findIn X hi) hb (.inr ⟨rfl, rfl⟩) h
end

/-! ### the attributes as a list of pairs -/
def putF (f : Str) (v : V) : List (Str × V) → List (Str × V)
  | [] => [(f, v)]
  | (g, x) :: r => if g = f then (g, v) :: r else (g, x) :: putF f v r
theorem lookup_putF (f g : Str) (v : V) : ∀ fs : List (Str × V), (putF f v fs).lookup g = if g = f then some v else fs.lookup g
  | [] => by
    show List.lookup g [(f, v)] = _
    by_cases h : g = f
    · have hb : (g == f) = true := beq_iff_eq.mpr h
      simp only [List.lookup, hb, if_pos h]
    · have hb : (g == f) = false := beq_eq_false_iff_ne.mpr h
      simp only [List.lookup, hb, if_neg h]
  | (k, x) :: r => by
    have ih := lookup_putF f g v r
    rw [show putF f v ((k, x) :: r) = (if k = f then (k, v) :: r else (k, x) :: putF f v r) from rfl]
    by_cases hk : k = f
    · rw [if_pos hk]
      by_cases h : g = k
      · have hb : (g == k) = true := beq_iff_eq.mpr h
        simp only [List.lookup, hb, if_pos (h.trans hk)]
      · have hb : (g == k) = false := beq_eq_false_iff_ne.mpr h
        simp only [List.lookup, hb, if_neg (fun e : g = f => h (e.trans hk.symm))]
    · rw [if_neg hk]
      by_cases h : g = k
      · have hb : (g == k) = true := beq_iff_eq.mpr h
        simp only [List.lookup, hb, if_neg (fun e : g = f => hk (h.symm.trans e))]
      · have hb : (g == k) = false := beq_eq_false_iff_ne.mpr h
        simp only [List.lookup, hb]
        exact ih
theorem keys_putF (f : Str) (v : V) : ∀ fs : List (Str × V), f ∈ (putF f v fs).map (·.1) ∧ ∀ g, g ∈ fs.map (·.1) → g ∈ (putF f v fs).map (·.1)
  | [] => ⟨by simp [putF], fun g h => by simp at h⟩
  | (k, x) :: r => by
    obtain ⟨i1, i2⟩ := keys_putF f v r
    rw [show putF f v ((k, x) :: r) = (if k = f then (k, v) :: r else (k, x) :: putF f v r) from rfl]
    by_cases hk : k = f
    · rw [if_pos hk]
      subst hk
      exact ⟨by simp, fun g h => by simpa using h⟩
    · rw [if_neg hk]
      refine ⟨?_, fun g h => ?_⟩
      · rw [List.map_cons]
        exact List.mem_cons_of_mem _ i1
      · rw [List.map_cons] at h ⊢
        rcases List.mem_cons.mp h with e | e
        · exact List.mem_cons.mpr (.inl e)
        · exact List.mem_cons_of_mem _ (i2 g e)
theorem length_putF (f : Str) (v : V) : ∀ fs : List (Str × V), (putF f v fs).length ≤ fs.length + 1
  | [] => by simp [putF]
  | (k, x) :: r => by
    have ih := length_putF f v r
    rw [show putF f v ((k, x) :: r) = (if k = f then (k, v) :: r else (k, x) :: putF f v r) from rfl]
    by_cases hk : k = f
    · rw [if_pos hk, List.length_cons, List.length_cons]; omega
    · rw [if_neg hk, List.length_cons, List.length_cons]; omega

theorem RelO.some_of {v : V} {o : Option Value} (r : RelO (some v) o) : ∃ u, o = some u ∧ RelV v u := by
  cases o with
  | none => exact (show False from r).elim
  | some u => exact ⟨u, rfl, r⟩
theorem RelO.none_of {o : Option Value} (r : RelO none o) : o = none := by
  cases o with
  | none => rfl
  | some u => exact (show False from r).elim
theorem handed_of {v : V} {u : Value} (r : RelV v u) : PySem.W.handedIn u = true := by
  cases v with
  | non => cases (show u = Value.none from r); rfl
  | bl b => cases (show u = Value.bool b from r); rfl
  | int i => obtain ⟨t, e⟩ := (show ∃ t, u = Value.int i t from r); cases e; rfl
  | str x => obtain ⟨t, e⟩ := (show ∃ t, u = Value.str x t from r); cases e; rfl
  | byt b => obtain ⟨t, e⟩ := (show ∃ t, u = Value.bytes b t from r); cases e; rfl
  | flt b => obtain ⟨t, e⟩ := (show ∃ t, u = Value.float b t from r); cases e; rfl
  | ref a => cases (show u = Value.ref a from r); rfl
  | ty n => cases (show u = Value.type n from r); rfl

section
variable {P : Program} {w : World} {H H' : Hp} {h h' : Heap} {a C dx : Addr} {fs fs' : List (Str × V)}
theorem ins_get (hok : HOk P w H h) (e : H a = some (.ins C dx fs)) : ∃ mA, ObjM h a dx C mA ∧ (∀ f, RelO (fs.lookup f) (mA f)) ∧ PySem.Within mA (fs.map (·.1)) ∧ fs.length ≤ 1000 ∧ H dx = some (.own a) := by
  obtain ⟨d, z, ne, ob, mA, n, r, q⟩ := (show ObjOk P w H h a (.ins C dx fs) from hok a _ e)
  exact ⟨mA, ⟨ob, n, ne⟩, r, q, z, d⟩
end

/-! ### what of the text a class must have -/
structure Cls (K : PySem.W.Frag) (C : Addr) : Prop where
  pg : PySem.W.plainGet K C Str.empty = true
  hd : PySem.W.hasDictIn K C = true
  po : PySem.W.plainOver K C = true
  sa : PySem.W.findIn K (.ref C) "__setattr__" = some (some (.builtin "object.__setattr__"))
theorem Cls.get {K : PySem.W.Frag} {C : Addr} (c : Cls K C) (f : Str) : PySem.W.plainGet K C f = true := c.pg
/-- no class of it has the name -/
def NoAttr (K : PySem.W.Frag) (C : Addr) (f : Str) : Prop := PySem.W.findIn K (.ref C) f = some none
theorem NoAttr.taker {K : PySem.W.Frag} {C : Addr} {f : Str} (n : NoAttr K C f) : PySem.W.takerIn K C f = some none := by
  unfold PySem.W.takerIn
  rw [show PySem.W.findIn K (.ref C) f = some none from n]
  rfl
/-- a method: a plain def of the class or of one above it -/
structure Meth (K : PySem.W.Frag) (C : Addr) (m : Str) (f : Addr) : Prop where
  at_ : PySem.W.findIn K (.ref C) m = some (some (.ref f))
  fn : PySem.W.isFn K (.ref f) = true
  kp : PySem.W.keepIn K (.ref f) = true

section
variable {X : Cx} {pins : List (Addr × Obj)} {σ : St} {H : Hp} {s : Shared} {a C dx : Addr} {fs : List (Str × V)} {f : Str} {v : V} {A : Around} {E : Value → Shared → Prop}

theorem getattr_ok {b : Bool} {Q : Value → Shared → Prop} (I : Inv X pins σ H s) (e : H a = some (.ins C dx fs)) (c : Cls X.K C) (n : NoAttr X.K C f) (l : fs.lookup f = some v)
    (h : ∀ u s', Inv X pins σ H s' → RelV v u → Q u s') : wpAny (model X.prog X.w) A (getAttr (.ref a) f b) Q E s := by
  obtain ⟨mA, O, r, _, _, _⟩ := ins_get I.hok e
  obtain ⟨u, hu, ru⟩ := RelO.some_of (v := v) (o := mA f) (by rw [← l]; exact r f)
  exact get_map I.kIn O (c.get f) c.hd n hu (handed_of ru) (h u _ (I.tok _) ru)


theorem getmeth_ok {m : Str} {g : Addr} {pl : Sem Bool} {Q : Value × List Value → Shared → Prop} (I : Inv X pins σ H s) (e : H a = some (.ins C dx fs)) (c : Cls X.K C) (k : Meth X.K C m g) (l : fs.lookup m = none)
    (h : Q (.ref g, [.ref a]) s) : wpAny (model X.prog X.w) A (getMethod (.ref a) m pl) Q E s := by
  obtain ⟨mA, O, r, _, _, _⟩ := ins_get I.hok e
  have hn : mA m = none := RelO.none_of (by rw [← l]; exact r m)
  exact get_meth I.kIn O (c.get m) k.at_ k.fn hn h

theorem setattr_ok {y : V} {u : Value} {Q : Unit → Shared → Prop} (I : Inv X pins σ H s) (e : H a = some (.ins C dx fs)) (c : Cls X.K C) (n : NoAttr X.K C f) (hl : fs.length < 1000) (ry : RelV y u)
    (h : ∀ s', Inv X pins σ (upd H a (.ins C dx (putF f y fs))) s' → Q () s') : wpAny (model X.prog X.w) A (setAttr (.ref a) f u) Q E s := by
  obtain ⟨mA, O, r, wi, _, ho⟩ := ins_get I.hok e
  have hz : (fs.map (·.1)).length ≤ sizeLine := by rw [List.length_map, sizeLine_eq]; omega
  refine set_map I.kIn O c.sa c.po n.taker c.hd wi hz fun h' O' sb => h _ ?_
  have hd : ∃ o, h'.get? dx = some o := let ⟨o, _, _, e', _⟩ := O'.ns; ⟨o, e'⟩
  refine I.write (x := a) (e := dx) (by rw [e]; exact True.intro) (.inr ho) (fun b q hb z => (sb.2 b hb).trans z) hd ?_
  refine ⟨by rw [upd_ne O.ne]; exact ho, ?_, O.ne, O'.obj, _, O'.ns, fun g => ?_, fun g hg => ?_⟩
  · have := length_putF f y fs; omega
  · show RelO ((putF f y fs).lookup g) (if g = f then some u else mA g)
    rw [lookup_putF]
    by_cases q : g = f
    · rw [if_pos q, if_pos q]; exact ry
    · rw [if_neg q, if_neg q]; exact r g
  · by_cases q : g = f
    · rw [q]; exact (keys_putF f y fs).1
    · refine (keys_putF f y fs).2 g (wi g fun z => hg ?_)
      show (if g = f then some u else mA g) = none
      rw [if_neg q]; exact z

/-- a new instance, tracked, without attributes -/
theorem Inv.made (I : Inv X pins σ H s) : Inv X pins σ (upd (upd H s.heap.objs.size (.own (s.heap.objs.size + 1))) (s.heap.objs.size + 1) (.ins C s.heap.objs.size []))
    { s with heap := (s.heap.push PySem.W.emptyDict).push (PySem.W.instObj C s.heap.objs.size) } := by
  have e1 : (s.heap.push PySem.W.emptyDict).get? s.heap.objs.size = some PySem.W.emptyDict := Heap.get?_push_size s.heap rfl
  have e2 : ((s.heap.push PySem.W.emptyDict).push (PySem.W.instObj C s.heap.objs.size)).get? (s.heap.objs.size + 1) = some (PySem.W.instObj C s.heap.objs.size) := by
    have := Heap.get?_push_size (s.heap.push PySem.W.emptyDict) (o := PySem.W.instObj C s.heap.objs.size) rfl
    rwa [Heap.size_push] at this
  have e3 : (s.heap.push PySem.W.emptyDict).Ns s.heap.objs.size (fun _ => none) := ⟨PySem.W.emptyDict, #[], _, e1, rfl, (fun e he => absurd he (by simp)), fun _ => rfl⟩
  have I1 := I.laid (a := s.heap.objs.size) (o := .own (s.heap.objs.size + 1)) (h' := s.heap.push PySem.W.emptyDict) (t' := s.toks) (fun b u q => Heap.get?_push_of_some _ q) (Nat.le_refl _) ⟨_, e1⟩
  refine I1.laid (a := s.heap.objs.size + 1) (o := .ins C s.heap.objs.size []) (t' := s.toks) (fun b u q => Heap.get?_push_of_some _ q) (Nat.le_of_eq (Heap.size_push _ _)) ?_
  have ne : s.heap.objs.size ≠ s.heap.objs.size + 1 := Nat.ne_of_lt (Nat.lt_succ_self _)
  refine ⟨by rw [upd_ne ne, upd_same], Nat.zero_le _, ne, e2, fun _ => none, (Heap.Ns1.of_empty e3).at fun o q => Heap.get?_push_of_some _ q, fun _ => True.intro, fun y hy => absurd rfl hy⟩

/-- e.f where nothing but the object is asked: through attributeBase (super) and the last hold -/
theorem attr_of {prog : Program} {w : World} {env : Env} {e : Expr} {f : Str} {pos : Pos} {s : Shared} {Q : Value → Shared → Prop} (hb : attributeBase e f env (eval e env) = eval e env)
    (h : wpAny (model prog w) A (eval e env) (fun o s₁ => wpAny (model prog w) A (getAttr o f true) Q E s₁) E s) : wpAny (model prog w) A (eval (.Attribute e f pos) env) Q E s :=
  Attribute_any_ h (by rw [arm_eval_Attribute, hb])
end

/-! ### readings and rules -/
/-- e.f, an attribute of the instance -/
def tFld (K : PySem.W.Frag) (ta : TE) (f : Str) : TE := fun σ H Q => ta σ H fun x H1 => ∃ a C dx fs v, x = .ref a ∧ H1 a = some (.ins C dx fs) ∧ Cls K C ∧ NoAttr K C f ∧ fs.lookup f = some v ∧ Q v H1
/-- e.f = value -/
def sFld (K : PySem.W.Frag) (ta tv : TE) (f : Str) : TS := fun D σ H => tv σ H fun y H1 => ta σ H1 fun x H2 => ∃ a C dx fs, x = .ref a ∧ H2 a = some (.ins C dx fs) ∧ Cls K C ∧ NoAttr K C f ∧ fs.length < 1000 ∧
  D.nx σ (upd H2 a (.ins C dx (putF f y fs)))

section
variable {X : Cx} {o e value : Expr} {f : Str} {pos pos' tpos : Pos} {ta tv : TE}
theorem pe_fld (he : PE X e ta) (hb : attributeBase e f X.env (eval e X.env) = eval e X.env) : PE X (.Attribute e f pos) (tFld X.K ta f) := by
  intro pins s σ H Q I h
  refine attr_of hb (thn (he pins s σ H _ I h) fun u s1 ⟨x, H1, I1, rx, a, C, dx, fs, v, ex, ea, c, n, l, q⟩ => ?_)
  subst ex
  obtain rfl : u = Value.ref a := rx
  exact getattr_ok I1 ea c n l fun u' s2 I2 ru => ⟨v, H1, I2, ru, q⟩
theorem ps_fld (ha : PE X o ta) (hv : PE X value tv) (hs : swapsWith value (some (.Attribute o f pos')) pos.line X.env = pure false) : PS X (.Assign [.Attribute o f pos'] value pos) (sFld X.K ta tv f) := by
  intro pins s σ H D I h
  refine plainObj_wpAny_Assign_Attribute (thn (hv pins s σ H _ I h) fun u s1 ⟨y, H1, I1, ry, q⟩ => thn (ha pins s1 σ H1 _ I1 q) fun ov s2 ⟨x, H2, I2, rx, a, C, dx, fs, ex, ea, c, n, l, q2⟩ => ?_) hs
  subst ex
  obtain rfl : ov = Value.ref a := rx
  exact setattr_ok I2 ea c n l ry fun s3 I3 => ⟨σ, _, I3, q2⟩

/-- what is between an instance and its method: the tree of a method call -/
theorem methcall_of {pl : Sem Bool} {m : Str} {apos : Pos} {args : List Expr} {pins : List (Addr × Obj)} {s : Shared} {σ : St} {H : Hp} {Q : Value → Shared → Prop} {te : TE} (he : PE X e te) (I : Inv X pins σ H s)
    (h : te σ H fun x H1 => ∃ a C dx fs g, x = .ref a ∧ H1 a = some (.ins C dx fs) ∧ Cls X.K C ∧ Meth X.K C m g ∧ fs.lookup m = none ∧
      ∀ s1, Inv X pins σ H1 s1 → wpAny (model X.prog X.w) X.A (callWith pos (.ref g) [.ref a] (backTo pos (starEach args X.env)) (backToKw pos (keywordEach [] X.env))) Q X.xe s1)
    (ht : eval (.Call (.Attribute e m apos) args [] pos) X.env = (do
      let ov ← eval e X.env
      standAt apos.atName
      let (f, first) ← holding [ov] (getMethod ov m pl)
      callWith pos f first (backTo pos (starEach args X.env)) (backToKw pos (keywordEach [] X.env)))) :
    wpAny (model X.prog X.w) X.A (eval (.Call (.Attribute e m apos) args [] pos) X.env) Q X.xe s := by
  refine PySem.W.methodCall_KW (pl := pl) (thn (he pins s σ H _ I h) fun u s1 ⟨x, H1, I1, rx, a, C, dx, fs, g, ex, ea, c, k, l, q⟩ => ?_) ht
  subst ex
  obtain rfl : u = Value.ref a := rx
  exact getmeth_ok I1 ea c k l (q s1 I1)
end

/-! ### isinstance -/
section
variable {X : Cx} {pins : List (Addr × Obj)} {σ : St} {H : Hp} {s : Shared} {A : Around} {E : Value → Shared → Prop} {Q : Value → Shared → Prop} {c : Value} {b : Bool}
/-- the type of a value, as the fragment's deciders take it; for an instance its class -/
inductive TyOf (K : PySem.W.Frag) (H : Hp) : V → Value → Prop where
  | non : TyOf K H .non (.type "NoneType")
  | bl (x : Bool) : TyOf K H (.bl x) (.type "bool")
  | int (i : Int) : TyOf K H (.int i) (.type "int")
  | str (x : Str) : TyOf K H (.str x) (.type "str")
  | flt (x : UInt64) : TyOf K H (.flt x) (.type "float")
  | lst {a : Addr} {xs : List V} (e : H a = some (.lst xs)) : TyOf K H (.ref a) (.type "list")
  | frz {a : Addr} {o : Obj} {xs : List V} (e : H a = some (.frz o (.lst xs))) : TyOf K H (.ref a) (.type "list")
  | tup {a : Addr} {xs : List V} (e : H a = some (.tup xs)) : TyOf K H (.ref a) (.type "tuple")
  | dK {a : Addr} {kvs : List (Key × V)} (e : H a = some (.dK kvs)) : TyOf K H (.ref a) (.type "dict")
  | dT {a : Addr} {kvs : List (List Key × V)} (e : H a = some (.dT kvs)) : TyOf K H (.ref a) (.type "dict")
  | ins {a C dx : Addr} {fs : List (Str × V)} (e : H a = some (.ins C dx fs)) (cl : Cls K C) (ha : PySem.W.findIn K (.ref C) "__class__" = some (some (.builtin "object.__class__")))
      (hn : PySem.W.specialIn K (.builtin "object.__class__") "__get__" = some (some (.builtin "getset_descriptor.__get__"))) (htk : PySem.W.takesIn K (.builtin "object.__class__") = some true)
      (hm : PySem.W.mroIn K C (.type "object") = some true) : TyOf K H (.ref a) (.ref C)
/-- isinstance(x, c) for one class c, a built-in or an own one: kitOne's answer -/
theorem isinst_ok {x : V} {u t : Value} (I : Inv X pins σ H s) (rx : RelV x u) (ty : TyOf X.K H x t) (e : PySem.W.kitOne X.K t c = some b) (h : ∀ tk, Q (.bool b) { s with toks := tk }) :
    wpAny (model X.prog X.w) A (call (.builtin "isinstance") [u, c]) Q E s := by
  cases ty with
  | non => cases (show u = Value.none from rx); exact PySem.W.kia_one PySem.W.kitx_none I.kIn True.intro e (fun z => nomatch z) h
  | bl y => cases (show u = Value.bool y from rx); exact PySem.W.kia_one PySem.W.kitx_bool I.kIn True.intro e (fun z => nomatch z) h
  | int i => obtain ⟨t, q⟩ := (show ∃ t, u = Value.int i t from rx); cases q; exact PySem.W.kia_one PySem.W.kitx_int I.kIn True.intro e (fun z => nomatch z) h
  | str y => obtain ⟨t, q⟩ := (show ∃ t, u = Value.str y t from rx); cases q; exact PySem.W.kia_one PySem.W.kitx_str I.kIn True.intro e (fun z => nomatch z) h
  | flt y => obtain ⟨t, q⟩ := (show ∃ t, u = Value.float y t from rx); cases q; exact PySem.W.kia_one PySem.W.kitx_float I.kIn True.intro e (fun z => nomatch z) h
  | @lst a xs ea =>
    cases (show u = Value.ref a from rx)
    obtain ⟨_, _, n, _, h1⟩ := (show ObjOk X.prog X.w H s.heap a (.lst xs) from I.hok a _ ea)
    exact PySem.W.kia_one PySem.W.kitx_list I.kIn ⟨_, h1, rfl⟩ e (fun z => nomatch z) h
  | @frz a ob xs ea =>
    cases (show u = Value.ref a from rx)
    obtain ⟨_, _, _, n, _, h1⟩ := (show ObjOk X.prog X.w H s.heap a (.frz ob (.lst xs)) from I.hok a _ ea)
    exact PySem.W.kia_one PySem.W.kitx_list I.kIn ⟨_, h1, rfl⟩ e (fun z => nomatch z) h
  | @tup a xs ea =>
    cases (show u = Value.ref a from rx)
    obtain ⟨_, _, _, p⟩ := (show ObjOk X.prog X.w H s.heap a (.tup xs) from I.hok a _ ea)
    obtain ⟨o, h1, h2, _⟩ := p
    exact PySem.W.kia_one PySem.W.kitx_tuple I.kIn ⟨o, h1, h2⟩ e (fun z => nomatch z) h
  | @dK a kvs ea =>
    cases (show u = Value.ref a from rx)
    obtain ⟨_, _, vs, _, p⟩ := (show ObjOk X.prog X.w H s.heap a (.dK kvs) from I.hok a _ ea)
    obtain ⟨o, es, ep, h1, h2, _⟩ := p
    exact PySem.W.kia_one PySem.W.kitx_dict I.kIn ⟨o, h1, h2.1⟩ e (fun z => nomatch z) h
  | @dT a kvs ea =>
    cases (show u = Value.ref a from rx)
    obtain ⟨_, _, xs, _, o, es, ep, h1, h2, _⟩ := (show ObjOk X.prog X.w H s.heap a (.dT kvs) from I.hok a _ ea)
    exact PySem.W.kia_one PySem.W.kitx_dict I.kIn ⟨o, h1, h2.1⟩ e (fun z => nomatch z) h
  | @ins a C dx fs ea cl ha hn htk hm =>
    cases (show u = Value.ref a from rx)
    obtain ⟨mA, O, _⟩ := ins_get I.hok ea
    obtain ⟨od, J, _⟩ := O.look
    exact PySem.W.kia_one (PySem.W.kitx_own (cl.get _) cl.hd ha hn htk hm) I.kIn J e (fun z => nomatch z) h
end
end L2

namespace L2
open PySem PySem.Spec PyProof.Rows

/-! ### room -/
structure Room (k : Nat) (A : Around) : Prop where
  hd : A.handled = none
  dp : A.depth + 3 * k + 5 < recursionLimit
  un : A.units + 16 * k + 200 < cLine
theorem Room.mono {j k : Nat} {A : Around} (r : Room k A) (h : j ≤ k) : Room j A := ⟨r.hd, by have := r.dp; omega, by have := r.un; omega⟩
theorem Room.deeper {k : Nat} {A : Around} (r : Room (k + 1) A) (env : Env) : Room k (A.deeper env) :=
  ⟨r.hd, by have := r.dp; show A.depth + 1 + 3 * k + 5 < _; omega, by have := r.un; show A.units + 3 + 16 * k + 200 < _; omega⟩
theorem make_depth {A : Around} {C : Addr} {us : List Value} {kw : List (Str × Value)} : (A.under (.builtin "type.__call__" ⟨.ref C :: us, kw⟩)).depth = A.depth + 1 := by
  first | rfl | simp [Around.under, Code.weight, Code.isCreation, Code.isGuard, Code.isCaller, Code.frames, Code.isFrame, guardIds]
theorem make_units {A : Around} {C : Addr} {us : List Value} {kw : List (Str × Value)} : (A.under (.builtin "type.__call__" ⟨.ref C :: us, kw⟩)).units = A.units + 1 := by
  first | rfl | simp [Around.under, Code.cUnits, Code.frames, Code.isFrame]
theorem Room.make {k : Nat} {A : Around} (r : Room (k + 1) A) (C : Addr) (us : List Value) (kw : List (Str × Value)) : Room k (A.under (.builtin "type.__call__" ⟨.ref C :: us, kw⟩)) :=
  ⟨r.hd, by have := r.dp; rw [make_depth]; omega, by have := r.un; rw [make_units]; omega⟩
theorem Room.depth {k : Nat} {A : Around} (r : Room k A) : A.depth < recursionLimit := by have := r.dp; omega
theorem Room.units0 {k : Nat} {A : Around} (r : Room k A) : A.units < cLine := by have := r.un; omega

/-! ### argument lists and displays -/
def tNil : TA := fun _ H Q => Q [] H
def tCons (ta : TE) (tr : TA) : TA := fun σ H Q => ta σ H fun x H1 => tr σ H1 fun xs H2 => Q (x :: xs) H2
section
variable {X : Cx} {e : Expr} {es : List Expr} {te : TE} {t : TA} {pos : Pos}
theorem pa_nil : PA X [] tNil := fun _ _ _ _ H Q I h => Calls.spliced_nil ⟨[], H, I, .nil, h⟩
theorem pa_cons (ha : PE X e te) (hr : PA X es t) (hs : starEach (e :: es) X.env = (false, eval e X.env) :: starEach es X.env := by rfl) : PA X (e :: es) (tCons te t) := by
  intro pos pins s σ H Q I h
  rw [hs]
  show wpAny _ _ (spliced ((false, eval e X.env) :: backTo pos (starEach es X.env))) _ _ s
  refine Calls.spliced_cons (thn (ha pins s σ H _ I h) fun u s1 ⟨x, H1, I1, r1, q1⟩ => ?_)
  exact thn (hr pos pins s1 σ H1 _ I1 q1) fun us s2 ⟨xs, H2, I2, r2, q2⟩ => ⟨x :: xs, H2, I2, .cons r1 r2, q2⟩

/-- a tuple, a list of written items -/
def tTup (t : TA) : TE := fun σ H Q => t σ H fun xs H1 => xs.length ≤ sizeLine ∧ ∀ p, H1 p = none → Q (.ref p) (upd H1 p (.tup xs))
def tLst (t : TA) : TE := fun σ H Q => t σ H fun xs H1 => xs.length ≤ sizeLine ∧ ∀ p, H1 p = none → Q (.ref p) (upd H1 p (.lst xs))
theorem pe_tup {x1} (h : PA X es t) : PE X (.Tuple es x1 pos) (tTup t) := by
  intro pins s σ H Q I hq
  refine wpAny_Tuple_spliced (thn (h pos pins s σ H _ I hq) fun us s1 ⟨xs, H1, I1, r, z, q⟩ => ⟨by rw [← r.length]; exact z, ?_⟩)
  have hf : H1 s1.heap.objs.size = none := I1.hok.fresh (Nat.le_refl _)
  refine ⟨.ref s1.heap.objs.size, upd H1 s1.heap.objs.size (.tup xs), I1.laid (t' := s1.toks) (fun b u e => Heap.get?_push_of_some _ e) (Nat.le_refl _) ?_, rfl, q _ hf⟩
  exact ⟨z, us, r, ⟨_, Heap.get?_push_size _ rfl, rfl, _, rfl⟩⟩
theorem pe_lst (h : PA X es t) : PE X (.List es pos) (tLst t) := by
  intro pins s σ H Q I hq
  refine wpAny_List_spliced (thn (h pos pins s σ H _ I hq) fun us s1 ⟨xs, H1, I1, r, z, q⟩ => ⟨by rw [← r.length]; exact z, ?_⟩)
  have hf : H1 s1.heap.objs.size = none := I1.hok.fresh (Nat.le_refl _)
  refine ⟨.ref s1.heap.objs.size, upd H1 s1.heap.objs.size (.lst xs), I1.laid (t' := s1.toks) (fun b u e => Heap.get?_push_of_some _ e) (Nat.le_refl _) ?_, rfl, q _ hf⟩
  exact ⟨z, us, 0, r, Heap.get?_push_size _ rfl⟩
end

/-! ### what a def promises -/
/-- a def's promise: the bound arguments in the parameters' order, the heap, the wanted end, the wanted exception -/
abbrev Sp := List V → Hp → VK → XK → Prop
/-- how an exception lies behind a call (file 08 gives it): the callers' frames, abstract heap and state ahead of the call, the wish, the exception, the state -/
abbrev CXT := List Env → Hp → Shared → XK → Value → Shared → Prop

/-- the state at a call -/
structure Env0 (P : Program) (w : World) (K : PySem.W.Frag) (mg : Str → Option Value) (base : Heap) (A : Around) (outer : List Env) (s : Shared) (H : Hp) : Prop where
  frames : A.frames = some outer
  mod : Mod K mg base
  bs : ∀ b o, base.get? b = some o → s.heap.get? b = some o ∧ H b = none
  bsz : base.objs.size ≤ s.heap.objs.size
  funs : s.heap.FunFrames base outer
  frf : ∀ b ∈ frs outer, H b = none
  hok : HOk P w H s.heap
  bare : AllBare s.gens
/-- a call's end -/
def CE (outer : List Env) (P : Program) (w : World) (H : Hp) (s : Shared) (Q : VK) (u : Value) (s' : Shared) : Prop :=
  ∃ v H', s'.os = s.os ∧ AllBare s'.gens ∧ Un (frs outer) [] H H' s.heap s'.heap ∧ HOk P w H' s'.heap ∧ RelV v u ∧ Q v H'
def CR (CX : CXT) (outer : List Env) (P : Program) (w : World) (H : Hp) (s : Shared) (Q : VK) (E : XK) (r : Result) (s' : Shared) : Prop :=
  match r with
  | .ok (.ret u) => CE outer P w H s Q u s'
  | .ok _ => False
  | .error e => CX outer H s E e s'
structure FnOk (P : Program) (w : World) (K : PySem.W.Frag) (mg : Str → Option Value) (base : Heap) (CX : CXT) (k : Nat) (f : Addr) (fd : FuncData) (ps : List Str) (sp : Sp) : Prop where
  len : ∀ vs H Q E, sp vs H Q E → vs.length = ps.length
  run : ∀ (A : Around) (outer : List Env) (s : Shared) (H : Hp) (args : Args) (us : List Value) (vs : List V) (Q : VK) (E : XK), Room k A → Env0 P w K mg base A outer s H → BindsTo s fd args (ps.zip us) → Vals vs us → sp vs H Q E →
    codeAny (model P w) A (.call (.ref f) args) (CR CX outer P w H s Q E) s

theorem Env0.make {P : Program} {w : World} {K : PySem.W.Frag} {mg : Str → Option Value} {base : Heap} {A : Around} {outer : List Env} {s : Shared} {H : Hp} (e : Env0 P w K mg base A outer s H) (C : Addr) (us : List Value) (kw : List (Str × Value)) :
    Env0 P w K mg base (A.under (.builtin "type.__call__" ⟨.ref C :: us, kw⟩)) outer s H := ⟨by first | exact e.frames | (simpa [Around.under, Code.envs, Code.isFrame, pushEnvs] using e.frames), e.mod, e.bs, e.bsz, e.funs, e.frf, e.hok, e.bare⟩

section
variable {X : Cx} {pins : List (Addr × Obj)} {σ : St} {H : Hp} {s s' : Shared}
/-- from a body: what a callee wants -/
theorem Inv.env0 (I : Inv X pins σ H s) : Env0 X.prog X.w X.K X.mg X.base X.A X.stack s H :=
  ⟨I.ok.frames, I.ok.mod, I.bs, Nat.le_trans I.ok.bsz I.sz, I.stack, I.stkFree, I.hok, I.bare⟩
/-- behind a call -/
theorem Inv.after {Q : VK} {u : Value} (I : Inv X pins σ H s) (h : CE X.stack X.prog X.w H s Q u s') : EP X pins σ Q u s' := by
  obtain ⟨v, H', os, bare, un, hok, r, q⟩ := h
  obtain ⟨hh, g, d, t, os'⟩ := s'
  obtain rfl : os' = s.os := os
  exact ⟨v, H', I.call (h' := hh) (g' := g) (d' := d) (t' := t) (ch := []) un hok bare (fun b z => absurd z (by simp)), r, q⟩
end

/-! ### calls -/
/-- f(..): the written arguments, then the defaults dvs; E: what is wanted of an exception -/
def tCall (sp : Sp) (dvs : List V) (E : XK) (t : TA) : TE := fun σ H Q => t σ H fun vs H1 => sp (vs ++ dvs) H1 Q E
/-- o.m(..) of an instance of the class at C -/
def tMeth (C : Addr) (m : Str) (sp : Sp) (dvs : List V) (E : XK) (ta : TE) (t : TA) : TE := fun σ H Q => ta σ H fun x H1 => ∃ a dx fs, x = .ref a ∧ H1 a = some (.ins C dx fs) ∧ fs.lookup m = none ∧
  t σ H1 fun vs H2 => sp (x :: (vs ++ dvs)) H2 Q E
/-- C(..): a new instance and its dict, then __init__ -/
def tMake (C : Addr) (sp : Sp) (dvs : List V) (E : XK) (t : TA) : TE := fun σ H Q => t σ H fun vs H1 => ∀ x dx, H1 x = none → H1 dx = none → dx ≠ x →
  sp (.ref x :: (vs ++ dvs)) (upd (upd H1 dx (.own x)) x (.ins C dx [])) (fun v H2 => v = .non ∧ Q (.ref x) H2) E

/-- how the parameters are bound: us the positional arguments, kw the keywords' values by name, ds the defaults that fill up -/
def Binds (K : PySem.W.Frag) (fd : FuncData) (ps : List Str) (ds : List Value) : Prop :=
  ∀ (s : Shared) (us : List Value), K.In s.heap → (us ++ ds).length = ps.length → BindsTo s fd ⟨us, []⟩ (ps.zip (us ++ ds))
/-- every parameter is given -/
theorem Binds.all {K : PySem.W.Frag} {fd : FuncData} {ps : List Str} (h : ∀ us : List Value, us.length = ps.length → bindArgs fd ⟨us, []⟩ = pure (ps.zip us)) : Binds K fd ps [] := fun s us _ hl => by
  rw [List.append_nil] at hl ⊢
  exact .of_eq (h us hl)

/-- an exception of a callee reaches what this body wants of exceptions -/
def Passes (CX : CXT) (X : Cx) (E : XK) : Prop := ∀ (pins : List (Addr × Obj)) (σ : St) (H : Hp) (s : Shared) (e : Value) (s' : Shared), Inv X pins σ H s → CX X.stack H s E e s' → X.xe e s'

section
variable {X : Cx} {CX : CXT} {k : Nat} {f C : Addr} {fd : FuncData} {ps : List Str} {sp : Sp} {dvs : List V} {ds : List Value} {E : XK} {x m : Str} {p pos apos : Pos} {e o : Expr} {es : List Expr} {ta : TE} {t : TA}

/-- the callee runs -/
theorem run_fn {pins : List (Addr × Obj)} {σ : St} {H : Hp} {s : Shared} {Q : VK} {us : List Value} {vs : List V} (F : FnOk X.prog X.w X.K X.mg X.base CX k f fd ps sp) (hr : Room k X.A) (hb : Binds X.K fd ps ds) (hd : Vals dvs ds) (hx : Passes CX X E)
    (I : Inv X pins σ H s) (r : Vals vs us) (h : sp (vs ++ dvs) H Q E) : wpAny (model X.prog X.w) X.A (call (.ref f) us) (EP X pins σ Q) X.xe s := by
  have r2 : Vals (vs ++ dvs) (us ++ ds) := r.append hd
  have hl : (us ++ ds).length = ps.length := by rw [← r2.length]; exact F.len _ _ _ _ h
  refine wpAny_call (codeAny_mono (F.run X.A X.stack s H ⟨us, []⟩ (us ++ ds) (vs ++ dvs) Q E hr I.env0 (hb s us I.kIn hl) r2 h) fun r s' hq => ?_)
  cases r with
  | error e => exact hx pins σ H s e s' I hq
  | ok fl =>
    cases fl with
    | ret u => exact I.after hq
    | next => exact False.elim hq
    | brk => exact False.elim hq
    | cont => exact False.elim hq

theorem pe_call (F : FnOk X.prog X.w X.K X.mg X.base CX k f fd ps sp) (hr : Room k X.A) (hg : Gl X x) (hm : X.mg x = some (.ref f)) (hk : PySem.W.keepIn X.K (.ref f) = true) (hb : Binds X.K fd ps ds) (hd : Vals dvs ds) (hx : Passes CX X E)
    (ha : PA X (e :: es) t) (hdb : (x == ("__debug__" : Str)) = false := by decide) (he : starEach (e :: es) X.env = (false, eval e X.env) :: starEach es X.env := by rfl) (hpl : (backTo pos (starEach es X.env)).any (·.1) = false := by rfl) :
    PE X (.Call (.Name x p) (e :: es) [] pos) (tCall sp dvs E t) := by
  intro pins s σ H Q I h
  refine wpAny_Call_Name_kw (ld_glob I hg hm ?_ hdb)
  refine PySem.W.callWith_K (h₀ := X.base) I.ok.mod.kin hk (thn (ha pos pins s σ H _ I h) fun us s1 ⟨vs, H1, I1, r, q⟩ => ⟨I1.kIn, ?_⟩) he hpl
  exact run_fn F hr hb hd hx I1 r q

/-- o.m(e, ..) -/
theorem pe_meth {pl : Sem Bool} (he : PE X o ta) (c : Cls X.K C) (hm : Meth X.K C m f) (F : FnOk X.prog X.w X.K X.mg X.base CX k f fd ps sp) (hr : Room k X.A) (hb : Binds X.K fd ps ds) (hd : Vals dvs ds) (hx : Passes CX X E) (ha : PA X (e :: es) t)
    (hst : starEach (e :: es) X.env = (false, eval e X.env) :: starEach es X.env := by rfl) (hpl : (backTo pos (starEach es X.env)).any (·.1) = false := by rfl)
    (ht : eval (.Call (.Attribute o m apos) (e :: es) [] pos) X.env = (do
      let ov ← eval o X.env
      standAt apos.atName
      let (f, first) ← holding [ov] (getMethod ov m pl)
      callWith pos f first (backTo pos (starEach (e :: es) X.env)) (backToKw pos (keywordEach [] X.env))) := by rfl) :
    PE X (.Call (.Attribute o m apos) (e :: es) [] pos) (tMeth C m sp dvs E ta t) := by
  intro pins s σ H Q I h
  refine PySem.W.methodCall_KW (pl := pl) (thn (he pins s σ H _ I h) fun u s1 ⟨x, H1, I1, rx, a, dx, fs, ex, ea, l, q⟩ => ?_) ht
  subst ex
  obtain rfl : u = Value.ref a := rx
  refine getmeth_ok I1 ea c hm l ?_
  refine PySem.W.callWith_K (first := [.ref a]) (h₀ := X.base) I.ok.mod.kin hm.kp (thn (ha pos pins s1 σ H1 _ I1 q) fun us s2 ⟨vs, H2, I2, r, q2⟩ => ⟨I2.kIn, ?_⟩) hst hpl
  exact run_fn (us := .ref a :: us) (vs := .ref a :: vs) F hr hb hd hx I2 (.cons rfl r) q2

/-- what a class must have to be made -/
structure Mk (K : PySem.W.Frag) (C f : Addr) : Prop where
  makes : PySem.W.makesIn K C = true
  init : PySem.W.findIn K (.ref C) "__init__" = some (some (.ref f))
  fn : PySem.W.isFn K (.ref f) = true
  kp : PySem.W.keepIn K (.ref C) = true

theorem run_make {pins : List (Addr × Obj)} {σ : St} {H : Hp} {s : Shared} {Q : VK} {us : List Value} {vs : List V} (M : Mk X.K C f) (F : FnOk X.prog X.w X.K X.mg X.base CX k f fd ps sp) (hr : Room (k + 1) X.A) (hb : Binds X.K fd ps ds) (hd : Vals dvs ds)
    (hx : Passes CX X E) (I : Inv X pins σ H s) (r : Vals vs us)
    (h : ∀ x dx, H x = none → H dx = none → dx ≠ x → sp (.ref x :: (vs ++ dvs)) (upd (upd H dx (.own x)) x (.ins C dx [])) (fun v H2 => v = .non ∧ Q (.ref x) H2) E) :
    wpAny (model X.prog X.w) X.A (call (.ref C) us) (EP X pins σ Q) X.xe s := by
  have hq := h (s.heap.objs.size + 1) s.heap.objs.size (I.hok.fresh (Nat.le_succ _)) (I.hok.fresh (Nat.le_refl _)) (Nat.ne_of_lt (Nat.lt_succ_self _))
  have I2 := Inv.made (C := C) I
  have r2 : Vals (V.ref (s.heap.objs.size + 1) :: (vs ++ dvs)) (Value.ref (s.heap.objs.size + 1) :: (us ++ ds)) := .cons rfl (r.append hd)
  have hl : (Value.ref (s.heap.objs.size + 1) :: us ++ ds).length = ps.length := by
    have e := r2.length
    rw [F.len _ _ _ _ hq] at e
    exact e.symm
  refine wpAny_call (make_map (f := f) I.kIn M.makes M.init (beq_iff_eq.mp M.fn) (codeAny_mono (F.run _ X.stack _ _ ⟨Value.ref (s.heap.objs.size + 1) :: us, []⟩ (Value.ref (s.heap.objs.size + 1) :: (us ++ ds)) _ _ E (hr.make C us [])
    (I2.env0.make C us []) (hb _ (Value.ref (s.heap.objs.size + 1) :: us) I2.kIn hl) r2 hq) fun r s' hq' => ?_))
  cases r with
  | error e => exact hx pins σ _ _ e s' I2 hq'
  | ok fl =>
    cases fl with
    | ret u =>
      obtain ⟨v, H', I3, rv, ev, q3⟩ := I2.after hq'
      subst ev
      exact ⟨rv, ⟨V.ref (s.heap.objs.size + 1), H', I3, rfl, q3⟩⟩
    | next => exact False.elim hq'
    | brk => exact False.elim hq'
    | cont => exact False.elim hq'
theorem pe_make (M : Mk X.K C f) (F : FnOk X.prog X.w X.K X.mg X.base CX k f fd ps sp) (hr : Room (k + 1) X.A) (hg : Gl X x) (hm : X.mg x = some (.ref C)) (hb : Binds X.K fd ps ds) (hd : Vals dvs ds) (hx : Passes CX X E)
    (ha : PA X (e :: es) t) (hdb : (x == ("__debug__" : Str)) = false := by decide) (he : starEach (e :: es) X.env = (false, eval e X.env) :: starEach es X.env := by rfl) (hpl : (backTo pos (starEach es X.env)).any (·.1) = false := by rfl) :
    PE X (.Call (.Name x p) (e :: es) [] pos) (tMake C sp dvs E t) := by
  intro pins s σ H Q I h
  refine wpAny_Call_Name_kw (ld_glob I hg hm ?_ hdb)
  refine PySem.W.callWith_K (h₀ := X.base) I.ok.mod.kin M.kp (thn (ha pos pins s σ H _ I h) fun us s1 ⟨vs, H1, I1, r, q⟩ => ⟨I1.kIn, ?_⟩) he hpl
  exact run_make M F hr hb hd hx I1 r q
end

/-! ### keywords -/
section
variable {X : Cx} {CX : CXT} {k : Nat} {f C : Addr} {fd : FuncData} {ps ks : List Str} {sp : Sp} {E : XK} {x m : Str} {p pos apos kpos : Pos} {e o : Expr} {es : List Expr} {kws : List Keyword} {te ta : TE} {t tk : TA} {nm : Option Str}

variable {g : List Value → List Value → List Value} {gV : List V → List V → List V}
end

/-! ### a def's body keeps its promise -/
/-- names: the parameters first -/
structure FnScope (N P : List Str) (sc : Scope) : Prop where
  kind : sc.kind = .function
  co : sc.isCoroutine = false
  gen : sc.isGenerator = false
  nd : N.Nodup
  pre : N.take P.length = P
  par : ∀ x ∈ P, sc.names.lookup x = some .local ∨ sc.names.lookup x = some .cell
  nofree : ∀ y ∈ sc.names, y.2 ≠ .free

theorem bindL_out {kindOf : Str → Option NameKind} {x : Str} : ∀ {binds : List (Str × Value)} {m : Str → Option Value}, (∀ v, (x, v) ∉ binds) → bindL kindOf binds m x = m x
  | [], _, _ => rfl
  | (n, v) :: r, m, h => by
    unfold bindL
    rw [bindL_out fun w hw => h w (List.mem_cons_of_mem _ hw)]
    split
    · have : x ≠ n := by rintro rfl; exact h v List.mem_cons_self
      simp [this]
    · rfl
theorem bindC_out {kindOf : Str → Option NameKind} {x : Str} : ∀ {binds : List (Str × Value)} {m : Str → Option Value}, (∀ v, (x, v) ∉ binds) → bindC kindOf binds m x = m x
  | [], _, _ => rfl
  | (n, v) :: r, m, h => by
    unfold bindC
    rw [bindC_out fun w hw => h w (List.mem_cons_of_mem _ hw)]
    split
    · rfl
    · have : x ≠ n := by rintro rfl; exact h v List.mem_cons_self
      simp [this]
theorem bindL_get {kindOf : Str → Option NameKind} {x : Str} {v : Value} : ∀ {P : List Str} {vs : List Value} {i : Nat} {m : Str → Option Value}, P.Nodup → P[i]? = some x → vs[i]? = some v → kindOf x = some .local →
    bindL kindOf (P.zip vs) m x = some v
  | [], _, _, _, _, h, _, _ => by simp at h
  | _ :: _, [], _, _, _, _, h, _ => by simp at h
  | p :: P, w :: vs, 0, m, nd, h1, h2, hk => by
    simp at h1 h2; subst h1; subst h2
    show bindL kindOf ((p, w) :: P.zip vs) m p = _
    unfold bindL
    rw [bindL_out fun v hv => (List.nodup_cons.mp nd).1 (List.of_mem_zip hv).1, if_pos hk]
    simp
  | p :: P, w :: vs, i + 1, m, nd, h1, h2, hk => by
    show bindL kindOf ((p, w) :: P.zip vs) m x = _
    unfold bindL
    exact bindL_get (i := i) (List.nodup_cons.mp nd).2 (by simpa using h1) (by simpa using h2) hk
theorem bindC_get {kindOf : Str → Option NameKind} {x : Str} {v : Value} : ∀ {P : List Str} {vs : List Value} {i : Nat} {m : Str → Option Value}, P.Nodup → P[i]? = some x → vs[i]? = some v → kindOf x ≠ some .local →
    bindC kindOf (P.zip vs) m x = some v
  | [], _, _, _, _, h, _, _ => by simp at h
  | _ :: _, [], _, _, _, _, h, _ => by simp at h
  | p :: P, w :: vs, 0, m, nd, h1, h2, hk => by
    simp at h1 h2; subst h1; subst h2
    show bindC kindOf ((p, w) :: P.zip vs) m p = _
    unfold bindC
    rw [bindC_out fun v hv => (List.nodup_cons.mp nd).1 (List.of_mem_zip hv).1, if_neg hk]
    simp
  | p :: P, w :: vs, i + 1, m, nd, h1, h2, hk => by
    show bindC kindOf ((p, w) :: P.zip vs) m x = _
    unfold bindC
    exact bindC_get (i := i) (List.nodup_cons.mp nd).2 (by simpa using h1) (by simpa using h2) hk

/-- the names' values at the entry -/
def start (N : List Str) (vs : List V) : St := vs.map some ++ List.replicate (N.length - vs.length) none

/-- the context of a def's body, at its entry; an exception leaves the frame, then lies as CX says -/
def cxOf (CX : CXT) (P : Program) (w : World) (K : PySem.W.Frag) (mg : Str → Option Value) (base : Heap) (N : List Str) (qual : Str) (scope : Scope) (f : Addr) (cd : Value) (A : Around) (outer : List Env) (s : Shared) (H : Hp) (E : XK) : Cx where
  prog := P
  w := w
  K := K
  mg := mg
  base := base
  A := A.deeper (envOfC qual scope s.heap.objs.size f cd)
  N := N
  s₀ := s
  H₀ := H
  env := envOfC qual scope s.heap.objs.size f cd
  outer := outer
  stack := envOfC qual scope s.heap.objs.size f cd :: outer
  ex := []
  calm := true
  fn := fun _ => true
  pn := []
  xe := fun e s' => wpAny (model P w) (A.deeper (envOfC qual scope s.heap.objs.size f cd)) (leaving (envOfC qual scope s.heap.objs.size f cd) e) (fun _ s'' => CX outer H s E e s'') (fun e' s'' => CX outer H s E e' s'') s'

theorem cell_has {sc : Scope} {n : Nat} {x : Str} (h : sc.names.lookup x = some .cell) : ∃ c, (cellsFrom n sc.names []).lookup x = some c := by
  have q := PySem.W.cellsFrom_some sc.names n [] (.inl h)
  exact Option.isSome_iff_exists.mp q

theorem inv_start {CX : CXT} {P : Program} {w : World} {K : PySem.W.Frag} {mg : Str → Option Value} {base : Heap} {N ps : List Str} {qual : Str} {scope : Scope} {f : Addr} {cd : Value} {A : Around} {outer : List Env} {s s1 : Shared} {H : Hp} {E : XK} {us : List Value} {vs : List V}
    (S : FnScope N ps scope) (hd : A.handled = none) (e0 : Env0 P w K mg base A outer s H) (hl : vs.length = ps.length) (r : Vals vs us)
    (x : InCallC s s.heap.objs.size (bindL (envOfC qual scope s.heap.objs.size f cd).kindOf (ps.zip us) fun _ => none) (cellsFrom (s.heap.objs.size + 1) scope.names []) (bindC (envOfC qual scope s.heap.objs.size f cd).kindOf (ps.zip us) fun _ => none) s1) :
    Inv (cxOf CX P w K mg base N qual scope f cd A outer s H E) [] (start N vs) H s1 := by
  have hpl : ps.length ≤ N.length := by have := congrArg List.length S.pre; rw [List.length_take] at this; omega
  obtain ⟨h1, tk, rfl, hk⟩ := x.done
  have noA : ∀ b : Addr, b ∉ (cxOf CX P w K mg base N qual scope f cd A outer s H E).ex := fun b z => absurd (show b ∈ ([] : List Addr) from z) (by simp)
  refine ⟨⟨e0.mod, S.kind, rfl, rfl, Nat.le_refl _, fun y z c h1 h2 => ?_, fun y hy => ?_, fun y c _ h => ?_, fun _ => hd, Around.frames_deeper e0.frames, .inr ⟨rfl, rfl⟩, fun b z => absurd z (noA b), e0.bs, e0.bsz, fun b _ _ => noA b, fun b z => absurd z (noA b), e0.funs, e0.frf⟩,
    rfl, e0.bare, Un.kept hk, ⟨_, x.toInCall.ns, fun i y v h1 h2 h3 => ?_⟩, fun y c h => ⟨_, x.cell y c h⟩, e0.hok.fresh (Nat.le_refl _), fun y c h => ?_, fun p hp => absurd (show p ∈ ([] : List (Addr × Obj)) from hp) (by simp), e0.hok.kept hk, ?_⟩
  · exact name_of_addr x.apart (PySem.mem_of_lookup h1) (PySem.mem_of_lookup h2)
  · have hy : scope.names.lookup y = some .cell ∨ scope.names.lookup y = some .free := hy
    rcases hy with hy | hy
    · exact cell_has hy
    · exact absurd rfl (S.nofree _ (PySem.mem_of_lookup hy))
  · exact Nat.le_of_lt (x.above y c (PySem.mem_of_lookup h))
  · have hi : i < vs.length := by
      unfold start at h2
      by_cases hi : i < vs.length
      · exact hi
      · rw [List.getElem?_append_right (by simpa using hi)] at h2
        rw [List.getElem?_replicate] at h2
        split at h2 <;> cases h2
    have ha : vs[i]? = some v := by
      unfold start at h2
      rw [List.getElem?_append_left (by simpa using hi), List.getElem?_map] at h2
      cases e : vs[i]? with
      | none => rw [e] at h2; cases h2
      | some a => rw [e] at h2; cases h2; rfl
    obtain ⟨u, hu, rv⟩ := r.get ha
    have hp : ps[i]? = some y := by
      rw [← S.pre, List.getElem?_take_of_lt (by omega)]; exact h1
    have ndP : ps.Nodup := by rw [← S.pre]; exact S.nd.sublist (List.take_sublist _ _)
    refine ⟨u, rv, ?_⟩
    rcases S.par y (List.mem_of_getElem? hp) with k | k
    · exact .inl ⟨k, bindL_get ndP hp hu k⟩
    · obtain ⟨c, e⟩ := cell_has (n := s.heap.objs.size + 1) k
      refine .inr ⟨.inl k, c, e, ?_⟩
      have q := x.cell y c e
      rw [bindC_get ndP hp hu (by show scope.names.lookup y ≠ _; rw [k]; decide)] at q
      exact q
  · exact e0.hok.fresh (Nat.le_of_lt (x.above y c (PySem.mem_of_lookup h)))
  · unfold start
    show _ = N.length
    rw [List.length_append, List.length_map, List.length_replicate]
    omega

/-- THE RULE: a def (or a method) of the text, by its body. The body's reading t is chosen for each entry; it is run at the parameters' values -/
theorem fn_of {CX : CXT} {P : Program} {w : World} {K : PySem.W.Frag} {mg : Str → Option Value} {base : Heap} {k : Nat} {f : Addr} {name qual : Str} {params : Arguments} {body : List Stmt} {scope : Scope} {dV kV doc pm cdv ct oc : Value} {an od : Option Addr}
    {osl : Array (Option Value)} {N ps : List Str} {sp : Sp} (lk : K.lookup f = some ⟨oc, od, .func (PySem.W.fnOf name qual params body scope dV kV doc pm an cdv ct), osl⟩) (hcd : PySem.W.codeIn K cdv qual = true) (S : FnScope N ps scope)
    (len : ∀ vs H Q E, sp vs H Q E → vs.length = ps.length)
    (hbody : ∀ (A : Around) (outer : List Env) (s : Shared) (H : Hp) (vs : List V) (Q : VK) (E : XK), Room k (A.deeper (envOfC qual scope s.heap.objs.size f cdv)) → sp vs H Q E →
      ∃ t, PSs (cxOf CX P w K mg base N qual scope f cdv A outer s H E) body t ∧ t { nx := fun _ H' => Q .non H', rt := Q } (start N vs) H) :
    FnOk P w K mg base CX (k + 1) f (PySem.W.fnOf name qual params body scope dV kV doc pm an cdv ct) ps sp := by
  refine ⟨len, fun A outer s H args us vs Q E hr e0 hb r hsp => ?_⟩
  have hl := len _ _ _ _ hsp
  have KX : K.In s.heap := e0.mod.kin.keeps fun b o e => (e0.bs b o e).1
  have lim : s.heap.NoLimit := e0.mod.nolimit.keeps fun b o e => (e0.bs b o e).1
  have hkind : ∀ y ∈ ps.zip us, scope.names.lookup y.1 = some .local ∨ (scope.names.lookup y.1 = some .cell ∧ ((cellsFrom (s.heap.objs.size + 1) scope.names []).lookup y.1).isSome = true) := fun ⟨n, v⟩ hy => by
    rcases S.par n (List.of_mem_zip hy).1 with q | q
    · exact .inl q
    · exact .inr ⟨q, PySem.W.cellsFrom_some _ _ _ (.inl q)⟩
  refine codeAny_call_function hr.depth (KX _ _ lk) rfl S.co S.gen rfl (PySem.W.codeRec_of KX hcd) (hb _ _ _ _ ?_)
  refine wpAny_newFunctionEnv_cells S.kind hkind fun env he s1 x => ?_
  subst he
  refine ⟨lim.keeps x.toInCall.keep, codeAny_func ?_⟩
  obtain ⟨t, ht, hq⟩ := hbody A outer s H vs Q E (hr.deeper _) hsp
  have I : Inv (cxOf CX P w K mg base N qual scope f cdv A outer s H E) [] (start N vs) H s1 := inv_start S hr.hd e0 hl r x
  refine wpAny_mono (ht [] s1 (start N vs) H _ I hq) (fun fl s' hs => ?_) fun e s' hs => hs
  have fin : ∀ {σ' : St} {H' : Hp} {v : V} {u : Value}, Inv (cxOf CX P w K mg base N qual scope f cdv A outer s H E) [] σ' H' s' → RelV v u → Q v H' → CE outer P w H s Q u s' :=
    fun {σ' H' v u} J rv q => ⟨v, H', J.os, J.bare, J.base, J.hok, rv, q⟩
  cases fl with
  | ret u =>
    obtain ⟨v, σ', H', J, rv, q⟩ := hs
    exact fin J rv q
  | next =>
    obtain ⟨σ', H', J, q⟩ := hs
    exact fin (v := V.non) (u := Value.none) J rfl q
  | brk =>
    obtain ⟨_, _, _, q⟩ := hs
    exact False.elim q
  | cont =>
    obtain ⟨_, _, _, q⟩ := hs
    exact False.elim q
end L2

namespace L2
open PySem PySem.Spec PyProof.Rows
section
variable {X : Cx} {x : Str} {p pos : Pos} {e : Expr} {es : List Expr} {t : TA} {id T : String} {r : List V → Hp → VK → Prop}

def tCB (r : List V → Hp → VK → Prop) (t : TA) : TE := fun σ H Q => t σ H fun vs H1 => r vs H1 Q
/-- f(e, ..), f a built-in function -/
theorem pe_callB (hc : CallR X (.builtin id) r) (hg : Gl X x) (hm : X.mg x = none) (hv : bootBuiltins x = some (.builtin id)) (ha : PA X (e :: es) t) (hn : x ≠ "__name__" := by decide) (hdb : (x == ("__debug__" : Str)) = false := by decide)
    (he : starEach (e :: es) X.env = (false, eval e X.env) :: starEach es X.env := by rfl) (hpl : (backTo pos (starEach es X.env)).any (·.1) = false := by rfl) : PE X (.Call (.Name x p) (e :: es) [] pos) (tCB r t) := by
  intro pins s σ H Q I h
  refine wpAny_Call_Name_kw (ld_blt I hg hm hv ?_ hn hdb)
  exact PyProof.Rows.callWith_builtin1 (thn (ha pos pins s σ H _ I h) fun us s1 ⟨vs, H1, I1, r1, q1⟩ => hc pins s1 σ H1 vs us Q I1 r1 q1) he hpl
/-- T(e, ..), T a built-in type -/
theorem pe_callTy (hc : CallR X (.type T) r) (hg : Gl X x) (hm : X.mg x = none) (hv : bootBuiltins x = some (.type T)) (ha : PA X (e :: es) t) (hn : x ≠ "__name__" := by decide) (hdb : (x == ("__debug__" : Str)) = false := by decide)
    (he : starEach (e :: es) X.env = (false, eval e X.env) :: starEach es X.env := by rfl) (hpl : (backTo pos (starEach es X.env)).any (·.1) = false := by rfl) : PE X (.Call (.Name x p) (e :: es) [] pos) (tCB r t) := by
  intro pins s σ H Q I h
  refine wpAny_Call_Name_kw (ld_blt I hg hm hv ?_ hn hdb)
  exact PyProof.Rows.callWith_type1 (thn (ha pos pins s σ H _ I h) fun us s1 ⟨vs, H1, I1, r1, q1⟩ => hc pins s1 σ H1 vs us Q I1 r1 q1) he hpl
end
end L2

namespace HT
open PySem PyProof.Rows



section
open PySem.SeqAt
open PySem.AutoSeq1 (wpAny_loadPart')
open PySem.MeetsSeq PySem.MeetsSeq2 PySem.MeetsSeq3

end

section
variable {prog : Program} {w : World} {A : Around} {E : Value → Shared → Prop} {s : Shared}



/-! ### t[a:b], not the whole -/
/-- a slice's bound as a place among n (d where it is left out) -/
def sIx (n d : Nat) : Option Int → Nat
  | none => d
  | some v => if v < 0 then (v + (n : Int)).toNat else min v.toNat n
theorem sIx_none (n d : Nat) : sIx n d none = d := rfl
theorem sIx_nat (n d k : Nat) : sIx n d (some (k : Int)) = min k n := by
  show (if (k : Int) < 0 then ((k : Int) + (n : Int)).toNat else min (k : Int).toNat n) = min k n
  rw [if_neg (by omega), Int.toNat_natCast]

end
end HT

namespace L2
open PySem PySem.Spec PyProof.Rows

/-! ### the parts of a slice -/
abbrev TO := St → Hp → (Option Int → Hp → Prop) → Prop
/-- a slice's part (left out, or an int) -/
def PO (X : Cx) (e : Option Expr) (t : TO) : Prop :=
  ∀ (pins : List (Addr × Obj)) (s : Shared) (σ : St) (H : Hp) (Q : Option Int → Hp → Prop), Inv X pins σ H s → t σ H Q →
    wpAny (model X.prog X.w) X.A (evalPart e X.env) (fun u s' => ∃ o H', Inv X pins σ H' s' ∧ IsPart u o ∧ Q o H') X.xe s
def tNoPart : TO := fun _ H Q => Q none H
def tPart (t : TE) : TO := fun σ H Q => t σ H fun x H1 => ∃ i, x = .int i ∧ Q (some i) H1

theorem intsAre_of {ns : List Int} : ∀ {us : List Value}, Vals (ns.map V.int) us → IntsAre us ns := by
  induction ns with
  | nil => intro us r; rw [List.map_nil] at r; cases r; exact .nil
  | cons n ns ih =>
    intro us r
    rw [List.map_cons] at r
    cases r with
    | cons r1 r2 =>
      obtain ⟨t, e⟩ := r1
      subst e
      exact .cons n t (ih r2)

section
variable {X : Cx} {e : Expr} {te : TE} {lo hi : Option Expr} {tl th : TO} {pos p2 : Pos}

theorem po_none : PO X none tNoPart := by
  intro pins s σ H Q I h
  rw [evalPart_none]
  exact wpAny_pure ⟨none, H, I, .none, h⟩
theorem po_some (h : PE X e te) : PO X (some e) (tPart te) := by
  intro pins s σ H Q I hw
  rw [evalPart_some]
  refine thn (h pins s σ H _ I hw) fun u s1 ⟨x, H1, I1, r1, q1⟩ => ?_
  obtain ⟨i, rfl, q⟩ := q1
  obtain ⟨t, rfl⟩ := r1
  exact ⟨some i, H1, I1, .int i t, q⟩

/-- what a slice of a value is, by values: the slice object stands at sl -/
def SlR (X : Cx) (r : V → Option Int → Option Int → Hp → VK → Prop) : Prop :=
  ∀ (pins : List (Addr × Obj)) (s : Shared) (σ : St) (H : Hp) (x : V) (v vl vu : Value) (lo hi : Option Int) (sl : Addr) (Q : VK), Inv X pins σ H s → RelV x v → s.heap.IsSliceOf sl vl vu .none → IsPart vl lo → IsPart vu hi → r x lo hi H Q →
    ∃ T id, typeLookup (.type T) "__getitem__" = pure (some (.builtin id)) ∧ s.TypeIs v T ∧ wpAny (model X.prog X.w) X.A (getItem v (.ref sl)) (EP X pins σ Q) X.xe s
def tSl (r : V → Option Int → Option Int → Hp → VK → Prop) (te : TE) (tl th : TO) : TE := fun σ H Q => te σ H fun x H1 => tl σ H1 fun l H2 => th σ H2 fun u H3 => r x l u H3 Q
/-- a[lo:hi], any a -/
theorem pe_slice {r : V → Option Int → Option Int → Hp → VK → Prop} (hr : SlR X r) (he : PE X e te) (hl : PO X lo tl) (hu : PO X hi th) : PE X (.Subscript e (.Slice lo hi none p2) pos) (tSl r te tl th) := by
  intro pins s σ H Q I h
  refine Subscript_ (thn (he pins s σ H _ I h) fun v s1 ⟨x, H1, I1, r1, q1⟩ => ?_)
  refine wpAny_Slice (thn (hl pins s1 σ H1 _ I1 q1) fun vl s2 ⟨l, H2, I2, pl, q2⟩ => thn (hu pins s2 σ H2 _ I2 q2) fun vu s3 ⟨u, H3, I3, pu, q3⟩ => ?_)
  rw [evalPart_none]
  refine wpAny_pure ?_
  have I4 : Inv X pins σ H3 { s3 with heap := s3.heap.push { cls := .type "slice", data := .fields #[vl, vu, .none] } } := I3.kept (t' := s3.toks) fun b ob q => Heap.get?_push_of_some _ q
  obtain ⟨T, id, hT, ht, hg⟩ := hr pins { s3 with heap := s3.heap.push { cls := .type "slice", data := .fields #[vl, vu, .none] } } σ H3 x v vl vu l u s3.heap.objs.size Q I4 r1 (Heap.IsSliceOf.new ..) pl pu q3
  show wpAny (model X.prog X.w) X.A (subscriptTail e (.Slice lo hi none p2) v (.ref s3.heap.objs.size)) (EP X pins σ Q) X.xe { s3 with heap := s3.heap.push { cls := .type "slice", data := .fields #[vl, vu, .none] } }
  exact tail_any (ops := [.ref s3.heap.objs.size, v]) ht hT hg (by with_unfolding_all rfl)

/-- the items of xs[lo:hi] -/
def cutV (xs : List V) (lo hi : Option Int) : List V := (xs.drop (HT.sIx xs.length 0 lo)).take (HT.sIx xs.length xs.length hi - HT.sIx xs.length 0 lo)
theorem cutV_length (xs : List V) (lo hi : Option Int) : (cutV xs lo hi).length ≤ xs.length := by
  unfold cutV
  rw [List.length_take, List.length_drop]
  omega

/-! ### t < u, t + u -/
end
end L2

namespace L2
open PySem PySem.Spec PyProof.Rows

/-! ### places -/
/-- the place that an index of any sign means -/
def ixN (n : Nat) (i : Int) : Option Nat := if 0 ≤ i then (if i < n then some i.toNat else none) else if -(n : Int) ≤ i then some (i + n).toNat else none
def atI {α : Type} (xs : List α) (i : Int) : Option α := (ixN xs.length i).bind fun j => xs[j]?
theorem ixN_seq {n : Nat} {i : Int} {j : Nat} (h : ixN n i = some j) : seqIndex? i n = some j ∧ j < n ∧ -(n : Int) ≤ i ∧ i < n := by
  unfold ixN at h
  by_cases h0 : 0 ≤ i
  · rw [if_pos h0] at h
    by_cases h1 : i < n
    · rw [if_pos h1] at h
      have e : i.toNat = j := Option.some.inj h
      exact ⟨by rw [seqIndex_of h0 h1, e], by omega, by omega, h1⟩
    · rw [if_neg h1] at h; cases h
  · rw [if_neg h0] at h
    by_cases h1 : -(n : Int) ≤ i
    · rw [if_pos h1] at h
      have e : (i + n).toNat = j := Option.some.inj h
      exact ⟨by rw [seqIndex_neg (by omega) h1, e], by omega, h1, by omega⟩
    · rw [if_neg h1] at h; cases h
theorem atI_get {α : Type} {xs : List α} {i : Int} {v : α} (h : atI xs i = some v) : ∃ j, seqIndex? i xs.length = some j ∧ xs[j]? = some v ∧ j < xs.length ∧ -(xs.length : Int) ≤ i ∧ i < xs.length := by
  unfold atI at h
  cases e : ixN xs.length i with
  | none => rw [e] at h; cases h
  | some j =>
    rw [e] at h
    obtain ⟨h1, h2, h3, h4⟩ := ixN_seq e
    exact ⟨j, h1, h, h2, h3, h4⟩
theorem atI_nat {α : Type} {xs : List α} {j : Nat} {v : α} (h : xs[j]? = some v) : atI xs (j : Int) = some v := by
  have hj : j < xs.length := (List.getElem?_eq_some_iff.mp h).1
  have e : ixN xs.length (j : Int) = some j := by
    unfold ixN
    rw [if_pos (by omega), if_pos (by omega)]; simp
  unfold atI; rw [e]; exact h

/-! ### what may be subscripted -/
/-- what stands as an index of a plain subscript -/
def PlainIx (b : Expr) : Prop := ∀ o i, subscripted b false o i = operate [o, i] (getItem o i)
/-- a subscript by values -/
def IxR (X : Cx) (r : R2) : Prop :=
  ∀ (value slice : Expr) (pins : List (Addr × Obj)) (s : Shared) (σ : St) (H : Hp) (x y : V) (v u : Value) (Q : VK), Inv X pins σ H s → RelV x v → RelV y u → r x y H Q →
    subscripted slice false v u = operate [v, u] (getItem v u) → wpAny (model X.prog X.w) X.A (subscriptTail value slice v u) (EP X pins σ Q) X.xe s
/-- a call of a builtin's method by values: the receiver, the arguments -/
def MtR (X : Cx) (id : String) (r : V → List V → Hp → VK → Prop) : Prop :=
  ∀ (pins : List (Addr × Obj)) (s : Shared) (σ : St) (H : Hp) (x : V) (xs : List V) (v : Value) (us : List Value) (Q : VK), Inv X pins σ H s → RelV x v → Vals xs us → r x xs H Q →
    wpAny (model X.prog X.w) X.A (call (.builtin id) (v :: us)) (EP X pins σ Q) X.xe s
section
variable {X : Cx} {a b : Expr} {ta tb : TE} {pos : Pos}
/-- a[b] -/
theorem pe_ix {r : R2} (hr : IxR X r) (ha : PE X a ta) (hb : PE X b tb) (hs : PlainIx b) : PE X (.Subscript a b pos) (tOp r ta tb) := by
  intro pins s σ H Q I h
  exact Subscript_ (binT ha hb I h fun v u s2 x y H2 I2 rx ry q => hr a b pins s2 σ H2 x y v u Q I2 rx ry q (hs _ _))

def rIxL (K : PySem.W.Frag) : R2 := fun x y H Q => ∃ p xs i v, x = .ref p ∧ y = .int i ∧ SqL K H p xs ∧ atI xs i = some v ∧ Q v H
def rIxT (K : PySem.W.Frag) : R2 := fun x y H Q => ∃ p xs i v, x = .ref p ∧ y = .int i ∧ SqT K H p xs ∧ atI xs i = some v ∧ Q v H
theorem ix_list : IxR X (rIxL X.K) := by
  intro value slice pins s σ H x y v u Q I rx ry h hs
  obtain ⟨p, xs, i, z, rfl, rfl, hq, he, q⟩ := h
  cases rx
  obtain ⟨t, rfl⟩ := ry
  obtain ⟨its, r, pl, hz⟩ := I.list hq
  obtain ⟨j, h1, h2, h3, h4, h5⟩ := atI_get he
  obtain ⟨w, ew, rw'⟩ := r.get h2
  have hl := r.length
  have hn := line63
  have fin : EP X pins σ Q w s := ⟨z, H, I, rw', q⟩
  by_cases h0 : 0 ≤ i
  · have hj : i.toNat = j := by
      rw [seqIndex_of h0 h5] at h1
      exact Option.some.inj h1
    exact item_listR pl.isList h0 (by omega) (by rw [hj]; simpa using ew) fin hs
  · have hj : (i + (its.toArray.size : Int)).toNat = j := by
      rw [seqIndex_neg (by omega) h4] at h1
      rw [List.size_toArray, ← hl]
      exact Option.some.inj h1
    exact subscriptTail_builtinR (x := w) pl.isList.typeIs slot_list_getitem.lookup
      (wpAny_getItem_list_neg (Q := fun r s' => r = w ∧ EP X pins σ Q r s') pl.isList (by omega) (by rw [List.size_toArray] <;> omega) (by omega) (by rw [hj]; simpa using ew) ⟨rfl, fin⟩) hs
theorem ix_tup : IxR X (rIxT X.K) := by
  intro value slice pins s σ H x y v u Q I rx ry h hs
  obtain ⟨p, xs, i, z, rfl, rfl, hq, he, q⟩ := h
  cases rx
  obtain ⟨t, rfl⟩ := ry
  obtain ⟨its, r, pl, hz⟩ := I.tuple hq
  obtain ⟨j, h1, h2, h3, h4, h5⟩ := atI_get he
  obtain ⟨w, ew, rw'⟩ := r.get h2
  have hl := r.length
  have hn := line63
  have fin : EP X pins σ Q w s := ⟨z, H, I, rw', q⟩
  exact subscriptTail_builtinR (x := w) pl.typeIs slot_tuple_getitem.lookup
    (getItem_tuple (j := j) (Q := fun r s' => r = w ∧ EP X pins σ Q r s') pl (by omega) (by omega) (by rw [List.size_toArray, ← hl]; exact h1) (by simpa using ew) ⟨rfl, fin⟩) hs

/-! ### xs[i] = v, any sign -/
/-- the list's object behind a store -/
theorem mapSeq_set (its : List Value) (n j : Nat) (u : Value) : Obj.mapSeq (·.setIfInBounds j u) { cls := .type "list", data := .seq its.toArray n } = { cls := .type "list", data := .seq (its.set j u).toArray n } := by
  simp [Obj.mapSeq]
theorem Inv.lst {pins : List (Addr × Obj)} {σ : St} {H : Hp} {s : Shared} {p : Addr} {xs : List V} (I : Inv X pins σ H s) (h : H p = some (.lst xs)) :
    ∃ (its : List Value) (n : Nat), Vals xs its ∧ s.heap.get? p = some { cls := .type "list", data := .seq its.toArray n } ∧ xs.length ≤ sizeLine := by
  obtain ⟨z, its, n, r, e⟩ := I.hok p _ h
  exact ⟨its, n, r, e, z⟩
/-- the list at p is written by an update of its object -/
theorem Inv.lstUpd {pins : List (Addr × Obj)} {σ : St} {H : Hp} {s : Shared} {p : Addr} {xs ys : List V} {its its' : List Value} {n n' : Nat} {f : Obj → Obj} (I : Inv X pins σ H s) (h : H p = some (.lst xs))
    (ho : s.heap.get? p = some { cls := .type "list", data := .seq its.toArray n }) (hf : f { cls := .type "list", data := .seq its.toArray n } = { cls := .type "list", data := .seq its'.toArray n' }) (r : Vals ys its') (hz : ys.length ≤ sizeLine) (t : Nat) :
    Inv X pins σ (upd H p (.lst ys)) { s with heap := s.heap.update p f, toks := t } := by
  have e : (s.heap.update p f).get? p = some { cls := .type "list", data := .seq its'.toArray n' } := by
    rw [Heap.get?_update_self f ho (by rw [hf] <;> rfl), hf]
  refine I.write (x := p) (e := p) (by rw [h]; trivial) (.inl rfl) (fun b u hb q => (Heap.get?_update_other _ _ (Ne.symm hb)).trans q) ⟨_, e⟩ ?_
  exact ⟨hz, its', n', r, e⟩
def rSetL : V → V → V → Hp → (Hp → Prop) → Prop := fun o i v H Q => ∃ p xs k j, o = .ref p ∧ i = .int k ∧ H p = some (.lst xs) ∧ ixN xs.length k = some j ∧ Q (upd H p (.lst (xs.set j v)))
theorem set_list : PSet X rSetL := by
  intro pins s σ H o i v ov iv u Q I ro ri rv h
  obtain ⟨p, xs, k, j, rfl, rfl, hp, hj, q⟩ := h
  cases ro
  obtain ⟨t, rfl⟩ := ri
  obtain ⟨its, n, r, ho, hz⟩ := I.lst hp
  obtain ⟨h1, h2, h3, h4⟩ := ixN_seq hj
  have hl := r.length
  have hn := line63
  have I' : Inv X pins σ (upd H p (.lst (xs.set j v))) { s with heap := s.heap.update p (Obj.mapSeq (·.setIfInBounds j u)) } :=
    I.lstUpd hp ho (mapSeq_set its n j u) (r.set rv j) (by rw [List.length_set]; exact hz) s.toks
  by_cases h0 : 0 ≤ k
  · have hk : k.toNat = j := by
      rw [seqIndex_of h0 h4] at h1
      exact Option.some.inj h1
    exact PySem.W.ki_setAt ho h0 (by omega) (by rw [List.size_toArray, ← hl]; exact h4) (by rw [hk]; exact ⟨_, I', q⟩)
  · have hk : (k + (its.toArray.size : Int)).toNat = j := by
      rw [seqIndex_neg (by omega) h3] at h1
      rw [List.size_toArray, ← hl]
      exact Option.some.inj h1
    exact PySem.W.ki_setBack ho (by omega) (by rw [List.size_toArray, ← hl]; exact h3) (by omega) (by rw [hk]; exact ⟨_, I', q⟩)

/-! ### slices -/
theorem slice_bounds (lo hi : Option Int) (n : Nat) : (sliceBounds lo hi none n).1 = ((HT.sIx n 0 lo : Nat) : Int) ∧ (sliceBounds lo hi none n).2.1 = ((HT.sIx n n hi : Nat) : Int) ∧ (sliceBounds lo hi none n).2.2 = 1 := by
  refine ⟨?_, ?_, rfl⟩
  · cases lo with
    | none => simp [sliceBounds, HT.sIx]
    | some i =>
      simp only [sliceBounds, HT.sIx, Option.getD_none, show (1 : Int) > 0 by decide, if_true]
      by_cases h : i < 0
      · simp only [h, if_true] <;> omega
      · simp only [h, if_false] <;> omega
  · cases hi with
    | none => simp [sliceBounds, HT.sIx]
    | some i =>
      simp only [sliceBounds, HT.sIx, Option.getD_none, show (1 : Int) > 0 by decide, if_true]
      by_cases h : i < 0
      · simp only [h, if_true] <;> omega
      · simp only [h, if_false] <;> omega
theorem slicePick_cut (its : List Value) (lo hi : Option Int) : slicePick its.toArray lo hi none = ((its.drop (HT.sIx its.length 0 lo)).take (HT.sIx its.length its.length hi - HT.sIx its.length 0 lo)).toArray := by
  obtain ⟨h1, h2, h3⟩ := slice_bounds lo hi its.toArray.size
  unfold slicePick
  rw [h1, h2, h3]
  simp only [sliceRange_one, pick_run, List.size_toArray] <;> rfl
/-- xs[lo:hi] of a list: a new list -/
def rSlL (K : PySem.W.Frag) : V → Option Int → Option Int → Hp → VK → Prop := fun x lo hi H Q => ∃ a xs, x = .ref a ∧ SqL K H a xs ∧ ∀ p, H p = none → Q (.ref p) (upd H p (.lst (cutV xs lo hi)))
theorem sl_list : SlR X (rSlL X.K) := by
  intro pins s σ H x v vl vu lo hi sl Q I rx hs pl pu h
  obtain ⟨a, xs, rfl, hx, q⟩ := h
  cases rx
  obtain ⟨its, r, ht, hz⟩ := I.list hx
  have hlen := r.length
  refine ⟨"list", _, slot_list_getitem.lookup, ht.isList.typeIs, ?_⟩
  refine wpAny_getItem_list_slice ht.isList hs pl pu .none (by simp) ?_ (by rw [List.size_toArray] <;> omega)
  rw [slicePick_cut, ← hlen]
  refine ⟨.ref s.heap.objs.size, _, I.laid (t' := s.toks) (o := .lst (cutV xs lo hi)) (fun b ob q => Heap.get?_push_of_some _ q) (Nat.le_refl _) ?_, rfl, q _ (I.hok.fresh (Nat.le_refl _))⟩
  exact ⟨Nat.le_trans (cutV_length xs lo hi) hz, _, 0, (r.drop (HT.sIx xs.length 0 lo)).take (HT.sIx xs.length xs.length hi - HT.sIx xs.length 0 lo), Heap.get?_push_size _ rfl⟩

/-! ### in, not in: flat items -/
def flatV : V → Bool
  | .non => true
  | .bl _ => true
  | .int _ => true
  | .str _ => true
  | _ => false
/-- == of flat values -/
def eqV : V → V → Bool
  | .non, .non => true
  | .bl a, .bl b => a == b
  | .bl a, .int b => (if a then 1 else 0) == b
  | .int a, .bl b => a == (if b then 1 else 0)
  | .int a, .int b => a == b
  | .str a, .str b => a == b
  | _, _ => false
theorem eqAt_V {A : Around} {s : Shared} {y x : V} {u v : Value} (ry : RelV y u) (rx : RelV x v) (fy : flatV y = true) (fx : flatV x = true) : SeqAt.EqAt A s u v (eqV y x) := by
  cases y with
  | non =>
    cases ry
    cases x with
    | non => cases rx; exact SeqAt.EqAt.same _
    | bl b => cases rx; exact SeqAt.EqAt.none_bool b
    | int b => obtain ⟨t, rfl⟩ := rx; exact SeqAt.EqAt.none_int b t
    | str b => obtain ⟨t, rfl⟩ := rx; exact SeqAt.EqAt.none_str b t
    | _ => exact absurd (show false = true from fx) Bool.false_ne_true
  | bl a =>
    cases ry
    cases x with
    | non => cases rx; exact SeqAt.EqAt.bool_none a
    | bl b => cases rx; exact SeqAt.EqAt.bool_bool a b
    | int b => obtain ⟨t, rfl⟩ := rx; exact SeqAt.EqAt.bool_int a b t
    | str b => obtain ⟨t, rfl⟩ := rx; exact SeqAt.EqAt.bool_str a b t
    | _ => exact absurd (show false = true from fx) Bool.false_ne_true
  | int a =>
    obtain ⟨t', rfl⟩ := ry
    cases x with
    | non => cases rx; exact SeqAt.EqAt.int_none a t'
    | bl b => cases rx; exact SeqAt.EqAt.int_bool a t' b
    | int b => obtain ⟨t, rfl⟩ := rx; exact SeqAt.EqAt.int_int a t' b t
    | str b => obtain ⟨t, rfl⟩ := rx; exact SeqAt.EqAt.int_str a t' b t
    | _ => exact absurd (show false = true from fx) Bool.false_ne_true
  | str a =>
    obtain ⟨t', rfl⟩ := ry
    cases x with
    | non => cases rx; exact SeqAt.EqAt.str_none a t'
    | bl b => cases rx; exact SeqAt.EqAt.str_bool a t' b
    | int b => obtain ⟨t, rfl⟩ := rx; exact SeqAt.EqAt.str_int a t' b t
    | str b => obtain ⟨t, rfl⟩ := rx; exact SeqAt.EqAt.str_str a t' b t
    | _ => exact absurd (show false = true from fx) Bool.false_ne_true
  | _ => exact absurd (show false = true from fy) Bool.false_ne_true
/-- the items' answers, read off the values (a value's own answer does not lean on its token) -/
def eqU (x : V) (u : Value) : Bool := match u with
  | .none => eqV .non x
  | .bool b => eqV (.bl b) x
  | .int i _ => eqV (.int i) x
  | .str z _ => eqV (.str z) x
  | _ => false
theorem eqU_of {x y : V} {u : Value} (r : RelV y u) (f : flatV y = true) : eqU x u = eqV y x := by
  cases y with
  | non => cases r; rfl
  | bl b => cases r; rfl
  | int i => obtain ⟨t, rfl⟩ := r; rfl
  | str z => obtain ⟨t, rfl⟩ := r; rfl
  | _ => exact absurd (show false = true from f) Bool.false_ne_true
theorem any_eqU {x : V} : ∀ {xs : List V} {us : List Value}, Vals xs us → xs.all flatV = true → us.any (eqU x) = xs.any fun y => eqV y x
  | _, _, .nil, _ => rfl
  | y :: xs, u :: us, .cons r t, f => by
    rw [List.all_cons, Bool.and_eq_true] at f
    rw [List.any_cons, List.any_cons, eqU_of r f.1, any_eqU t f.2]
theorem mem_eqAt {A : Around} {s : Shared} {x : V} {v : Value} (rx : RelV x v) (fx : flatV x = true) : ∀ {xs : List V} {us : List Value}, Vals xs us → xs.all flatV = true → ∀ u ∈ us, SeqAt.EqAt A s u v (eqU x u)
  | _, _, .nil, _ => fun u hu => by cases hu
  | y :: xs, u :: us, .cons r t, f => fun u' hu => by
    rw [List.all_cons, Bool.and_eq_true] at f
    rcases List.mem_cons.mp hu with rfl | hu
    · rw [eqU_of r f.1]; exact eqAt_V r rx f.1 fx
    · exact mem_eqAt rx fx t f.2 u' hu
def inV (x : V) (xs : List V) : Bool := xs.any fun y => eqV y x
/-- x in a list or tuple of flat items -/
def rIn (K : PySem.W.Frag) (neg : Bool) : R2 := fun x y H Q => ∃ p xs, y = .ref p ∧ (SqL K H p xs ∨ SqT K H p xs) ∧ flatV x = true ∧ xs.all flatV = true ∧ Q (.bl (if neg then !inV x xs else inV x xs)) H
theorem op_in_seq : OpR X (compareOp .In) (rIn X.K false) := by
  intro pins s σ H x y v u Q I rx ry h
  obtain ⟨p, xs, rfl, hq, fx, fs, q⟩ := h
  cases ry
  rcases hq with hq | hq
  · obtain ⟨its, r, pl, hz⟩ := I.list hq
    refine SeqAt.in_listAt (eqU x) pl.isList (fun w hw => mem_eqAt rx fx r fs w (by simpa using hw)) ⟨.bl _, H, I, rfl, ?_⟩
    rw [show its.toArray.any (eqU x) = its.any (eqU x) by simp, any_eqU r fs]
    exact q
  · obtain ⟨its, r, pl, hz⟩ := I.tuple hq
    refine SeqAt.in_tupleAt (eqU x) pl (fun w hw => mem_eqAt rx fx r fs w (by simpa using hw)) ⟨.bl _, H, I, rfl, ?_⟩
    rw [show its.toArray.any (eqU x) = its.any (eqU x) by simp, any_eqU r fs]
    exact q
theorem op_notIn_seq : OpR X (compareOp .NotIn) (rIn X.K true) := by
  intro pins s σ H x y v u Q I rx ry h
  obtain ⟨p, xs, rfl, hq, fx, fs, q⟩ := h
  cases ry
  rcases hq with hq | hq
  · obtain ⟨its, r, pl, hz⟩ := I.list hq
    refine SeqAt.notIn_listAt (eqU x) pl.isList (fun w hw => mem_eqAt rx fx r fs w (by simpa using hw)) ⟨.bl _, H, I, rfl, ?_⟩
    rw [show its.toArray.any (eqU x) = its.any (eqU x) by simp, any_eqU r fs]
    exact q
  · obtain ⟨its, r, pl, hz⟩ := I.tuple hq
    refine SeqAt.notIn_tupleAt (eqU x) pl (fun w hw => mem_eqAt rx fx r fs w (by simpa using hw)) ⟨.bl _, H, I, rfl, ?_⟩
    rw [show its.toArray.any (eqU x) = its.any (eqU x) by simp, any_eqU r fs]
    exact q
theorem op_notIn_str : OpR X (compareOp .NotIn) (fun x y H Q => ∃ i j, x = .str i ∧ y = .str j ∧ Q (.bl (!(!(Builtin.Str.occurrences j i 0 j.length 1).isEmpty))) H) := by
  intro pins s σ H x y v u Q I rx ry h
  obtain ⟨i, j, rfl, rfl, q⟩ := h
  obtain ⟨t, rfl⟩ := rx
  obtain ⟨t', rfl⟩ := ry
  exact notIn_str ⟨.bl _, H, I, rfl, q⟩

/-! ### len, list(x), tuple(x) of any list or tuple that is read -/
theorem call_len_seq : CallR X (.builtin "len") (fun xs H Q => ∃ p ys, xs = [.ref p] ∧ (SqL X.K H p ys ∨ SqT X.K H p ys) ∧ Q (.int ys.length) H) := by
  intro pins s σ H xs us Q I r h
  obtain ⟨p, ys, rfl, hq, q⟩ := h
  obtain ⟨u, rfl, rx⟩ := vals1 r
  cases rx
  have hn := line63
  rcases hq with hq | hq
  · obtain ⟨its, r', pl, hz⟩ := I.list hq
    have hlen := r'.length
    exact Calls.call_len_list pl.isList (by simp only [List.size_toArray] <;> omega) ⟨.int ys.length, H, I.tok _, ⟨s.toks + 1, by rw [List.size_toArray, hlen]⟩, q⟩
  · obtain ⟨its, r', pl, hz⟩ := I.tuple hq
    have hlen := r'.length
    exact len_tuple pl (by simp only [List.size_toArray] <;> omega) ⟨.int ys.length, H, I.tok _, ⟨s.toks + 1, by rw [List.size_toArray, hlen]⟩, q⟩
theorem call_len_str : CallR X (.builtin "len") (fun xs H Q => ∃ z, xs = [.str z] ∧ z.length ≤ sizeLine ∧ Q (.int z.length) H) := by
  intro pins s σ H xs us Q I r h
  obtain ⟨z, rfl, hz, q⟩ := h
  obtain ⟨u, rfl, t, rfl⟩ := vals1 r
  have hn := line63
  exact len_str (by omega) ⟨.int z.length, H, I.tok _, ⟨_, rfl⟩, q⟩
theorem call_list_of : CallR X (.type "list") (fun xs H Q => ∃ p ys, xs = [.ref p] ∧ (SqL X.K H p ys ∨ SqT X.K H p ys) ∧ ∀ l, H l = none → Q (.ref l) (upd H l (.lst ys))) := by
  intro pins s σ H xs us Q I r h
  obtain ⟨p, ys, rfl, hq, q⟩ := h
  obtain ⟨u, rfl, rx⟩ := vals1 r
  cases rx
  have fin : ∀ (its : List Value), Vals ys its → ys.length ≤ sizeLine → ∀ (h' : Heap) (c' : Nat), (∀ b o', s.heap.get? b = some o' → h'.get? b = some o') →
      h'.get? s.heap.objs.size = some { cls := .type "list", dict := none, data := .seq its.toArray c', slots := #[] } → EP X pins σ Q (.ref s.heap.objs.size) { s with heap := h' } := fun its r' hz h' c' kp e =>
    ⟨.ref s.heap.objs.size, _, I.laid (t' := s.toks) kp (Nat.le_refl _) (show ObjOk X.prog X.w _ h' _ (.lst ys) from ⟨hz, its, c', r', e⟩), rfl, q _ (I.hok.fresh (Nat.le_refl _))⟩
  rcases hq with hq | hq
  · obtain ⟨its, r', pl, hz⟩ := I.list hq
    have hlen := r'.length
    obtain ⟨o, ho, hc, n, hd⟩ := pl.isList
    exact call_list_seq p (.inl rfl) ho hc hd (fun h' c' kp e => fin its r' hz h' c' kp e) (by simp only [List.size_toArray] <;> omega)
  · obtain ⟨its, r', pl, hz⟩ := I.tuple hq
    have hlen := r'.length
    obtain ⟨o, ho, hc, n, hd⟩ := pl
    exact call_list_seq p (.inr rfl) ho hc hd (fun h' c' kp e => fin its r' hz h' c' kp e) (by simp only [List.size_toArray] <;> omega)

/-! ### the call of a builtin's method: o.m(..) -/
/-- the value is of that builtin type -/
def tyV (K : PySem.W.Frag) (T : String) (x : V) (H : Hp) : Prop := match x with
  | .str _ => T = "str"
  | .int _ => T = "int"
  | .ref p => (T = "list" ∧ ∃ xs, SqL K H p xs) ∨ (T = "tuple" ∧ ∃ o, K.lookup p = some o ∧ o.cls = .type "tuple" ∧ o.dict = none) ∨
      (T = "dict" ∧ ((∃ kvs, H p = some (.dK kvs)) ∨ ∃ kvs, H p = some (.dT kvs))) ∨ (T = "set" ∧ ∃ S n, H p = some (.set S n))
  | _ => False
theorem tyV_is {pins : List (Addr × Obj)} {σ : St} {H : Hp} {s : Shared} {T : String} {x : V} {v : Value} (I : Inv X pins σ H s) (r : RelV x v) (ty : tyV X.K T x H) :
    s.TypeIs v T ∧ ∀ a, v = .ref a → ∃ ob, s.heap.get? a = some ob ∧ ob.dict = none := by
  cases x with
  | str z =>
    obtain ⟨t, rfl⟩ := r
    cases (show T = "str" from ty)
    exact ⟨typeIs_str s z t, fun _ e => nomatch e⟩
  | int i =>
    obtain ⟨t, rfl⟩ := r
    cases (show T = "int" from ty)
    exact ⟨typeIs_int s i t, fun _ e => nomatch e⟩
  | ref p =>
    cases r
    rcases ty with ⟨rfl, xs, hq⟩ | ⟨rfl, o, hk, hc, hd⟩ | ⟨rfl, hk⟩ | ⟨rfl, S, n, hk⟩
    · obtain ⟨its, _, pl, _⟩ := I.list hq
      refine ⟨pl.isList.typeIs, fun a e => ?_⟩
      cases e
      obtain ⟨o, n, e, c, hd, _⟩ := pl
      exact ⟨o, e, hd⟩
    · refine ⟨⟨o, I.kIn p o hk, hc⟩, fun a e => ?_⟩
      cases e
      exact ⟨o, I.kIn _ o hk, hd⟩
    · have z : ∃ o, s.heap.get? p = some o ∧ o.ExactDict := by
        rcases hk with ⟨kvs, hk⟩ | ⟨kvs, hk⟩
        · obtain ⟨_, _, _, _, o, _, _, e, ex, _⟩ := I.hok p _ hk
          exact ⟨o, e, ex⟩
        · obtain ⟨_, _, _, _, o, _, _, e, ex, _⟩ := I.hok p _ hk
          exact ⟨o, e, ex⟩
      obtain ⟨o, e, ex⟩ := z
      refine ⟨⟨o, e, ex.1⟩, fun a e2 => ?_⟩
      cases e2
      exact ⟨o, e, ex.2.1⟩
    · obtain ⟨o, _, _, _, e, ex, _⟩ := I.hok p _ hk
      refine ⟨⟨o, e, ex.1⟩, fun a e2 => ?_⟩
      cases e2
      exact ⟨o, e, ex.2.1⟩
  | _ => exact False.elim ty
def tBM (K : PySem.W.Frag) (T : String) (r : V → List V → Hp → VK → Prop) (to : TE) (t : TA) : TE := fun σ H Q => to σ H fun x H1 => tyV K T x H1 ∧ t σ H1 fun xs H2 => r x xs H2 Q
variable {o e : Expr} {es : List Expr} {to : TE} {t : TA} {name : Str} {apos cpos : Pos} {T id : String} {r : V → List V → Hp → VK → Prop}
theorem pe_bm (pa : PlainAttrs T) (slot : Slot T name id) (hty : typeOf (.builtin id) = pure (.type "method_descriptor")) (hm : MtR X id r) (ho : PE X o to) (ha : PA X (e :: es) t)
    (hbase : attributeBase o name X.env (eval o X.env) = eval o X.env := by rfl)
    (hfew : ((backTo cpos (starEach (e :: es) X.env)).all (fun x => !x.1) && (backToKw cpos (keywordEach [] X.env)).all (fun x => x.1.isSome)
      && decide ((e :: es).length + ([] : List Keyword).length + (if ([] : List Keyword).isEmpty then 0 else 1) < 30)) = true := by rfl)
    (hline : (apos.endLine == cpos.line) = true := by rfl) (hs : starEach (e :: es) X.env = (false, eval e X.env) :: starEach es X.env := by rfl) (hplain : (backTo cpos (starEach es X.env)).any (·.1) = false := by rfl) :
    PE X (.Call (.Attribute o name apos) (e :: es) [] cpos) (tBM X.K T r to t) := by
  intro pins s σ H Q I h
  refine wpAny_Call_method_late hbase hfew hline rfl (thn (ho pins s σ H _ I h) fun v s1 ⟨x, H1, I1, r1, ty, q1⟩ => ?_)
  obtain ⟨h1, h2⟩ := tyV_is I1 r1 ty
  refine ⟨T, id, pa, slot, hty, h1, h2, ?_⟩
  have hA := ha cpos pins s1 σ H1 _ I1 q1
  rw [hs] at hA ⊢
  refine Calls.callWith_builtin (by show (false || (backTo cpos (starEach es X.env)).any (·.1)) = false; rw [hplain] <;> rfl) (Calls.evalArgs_plain ?_)
  exact thn hA fun us s2 ⟨vs, H2, I2, r2, q2⟩ => hm pins s2 σ H2 x vs v us Q I2 r1 r2 q2
/- xs.append(e), list.index on a module's tuple .. are MtR facts of 06m -/
end
end L2

namespace L2
open PySem PySem.Spec PyProof.Rows

def MtM (X : Cx) (id : String) (r : V → List V → Hp → VK → Prop) : Prop :=
  ∀ (pins : List (Addr × Obj)) (s : Shared) (σ : St) (H : Hp) (x : V) (xs : List V) (v : Value) (us : List Value) (Q : VK), Inv X pins σ H s → RelV x v → Vals xs us → r x xs H Q →
    wpAny (model X.prog X.w) X.A (call (.builtin id) (v :: us)) (EP X pins σ Q) X.xe s

/-! ### lists of values -/
theorem Vals.one : ∀ {x : V} {us : List Value}, Vals [x] us → ∃ u, us = [u] ∧ RelV x u
  | _, _, .cons r .nil => ⟨_, rfl, r⟩
theorem Vals.rep {xs : List V} {us : List Value} (h : Vals xs us) : ∀ k : Nat, Vals (List.replicate k xs).flatten (List.replicate k us).flatten
  | 0 => .nil
  | k + 1 => by
    rw [List.replicate_succ, List.replicate_succ, List.flatten_cons, List.flatten_cons]
    exact Vals.append h (Vals.rep h k)
theorem foldl_rep (its : List Value) : ∀ (k : Nat) (acc : List Value),
    List.foldl (fun x1 x2 => x1 ++ x2) acc.toArray (List.replicate k its.toArray) = (acc ++ (List.replicate k its).flatten).toArray
  | 0, acc => by simp
  | k + 1, acc => by
    have e : acc.toArray ++ its.toArray = (acc ++ its).toArray := by simp
    have e2 : (acc ++ its) ++ (List.replicate k its).flatten = acc ++ (List.replicate (k + 1) its).flatten := by
      rw [List.replicate_succ, List.flatten_cons, List.append_assoc]
    rw [← e2, ← foldl_rep its k (acc ++ its), ← e, List.replicate_succ, List.foldl_cons]

section
variable {X : Cx} {pins : List (Addr × Obj)} {σ : St} {H : Hp} {s : Shared} {l b : Addr} {xs ys zs : List V}

/-! ### the two steps: a tracked list is rewritten, a new list is laid -/
theorem Inv.lset {its its' : List Value} {n : Nat} {f : Array Value → Array Value} {t' : Nat} (I : Inv X pins σ H s) (hH : H l = some (.lst xs))
    (e : s.heap.get? l = some { cls := .type "list", data := .seq its.toArray n }) (hf : f its.toArray = its'.toArray) (hv : Vals ys its') (hz : ys.length ≤ sizeLine) :
    Inv X pins σ (upd H l (.lst ys)) { s with heap := s.heap.update l (Obj.mapSeq f), toks := t' } := by
  have q := PySem.IsL.update e f
  rw [hf] at q
  refine I.write (x := l) (e := l) (by rw [hH]; exact trivial) (.inl rfl) (fun b' u hb hu => (Heap.get?_update_other s.heap (Obj.mapSeq f) (Ne.symm hb)).trans hu) ⟨_, q⟩ ?_
  exact ⟨hz, its', _, hv, q⟩
theorem Inv.lnew {its : List Value} {t' : Nat} (I : Inv X pins σ H s) (hv : Vals ys its) (hz : ys.length ≤ sizeLine) :
    Inv X pins σ (upd H s.heap.objs.size (.lst ys)) { s with heap := s.heap.push { cls := .type "list", data := .seq its.toArray }, toks := t' } :=
  I.laid (fun _ _ q => Heap.get?_push_of_some _ q) (Nat.le_refl _) ⟨hz, its, 0, hv, Heap.get?_push_size _ rfl⟩
theorem Inv.fresh (I : Inv X pins σ H s) : H s.heap.objs.size = none := I.hok.fresh (Nat.le_refl _)
theorem Inv.lstM (I : Inv X pins σ H s) (hH : H l = some (.lst xs)) : xs.length ≤ sizeLine ∧ ∃ (its : List Value) (n : Nat), Vals xs its ∧ xs.length = its.length ∧ s.heap.get? l = some { cls := .type "list", data := .seq its.toArray n } := by
  obtain ⟨z, its, n, r, e⟩ := I.hok l _ hH
  exact ⟨z, its, n, r, r.length, e⟩

theorem notLongL {n : Nat} (h : n ≤ sizeLine) : Builtin.List.listTooLong n = false := by
  unfold Builtin.List.listTooLong
  exact decide_eq_false (by omega)
end

section
variable {X : Cx}

/-! ### methods -/
def rAppend : V → List V → Hp → VK → Prop := fun x vs H Q => ∃ l xs y, x = .ref l ∧ vs = [y] ∧ H l = some (.lst xs) ∧ xs.length < sizeLine ∧ Q .non (upd H l (.lst (xs ++ [y])))
theorem mt_append : MtM X "list.append" rAppend := by
  intro pins s σ H x vs v us Q I rx rv h
  obtain ⟨l, xs, y, rfl, rfl, hH, hz, q⟩ := h
  cases rx
  obtain ⟨u, rfl, ru⟩ := rv.one
  obtain ⟨z, its, n, r, hl, e⟩ := I.lstM hH
  refine call_meets F.slot_list_append ⟨_, e, rfl⟩ F.entry_list_append (F.args_list_append_2 _ _) (PySem.list_append l its.toArray n u (by rw [List.size_toArray]; omega)) ⟨e, ?_⟩
  refine ⟨.non, _, I.lset (its' := its ++ [u]) hH e (by simp) (r.append (.cons ru .nil)) ?_, rfl, q⟩
  rw [List.length_append, List.length_singleton]
  omega






/-! ### list + list, list += list, list * int -/
/-- a list times an int (a negative one is nothing) -/
def rRep : R2 := fun x y H Q => ∃ l k xs, x = .ref l ∧ y = .int k ∧ H l = some (.lst xs) ∧ -(2 ^ 63) ≤ k ∧ k < 2 ^ 63 ∧ xs.length * k.toNat ≤ sizeLine ∧
  ∀ p, H p = none → Q (.ref p) (upd H p (.lst (List.replicate k.toNat xs).flatten))
theorem len_rep {α : Type} (xs : List α) (k : Nat) : (List.replicate k xs).flatten.length = k * xs.length := by
  induction k with
  | zero => simp
  | succ k ih => rw [List.replicate_succ, List.flatten_cons, List.length_append, ih, Nat.succ_mul, Nat.add_comm]
theorem op_rep : OpR X (binaryOp .Mult) rRep := by
  intro pins s σ H x y v u Q I rx ry h
  obtain ⟨l, k, xs, rfl, rfl, hH, h1, h2, hz, q⟩ := h
  cases rx
  obtain ⟨t, rfl⟩ := ry
  obtain ⟨z, its, n, r, hl, e⟩ := I.lstM hH
  have hlen : its.toArray.size * k.toNat ≤ sizeLine := by rw [List.size_toArray, ← hl]; exact hz
  have hcap : ¬ its.toArray.size * k.toNat > (2 ^ 63 - 1) / 8 := by
    have : (sizeLine : Nat) ≤ (2 ^ 63 - 1) / 8 := by decide
    omega
  have hfit : ¬ (!Builtin.List.listFitsIndex k) = true := by
    rw [fitsIndex_both h1 h2]
    exact Bool.false_ne_true
  have hlong : ¬ Builtin.List.listTooLong (its.toArray.size * k.toNat) = true := by
    rw [notLongL hlen]
    exact Bool.false_ne_true
  have hnew : List.foldl (fun x1 x2 => x1 ++ x2) #[] (List.replicate (if its.toArray.isEmpty = true then 0 else k.toNat) its.toArray) = (List.replicate k.toNat its).flatten.toArray := by
    have f0 : ∀ m : Nat, List.foldl (fun x1 x2 => x1 ++ x2) #[] (List.replicate m its.toArray) = (List.replicate m its).flatten.toArray := fun m => by
      have := foldl_rep its m []
      rw [List.nil_append] at this
      exact this
    rw [f0]
    cases its with
    | nil => simp
    | cons a r' => rw [if_neg (by simp)]
  refine wpAny_binaryOp_repeat_ref (T := "list") (U := "int") (by decide) ⟨_, e, rfl⟩ (fun s' => typeIs_int s' k t) noFill_list_mul F.fills_int_mul F.slot_int_rmul repeat_list F.slot_int_index.lookup
    (call_meets F.slot_int_rmul (typeIs_int s k t) F.entry_int_rmul (F.args_int_rmul_2 _ _) (int___rmul___int_list k t l its.toArray n)
      ⟨e, rfl, ⟨_, e, rfl⟩, call_meets F.slot_list_mul ⟨_, e, rfl⟩ F.entry_list_mul (F.args_list_mul_2 _ _) (AutoListH.list___mul___list_int_3 l its.toArray n k t hfit hcap hlong) ⟨e, ?_⟩⟩)
  rw [hnew]
  exact ⟨.ref _, _, I.lnew (t' := s.toks) (r.rep k.toNat) (by rw [len_rep, Nat.mul_comm]; exact hz), rfl, q _ I.fresh⟩

/-! ### del xs[i] -/
end

/-! ### xs[a:b] = ys -/
section
variable {prog : Program} {w : World} {A : Around} {E : Value → Shared → Prop} {s : Shared}
end

section
variable {X : Cx}
end
end L2

namespace Att
open PySem PySem.W PySem.Calls PyProof.Rows

/-! ### the script -/
theorem ints_of_wellAll {P : Params} {h : Heap} : ∀ (ns : List Int) (vs : List Value), WellAll P h vs (ns.map WData.int) → IntsAre vs ns := by
  intro ns
  induction ns with
  | nil =>
    intro vs w
    rw [List.map_nil] at w
    cases w
    exact .nil
  | cons n ns ih =>
    intro vs w
    rw [List.map_cons] at w
    cases w with
    | cons a b =>
      cases a
      exact .cons _ _ (ih _ b)

theorem script_of {l : OpenLaw} {n : Nat} (hn : l.most = some n) {P : Params} {h : Heap} {args : List WData} {vals : List Value}
    (hpre : l.row.toRowW.claim.pre args = true) (hwl : WellAll P h vals args) :
    ∃ a vs ns, vals = [Value.ref a] ∧ args = [WData.list (ns.map WData.int)] ∧ h.get? a = some { cls := .type "list", data := .seq vs.toArray } ∧ IntsAre vs ns ∧ ns.length ≤ n := by
  have hsh : WShape.hasAll [] args [.list .int] = true := (pre_splitW hpre).1
  have hc : l.pre.holds [] { args := args } = true := (pre_splitW hpre).2
  obtain ⟨d, r, rfl, h1, h2⟩ := hasAllW_cons hsh
  obtain rfl := hasAllW_nil h2
  obtain ⟨xs, rfl, h3⟩ := hasW_list h1
  obtain ⟨ns, rfl⟩ := items_int h3
  have hlen : ns.length ≤ n := by
    unfold OpenLaw.pre at hc
    have h4 : (WTm.not (.lt (.lit (.int (n : Int))) (.len (.arg 0)))).holds [] { args := [.list (ns.map .int)] } = true := by
      have h4 := (holds_andW hc).1
      rw [hn] at h4
      exact h4
    have h5 := condW_of h4 (w_not (w_lt w_lit (w_len_list (w_arg rfl))))
    rw [List.length_map] at h5
    refine Nat.le_of_not_lt fun q => ?_
    have q' : (n : Int) < ((ns.length : Nat) : Int) := by omega
    first
      | (rw [decide_eq_true q'] at h5; exact absurd h5 (by decide))
      | (simp at h5; omega)
  cases hwl with
  | cons w1 w2 =>
    cases w2
    cases w1 with
    | list ho hall => exact ⟨_, _, ns, rfl, rfl, ho, ints_of_wellAll ns _ hall, hlen⟩

theorem post_true (l : OpenLaw) (args : List WData) : l.row.toRowW.claim.post args (.bool true) args = true :=
  postW_of (r := l.row.toRowW) (X := (true == true))
    (show WShape.has [] (.bool true) .bool = true by first | rfl | decide | simp [WShape.has, WShape.arms, WShape.armsAll])
    (show (WTm.eq .res (.lit (.bool true))).value [] { args := args, res := some (.bool true), after := args } = some (.bool (true == true)) from w_eq_bool (w_res rfl) w_lit) rfl

/-! ### the attachment: holds_open's last premise (the goal 'hc' behind k_head) from a wpAny of the law's body -/

/-- the same from a codeAny of the CALL (for a layer whose function contracts speak of calls) -/
theorem attach_call {l : OpenLaw} {n : Nat} {q : Program} {loose : List Str} {XP : (Str → Option Value) → Heap → Prop} {YP : World → Heap → Prop} {d : DefRec}
    (hn : l.most = some n) (hdf : d.params.defaults = [])
    (call : ∀ (w : World) (s₀ s₁ : Shared) (mg mb : Str → Option Value) (fa : Addr) (o : Obj) (pm cd doc : Value) (a : Addr) (vs : List Value) (ns : List Int),
      Ground q loose [] XP w s₀ mg mb s₁.heap → YP w s₁.heap →
      s₁.heap.get? fa = some o → o.data = .func (docDef d.name d.params d.body d.scope pm cd doc) → s₁.heap.CodeRec cd d.name → mg d.name = some (.ref fa) →
      s₁.heap.get? a = some { cls := .type "list", data := .seq vs.toArray } → IntsAre vs ns → ns.length ≤ n → s₁.gens = #[] →
      codeAny (model l.prog w) callerA (.call (.ref fa) ⟨[.ref a], []⟩) (fun r s' => r = .ok (.ret (.bool true)) ∧ OldK s₁.heap s'.heap ∧ s'.os = s₁.os ∧ AllBare s'.gens) s₁) :
    WalkO q loose XP YP l.row.toRowW d [] (fun f vs => PySem.call f vs) := by
  intro w s₀ s₁ mg mb G Y fa o pm cd doc dV kV ho hd hcd hD hmg hg args vals as hpre hlay hrd hwl hlo
  obtain rfl : dV = .none := Dflts.none hD hdf
  obtain rfl : kV = .none := Dflts.noKw hD
  obtain ⟨a, vs, ns, rfl, rfl, hobj, hints, hlen⟩ := script_of hn hpre hwl
  refine enter_call (codeAny_mono (call w s₀ s₁ mg mb fa o pm cd doc a vs ns G Y ho (fd_plain hd) hcd hmg hobj hints hlen hg) fun r s' hq => ?_)
  obtain ⟨rfl, h2, h3, h4⟩ := hq
  exact ⟨.inl ⟨.bool true, .bool true, [], rfl, fun _ => rfl, .bool true, post_true l _, fun _ => ⟨List.Pairwise.nil, fun _ hm => (nomatch hm)⟩⟩, h2, h3, h4⟩


/-! ### rules over ANY heap (no ledger) from facts about the written part K: the library's own take a ledger (News) for what they write -/
section
variable {prog : Program} {w : World} {A : Around} {E : Value → Shared → Prop} {s : Shared} {K : Frag}





/-! the whole heap as the ledger: makes every rule that writes through a ledger a rule over any heap -/

end
end Att

namespace L2
open PySem PySem.Spec PyProof.Rows

theorem vals_ints : ∀ {vs : List Value} {ns : List Int}, IntsAre vs ns → Vals (ns.map V.int) vs
  | _, _, .nil => .nil
  | _, _, .cons n t h => .cons ⟨t, rfl⟩ (vals_ints h)

/-- nothing is tracked but the script, known to the object (or it is an object of the module) -/
def Only (H : Hp) : Prop := ∀ b, H b = none ∨ ∃ o xs, H b = some (.frz o (.lst xs))

/-- THE HEAD: the law's promise, at the heap behind the top. F, the promise of the law's def, may use that base is part of the heap (so K.In base, base.Ns mainGlobals mg stand in Mod) -/
theorem law_call {P : Program} {w : World} {K : PySem.W.Frag} {mg mb : Str → Option Value} {CX : CXT} {k : Nat} {fa a : Addr} {fd : FuncData} {x : Str} {sp : Sp} {s₁ : Shared} {vs : List Value} {ns : List Int}
    (KX : K.In s₁.heap) (hns : s₁.heap.Ns mainGlobals mg) (hb : s₁.heap.Ns builtinsNs mb) (hbb : ∀ x : Str, x ≠ "__name__" → mb x = bootBuiltins x) (hlim : s₁.heap.NoLimit) (hg : s₁.gens = #[])
    (ha : s₁.heap.get? a = some { cls := .type "list", data := .seq vs.toArray }) (hi : IntsAre vs ns) (hl : ns.length ≤ sizeLine) (hr : Room k callerA)
    (F : ∀ base : Heap, K.In base → base.Ns mainGlobals mg → FnOk P w K mg base CX k fa fd [x] sp) (hbind : ∀ (s : Shared) (u : Value), BindsTo s fd ⟨[u], []⟩ [(x, u)])
    (hsp : ∀ H : Hp, Only H → SqL K H a (ns.map V.int) → sp [.ref a] H (fun v _ => v = .bl true) fun _ _ _ => False)
    (hCX : ∀ H e s', CX [] H s₁ (fun _ _ _ => False) e s' → False) :
    codeAny (model P w) callerA (.call (.ref fa) ⟨[.ref a], []⟩) (fun r s' => r = .ok (.ret (.bool true)) ∧ OldK s₁.heap s'.heap ∧ s'.os = s₁.os ∧ AllBare s'.gens) s₁ := by
  have rv := vals_ints hi
  have lenV := hi.length
  -- from an abstract heap in which nothing but the script may be tracked
  have core : ∀ H : Hp, Only H → SqL K H a (ns.map V.int) → HOk P w H s₁.heap → (∀ b, H b ≠ none → b = a) → (H a ≠ none → K.lookup a = none) →
      codeAny (model P w) callerA (.call (.ref fa) ⟨[.ref a], []⟩) (fun r s' => r = .ok (.ret (.bool true)) ∧ OldK s₁.heap s'.heap ∧ s'.os = s₁.os ∧ AllBare s'.gens) s₁ := by
    intro H hO hS hok hA hK
    have base_of : ∀ {b : Addr} {o : Obj}, s₁.heap.get? b = some o → H b = none → (hidT s₁.heap H).get? b = some o := fun e n => hidT_get e n
    have noA : ∀ {b : Addr} {o : Obj} {es : Array DictEntry} {ep : Nat}, s₁.heap.get? b = some o → o.data = .dict es ep → H b = none := fun {b o es ep} e d => by
      cases q : H b with
      | none => rfl
      | some u =>
        have e' : b = a := hA b (by rw [q]; simp)
        subst e'
        rw [ha] at e; cases e
        have d' : Data.seq vs.toArray _ = Data.dict es ep := d
        cases d'
    have nsK : ∀ {b : Addr} {m : Str → Option Value}, s₁.heap.Ns b m → (hidT s₁.heap H).Ns b m := fun {b m} ⟨o, es, ep, e, d, r⟩ => ⟨o, es, ep, base_of e (noA e d), d, r⟩
    have hKb : K.In (hidT s₁.heap H) := fun b o e => base_of (KX b o e) (by
      cases q : H b with
      | none => rfl
      | some u =>
        have e' : b = a := hA b (by rw [q]; simp)
        subst e'
        rw [hK (by rw [q]; simp)] at e; cases e)
    have hM : Mod K mg (hidT s₁.heap H) := ⟨hKb, nsK hns, ⟨mb, nsK hb, hbb⟩, let ⟨mc, h1, h2⟩ := hlim; ⟨mc, nsK h1, h2⟩⟩
    have e0 : Env0 P w K mg (hidT s₁.heap H) callerA [] s₁ H := ⟨rfl, hM, fun b o e => of_hidT e, Nat.le_of_eq (hidT_size _ _), trivial, fun b hb => absurd (show b ∈ ([] : List Addr) from hb) (by simp), hok, .of_eq hg⟩
    refine codeAny_mono ((F _ hKb (nsK hns)).run callerA [] s₁ H ⟨[.ref a], []⟩ [.ref a] [.ref a] _ _ hr e0 (hbind s₁ (.ref a)) (.cons rfl .nil) (hsp H hO hS)) fun r s' h => ?_
    cases r with
    | error e => exact (hCX H e s' h).elim
    | ok fl =>
      cases fl with
      | next => exact False.elim h
      | brk => exact False.elim h
      | cont => exact False.elim h
      | ret u =>
        obtain ⟨v, H', os, bare, un, hok', r', q⟩ := h
        have q' : v = .bl true := q
        subst q'
        obtain rfl : u = Value.bool true := r'
        refine ⟨rfl, OldK.of_keep fun b o e => ?_, os, bare⟩
        cases q : H b with
        | none => exact un.keep b o e q (by intro z; exact absurd (show b ∈ ([] : List Addr) from z) (by simp)) (by simp)
        | some u =>
          rcases hO b with z | ⟨ob, xs, z⟩
          · rw [q] at z; cases z
          · have z2 := un.frzs b ob _ z
            obtain ⟨e1, _⟩ := hok b _ z
            obtain ⟨e2, _⟩ := hok' b _ z2
            rw [e] at e1; cases e1
            exact e2
  cases hk : K.lookup a with
  | some o =>
    -- the script is one of the module's own objects
    have e := KX a o hk
    rw [ha] at e
    cases e
    refine core (fun _ => none) (fun _ => .inl rfl) (.inr ⟨_, vs.toArray, _, hk, rfl, rfl, rfl, by rw [List.size_toArray, lenV]; exact hl, by simpa using rv⟩) (fun b u z => by have z' : (none : Option HO) = some u := z; cases z') (fun b z => absurd rfl z) fun z => absurd rfl z
  | none =>
    refine core (fun b => if b = a then some (.frz { cls := .type "list", data := .seq vs.toArray } (.lst (ns.map V.int))) else none) (fun b => ?_) (.inl (.inr ⟨{ cls := .type "list", data := .seq vs.toArray }, if_pos rfl⟩)) (fun b u z => ?_) (fun b z => ?_) fun _ => hk
    · by_cases hb : b = a
      · exact .inr ⟨_, _, if_pos hb⟩
      · exact .inl (if_neg hb)
    · by_cases hb : b = a
      · have z' := (if_pos hb).symm.trans z
        cases z'
        subst hb
        exact ⟨ha, by rw [List.length_map]; exact hl, vs, _, rv, ha⟩
      · have z' := (if_neg hb).symm.trans z
        cases z'
    · by_cases hb : b = a
      · exact hb
      · exact absurd (if_neg hb) z
end L2

namespace L2
open PySem PySem.Spec PyProof.Rows


/-- the goal that k_head leaves (case hc), from the law's promise. F gives the function object fd (K's own) once, then the promise over every base -/
theorem walk_of {l : PySem.W.OpenLaw} {n k : Nat} {q : Program} {loose : List Str} {XP : (Str → Option Value) → Heap → Prop} {YP : World → Heap → Prop} {d : DefRec} {K : Params → PySem.W.Frag} {CX : World → CXT} {sp : World → Sp} {x : Str}
    (hn : l.most = some n) (hn2 : n ≤ sizeLine) (hdf : d.params.defaults = []) (hr : Room k callerA)
    (hY : ∀ (w : World) (h : Heap), YP w h → (K w.params).In h)
    (F : ∀ (w : World) (mg : Str → Option Value) (fa : Addr) (h : Heap), (K w.params).In h → h.Ns mainGlobals mg → mg d.name = some (.ref fa) →
      ∃ fd : FuncData, (∀ (s : Shared) (u : Value), BindsTo s fd ⟨[u], []⟩ [(x, u)]) ∧
        ∀ base : Heap, (K w.params).In base → base.Ns mainGlobals mg → FnOk l.prog w (K w.params) mg base (CX w) k fa fd [x] (sp w))
    (hsp : ∀ (w : World) (H : Hp) (a : Addr) (ns : List Int), ns.length ≤ n → Only H → SqL (K w.params) H a (ns.map V.int) → sp w [.ref a] H (fun v _ => v = .bl true) fun _ _ _ => False)
    (hCX : ∀ (w : World) (H : Hp) (s : Shared) (e : Value) (s' : Shared), CX w [] H s (fun _ _ _ => False) e s' → False) :
    PySem.W.WalkO q loose XP YP l.row.toRowW d [] (fun f vs => PySem.call f vs) := by
  refine Att.attach_call hn hdf fun w s₀ s₁ mg mb fa o pm cd doc a vs ns G Y ho hd hcd hmg hobj hints hlen hg => ?_
  have KX := hY w _ Y
  obtain ⟨fd, hb, hF⟩ := F w mg fa _ KX G.T.g hmg
  exact law_call KX G.T.g G.T.b G.T.builtins G.T.nolimit hg hobj hints (Nat.le_trans hlen hn2) hr hF hb (fun H hO hS => hsp w H a ns hlen hO hS) fun H e s' => hCX w H s₁ e s'
end L2

/- THE LAST THEOREM (shape; LID, My.* are yours):
   My.Adr: a structure of the addresses that your layer names (classes, functions); My.Txt K t: a structure (Prop) of the equations over K;
   My.txt_mk : {K} {implicit addresses ..} (e1 : nsIn K mainGlobals "law" = some (some (.ref f))) (e2 : K.lookup f = some ⟨oc, od, .func (fnOf "law" "law" params body scope dV kV doc pm an cdv ct), sl⟩) (e3 : codeIn K cdv "law" = true) .. : ∃ t, My.Txt K t

theorem PySem.Challenge.cw_LID_holds : PySem.Challenge.rw_LID.Holds := by
  w_on; o_law; k_head; (case hw => w_witness2)
  k_fill
  refine L2.walk_of (l := PySem.Challenge.rw_LID) (n := 63) (k := 40) (x := "script") (CX := fun w => ..) (sp := fun _ => My.sp_law) rfl (by decide) rfl ⟨rfl, by decide, by decide⟩ (fun w h Y => PySem.W.kIn_of Y) ?F ?S ?C
  case F =>
    intro w mg fa h KX G hmg
    have T : ∃ t, My.Txt (L2.KOf KX) t := by
      dsimp only [L2.KOf]                          -- K must stand as «<heap const> w.params» for k_is
      refine' My.txt_mk ?e1 ?e2 ?e3 ..
      (case e1 => PySem.W.k_is)                    -- in the order: a name -> its address -> its object -> its parts
      (case e2 => PySem.W.k_is)
      ..
    obtain ⟨t, T⟩ := T
    have e0 := hmg.symm.trans (PySem.W.mg_of KX G T.law)
    cases e0                                       -- fa is the law's own address
    exact ⟨_, fun s u => .of_eq rfl, fun base kb nb => My.law_fn T kb nb⟩     -- if «.of_eq rfl» comes too early: refine' ⟨_, ?b, fun base kb nb => My.law_fn T kb nb⟩; exact fun s u => .of_eq rfl
  case S => exact fun w H a ns hl hO hS => ..
  case C => exact ..
(the tactic k_is has no namespace: write k_is) -/

/-! SHORT WORDS over the layer: a def of the text, its body, what a loop and a test want. -/
namespace L2
open PySem PySem.Spec PyProof.Rows

/-! ### the text by places -/
/-- the j-th statement of a class's body -/
def inClass (s : Stmt) (j : Nat) : Stmt := match s with
  | .ClassDef _ _ _ body _ _ _ _ _ _ _ => body.getD j (.Pass ⟨0, 0, 0, 0⟩)
  | _ => .Pass ⟨0, 0, 0, 0⟩
def defArgs (s : Stmt) : Arguments := match s with
  | .FunctionDef _ a _ _ _ _ _ _ _ _ => a
  | _ => { posonlyargs := [], args := [], vararg := none, kwonlyargs := [], kw_defaults := [], kwarg := none, defaults := [] }
def defBody (s : Stmt) : List Stmt := match s with
  | .FunctionDef _ _ b _ _ _ _ _ _ _ => b
  | _ => []
def defScope (s : Stmt) : Scope := match s with
  | .FunctionDef _ _ _ _ _ _ sc _ _ _ => sc
  | _ => { kind := .function, names := [], isGenerator := false, isCoroutine := false }

/-! ### no exception leaves a def -/
abbrev CX0 : CXT := fun _ _ _ _ _ _ => False
abbrev E0 : XK := fun _ _ _ => False
theorem pass0 {X : Cx} : Passes CX0 X E0 := fun _ _ _ _ _ _ _ h => h.elim

/-! ### a def (or method) of the text as it stands behind the top -/
structure Fun (K : PySem.W.Frag) (x qual : Str) (st : Stmt) (f : Addr) (fd : FuncData) : Prop where
  ex : ∃ (oc : Value) (od : Option Addr) (kV doc pm : Value) (an : Option Addr) (cdv ct : Value) (osl : Array (Option Value)),
    fd = PySem.W.fnOf x qual (defArgs st) (defBody st) (defScope st) .none kV doc pm an cdv ct ∧ K.lookup f = some ⟨oc, od, .func fd, osl⟩ ∧ PySem.W.codeIn K cdv qual = true
  kp : PySem.W.keepIn K (.ref f) = true
section
variable {P : Program} {w : World} {K : PySem.W.Frag} {mg : Str → Option Value} {base : Heap}
/-- THE RULE for a def: its body as a term of rules, and the reading of that term -/
theorem Fun.ok {x qual : Str} {st : Stmt} {f : Addr} {fd : FuncData} {N ps : List Str} {k : Nat} {sp : Sp} (F : Fun K x qual st f fd) (S : FnScope N ps (defScope st)) (len : ∀ vs H Q E, sp vs H Q E → vs.length = ps.length)
    (hbody : ∀ (cdv : Value) (A : Around) (outer : List Env) (s : Shared) (H : Hp) (vs : List V) (Q : VK) (E : XK), Room k (A.deeper (envOfC qual (defScope st) s.heap.objs.size f cdv)) → sp vs H Q E →
      ∃ t, PSs (cxOf CX0 P w K mg base N qual (defScope st) f cdv A outer s H E).nox (defBody st) t ∧ t { nx := fun _ H' => Q .non H', rt := Q } (start N vs) H) : FnOk P w K mg base CX0 (k + 1) f fd ps sp := by
  obtain ⟨oc, od, kV, doc, pm, an, cdv, ct, osl, rfl, lk, hcd⟩ := F.ex
  refine fn_of lk hcd S len fun A outer s H vs Q E hr hsp => ?_
  obtain ⟨t, h, q⟩ := hbody cdv A outer s H vs Q E hr hsp
  exact ⟨t, h.nox, q⟩
/-- how its arguments bind (no defaults): h is «fun _ _ _ _ _ _ us hl => match us, hl with | [_, _], _ => rfl», one _ a parameter -/
theorem Fun.binds {x qual : Str} {st : Stmt} {f : Addr} {fd : FuncData} {ps : List Str} (F : Fun K x qual st f fd)
    (h : ∀ (kV doc pm : Value) (an : Option Addr) (cdv ct : Value) (us : List Value), us.length = ps.length → bindArgs (PySem.W.fnOf x qual (defArgs st) (defBody st) (defScope st) .none kV doc pm an cdv ct) ⟨us, []⟩ = pure (ps.zip us)) : Binds K fd ps [] := by
  obtain ⟨oc, od, kV, doc, pm, an, cdv, ct, osl, rfl, lk, hcd⟩ := F.ex
  exact .all (h kV doc pm an cdv ct)
theorem fun_mk {x qual : Str} {st : Stmt} {f : Addr} {oc : Value} {od an : Option Addr} {osl : Array (Option Value)} {kV doc pm cdv ct : Value} (l : K.lookup f = some ⟨oc, od, .func (PySem.W.fnOf x qual (defArgs st) (defBody st) (defScope st) .none kV doc pm an cdv ct), osl⟩)
    (c : PySem.W.codeIn K cdv qual = true) (k : PySem.W.keepIn K (.ref f) = true) : Fun K x qual st f (PySem.W.fnOf x qual (defArgs st) (defBody st) (defScope st) .none kV doc pm an cdv ct) := ⟨⟨oc, od, kV, doc, pm, an, cdv, ct, osl, rfl, l, c⟩, k⟩
end
theorem small1000 {n : Nat} (h : n ≤ 1000) : n < sizeLine := Nat.lt_of_le_of_lt h (by decide)

/-! ### expressions in short: the name that stands in the i-th slot -/
section
variable {X : Cx}
theorem pv (i : Nat) {x : Str} {pos : Pos} (hN : X.N[i]? = some x := by rfl) (hv : Vis X.env.scope x := by first | exact Or.inl rfl | exact Or.inr (Or.inl rfl) | exact Or.inr (Or.inr rfl)) (hd : (x == ("__debug__" : Str)) = false := by decide)
    (hcd : (x == ("__classdict__" : Str)) = false := by decide) : PE X (.Name x pos) (tVar i) := pe_var hN hv hd hcd
end

/-! ### tests -/
theorem iteF {A B : Prop} (h : B) : if false = true then A else B := by
  rw [if_neg Bool.false_ne_true]
  exact h
theorem iteT {A B : Prop} (h : A) : if true = true then A else B := by
  rw [if_pos rfl]
  exact h
theorem ite2 {c A B : Prop} [Decidable c] (h1 : c → A) (h2 : ¬ c → B) : if c then A else B := by
  by_cases h : c
  · rw [if_pos h]
    exact h1 h
  · rw [if_neg h]
    exact h2 h

/-! ### heaps -/
/-- all that was tracked is as it was -/
def Same (H H' : Hp) : Prop := ∀ b o, H b = some o → H' b = some o
theorem Same.trans {H H1 H2 : Hp} (a : Same H H1) (b : Same H1 H2) : Same H H2 := fun c o h => b c o (a c o h)
theorem Same.free {H H' : Hp} (e : Same H H') {l : Addr} (h : H' l = Option.none) : H l = Option.none := by
  cases q : H l with
  | none => rfl
  | some o =>
    rw [e l o q] at h
    cases h
theorem Same.seq {K : PySem.W.Frag} {H H' : Hp} {a : Addr} {xs : List V} (e : Same H H') (h : SqL K H a xs) : SqL K H' a xs := by
  rcases h with (h | ⟨o, h⟩) | h
  · exact .inl (.inl (e _ _ h))
  · exact .inl (.inr ⟨o, e _ _ h⟩)
  · exact .inr h

end L2

namespace L2
open PySem PySem.Spec PyProof.Rows
/-! ### lists of pairs as tables -/
section
variable {κ : Type} [DecidableEq κ]



end


/-! ### a tracked dict, its keys ints and texts or tuples of these -/


section
variable {P : Program} {w : World} {H : Hp} {h : Heap} {a : Addr}
end



section
variable {X : Cx} {pins : List (Addr × Obj)} {σ : St} {H : Hp} {s : Shared} {a : Addr} {y v : V} {u r : Value} {o : Option V} {A : Around} {E : Value → Shared → Prop}


end

section
variable {X : Cx} {pins : List (Addr × Obj)} {σ : St} {H : Hp} {s : Shared} {a : Addr} {kvs : List (Key × V)} {k : Key} {u : Value} {A : Around} {E : Value → Shared → Prop}
end


/-! ### readings and rules -/



section
variable {X : Cx} {o i e value : Expr} {pos pos' tpos : Pos} {td ty tv : TE}
end


/-! ### displays -/
section
variable {X : Cx} {pos : Pos}
end




/-! ### methods -/


section
variable {X : Cx} {pins : List (Addr × Obj)} {σ : St} {H : Hp} {s : Shared} {a : Addr} {y d : V} {u r : Value} {o : Option V} {A : Around} {E : Value → Shared → Prop}
end

section
variable {X : Cx} {o e f : Expr} {apos cpos : Pos} {td ty tx : TE}
end

/-! ### dict(d): a copy -/
section
variable {X : Cx} {pins : List (Addr × Obj)} {σ : St} {H : Hp} {s : Shared} {a : Addr} {kvs : List (Key × V)} {A : Around} {E : Value → Shared → Prop}
end


section
variable {X : Cx} {pins : List (Addr × Obj)} {σ : St} {H : Hp} {s : Shared} {a : Addr} {y : V} {u : Value} {A : Around} {E : Value → Shared → Prop}
end
end L2

namespace L2
open PySem PySem.Spec PyProof.Rows
section
variable {X : Cx}
end

/-! ### a dict's pairs: keys that differ -/
section
variable {κ : Type} [DecidableEq κ]
end
end L2


namespace L2
open PySem PySem.Spec PyProof.Rows

/-! ### list comprehensions: one clause, tests, any target -/
/-- the cells that a block takes from the frame around it -/
def clo (cells : List (Str × Addr)) : List (Str × NameKind) → List (Str × Addr) → List (Str × Addr)
  | [], cs => cs
  | (n, k) :: r, cs => clo cells r (if k == NameKind.free then (match cells.lookup n with | some a => (n, a) :: cs | none => cs) else cs)
theorem clo_loop {env : Env} : ∀ (names : List (Str × NameKind)) (cs : List (Str × Addr)), (∀ y ∈ names, y.2 = .free → ∃ c, env.cells.lookup y.1 = some c) →
    (forIn names cs fun (x : Str × NameKind) (r : List (Str × Addr)) => if (x.2 == NameKind.free) = true then (do let a ← cellOf env x.1; pure (ForInStep.yield ((x.1, a) :: r))) else (pure (ForInStep.yield r) : Sem (ForInStep (List (Str × Addr)))))
      = (pure (clo env.cells names cs) : Sem (List (Str × Addr)))
  | [], cs, _ => rfl
  | (n, k) :: r, cs, h => by
    have ih := clo_loop (env := env) r
    rw [List.forIn_cons]
    unfold clo
    cases hk : (k == NameKind.free) with
    | false =>
      simp only [Bool.false_eq_true, if_false]
      show (forIn r cs _ : Sem _) = _
      exact ih cs fun y hy => h y (List.mem_cons_of_mem _ hy)
    | true =>
      obtain ⟨c, hc⟩ := h (n, k) List.mem_cons_self (by simpa using hk)
      have hc' : env.cells.lookup n = some c := hc
      have e : cellOf env n = pure c := by unfold cellOf; rw [hc']
      simp only [if_true, e, hc']
      show (forIn r ((n, c) :: cs) _ : Sem _) = _
      exact ih _ fun y hy => h y (List.mem_cons_of_mem _ hy)
theorem clo_is {scope : Scope} {env : Env} (h : ∀ y ∈ scope.names, y.2 = .free → ∃ c, env.cells.lookup y.1 = some c) : closureFor scope env = pure (clo env.cells scope.names []) := by
  unfold closureFor
  have q := clo_loop (env := env) scope.names [] h
  refine Eq.trans ?_ (congrArg (fun z : Sem (List (Str × Addr)) => z >>= fun cs => pure cs) q)
  rfl
theorem clo_mem {cells : List (Str × Addr)} : ∀ (names : List (Str × NameKind)) (cs : List (Str × Addr)), (∀ p ∈ cs, cells.lookup p.1 = some p.2) → ∀ p ∈ clo cells names cs, cells.lookup p.1 = some p.2
  | [], cs, h, p, hp => h p hp
  | (n, k) :: r, cs, h, p, hp => by
    unfold clo at hp
    refine clo_mem r _ (fun q hq => ?_) p hp
    split at hq
    · split at hq
      · rename_i a e
        rcases List.mem_cons.mp hq with rfl | hq
        · exact e
        · exact h q hq
      · exact h q hq
    · exact h q hq
theorem clo_sub {cells : List (Str × Addr)} {names : List (Str × NameKind)} {x : Str} {c : Addr} (e : (clo cells names []).lookup x = some c) : cells.lookup x = some c :=
  clo_mem names [] (fun _ z => nomatch z) (x, c) (PySem.mem_of_lookup e)
theorem clo_keeps {cells : List (Str × Addr)} : ∀ (names : List (Str × NameKind)) (cs : List (Str × Addr)) (p : Str × Addr), p ∈ cs → p ∈ clo cells names cs
  | [], cs, p, hp => hp
  | (n, k) :: r, cs, p, hp => by
    unfold clo
    refine clo_keeps r _ p ?_
    split
    · split
      · exact List.mem_cons_of_mem _ hp
      · exact hp
    · exact hp
theorem clo_has {cells : List (Str × Addr)} {x : Str} {c : Addr} (hc : cells.lookup x = some c) : ∀ (names : List (Str × NameKind)) (cs : List (Str × Addr)), (x, NameKind.free) ∈ names → (x, c) ∈ clo cells names cs
  | [], _, h => nomatch h
  | (n, k) :: r, cs, h => by
    unfold clo
    rcases List.mem_cons.mp h with e | h
    · cases e
      refine clo_keeps r _ _ ?_
      rw [hc]
      simp
    · exact clo_has hc r _ h
theorem lookup_some_of_mem {x : Str} {c : Addr} : ∀ {l : List (Str × Addr)}, (x, c) ∈ l → ∃ d, l.lookup x = some d
  | [], h => nomatch h
  | (y, d) :: r, h => by
    rw [List.lookup_cons]
    cases e : (x == y) with
    | true => exact ⟨d, rfl⟩
    | false =>
      rcases List.mem_cons.mp h with z | z
      · cases z
        simp at e
      · exact lookup_some_of_mem z
theorem relabel_look {env : Env} : ∀ {names : List (Str × NameKind)} {x : Str} {k : NameKind},
    (names.map fun (n, k) => if (k == NameKind.free && env.scope.kind == .function && env.kindOf n == some .cell) then (n, NameKind.cell) else (n, k)).lookup x = some k →
      names.lookup x = some k ∨ (k = .cell ∧ names.lookup x = some .free)
  | [], _, _, h => by simp at h
  | (n, k0) :: r, x, k, h => by
    have ih := @relabel_look env r x k
    rw [List.map_cons] at h
    rw [List.lookup_cons]
    by_cases c : (k0 == NameKind.free && env.scope.kind == .function && env.kindOf n == some .cell) = true
    · have h' := h
      simp only [c, if_true] at h'
      rw [List.lookup_cons] at h'
      cases e : (x == n) with
      | true =>
        rw [e] at h'
        have c1 : k0 = .free := by
          simp only [Bool.and_eq_true] at c
          simpa using c.1.1
        refine .inr ⟨(Option.some.inj h').symm, ?_⟩
        rw [c1]
      | false =>
        rw [e] at h'
        exact ih h'
    · have h' := h
      simp only [c, Bool.false_eq_true, if_false] at h'
      rw [List.lookup_cons] at h'
      cases e : (x == n) with
      | true =>
        rw [e] at h'
        exact .inl h'
      | false =>
        rw [e] at h'
        exact ih h'
theorem relabel_free {env : Env} : ∀ {names : List (Str × NameKind)} {x : Str}, names.lookup x = some .free →
    (names.map fun (n, k) => if (k == NameKind.free && env.scope.kind == .function && env.kindOf n == some .cell) then (n, NameKind.cell) else (n, k)).lookup x = some .cell ∨
    (names.map fun (n, k) => if (k == NameKind.free && env.scope.kind == .function && env.kindOf n == some .cell) then (n, NameKind.cell) else (n, k)).lookup x = some .free
  | [], _, h => by simp at h
  | (n, k0) :: r, x, h => by
    have ih := @relabel_free env r x
    rw [List.map_cons]
    rw [List.lookup_cons] at h
    by_cases c : (k0 == NameKind.free && env.scope.kind == .function && env.kindOf n == some .cell) = true
    · simp only [c, if_true, List.lookup_cons]
      cases e : (x == n) with
      | true => exact .inl rfl
      | false =>
        rw [e] at h
        exact ih h
    · simp only [c, Bool.false_eq_true, if_false, List.lookup_cons]
      cases e : (x == n) with
      | true =>
        rw [e] at h
        exact .inr h
      | false =>
        rw [e] at h
        exact ih h

/-- what a block's scope must be like: sc the frame's scope around it -/
def compOk (sc scope : Scope) : Bool :=
  scope.kind == .function && scope.names.all fun y => y.2 != .cell && (y.2 != .local || scope.names.lookup y.1 == some .local) && (y.2 != .free || (sc.names.lookup y.1 == some .cell || sc.names.lookup y.1 == some .free))
structure CompScope (sc scope : Scope) : Prop where
  kind : scope.kind = .function
  cell : ∀ y ∈ scope.names, y.2 ≠ .cell
  own : ∀ y ∈ scope.names, y.2 = .local → scope.names.lookup y.1 = some .local
  free : ∀ y ∈ scope.names, y.2 = .free → sc.names.lookup y.1 = some .cell ∨ sc.names.lookup y.1 = some .free
theorem CompScope.of {sc scope : Scope} (h : compOk sc scope = true) : CompScope sc scope := by
  unfold compOk at h
  rw [Bool.and_eq_true, List.all_eq_true] at h
  obtain ⟨h1, h2⟩ := h
  have h3 : ∀ y ∈ scope.names, (y.2 ≠ .cell ∧ (y.2 ≠ .local ∨ scope.names.lookup y.1 = some .local)) ∧ (y.2 ≠ .free ∨ (sc.names.lookup y.1 = some .cell ∨ sc.names.lookup y.1 = some .free)) := fun y hy => by
    have q := h2 y hy
    simpa [Bool.and_eq_true, Bool.or_eq_true] using q
  refine ⟨by simpa using h1, fun y hy => (h3 y hy).1.1, fun y hy e => ?_, fun y hy e => ?_⟩
  · exact (h3 y hy).1.2.resolve_left fun n => n e
  · exact (h3 y hy).2.resolve_left fun n => n e

/-- the context of a block -/
def cxB (X : Cx) (NC : List Str) (scope : Scope) (s3 : Shared) (H3 : Hp) (fp : List Addr) : Cx :=
  { X with N := NC, s₀ := s3, H₀ := H3, env := compEnvC scope (clo X.env.cells scope.names []) s3.heap.objs.size X.env, outer := X.stack, ex := fp, fn := fun _ => false, pn := [], xe := fun _ _ => False }
/-- the names at a block's entry: its own (none yet), then those of the frame, by their places there -/
def capt (own : Nat) (ix : List Nat) (σ : St) : St := List.replicate own none ++ ix.map fun j => (σ[j]?).getD none
/-- the caught names cs stand at the places ix of the frame -/
def Caps (X : Cx) (scope : Scope) : List Str → List Nat → Prop
  | [], [] => True
  | x :: cs, j :: js => (X.N[j]? = some x ∧ (X.env.kindOf x = some .cell ∨ X.env.kindOf x = some .free) ∧ scope.names.lookup x = some .free) ∧ Caps X scope cs js
  | _, _ => False
theorem Caps.len {X : Cx} {scope : Scope} : ∀ {cs : List Str} {js : List Nat}, Caps X scope cs js → cs.length = js.length
  | [], [], _ => rfl
  | _ :: _, _ :: _, h => by rw [List.length_cons, List.length_cons, Caps.len h.2]
  | [], _ :: _, h => h.elim
  | _ :: _, [], h => h.elim
theorem Caps.at {X : Cx} {scope : Scope} : ∀ {cs : List Str} {js : List Nat} {i : Nat} {x : Str}, Caps X scope cs js → cs[i]? = some x →
    ∃ j, js[i]? = some j ∧ X.N[j]? = some x ∧ (X.env.kindOf x = some .cell ∨ X.env.kindOf x = some .free) ∧ scope.names.lookup x = some .free
  | [], [], _, _, _, e => by simp at e
  | x :: _, j :: _, 0, _, h, e => by simp at e; subst e; exact ⟨j, rfl, h.1⟩
  | _ :: _, _ :: _, i + 1, _, h, e => by
    obtain ⟨j, e1, r⟩ := Caps.at (i := i) h.2 (by simpa using e)
    exact ⟨j, by simpa using e1, r⟩
  | [], _ :: _, _, _, h, _ => h.elim
  | _ :: _, [], _, _, h, _ => h.elim

/-- the tests of a clause -/
def tTrue : TT := fun _ H Q => Q true H
def PTs (Y : Cx) (ifs : List Expr) (t : TT) : Prop :=
  ∀ (pins : List (Addr × Obj)) (s : Shared) (σ : St) (H : Hp) (Q : Bool → Hp → Prop), Inv Y pins σ H s → t σ H Q →
    wpAny (model Y.prog Y.w) Y.A (forIn ifs true fun c r => if r = true then do let ok ← isTrue c Y.env (eval c Y.env); pure (ForInStep.yield ok) else pure (ForInStep.yield r)) (TP Y pins σ Q) Y.xe s
theorem pts_nil {Y : Cx} : PTs Y [] tTrue := fun _ _ _ H _ I h => wpAny_tests_nil ⟨H, I, h⟩
theorem pts_one {Y : Cx} {c : Expr} {t : TT} (h : PT Y c t) : PTs Y [c] t := fun pins s σ H Q I q => wpAny_tests_one (h pins s σ H Q I q)

/-- what is asked of a comprehension whose iterator has come and whose list stands at p: W the word by the turn, a measure, the list so far, the block's names, the heap; N what a turn is to reach -/
def CompW (g : TG) (tc : TT) (te : TE) (own : Nat) (ix : List Nat) (σ : St) (J : It) (p : Addr) (H1 : Hp) (QQ : Hp → Prop) : Prop :=
  ∃ W : Nat → Nat → List V → St → Hp → Prop, (∃ m, W 0 m [] (capt own ix σ) (upd H1 p (.lst []))) ∧ ∀ i m ys σ2 H2, W i m ys σ2 H2 → H2 p = some (.lst ys) ∧
    ((J.stop i H2 ∧ QQ H2) ∨ (J.go i H2 ∧ ys.length < sizeLine ∧ ∀ x H3, J.yld i H2 x H3 → ∃ N : List V → St → Hp → Prop, (∀ ys' σ' H', N ys' σ' H' → ∃ m', m' < m ∧ W (i + 1) m' ys' σ' H') ∧
      g x σ2 H3 fun σ4 H4 => tc σ4 H4 fun b H5 => if b = true then te σ4 H5 fun y H6 => H6 p = some (.lst ys) ∧ N (ys ++ [y]) σ4 (upd H6 p (.lst (ys ++ [y]))) else N ys σ4 H5))
/-- a list comprehension's reading -/
def tComp (wi : TI) (g : TG) (tc : TT) (te : TE) (own : Nat) (ix : List Nat) : TE := fun σ H Q => wi σ H fun J H1 => ∀ p, H1 p = none → CompW g tc te own ix σ J p H1 (Q (.ref p))

/-- a turn of the loop, the store of the target among it -/
theorem comp_loop {prog : Program} {w : World} {A : Around} {R : Result → Shared → Prop} {s : Shared} {elt target iter : Expr} {ifs : List Expr} {scope : Scope} {pos : Pos} {it acc : Value} {env : Env} (I : Nat → Shared → Prop)
    (turn : ∀ n s, I n s → wpAny (model prog w) A (pyNext it) (fun r s₁ => (r = none ∧ R (.ok .next) s₁) ∨ ∃ v, r = some v ∧
      wpAny (model prog w) A (letOwnedTupleGo target it v) (fun _ s₂ => wpAny (model prog w) A (assign target env v) (fun _ s₃ =>
        wpAny (model prog w) A (forIn ifs true fun c r => if r = true then do let ok ← isTrue c env (eval c env); pure (ForInStep.yield ok) else pure (ForInStep.yield r)) (fun ok s₄ =>
          (ok = true ∧ wpAny (model prog w) A (eval elt env) (fun x s₅ => wpAny (model prog w) A (call (.builtin "list.append") [acc, x]) (fun _ s₆ => ∃ m, m < n ∧ I m s₆) (fun _ _ => False) s₅) (fun _ _ => False) s₄) ∨
          (ok = false ∧ ∃ m, m < n ∧ I m s₄)) (fun _ _ => False) s₃) (fun _ _ => False) s₂) (fun _ _ => False) s₁) (fun _ _ => False) s)
    (n : Nat) (h : I n s) : codeAny (model prog w) A (.compLoop (.ListComp elt [⟨target, iter, ifs, 0⟩] scope pos) 0 it acc env) R s := by
  refine codeAny_loop rfl I (fun n s hI => ?_) n h
  show wpAny _ A ((compTurn (.ListComp elt [⟨target, iter, ifs, 0⟩] scope pos) 0 it acc env).onRaise (fun x => do noteFrame x env; theTreesLotGoes x)) _ _ s
  refine wpAny_noted ?_
  rw [compTurn_list]
  have no : ∀ (e : Value) (s' : Shared), False → notedBy (model prog w) A env (fun e s' => R (.error e) s') e s' := fun _ _ f => f.elim
  refine wpAny_bind (wpAny_standAt (wpAny_bind (wpAny_mono (turn n s hI) (fun r s₁ h₁ => ?_) no)))
  rcases h₁ with ⟨rfl, h₁⟩ | ⟨v, rfl, h₁⟩
  · exact wpAny_pure h₁
  refine wpAny_bind (wpAny_mono h₁ (fun _ s₂ h₂ => ?_) no)
  refine wpAny_bind (wpAny_mono h₂ (fun _ s₃ h₃ => ?_) no)
  refine wpAny_bind (wpAny_mono h₃ (fun ok s₄ h₄ => ?_) no)
  rcases h₄ with ⟨rfl, h₄⟩ | ⟨rfl, h₄⟩
  · refine wpAny_bind (wpAny_bind (wpAny_mono h₄ (fun x s₅ h₅ => ?_) no))
    exact wpAny_bind (wpAny_mono h₅ (fun _ s₆ h₆ => wpAny_pure (wpAny_pure ⟨rfl, h₆⟩)) no)
  · exact wpAny_pure ⟨rfl, h₄⟩

section
variable {X : Cx} {pins : List (Addr × Obj)} {σ : St} {H H' : Hp} {s s' : Shared}
/-- a block's entry: s3 the state with the new list laid, h4 the heap with the block's own names laid behind it -/
theorem block_start {NC own cs : List Str} {ix : List Nat} {scope : Scope} {fp : List Addr} {h4 : Heap} {t4 : Nat} (I : Inv X pins σ H s) (S : CompScope X.env.scope scope) (hN : NC = own ++ cs) (hc : Caps X scope cs ix)
    (hf : ∀ b ∈ fp, FpOk X pins H b) (hl : ∀ b ∈ fp, b < s.heap.objs.size) (hns : h4.Ns s.heap.objs.size fun _ => none) (hk : ∀ b o, s.heap.get? b = some o → h4.get? b = some o) :
    Inv (cxB X NC scope s H fp) [] (capt own.length ix σ) H { s with heap := h4, toks := t4 } := by
  have cs_has : ∀ y ∈ scope.names, y.2 = .free → ∃ c, X.env.cells.lookup y.1 = some c := fun y hy e => I.ok.has y.1 (S.free y hy e)
  have len := hc.len
  refine ⟨⟨I.ok.mod, S.kind, I.ok.glob, I.ok.blt, Nat.le_refl _, fun x y c e1 e2 => I.ok.inj x y c (clo_sub e1) (clo_sub e2), fun x hx => ?_, fun _ _ z => (nomatch z), I.ok.hd, I.ok.frames, .inl rfl, fun b hb => ⟨Nat.ne_of_lt (hl b hb), fun x c e => (hf b hb).2.2.2.2.1 x c (clo_sub e)⟩,
      I.bs, Nat.le_trans I.ok.bsz I.sz, fun b o e hb => ?_, fun b hb z => ?_, I.stack, I.stkFree⟩, rfl, I.bare, Un.kept hk, ⟨_, hns, fun i x v e1 e2 e3 => ?_⟩, fun x c e => ?_, I.hok.fresh (Nat.le_refl _), fun x c e => I.freeC x c (clo_sub e), fun p hp => ?_, I.hok.kept hk, ?_⟩
  · -- a cell for each caught name
    have hx' : (relabel scope X.env).names.lookup x = some .cell ∨ (relabel scope X.env).names.lookup x = some .free := hx
    have q : scope.names.lookup x = some .free := by
      rcases hx' with h | h
      · rcases relabel_look h with h | ⟨_, h⟩
        · exact absurd rfl (S.cell _ (PySem.mem_of_lookup h))
        · exact h
      · rcases relabel_look h with h | ⟨z, _⟩
        · exact h
        · cases z
    obtain ⟨c, hc'⟩ := cs_has (x, .free) (PySem.mem_of_lookup q) rfl
    exact lookup_some_of_mem (clo_has hc' scope.names [] (PySem.mem_of_lookup q))
  · rcases (hf b hb).2.2.2.1 with z | z
    · exact I.ok.noex b o e z
    · exact absurd (Nat.lt_of_lt_of_le (Heap.lt_size e) (Nat.le_trans I.ok.bsz z)) (Nat.lt_irrefl _)
  · rcases List.mem_cons.mp (I.stkSub b z) with z | z
    · exact (hf b hb).2.1 z
    · exact (hf b hb).2.2.1 z
  · -- the caught names' values
    have e1' : (own ++ cs)[i]? = some x := hN ▸ e1
    have hi : own.length ≤ i := by
      by_cases hi : own.length ≤ i
      · exact hi
      · unfold capt at e2
        rw [List.getElem?_append_left (by rw [List.length_replicate]; omega), List.getElem?_replicate, if_pos (by omega)] at e2
        cases e2
    rw [List.getElem?_append_right hi] at e1'
    obtain ⟨j, ej, en, kx, fx⟩ := hc.at e1'
    have e2' : (σ[j]?).getD none = some v := by
      unfold capt at e2
      rw [List.getElem?_append_right (by rw [List.length_replicate]; omega), List.length_replicate, List.getElem?_map, ej] at e2
      exact Option.some.inj e2
    have e2'' : σ[j]? = some (some v) := by
      cases z : σ[j]? with
      | none => rw [z] at e2'; cases e2'
      | some o => rw [z] at e2'; exact congrArg some e2'
    obtain ⟨m, _, hl'⟩ := I.loc
    obtain ⟨u, ru, l⟩ := hl' j x v en e2'' (kx.elim (fun z => .inr (.inl z)) fun z => .inr (.inr z))
    refine ⟨u, ru, .inr ⟨relabel_free fx, ?_⟩⟩
    rcases l with ⟨k, _⟩ | ⟨_, c, e, z⟩
    · rcases kx with k' | k' <;> rw [k] at k' <;> cases k'
    · obtain ⟨d, hd⟩ := lookup_some_of_mem (clo_has e scope.names [] (PySem.mem_of_lookup fx))
      have e' := clo_sub hd
      rw [e] at e'
      cases e'
      obtain ⟨o, ho, dd⟩ := z
      exact ⟨c, hd, o, hk c o ho, dd⟩
  · obtain ⟨v, o, ho, dd⟩ := I.cell x c (clo_sub e)
    exact ⟨v, o, hk c o ho, dd⟩
  · exact absurd (show p ∈ ([] : List (Addr × Obj)) from hp) (by simp)
  · show (capt own.length ix σ).length = NC.length
    rw [hN]
    unfold capt
    rw [List.length_append, List.length_append, List.length_replicate, List.length_map, len]
/-- .. and its end: the frame around it goes on -/
theorem block_end {NC : List Str} {scope : Scope} {fp : List Addr} {σ' : St} {h' : Heap} (I : Inv X pins σ H s) (hf : ∀ b ∈ fp, FpOk X pins H b) (J : Inv (cxB X NC scope s H fp) [] σ' H' s') (hs : Heap.SameBut s.heap.objs.size s'.heap h') : Inv X pins σ H' { s' with heap := h' } := by
  obtain ⟨hh, g, d, t, os⟩ := s'
  have hos : os = s.os := J.os
  subst hos
  have nC : H' s.heap.objs.size = none := J.free
  have un : Un (frs X.stack) fp H H' s.heap hh := J.base
  have out : ∀ b o, s.heap.get? b = some o → b ≠ s.heap.objs.size := fun b o e => Nat.ne_of_lt (Heap.lt_size e)
  have un' : Un (frs X.stack) fp H H' s.heap h' := ⟨fun b o e n hb hx => (hs.2 b (out b o e)).trans (un.keep b o e n hb hx), fun b o e n hb hx => let ⟨sl, q⟩ := un.slot b o e n hb hx; ⟨sl, (hs.2 b (out b o e)).trans q⟩, un.free,
    fun b o e hx => let ⟨o', q⟩ := un.there b o e hx; ⟨o', (hs.2 b (out b o e)).trans q⟩, un.tups, un.frzs, un.tbls⟩
  have hok : HOk X.prog X.w H' h' := fun b u e => by
    refine (J.hok b u e).stay (fun c v hc q => (hs.2 c ?_).trans q) (fun _ q => q) fun _ _ q => q
    rintro rfl
    rcases hc with rfl | hc
    · rw [nC] at e; cases e
    · rw [nC] at hc; cases hc
  have q := Inv.call (s := s) (h' := h') (g' := g) (d' := d) (t' := t) (ch := fp) I un' hok J.bare fun b hb => ⟨(hf b hb).2.2.2.1, (hf b hb).2.1, (hf b hb).2.2.2.2.1, (hf b hb).2.2.2.2.2⟩
  exact q
end
/-- the block from the new list on: what is wanted behind its last turn is told by fin -/
theorem comp_core {X : Cx} {elt tg iter : Expr} {ifs : List Expr} {scope : Scope} {pos : Pos} {NC own cs : List Str} {ix : List Nat} {g : TG} {tc : TT} {te : TE} (hc : X.calm = true) (S : CompScope X.env.scope scope) (hN : NC = own ++ cs) (hcap : Caps X scope cs ix)
    (hg : ∀ s3 H3 fp, PG (cxB X NC scope s3 H3 fp) tg g) (ht : ∀ s3 H3 fp, PTs (cxB X NC scope s3 H3 fp) ifs tc) (he : ∀ s3 H3 fp, PE (cxB X NC scope s3 H3 fp) elt te)
    {pins : List (Addr × Obj)} {σ : St} {H2 : Hp} {s2 : Shared} {it : Addr} {fp : List Addr} {tn : Nat → Heap → Prop} {J : It} (I2 : Inv X pins σ H2 s2) (T : Turn X.prog X.w X.K tg J fp it tn) (st2 : tn 0 s2.heap) (f2 : ∀ b ∈ fp, FpOk X pins H2 b) {QQ : Addr → Hp → Prop} {E : Value → Shared → Prop}
    {RR : Value → Addr → Result → Shared → Prop}
    (h2 : ∀ p, H2 p = none → CompW g tc te own.length ix σ J p H2 (QQ p))
    (fin : ∀ s3 H3 σ5 H5 s6, Inv X pins σ H3 s3 → (∀ b ∈ fp, FpOk X pins H3 b) → Inv (cxB X NC scope s3 H3 fp) [] σ5 H5 s6 → QQ s2.heap.objs.size H5 → RR (.ref s2.heap.objs.size) s3.heap.objs.size (.ok .next) s6) :
    wpAny (model X.prog X.w) X.A (newList []) (fun acc s3 => wpAny (model X.prog X.w) X.A (newFunctionEnv scope X.env.globals (clo X.env.cells scope.names []) [] X.env.qual none .none (some X.env)) (fun cenv s4 =>
      codeAny (model X.prog X.w) X.A (.compStart (.ListComp elt [⟨tg, iter, ifs, 0⟩] scope pos) 0 (.ref it) acc { cenv with scope := relabel scope X.env }) (RR acc cenv.locals) s4) E s3) E s2 := by
  have lt2 : ∀ b ∈ fp, b < s2.heap.objs.size := fun b hb => let ⟨_, e, _⟩ := T.obj _ _ st2 b hb; Heap.lt_size e
  obtain ⟨W, ⟨m0, w0⟩, turn⟩ := h2 _ I2.fresh
  refine wpAny_newObj_type ?_
  have I3 : Inv X pins σ (upd H2 s2.heap.objs.size (.lst [])) { s2 with heap := s2.heap.push { cls := .type "list", dict := none, data := .seq ([] : List Value).toArray } } := I2.lnew (t' := s2.toks) .nil (Nat.zero_le _)
  have f3 : ∀ b ∈ fp, FpOk X pins (upd H2 s2.heap.objs.size (.lst [])) b := fun b hb => ⟨by rw [upd_ne (Nat.ne_of_lt (lt2 b hb))]; exact (f2 b hb).1, (f2 b hb).2⟩
  have st3 : tn 0 (s2.heap.push { cls := .type "list", dict := none, data := .seq ([] : List Value).toArray }) := T.keep _ _ _ st2 fun b hb o e => Heap.get?_push_of_some _ e
  have lt3 : ∀ b ∈ fp, b < (s2.heap.push { cls := .type "list", dict := none, data := .seq ([] : List Value).toArray }).objs.size := fun b hb => by rw [Heap.size_push]; exact Nat.lt_succ_of_lt (lt2 b hb)
  refine wpAny_newFunctionEnv S.cell (fun _ z => nomatch z) (fun h4 hns hsb => ?_) S.kind
  dsimp only at hns hsb ⊢
  have hk4 : ∀ b o, (s2.heap.push { cls := .type "list", dict := none, data := .seq ([] : List Value).toArray }).get? b = some o → h4.get? b = some o := fun b o e =>
    hsb.extBut b o (Nat.ne_of_lt (Heap.lt_size e)) (Heap.get?_push_of_some _ e)
  have J0 := block_start (t4 := s2.toks + ([] : List (Str × Value)).length) I3 S hN hcap f3 lt3 hns hk4
  have st4 : tn 0 h4 := T.keep _ _ _ st3 fun b hb o e => hk4 b o e
  have fB : ∀ {H' : Hp}, (∀ b ∈ fp, H' b = none) → ∀ b ∈ fp, FpOk (cxB X NC scope { s2 with heap := s2.heap.push { cls := .type "list", dict := none, data := .seq ([] : List Value).toArray } } (upd H2 s2.heap.objs.size (.lst [])) fp) [] H' b := fun hn b hb => by
    refine ⟨hn b hb, Nat.ne_of_lt (lt3 b hb), fun z => ?_, .inl hb, fun x c e => (f3 b hb).2.2.2.2.1 x c (clo_sub e), fun p hp => absurd (show p ∈ ([] : List (Addr × Obj)) from hp) (by simp)⟩
    rcases List.mem_cons.mp (I3.stkSub b z) with z | z
    · exact (f3 b hb).2.1 z
    · exact (f3 b hb).2.2.1 z
  have loop : ∀ s4 : Shared, s4 = { s2 with heap := h4, toks := s2.toks + ([] : List (Str × Value)).length } →
      codeAny (model X.prog X.w) X.A (.compLoop (.ListComp elt [⟨tg, iter, ifs, 0⟩] scope pos) 0 (.ref it) (.ref s2.heap.objs.size) (compEnvC scope (clo X.env.cells scope.names []) (s2.heap.push { cls := .type "list", dict := none, data := .seq ([] : List Value).toArray }).objs.size X.env))
        (RR (.ref s2.heap.objs.size) (s2.heap.push { cls := .type "list", dict := none, data := .seq ([] : List Value).toArray }).objs.size) s4 := by
    rintro s4 rfl
    refine comp_loop (fun n s' => ∃ i ys σ' H', Inv (cxB X NC scope { s2 with heap := s2.heap.push { cls := .type "list", dict := none, data := .seq ([] : List Value).toArray } } (upd H2 s2.heap.objs.size (.lst [])) fp) [] σ' H' s' ∧ tn i s'.heap ∧ (∀ b ∈ fp, H' b = none) ∧ W i n ys σ' H') ?_ m0
      ⟨0, [], _, _, J0, st4, fun b hb => (f3 b hb).1, w0⟩
    rintro n s5 ⟨i, ys, σ5, H5, J5, st5, fr5, w5⟩
    obtain ⟨hp5, alt⟩ := turn i n ys σ5 H5 w5
    rcases alt with ⟨stop, qn⟩ | ⟨go, hz, step⟩
    · refine thn (T.done (cxB X NC scope _ _ fp) rfl rfl rfl hc i [] s5 σ5 H5 _ J5 (fB fr5) st5 stop) fun r s6 ⟨hr, J6⟩ => .inl ⟨hr, ?_⟩
      exact fin _ _ _ _ _ I3 f3 J6 qn
    · refine thn (T.item (cxB X NC scope _ _ fp) rfl rfl rfl hc i [] s5 σ5 H5 _ J5 (fB fr5) st5 go) fun r s6 ⟨u, hr, h6⟩ => .inr ⟨u, hr, ?_⟩
      refine thn h6 fun _ s7 ⟨x, H7, J7, r7, y7, st7, fr7⟩ => ?_
      have J7' := J7.pinned (fB fr7) (T.obj _ _ st7)
      obtain ⟨N, hN', q7⟩ := step x H7 y7
      refine thn (hg _ _ fp _ s7 σ5 H7 x u _ J7' r7 q7) fun _ s8 ⟨σ8, H8, J8, q8⟩ => ?_
      refine thn (ht _ _ fp _ s8 σ8 H8 _ J8 q8) fun ok s9 ⟨H9, J9, q9⟩ => ?_
      have again : ∀ {σa : St} {Ha : Hp} {sa : Shared} {ya : List V} {ma : Nat}, Inv (cxB X NC scope { s2 with heap := s2.heap.push { cls := .type "list", dict := none, data := .seq ([] : List Value).toArray } } (upd H2 s2.heap.objs.size (.lst [])) fp) ([] ++ pinsAt fp s7.heap) σa Ha sa → ma < n → W (i + 1) ma ya σa Ha →
          ∃ m, m < n ∧ ∃ i ys σ' H', Inv (cxB X NC scope { s2 with heap := s2.heap.push { cls := .type "list", dict := none, data := .seq ([] : List Value).toArray } } (upd H2 s2.heap.objs.size (.lst [])) fp) [] σ' H' sa ∧ tn i sa.heap ∧ (∀ b ∈ fp, H' b = none) ∧ W i m ys σ' H' := fun {σa Ha sa ya ma} Ja hm wa => by
        refine ⟨ma, hm, i + 1, ya, σa, Ha, Ja.unpinned, T.keep _ _ _ st7 fun b hb o e => (Ja.pin (b, o) (List.mem_append_right _ (List.mem_append_right _ (mem_pinsAt hb e)))).1, fun b hb => ?_, wa⟩
        obtain ⟨o, e, d⟩ := T.obj _ _ st7 b hb
        exact (Ja.pin (b, o) (List.mem_append_right _ (List.mem_append_right _ (mem_pinsAt hb e)))).2.1
      cases ok with
      | false =>
        obtain ⟨m', hm, w'⟩ := hN' _ _ _ (show N ys σ8 H9 from q9)
        exact .inr ⟨rfl, again J9 hm w'⟩
      | true =>
        refine .inl ⟨rfl, thn (he _ _ fp _ s9 σ8 H9 _ J9 q9) fun yv s10 ⟨y, H10, J10, r10, hp10, n10⟩ => ?_⟩
        obtain ⟨m', hm, w'⟩ := hN' _ _ _ n10
        refine thn (mt_append _ s10 σ8 H10 (.ref s2.heap.objs.size) [y] (.ref s2.heap.objs.size) [yv] (fun _ Hz => Hz = upd H10 s2.heap.objs.size (.lst (ys ++ [y]))) J10 rfl (.cons r10 .nil) ⟨_, ys, y, rfl, rfl, hp10, hz, rfl⟩) fun _ s11 ⟨_, H11, J11, _, e11⟩ => ?_
        subst e11
        exact again J11 hm w'
  exact codeAny_compStart_list (loop _ rfl) (T.self X.A 0 _ _ _ st4 (loop _ rfl))
/-- [elt for tg in iter if ..] -/
theorem pe_comp {X : Cx} {elt tg iter : Expr} {ifs : List Expr} {scope : Scope} {pos : Pos} {NC own cs : List Str} {ix : List Nat} {wi : TI} {g : TG} {tc : TT} {te : TE} (hc : X.calm = true) (S : CompScope X.env.scope scope) (hN : NC = own ++ cs) (hcap : Caps X scope cs ix)
    (hi : PI X tg iter wi) (hg : ∀ s3 H3 fp, PG (cxB X NC scope s3 H3 fp) tg g) (ht : ∀ s3 H3 fp, PTs (cxB X NC scope s3 H3 fp) ifs tc) (he : ∀ s3 H3 fp, PE (cxB X NC scope s3 H3 fp) elt te)
    (hs : ∀ x, foldedSetIterable iter X.env x = pure x := by intro _; rfl) : PE X (.ListComp elt [⟨tg, iter, ifs, 0⟩] scope pos) (tComp wi g tc te own.length ix) := by
  intro pins s σ H Q I h
  rw [eval_ListComp]
  have has : ∀ y ∈ scope.names, y.2 = .free → ∃ c, X.env.cells.lookup y.1 = some c := fun y hy e => I.ok.has y.1 (S.free y hy e)
  refine wpAny_comprehension_free (use := none) rfl hs (clo_is has) S.kind S.own (thn (hi pins s σ H _ I h) fun v s1 h1 => thn h1 fun itv s2 h2 => ?_)
  obtain ⟨it, fp, tn, J, H2, e, I2, T, st2, f2, h2⟩ := h2
  subst e
  refine comp_core hc S hN hcap hg ht he I2 T st2 f2 (QQ := fun p => Q (.ref p)) (RR := fun acc C => compPost (model X.prog X.w) X.A X.xe none (EP X pins σ Q) acc C) h2 fun s3 H3 σ5 H5 s6 I3 f3 J6 qn => ?_
  obtain ⟨m6, hn6, _⟩ := J6.loc
  exact ⟨m6, hn6, fun h7 hs7 => ⟨.ref s2.heap.objs.size, H5, block_end I3 f3 J6 hs7, rfl, qn⟩⟩
/-- x = [elt for ..]: the value is stored before the block's names are let go -/
theorem ps_comp {X : Cx} {elt tg iter : Expr} {ifs : List Expr} {scope : Scope} {pos py spos : Pos} {NC own cs : List Str} {ix : List Nat} {wi : TI} {g : TG} {tc : TT} {te : TE} {y : Str} {j : Nat} (hnd : X.N.Nodup) (hj : X.N[j]? = some y) (hy : X.env.scope.names.lookup y = some .local) (hc : X.calm = true) (S : CompScope X.env.scope scope) (hN : NC = own ++ cs) (hcap : Caps X scope cs ix)
    (hi : PI X tg iter wi) (hg : ∀ s3 H3 fp, PG (cxB X NC scope s3 H3 fp) tg g) (ht : ∀ s3 H3 fp, PTs (cxB X NC scope s3 H3 fp) ifs tc) (he : ∀ s3 H3 fp, PE (cxB X NC scope s3 H3 fp) elt te)
    (hsw : swapsWith (.ListComp elt [⟨tg, iter, ifs, 0⟩] scope pos) (some (.Name y py)) spos.line X.env = pure true := by rfl) (hs : ∀ x, foldedSetIterable iter X.env x = pure x := by intro _; rfl) :
    PS X (.Assign [.Name y py] (.ListComp elt [⟨tg, iter, ifs, 0⟩] scope pos) spos) (tAsg (tComp wi g tc te own.length ix) (gName j)) := by
  intro pins s σ H D I h
  rw [exec_Assign_Name_used _ _ _ _ hsw]
  refine wpAny_bind (wpAny_standAt (wpAny_bind ?_))
  show wpAny _ X.A (comprehension (.ListComp elt [⟨tg, iter, ifs, 0⟩] scope pos) scope X.env _ (newList []) false (eval iter X.env) (some (assign (.Name y py) X.env)) >>= fun _ => _) _ _ s
  have has : ∀ y ∈ scope.names, y.2 = .free → ∃ c, X.env.cells.lookup y.1 = some c := fun y hy e => I.ok.has y.1 (S.free y hy e)
  refine wpAny_bind (thn (wpAny_comprehension_free (use := some (assign (.Name y py) X.env)) (Q := fun _ s' => SP X pins D .next s') rfl hs (clo_is has) S.kind S.own (thn (hi pins s σ H _ I h) fun v s1 h1 => thn h1 fun itv s2 h2 => ?_)) fun _ s' hq => wpAny_pure (wpAny_pure hq))
  obtain ⟨it, fp, tn, J, H2, e, I2, T, st2, f2, h2⟩ := h2
  subst e
  refine comp_core hc S hN hcap hg ht he I2 T st2 f2 (QQ := fun p H' => D.nx (σ.set j (some (.ref p))) H') (RR := fun acc C => compPost (model X.prog X.w) X.A X.xe (some (assign (.Name y py) X.env)) (fun _ s' => SP X pins D .next s') acc C) h2 fun s3 H3 σ5 H5 s6 I3 f3 J6 qn => ?_
  obtain ⟨m6, hn6, _⟩ := J6.loc
  have I6 := block_end I3 f3 J6 (Heap.SameBut.refl ..)
  show wpAny _ X.A (assign (.Name y py) X.env (.ref s2.heap.objs.size)) _ _ s6
  refine wpAny_assign_Name (store_ok2 (v := .ref s2.heap.objs.size) I6 hnd hj (.inl hy) rfl (fun s7 I7 ⟨a, hs7, ha⟩ => ?_) (.inr hy))
  have hCa : s3.heap.objs.size ≠ a := by
    rcases ha with ha | ha
    · rw [ha]; exact Ne.symm (Nat.ne_of_lt I3.lt)
    · obtain ⟨v, q⟩ := I3.cell y a ha
      exact Ne.symm (Nat.ne_of_lt q.lt)
  refine ⟨m6, hn6.sameBut hs7 hCa, fun h8 hs8 => ?_⟩
  have nC : H5 s3.heap.objs.size = none := J6.free
  have I8 : Inv X pins (σ.set j (some (.ref s2.heap.objs.size))) H5 { s7 with heap := h8, toks := s7.toks } := by
    refine I7.turned (it := s3.heap.objs.size) (fun b o hb e => (hs8.2 b hb).trans e) nC (Ne.symm (Nat.ne_of_lt I3.lt)) (.inr I3.sz) (fun x c e z => ?_) (fun p hp z => ?_)
    · obtain ⟨v, q⟩ := I3.cell x c e
      exact absurd (z ▸ q.lt) (Nat.lt_irrefl _)
    · exact absurd (z ▸ Heap.lt_size (I3.pin p hp).1) (Nat.lt_irrefl _)
  exact ⟨_, H5, I8, qn⟩
end L2

namespace L2
open PySem PySem.Spec PyProof.Rows

/-! ### isinstance -/
theorem call_isinst {X : Cx} : CallR X (.builtin "isinstance") (fun xs H Q => ∃ x c cv t b, xs = [x, c] ∧ (∀ u, RelV c u → u = cv) ∧ TyOf X.K H x t ∧ PySem.W.kitOne X.K t cv = some b ∧ Q (.bl b) H) := by
  intro pins s σ H xs us Q I r h
  obtain ⟨x, c, cv, t, b, rfl, hc, ty, e, q⟩ := h
  obtain ⟨u, z, rfl, rx, rc⟩ := vals2 r
  cases hc z rc
  exact isinst_ok I rx ty e fun tk => ⟨.bl b, H, I.tok tk, rfl, q⟩
theorem ty_is {n : String} : ∀ u, RelV (.ty n) u → u = .type n := fun _ h => h

/-! ### sum -/
theorem call_sum {X : Cx} (hc : X.calm = true) : CallR X (.builtin "sum") (fun xs H Q => ∃ p, ∃ ns : List Int, xs = [.ref p] ∧ SqL X.K H p (ns.map V.int) ∧ Q (.int ns.sum) H) := by
  intro pins s σ H xs us Q I r h
  obtain ⟨p, ns, rfl, hq, q⟩ := h
  obtain ⟨u, rfl, rx⟩ := vals1 r
  cases rx
  obtain ⟨its, rv, pl, hz⟩ := I.list hq
  have hi : IntsAre its ns := intsAre_of rv
  obtain ⟨ys, ey⟩ := hi.allInts.items
  have hl : s.heap.IsList p (intItems ys) := ey ▸ pl.isList
  have es : preSum (numAt ys) ys.size = ns.sum := by
    have e1 := hi.numsOf
    have e2 : numsOf (intItems ys).toList = ns := by rw [← ey]; exact e1
    rw [nums_intItems] at e2
    rw [preSum_eq, List.take_of_length_le (by simp), e2]
  refine sum_intListG (I.ok.hd hc) hl fun h' tk t' hk => ?_
  exact ⟨.int ns.sum, H, I.kept hk, ⟨t', by rw [es]⟩, q⟩

/-! ### == and != of lists of flat items -/
def eqL : List V → List V → Bool
  | [], [] => true
  | x :: xs, y :: ys => eqV x y && eqL xs ys
  | _, _ => false
theorem eqL_len : ∀ {xs ys : List V}, xs.length ≠ ys.length → eqL xs ys = false
  | [], [], h => absurd rfl h
  | [], _ :: _, _ => rfl
  | _ :: _, [], _ => rfl
  | x :: xs, y :: ys, h => by
    unfold eqL
    rw [eqL_len (xs := xs) (ys := ys) fun e => h (by rw [List.length_cons, List.length_cons, e]), Bool.and_false]
theorem eqL_all : ∀ {xs ys : List V}, xs.length = ys.length → ∀ e : Nat → Bool, (∀ j x y, xs[j]? = some x → ys[j]? = some y → e j = eqV x y) → (List.range xs.length).all e = eqL xs ys
  | [], [], _, _, _ => rfl
  | [], _ :: _, h, _, _ => by simp at h
  | _ :: _, [], h, _, _ => by simp at h
  | x :: xs, y :: ys, h, e, he => by
    have ih := eqL_all (xs := xs) (ys := ys) (by simpa using h) (fun j => e (j + 1)) fun j a b ha hb => he (j + 1) a b (by simpa using ha) (by simpa using hb)
    unfold eqL
    rw [List.length_cons, List.range_succ_eq_map, List.all_cons, List.all_map, he 0 x y rfl rfl, ← ih]
    rfl
def eqAtJ (its js : List Value) (xs ys : List V) (j : Nat) : Bool := match xs[j]?, ys[j]? with
  | some x, some y => eqV x y
  | _, _ => true
theorem lists_at {X : Cx} {pins : List (Addr × Obj)} {s : Shared} {σ : St} {H : Hp} {A : Around} {xs ys : List V} {its js : List Value} (r1 : Vals xs its) (r2 : Vals ys js) (f1 : xs.all flatV = true) (f2 : ys.all flatV = true) (hl : xs.length = ys.length) :
    ∀ j (h1 : j < its.toArray.size) (h2 : j < js.toArray.size), SeqAt.EqAt A s its.toArray[j] js.toArray[j] (eqAtJ its js xs ys j) := fun j h1 h2 => by
  have l1 := r1.length
  have l2 := r2.length
  rw [List.size_toArray] at h1 h2
  have e1 : xs[j]? = some xs[j] := List.getElem?_eq_getElem (by omega)
  have e2 : ys[j]? = some ys[j] := List.getElem?_eq_getElem (by omega)
  obtain ⟨u, hu, ru⟩ := r1.get e1
  obtain ⟨v, hv, rv⟩ := r2.get e2
  have eu : its.toArray[j] = u := by rw [List.getElem_toArray]; exact (List.getElem?_eq_some_iff.mp hu).2
  have ev : js.toArray[j] = v := by rw [List.getElem_toArray]; exact (List.getElem?_eq_some_iff.mp hv).2
  rw [eu, ev]
  unfold eqAtJ
  rw [e1, e2]
  exact eqAt_V ru rv (List.all_eq_true.mp f1 _ (List.getElem_mem _)) (List.all_eq_true.mp f2 _ (List.getElem_mem _))
def rEqL (K : PySem.W.Frag) (neg : Bool) : R2 := fun x y H Q => ∃ a b xs ys, x = .ref a ∧ y = .ref b ∧ SqL K H a xs ∧ SqL K H b ys ∧ xs.all flatV = true ∧ ys.all flatV = true ∧ Q (.bl (if neg then !eqL xs ys else eqL xs ys)) H
theorem op_eqL {X : Cx} (hu : X.A.units < cLine) : OpR X (compareOp .Eq) (rEqL X.K false) := by
  intro pins s σ H x y v u Q I rx ry h
  obtain ⟨a, b, xs, ys, rfl, rfl, h1, h2, f1, f2, q⟩ := h
  cases rx
  cases ry
  obtain ⟨its, r1, p1, z1⟩ := I.list h1
  obtain ⟨js, r2, p2, z2⟩ := I.list h2
  have l1 := r1.length
  have l2 := r2.length
  by_cases hl : xs.length = ys.length
  · refine SeqAt.eq_listAt p1.isList p2.isList (by rw [List.size_toArray, List.size_toArray]; omega) hu (lists_at (X := X) (pins := pins) (σ := σ) (H := H) r1 r2 f1 f2 hl) ?_
    refine ⟨.bl (eqL xs ys), H, I, ?_, q⟩
    show Value.bool _ = Value.bool _
    rw [List.size_toArray, ← l1, eqL_all hl]
    intro j x y e1 e2
    unfold eqAtJ
    rw [e1, e2]
  · refine SeqAt.eq_list_lengthsAt p1.isList p2.isList (by simp only [List.size_toArray, bne_iff_ne, ne_eq]; omega) hu ?_
    exact ⟨.bl (eqL xs ys), H, I, by rw [eqL_len hl]; rfl, q⟩
theorem op_neL {X : Cx} (hu : X.A.units < cLine) : OpR X (compareOp .NotEq) (rEqL X.K true) := by
  intro pins s σ H x y v u Q I rx ry h
  obtain ⟨a, b, xs, ys, rfl, rfl, h1, h2, f1, f2, q⟩ := h
  cases rx
  cases ry
  obtain ⟨its, r1, p1, z1⟩ := I.list h1
  obtain ⟨js, r2, p2, z2⟩ := I.list h2
  have l1 := r1.length
  have l2 := r2.length
  by_cases hl : xs.length = ys.length
  · refine (SeqAt.RcNeAt.lists p1.isList p2.isList (by rw [List.size_toArray, List.size_toArray]; omega) hu (lists_at (X := X) (pins := pins) (σ := σ) (H := H) r1 r2 f1 f2 hl) : SeqAt.RcNeAt X.A s _ _ _) X.prog X.w _ _ ?_
    refine ⟨.bl (!eqL xs ys), H, I, ?_, q⟩
    show Value.bool _ = Value.bool _
    rw [List.size_toArray, ← l1, eqL_all hl]
    intro j x y e1 e2
    unfold eqAtJ
    rw [e1, e2]
  · refine (SeqAt.RcNeAt.lists_lengths p1.isList p2.isList (by simp only [List.size_toArray, bne_iff_ne, ne_eq]; omega) hu : SeqAt.RcNeAt X.A s _ _ _) X.prog X.w _ _ ?_
    exact ⟨.bl (!eqL xs ys), H, I, by rw [eqL_len hl]; rfl, q⟩

/-! ### xs[::-1] -/

/-! ### xs.count(x) -/

/-! ### comprehensions over ranges and lists, by a word over the turn, the list so far, the heap -/
abbrev caps (ix : List Nat) (σ : St) : St := ix.map fun j => (σ[j]?).getD none
theorem comp_range {lo : Int} {n : Nat} {tc : TT} {te : TE} {σ : St} {ix : List Nat} {QQ : Hp → Prop} {H1 : Hp} {p : Addr} (Pv : Nat → List V → Hp → Prop) (h0 : Pv 0 [] (upd H1 p (.lst [])))
    (hp : ∀ i ys H, i ≤ n → Pv i ys H → H p = some (.lst ys) ∧ ys.length ≤ i) (hn : n ≤ sizeLine)
    (hs : ∀ i ys H, i < n → Pv i ys H → tc (some (.int (lo + i)) :: caps ix σ) H fun b H5 => if b = true then te (some (.int (lo + i)) :: caps ix σ) H5 fun y H6 => H6 p = some (.lst ys) ∧
      (some (.int (lo + i)) :: caps ix σ) = (some (.int (lo + i)) :: caps ix σ) ∧ Pv (i + 1) (ys ++ [y]) (upd H6 p (.lst (ys ++ [y]))) else (some (.int (lo + i)) :: caps ix σ) = (some (.int (lo + i)) :: caps ix σ) ∧ Pv (i + 1) ys H5)
    (hd : ∀ ys H, Pv n ys H → QQ H) :
    CompW (gName 0) tc te 1 ix σ (Itr lo n) p H1 QQ := by
  refine ⟨fun i m ys σ2 H2 => m = n - i ∧ i ≤ n ∧ (∃ o, σ2 = o :: caps ix σ) ∧ Pv i ys H2, ⟨n, by simp, Nat.zero_le _, ⟨none, rfl⟩, h0⟩, ?_⟩
  rintro i m ys σ2 H2 ⟨rfl, hi, ⟨o, rfl⟩, pv⟩
  obtain ⟨hp2, hl2⟩ := hp i ys H2 hi pv
  refine ⟨hp2, ?_⟩
  by_cases hlt : i < n
  · refine .inr ⟨hlt, by omega, fun x H3 y => ?_⟩
    obtain ⟨e, y⟩ := y
    subst e y
    exact ⟨fun ys' σ' H' => σ' = (some (.int (lo + i)) :: caps ix σ) ∧ Pv (i + 1) ys' H', fun ys' σ' H' ⟨e, q⟩ => ⟨n - (i + 1), by omega, rfl, hlt, ⟨_, e⟩, q⟩, hs i ys _ hlt pv⟩
  · have e : i = n := by omega
    subst e
    exact .inl ⟨Nat.le_refl _, hd ys H2 pv⟩
theorem comp_list {K : PySem.W.Frag} {a : Addr} {xs : List V} {tc : TT} {te : TE} {σ : St} {ix : List Nat} {QQ : Hp → Prop} {H1 : Hp} {p : Addr} (Pv : Nat → List V → Hp → Prop) (h0 : Pv 0 [] (upd H1 p (.lst [])))
    (hp : ∀ i ys H, i ≤ xs.length → Pv i ys H → H p = some (.lst ys) ∧ ys.length ≤ i ∧ SqL K H a xs) (hn : xs.length ≤ sizeLine)
    (hs : ∀ i x ys H, xs[i]? = some x → Pv i ys H → tc (some x :: caps ix σ) H fun b H5 => if b = true then te (some x :: caps ix σ) H5 fun y H6 => H6 p = some (.lst ys) ∧
      (some x :: caps ix σ) = (some x :: caps ix σ) ∧ Pv (i + 1) (ys ++ [y]) (upd H6 p (.lst (ys ++ [y]))) else (some x :: caps ix σ) = (some x :: caps ix σ) ∧ Pv (i + 1) ys H5)
    (hd : ∀ ys H, Pv xs.length ys H → QQ H) :
    CompW (gName 0) tc te 1 ix σ (Itl K a) p H1 QQ := by
  refine ⟨fun i m ys σ2 H2 => m = xs.length - i ∧ i ≤ xs.length ∧ (∃ o, σ2 = o :: caps ix σ) ∧ Pv i ys H2, ⟨xs.length, by simp, Nat.zero_le _, ⟨none, rfl⟩, h0⟩, ?_⟩
  rintro i m ys σ2 H2 ⟨rfl, hi, ⟨o, rfl⟩, pv⟩
  obtain ⟨hp2, hl2, hq2⟩ := hp i ys H2 hi pv
  refine ⟨hp2, ?_⟩
  by_cases hlt : i < xs.length
  · refine .inr ⟨⟨xs, xs[i], hq2, by simp [hlt]⟩, by omega, fun x H3 y => ?_⟩
    obtain ⟨e, y⟩ := y
    subst e
    exact ⟨fun ys' σ' H' => σ' = (some x :: caps ix σ) ∧ Pv (i + 1) ys' H', fun ys' σ' H' ⟨e, q⟩ => ⟨xs.length - (i + 1), by omega, rfl, hlt, ⟨_, e⟩, q⟩, hs i x ys _ (y xs hq2) pv⟩
  · have e : i = xs.length := by omega
    subst e
    exact .inl ⟨⟨xs, hq2, Nat.le_refl _⟩, hd ys H2 pv⟩
end L2

namespace L2
open PySem PySem.Spec PyProof.Rows

/-! ### a def of the text with its promise, in one -/
structure Cal (P : Program) (w : World) (K : PySem.W.Frag) (mg : Str → Option Value) (base : Heap) (k : Nat) (x : Str) (ps : List Str) (sp : Sp) : Prop where
  ex : ∃ f fd, FnOk P w K mg base CX0 k f fd ps sp ∧ Binds K fd ps [] ∧ PySem.W.keepIn K (.ref f) = true ∧ mg x = some (.ref f)
theorem pe_callC {X : Cx} {k : Nat} {x : Str} {ps : List Str} {sp : Sp} {e : Expr} {es : List Expr} {p pos : Pos} {t : TA} (C : Cal X.prog X.w X.K X.mg X.base k x ps sp) (hr : Room k X.A) (hg : Gl X x) (ha : PA X (e :: es) t)
    (hdb : (x == ("__debug__" : Str)) = false := by decide) (he : starEach (e :: es) X.env = (false, eval e X.env) :: starEach es X.env := by rfl) (hpl : (backTo pos (starEach es X.env)).any (·.1) = false := by rfl) :
    PE X (.Call (.Name x p) (e :: es) [] pos) (tCall sp [] E0 t) := by
  obtain ⟨f, fd, F, b, kp, hm⟩ := C.ex
  exact pe_call F hr hg hm kp b .nil pass0 ha hdb he hpl
/-- a def as it stands behind the top: how it binds, its name -/
structure Def (K : PySem.W.Frag) (mg : Str → Option Value) (x : Str) (st : Stmt) (ps : List Str) : Prop where
  ex : ∃ f fd, Fun K x x st f fd ∧ Binds K fd ps [] ∧ mg x = some (.ref f)
theorem Def.cal {P : Program} {w : World} {K : PySem.W.Frag} {mg : Str → Option Value} {base : Heap} {k : Nat} {x : Str} {st : Stmt} {ps : List Str} {sp : Sp} (D : Def K mg x st ps) (h : ∀ f fd, Fun K x x st f fd → FnOk P w K mg base CX0 k f fd ps sp) : Cal P w K mg base k x ps sp := by
  obtain ⟨f, fd, F, b, m⟩ := D.ex
  exact ⟨f, fd, h f fd F, b, F.kp, m⟩
/-- a module's constant -/
def GInt (mg : Str → Option Value) (x : Str) (i : Int) : Prop := ∃ t, mg x = some (.int i t)
def GStr (mg : Str → Option Value) (x : Str) (z : Str) : Prop := ∃ t, mg x = some (.str z t)
theorem pe_gint {X : Cx} {x : Str} {i : Int} {pos : Pos} (h : GInt X.mg x i) (hg : Gl X x) (hd : (x == ("__debug__" : Str)) = false := by decide) : PE X (.Name x pos) (tC (.int i)) := by
  obtain ⟨t, e⟩ := h
  exact pe_glob hg e ⟨t, rfl⟩ hd
theorem pe_gstr {X : Cx} {x : Str} {i : Str} {pos : Pos} (h : GStr X.mg x i) (hg : Gl X x) (hd : (x == ("__debug__" : Str)) = false := by decide) : PE X (.Name x pos) (tC (.str i)) := by
  obtain ⟨t, e⟩ := h
  exact pe_glob hg e ⟨t, rfl⟩ hd
/-- a built-in type's name -/
theorem pe_ty {X : Cx} {x : Str} {pos : Pos} (T : String) (hg : Gl X x) (hm : X.mg x = none) (hv : bootBuiltins x = some (.type T)) (hn : x ≠ "__name__" := by decide) (hd : (x == ("__debug__" : Str)) = false := by decide) : PE X (.Name x pos) (tC (.ty T)) :=
  pe_bltn (v := .ty T) hg hm hv rfl hn hd
/-- the rules that name the fragment, with it told (a block's reading may not name the block's context) -/
theorem ix_listK {X : Cx} {K : PySem.W.Frag} (h : X.K = K) : IxR X (rIxL K) := h ▸ ix_list
theorem same_new {H : Hp} {p : Addr} (h : H p = none) (o : HO) : Same H (upd H p o) := fun b u q => by rw [upd_ne (ne_of_none q h)]; exact q
theorem le_line {n : Nat} (h : n ≤ 1000) : n ≤ sizeLine := Nat.le_of_lt (small1000 h)
/-- an item of a list of ints -/
theorem at_int {ns : List Int} {i : Nat} {n : Int} (h : ns[i]? = some n) : atI (ns.map V.int) (i : Int) = some (.int n) := atI_nat (by rw [List.getElem?_map, h]; rfl)
theorem at_intI {ns : List Int} {i : Int} (h0 : 0 ≤ i) (h : i < ns.length) : atI (ns.map V.int) i = some (.int (ns.getD i.toNat 0)) := by
  have e : ((i.toNat : Nat) : Int) = i := by omega
  have q := at_int (ns := ns) (i := i.toNat) (n := ns.getD i.toNat 0) (by rw [List.getElem?_eq_getElem (by omega), List.getD_eq_getElem?_getD, List.getElem?_eq_getElem (by omega)]; rfl)
  rw [e] at q
  exact q
theorem item_int {ns : List Int} {i : Nat} {y : V} (h : (ns.map V.int)[i]? = some y) : ∃ n, ns[i]? = some n ∧ y = .int n := by
  rw [List.getElem?_map] at h
  cases e : ns[i]? with
  | none => rw [e] at h; cases h
  | some n => rw [e] at h; exact ⟨n, rfl, (Option.some.inj h).symm⟩
theorem ix_of {n : Nat} {k : Int} (h0 : 0 ≤ k) (h : k < n) : ixN n k = some k.toNat := by
  unfold ixN
  first
    | (rw [if_pos h0, if_pos h]; done)
    | (simp [h0, h]; done)
    | (simp [h0, h]; omega)
theorem room_u {k : Nat} {A : Around} (hr : Room k A) : A.units < cLine := hr.units0
example : bootBuiltins "int" = some (.type "int") := by rfl
end L2

namespace L2
open PySem PySem.Spec PyProof.Rows

/-! ### enumerate(xs), its pairs unpacked by the target -/
def Ite (K : PySem.W.Frag) (a : Addr) : It :=
  ⟨fun i H => ∃ xs x, SqL K H a xs ∧ xs[i]? = some x,
   fun i H x H' => ∃ t y, x = .ref t ∧ H t = none ∧ (∀ xs, SqL K H a xs → xs[i]? = some y) ∧ H' = upd H t (.tup [.int i, y]),
   fun i H => ∃ xs, SqL K H a xs ∧ xs.length ≤ i⟩
theorem turn_enum {P : Program} {w : World} {K : PySem.W.Frag} {elts : List Expr} {k : Nat} {tp : Pos} (a e it : Addr) (hei : e ≠ it) :
    Turn P w K (.Tuple elts k tp) (Ite K a) [e, it] e (fun i h => (∃ old, IsEnum h e it i old) ∧ h.IsListIter it a i) where
  mem := by simp
  obj := fun i h st b hb => by
    obtain ⟨⟨old, he⟩, o, ho, c, d⟩ := st
    rcases List.mem_cons.mp hb with rfl | hb
    · exact ⟨_, he, fun v z => by
        have z' : Data.fields _ = Data.cell v := z
        cases z'⟩
    · have eb : b = it := by simpa using hb
      subst eb
      exact ⟨o, ho, fun v z => by rw [d] at z; cases z⟩
  keep := fun i h h' st kk => by
    obtain ⟨⟨old, he⟩, hit⟩ := st
    exact ⟨⟨old, kk e (by simp) _ he⟩, hit.at fun o x => kk it (by simp) o x⟩
  item := by
    intro X hP hw hK hc i pins s σ H E I hf st hg
    subst hP hw hK
    obtain ⟨⟨old, he⟩, hit⟩ := st
    obtain ⟨xs, x, hq, hx⟩ := hg
    obtain ⟨its, rv, p, hz⟩ := I.list hq
    obtain ⟨u, hu, ru⟩ := rv.get hx
    obtain ⟨e0, e1, e2, e3, e4, e5⟩ := hf e (by simp)
    obtain ⟨i0, i1, i2, i3, i4, i5⟩ := hf it (by simp)
    refine wpAny_pyNext_enum_item he hit p.isList (x := u) (by simpa using hu) hei fun h1 ho hit1 hT hsz hk => ⟨_, rfl, ?_⟩
    refine wpAny_letOwnedTupleGo_enum ho fun h2 he2 hs2 => ?_
    have hs2' : Heap.SameBut e h1 h2 := hs2
    have helt : e < s.heap.objs.size := Heap.lt_size he
    have hnT : H s.heap.objs.size = none := I.hok.fresh (Nat.le_refl _)
    have up : ∀ b o, b ≠ e → b ≠ it → s.heap.get? b = some o → h2.get? b = some o := fun b o h3 h4 q => (hs2'.2 b h3).trans (hk b o h3 h4 q)
    have nch : ∀ b, b ∉ [e, it] → b ≠ e ∧ b ≠ it := fun b hb => ⟨fun z => hb (by simp [z]), fun z => hb (by simp [z])⟩
    have ntr : ∀ b o, H b = some o → b ≠ e ∧ b ≠ it := fun b o q => ⟨fun z => by (rw [z, e0] at q; cases q), fun z => by (rw [z, i0] at q; cases q)⟩
    have htup : h2.get? s.heap.objs.size = some { cls := .type "tuple", data := .seq #[.int i s.toks, u] } := (hs2'.2 _ (Nat.ne_of_gt helt)).trans hT
    have I1 : Inv X pins σ (upd H s.heap.objs.size (.tup [.int i, x])) { s with heap := h2, gens := s.gens, drawn := s.drawn, toks := s.toks + 1 } := by
      refine I.step (ch := [e, it]) (fun b hb => ?_) (fun b o _ _ hb q _ => up b o (nch b hb).1 (nch b hb).2 q) (fun b o _ _ hb q _ => ⟨o.slots, up b o (nch b hb).1 (nch b hb).2 q⟩) (fun b o _ q n => by rw [upd_ne (Nat.ne_of_lt (Heap.lt_size q))]; exact n)
        (fun b o hb q => ⟨o, up b o (nch b hb).1 (nch b hb).2 q⟩) (fun b xs q => by rw [upd_ne (ne_of_none q hnT)]; exact q) (fun b o u q => by rw [upd_ne (ne_of_none q hnT)]; exact q) (fun b ps q => ⟨#[], by rw [upd_ne (ne_of_none q hnT), q]; simp⟩)
        (fun m hm => ?_) (fun b o q => ?_) I.bare
      · rcases List.mem_cons.mp hb with rfl | hb
        · exact ⟨e3, e1, e4, e5⟩
        · have eb : b = it := by simpa using hb
          subst eb
          exact ⟨i3, i1, i4, i5⟩
      · obtain ⟨o, es, ep, hoL, r⟩ := hm
        exact ⟨o, es, ep, up _ o (Ne.symm e1) (Ne.symm i1) hoL, r⟩
      · by_cases hb : b = s.heap.objs.size
        · subst hb
          rw [upd_same] at q
          cases q
          exact ⟨le_line (by show 2 ≤ 1000; decide), [.int i s.toks, u], .cons ⟨_, rfl⟩ (.cons ru .nil), _, htup, rfl, _, rfl⟩
        · rw [upd_ne hb] at q
          refine (I.hok b o q).stay (fun c v hc2 q2 => ?_) (fun c q2 => by rw [upd_ne (ne_of_none q2 hnT)]; exact q2) (fun c xs q2 => by rw [upd_ne (ne_of_none q2 hnT)]; exact q2)
          rcases hc2 with rfl | hc2
          · exact up _ v (ntr _ _ q).1 (ntr _ _ q).2 q2
          · exact up _ v (ntr _ _ hc2).1 (ntr _ _ hc2).2 q2
    refine ⟨.ref s.heap.objs.size, _, I1, rfl, ⟨_, x, rfl, hnT, fun ys hy => by rw [I.list_inj hy hq]; exact hx, rfl⟩, ⟨⟨u, ?_⟩, ?_⟩, fun b hb => ?_⟩
    · have ei : ((i + 1 : Nat) : Int) = (i : Int) + 1 := by omega
      rw [ei]
      exact he2
    · exact hit1.at fun o q => (hs2'.2 it hei.symm).trans q
    · have hbl : b < s.heap.objs.size := by
        rcases List.mem_cons.mp hb with rfl | hb
        · exact helt
        · have eb : b = it := by simpa using hb
          subst eb
          obtain ⟨o, q, _⟩ := hit
          exact Heap.lt_size q
      rw [upd_ne (Nat.ne_of_lt hbl)]
      exact (hf b hb).1
  done := by
    intro X hP hw hK hc i pins s σ H E I hf st hg
    subst hP hw hK
    obtain ⟨⟨old, he⟩, hit⟩ := st
    obtain ⟨xs, hq, hx⟩ := hg
    obtain ⟨its, rv, p, hz⟩ := I.list hq
    obtain ⟨i0, i1, i2, i3, i4, i5⟩ := hf it (by simp)
    have hl := rv.length
    exact wpAny_pyNext_enum_end (I.ok.hd hc) he hit p.isList (by simp; omega) fun h' eb => ⟨rfl, I.turned (t' := s.toks) (fun b o hb q => eb b o hb q) i0 i1 i3 i4 i5⟩
  self := fun _ _ _ _ _ st h => by
    obtain ⟨⟨old, he⟩, _⟩ := st
    exact wpAny_pyIter_enum he h
def iEnum (K : PySem.W.Frag) (ta : TA) : TI := fun σ H R => ta σ H fun vs H1 => ∃ a, vs = [.ref a] ∧ (∃ xs, SqL K H1 a xs) ∧ R (Ite K a) H1
theorem pi_enum {X : Cx} {a : Expr} {ta : TA} {p pos tp : Pos} {elts : List Expr} {k : Nat} (hg : Gl X "enumerate") (hm : X.mg "enumerate" = none) (ha : PA X [a] ta) (hs : starEach [a] X.env = [(false, eval a X.env)] := by rfl) :
    PI X (.Tuple elts k tp) (.Call (.Name "enumerate" p) [a] [] pos) (iEnum X.K ta) := by
  intro pins s σ H R I h
  refine Call_ (ld_blt I hg hm (show bootBuiltins "enumerate" = some (.type "enumerate") from rfl) (PyProof.Rows.callWith_type1 (thn (ha pos pins s σ H _ I h) fun us s1 ⟨vs, H1, I1, r1, q1⟩ => ?_) hs rfl))
  obtain ⟨a, ev, ⟨xs, hq⟩, q⟩ := q1
  subst ev
  obtain ⟨u, rfl, rx⟩ := vals1 r1
  cases rx
  obtain ⟨its, rv, pl, hz⟩ := I1.list hq
  refine call_enumerate_list pl.isList fun h' he hit hsz hk => ?_
  refine wpAny_pyIter_enum he ?_
  have I2 : Inv X pins σ H1 { s1 with heap := h' } := I1.kept (t' := s1.toks) hk
  refine ⟨_, [s1.heap.objs.size + 1, s1.heap.objs.size], _, _, H1, rfl, I2, turn_enum a _ _ (Nat.succ_ne_self _), ⟨⟨_, he⟩, hit⟩, fun b hb => ?_, q⟩
  rcases List.mem_cons.mp hb with rfl | hb
  · exact I1.fpOk (Nat.le_succ _) (I1.hok.fresh (Nat.le_succ _))
  · have eb : b = s1.heap.objs.size := by simpa using hb
    subst eb
    exact I1.fpOk (Nat.le_refl _) (I1.hok.fresh (Nat.le_refl _))
theorem pg_tupK {X : Cx} {K : PySem.W.Frag} {es : List Expr} {k : Nat} {t : TGs} {n : Nat} {pos : Pos} (hK : X.K = K) (hc : X.calm = true) (h : PGs X es t)
    (hn : (assignEach es X.env).length = n := by rfl) (hst : (assignEach es X.env).findIdx? (·.1) = none := by rfl) : PG X (.Tuple es k pos) (gTup K n t) := hK ▸ pg_tup hc h hn hst
end L2

namespace L2
open PySem PySem.Spec PyProof.Rows
/-! ### a method, a class of the text with their promises, in one -/
structure MCal (P : Program) (w : World) (K : PySem.W.Frag) (mg : Str → Option Value) (base : Heap) (k : Nat) (C : Addr) (m : Str) (ps : List Str) (sp : Sp) : Prop where
  ex : ∃ f fd, FnOk P w K mg base CX0 k f fd ps sp ∧ Binds K fd ps [] ∧ Meth K C m f
  cl : Cls K C
theorem pe_methC {X : Cx} {k : Nat} {C : Addr} {m : Str} {ps : List Str} {sp : Sp} {e o : Expr} {es : List Expr} {apos pos : Pos} {ta : TE} {t : TA} {pl : Sem Bool} (M : MCal X.prog X.w X.K X.mg X.base k C m ps sp) (hr : Room k X.A) (he : PE X o ta) (ha : PA X (e :: es) t)
    (hst : starEach (e :: es) X.env = (false, eval e X.env) :: starEach es X.env := by rfl) (hpl : (backTo pos (starEach es X.env)).any (·.1) = false := by rfl)
    (ht : eval (.Call (.Attribute o m apos) (e :: es) [] pos) X.env = (do
      let ov ← eval o X.env
      standAt apos.atName
      let (f, first) ← holding [ov] (getMethod ov m pl)
      callWith pos f first (backTo pos (starEach (e :: es) X.env)) (backToKw pos (keywordEach [] X.env))) := by rfl) :
    PE X (.Call (.Attribute o m apos) (e :: es) [] pos) (tMeth C m sp [] E0 ta t) := by
  obtain ⟨f, fd, F, b, hm⟩ := M.ex
  exact pe_meth he M.cl hm F hr b .nil pass0 ha hst hpl ht
structure KCal (P : Program) (w : World) (K : PySem.W.Frag) (mg : Str → Option Value) (base : Heap) (k : Nat) (x : Str) (C : Addr) (ps : List Str) (sp : Sp) : Prop where
  ex : ∃ f fd, Mk K C f ∧ FnOk P w K mg base CX0 k f fd ps sp ∧ Binds K fd ps [] ∧ mg x = some (.ref C)
theorem pe_makeC {X : Cx} {k : Nat} {x : Str} {C : Addr} {ps : List Str} {sp : Sp} {e : Expr} {es : List Expr} {p pos : Pos} {t : TA} (M : KCal X.prog X.w X.K X.mg X.base k x C ps sp) (hr : Room (k + 1) X.A) (hg : Gl X x) (ha : PA X (e :: es) t)
    (hdb : (x == ("__debug__" : Str)) = false := by decide) (he : starEach (e :: es) X.env = (false, eval e X.env) :: starEach es X.env := by rfl) (hpl : (backTo pos (starEach es X.env)).any (·.1) = false := by rfl) :
    PE X (.Call (.Name x p) (e :: es) [] pos) (tMake C sp [] E0 t) := by
  obtain ⟨f, fd, mk, F, b, hm⟩ := M.ex
  exact pe_make mk F hr hg hm b .nil pass0 ha hdb he hpl
end L2

namespace L2
open PySem PySem.Spec PyProof.Rows
/-! ### range(lo, hi) of any ints -/
/-! ### min(xs) of ints: one of them -/
end L2

namespace L2
open PySem PySem.Spec PyProof.Rows

/-! ### exceptions of own classes: how one lies, flies, is caught -/
section
variable {X : Cx} {pins : List (Addr × Obj)} {σ : St} {H H' : Hp} {s : Shared} {h' : Heap}


end

/-! ### behind a call that raised -/
section
variable {X : Cx} {k : Nat} {f : Addr} {fd : FuncData} {ps : List Str} {sp : Sp} {x : Str} {p pos : Pos} {e : Expr} {es : List Expr} {t : TA} {W : St → XK}
end

/-! ### raise C(..) -/

/-! ### try: one clause, an own class -/
section
variable {X : Cx} {pins pins' pn : List (Addr × Obj)} {σ : St} {H : Hp} {s : Shared} {E : Value → Shared → Prop} {e : Addr}

end

section
variable {X : Cx} {x n : Str} {Ch : Addr} {i : Nat} {body suite : List Stmt} {b₀ : Stmt} {tb : (St → XK) → TS} {ts : TS} {np hpos pos : Pos}
end
end L2

namespace L2
open PySem PySem.Spec PyProof.Rows
/-! ### defs that may be called while an exception is handled (nothing in them walks or raises) -/
structure RoomB (k : Nat) (A : Around) : Prop where
  dp : A.depth + 3 * k + 5 < recursionLimit
  un : A.units + 16 * k + 200 < cLine
structure FnOkH (P : Program) (w : World) (K : PySem.W.Frag) (mg : Str → Option Value) (base : Heap) (k : Nat) (f : Addr) (fd : FuncData) (ps : List Str) (sp : Sp) : Prop where
  len : ∀ vs H Q E, sp vs H Q E → vs.length = ps.length
  run : ∀ (A : Around) (outer : List Env) (s : Shared) (H : Hp) (args : Args) (us : List Value) (vs : List V) (Q : VK) (E : XK), RoomB k A → Env0 P w K mg base A outer s H → BindsTo s fd args (ps.zip us) → Vals vs us → sp vs H Q E →
    codeAny (model P w) A (.call (.ref f) args) (CR CX0 outer P w H s Q E) s
structure CalH (P : Program) (w : World) (K : PySem.W.Frag) (mg : Str → Option Value) (base : Heap) (k : Nat) (x : Str) (ps : List Str) (sp : Sp) : Prop where
  ex : ∃ f fd, FnOkH P w K mg base k f fd ps sp ∧ Binds K fd ps [] ∧ PySem.W.keepIn K (.ref f) = true ∧ mg x = some (.ref f)
section
variable {X : Cx} {k : Nat} {f : Addr} {fd : FuncData} {ps : List Str} {sp : Sp} {x : Str} {p pos : Pos} {e : Expr} {es : List Expr} {t : TA}
theorem pe_callH (C : CalH X.prog X.w X.K X.mg X.base k x ps sp) (hr : RoomB k X.A) (hg : Gl X x) (ha : PA X (e :: es) t)
    (hdb : (x == ("__debug__" : Str)) = false := by decide) (he : starEach (e :: es) X.env = (false, eval e X.env) :: starEach es X.env := by rfl) (hpl : (backTo pos (starEach es X.env)).any (·.1) = false := by rfl) :
    PE X (.Call (.Name x p) (e :: es) [] pos) (tCall sp [] E0 t) := by
  intro pins s σ H Q I h
  obtain ⟨f, fd, F, b, kp, hm⟩ := C.ex
  refine wpAny_Call_Name_kw (ld_glob I hg hm ?_ hdb)
  refine PySem.W.callWith_K (h₀ := X.base) I.ok.mod.kin kp (thn (ha pos pins s σ H _ I h) fun us s1 ⟨vs, H1, I1, r, q⟩ => ⟨I1.kIn, ?_⟩) he hpl
  have q : sp vs H1 Q E0 := by
    have q' : sp (vs ++ []) H1 Q E0 := q
    rw [List.append_nil] at q'
    exact q'
  have hl : (us ++ []).length = ps.length := by rw [List.append_nil, ← r.length]; exact F.len _ _ _ _ q
  have b' := b s1 us I1.kIn hl
  rw [List.append_nil] at b'
  refine wpAny_call (codeAny_mono (F.run X.A X.stack s1 H1 ⟨us, []⟩ us vs Q E0 hr I1.env0 b' r q) fun y s' hq => ?_)
  cases y with
  | error v => exact False.elim hq
  | ok fl =>
    cases fl with
    | ret u => exact I1.after hq
    | next => exact False.elim hq
    | brk => exact False.elim hq
    | cont => exact False.elim hq
end
end L2

namespace L2
open PySem PySem.Spec PyProof.Rows

/-! ### texts by their codes -/
def tx (l : List Nat) : Str := ⟨l.toArray⟩
theorem tx_len (l : List Nat) : (tx l).length = l.length := by simp [tx, Str.length]
theorem tx_of (x : Str) : tx x.cps.toList = x := by cases x; rfl

/-! ### pieces at a sign -/

/-! ### methods of texts -/
section
variable {X : Cx}
/-- c in z, of one sign c -/
theorem op_notIn1 : OpR X (compareOp .NotIn) (fun x y H Q => ∃ c z, x = .str (tx [c]) ∧ y = .str z ∧ Q (.bl (!decide (c ∈ z.cps.toList))) H) := by
  intro pins s σ H x y v u Q I rx ry h
  obtain ⟨c, z, rfl, rfl, q⟩ := h
  refine op_notIn_str pins s σ H _ _ v u Q I rx ry ⟨tx [c], z, rfl, rfl, ?_⟩
  rw [show (!(Builtin.Str.occurrences z (tx [c]) 0 z.length 1).isEmpty) = decide (c ∈ z.cps.toList) from StrLaws.found_one z c]
  exact q

/-! ### for sign in text -/
def Its (x : Str) : It := ⟨fun i _ => i < x.cps.size, fun i H v H' => H' = H ∧ ∃ c, x.cps[i]? = some c ∧ v = .str (tx [c]), fun i _ => x.cps.size ≤ i⟩
theorem turn_strA {P : Program} {w : World} {K : PySem.W.Frag} {tg : Expr} (x : Str) (t : Tok) (it : Addr) : Turn P w K tg (Its x) [it] it (fun i h => h.IsStrIter it "str_ascii_iterator" x t i) where
  mem := by simp
  obj := fun i h st b hb => by
    have e : b = it := by simpa using hb
    subst e
    obtain ⟨o, e, c, d⟩ := st
    exact ⟨o, e, fun v z => by rw [d] at z; cases z⟩
  keep := fun i h h' st k => by
    obtain ⟨o, e, c, d⟩ := st
    exact ⟨o, k it (by simp) o e, c, d⟩
  item := by
    intro X hP hw hK hc i pins s σ H E I hf st hg
    subst hP hw hK
    obtain ⟨f0, f1, f2, f3, f4, f5⟩ := hf it (by simp)
    have hi : i < x.cps.size := hg
    refine wpAny_pyNext_ascii_item st (c := x.cps[i]) (by simp [hi]) fun h' st' sb => ?_
    have I1 : Inv X pins σ H { s with heap := h', toks := s.toks + 1 } := I.turned (fun b o hb e => (sb.2 b hb).trans e) f0 f1 f3 f4 f5
    obtain ⟨o, e, c, d⟩ := id st'
    exact ⟨_, rfl, go_of (s := { s with heap := h', toks := s.toks + 1 }) e c d (by decide) ⟨.str (tx [x.cps[i]]), H, I1, ⟨_, rfl⟩, ⟨rfl, _, by simp [hi], rfl⟩, st', fun b hb => (hf b hb).1⟩⟩
  done := by
    intro X hP hw hK hc i pins s σ H E I hf st hg
    subst hP hw hK
    obtain ⟨f0, f1, f2, f3, f4, f5⟩ := hf it (by simp)
    have hi : x.cps.size ≤ i := hg
    exact wpAny_pyNext_ascii_end (I.ok.hd hc) st (by simp; omega) fun h' eb => ⟨rfl, I.turned (t' := s.toks) (fun b o hb e => eb b o hb e) f0 f1 f3 f4 f5⟩
  self := fun _ _ _ _ _ st h => wpAny_pyIter_striter_ascii st h
theorem turn_strW {P : Program} {w : World} {K : PySem.W.Frag} {tg : Expr} (x : Str) (t : Tok) (it : Addr) : Turn P w K tg (Its x) [it] it (fun i h => h.IsStrIter it "str_iterator" x t i) where
  mem := by simp
  obj := fun i h st b hb => by
    have e : b = it := by simpa using hb
    subst e
    obtain ⟨o, e, c, d⟩ := st
    exact ⟨o, e, fun v z => by rw [d] at z; cases z⟩
  keep := fun i h h' st k => by
    obtain ⟨o, e, c, d⟩ := st
    exact ⟨o, k it (by simp) o e, c, d⟩
  item := by
    intro X hP hw hK hc i pins s σ H E I hf st hg
    subst hP hw hK
    obtain ⟨f0, f1, f2, f3, f4, f5⟩ := hf it (by simp)
    have hi : i < x.cps.size := hg
    refine wpAny_pyNext_wide_item st (c := x.cps[i]) (by simp [hi]) fun h' st' sb => ?_
    have I1 : Inv X pins σ H { s with heap := h', toks := s.toks + 1 } := I.turned (fun b o hb e => (sb.2 b hb).trans e) f0 f1 f3 f4 f5
    obtain ⟨o, e, c, d⟩ := id st'
    exact ⟨_, rfl, go_of (s := { s with heap := h', toks := s.toks + 1 }) e c d (by decide) ⟨.str (tx [x.cps[i]]), H, I1, ⟨_, rfl⟩, ⟨rfl, _, by simp [hi], rfl⟩, st', fun b hb => (hf b hb).1⟩⟩
  done := by
    intro X hP hw hK hc i pins s σ H E I hf st hg
    subst hP hw hK
    obtain ⟨f0, f1, f2, f3, f4, f5⟩ := hf it (by simp)
    have hi : x.cps.size ≤ i := hg
    exact wpAny_pyNext_wide_end (I.ok.hd hc) st (by simp; omega) fun h' eb => ⟨rfl, I.turned (t' := s.toks) (fun b o hb e => eb b o hb e) f0 f1 f3 f4 f5⟩
  self := fun _ _ _ _ _ st h => wpAny_pyIter_striter_wide st h
def iStr (tl : TE) : TI := fun σ H R => tl σ H fun x H1 => ∃ z, x = .str z ∧ R (Its z) H1
theorem pi_str {tg l : Expr} {tl : TE} (hl : PE X l tl) : PI X tg l (iStr tl) := by
  intro pins s σ H R I h
  refine thn (hl pins s σ H _ I h) fun v s1 ⟨x, H1, I1, r1, q1⟩ => ?_
  obtain ⟨z, e, q⟩ := q1
  subst e
  obtain ⟨t, rfl⟩ := r1
  have fp : ∀ b ∈ [s1.heap.objs.size], FpOk X pins H1 b := fun b hb => by
    have e : b = s1.heap.objs.size := by simpa using hb
    subst e
    exact I1.fpOk (Nat.le_refl _) (I1.hok.fresh (Nat.le_refl _))
  cases ha : z.cps.all (· < 128) with
  | true => exact wpAny_pyIter_ascii ha ⟨s1.heap.objs.size, [s1.heap.objs.size], _, _, H1, rfl, I1.kept (t' := s1.toks) fun b o e => Heap.get?_push_of_some _ e, turn_strA z t _, ⟨_, Heap.get?_push_size _ rfl, rfl, rfl⟩, fp, q⟩
  | false => exact wpAny_pyIter_wide ha ⟨s1.heap.objs.size, [s1.heap.objs.size], _, _, H1, rfl, I1.kept (t' := s1.toks) fun b o e => Heap.get?_push_of_some _ e, turn_strW z t _, ⟨_, Heap.get?_push_size _ rfl, rfl, rfl⟩, fp, q⟩
theorem for_str {l : List Nat} {g : TG} {tb : TS} {D : Ends} {σ : St} {H : Hp} (Pv : Nat → St → Hp → Prop) (h0 : Pv 0 σ H)
    (hs : ∀ i c σ H, l[i]? = some c → Pv i σ H → g (.str (tx [c])) σ H fun σ2 H2 => tb { D with nx := Pv (i + 1), ct := Pv (i + 1), bk := D.nx } σ2 H2) (hd : ∀ σ H, Pv l.length σ H → D.nx σ H) :
    ∃ W : Nat → Nat → St → Hp → Prop, (∃ m, W 0 m σ H) ∧ ∀ i m σ H, W i m σ H →
      ((Its (tx l)).stop i H ∧ D.nx σ H) ∨ ((Its (tx l)).go i H ∧ ∃ N : St → Hp → Prop, (∀ σ' H', N σ' H' → ∃ m', m' < m ∧ W (i + 1) m' σ' H') ∧ ∀ x H', (Its (tx l)).yld i H x H' → g x σ H' fun σ2 H2 => tb { D with nx := N, ct := N, bk := D.nx } σ2 H2) := by
  have hz : (tx l).cps.size = l.length := by simp [tx]
  refine ⟨fun i m σ H => m = l.length - i ∧ i ≤ l.length ∧ Pv i σ H, ⟨l.length, by simp, Nat.zero_le _, h0⟩, ?_⟩
  rintro i m σ H ⟨rfl, hi, p⟩
  by_cases hlt : i < l.length
  · refine .inr ⟨by show i < (tx l).cps.size; omega, Pv (i + 1), fun σ' H' p' => ⟨l.length - (i + 1), by omega, rfl, hlt, p'⟩, fun x H' y => ?_⟩
    obtain ⟨e, c, hc, y⟩ := y
    subst e y
    exact hs i c σ _ (by simpa [tx] using hc) p
  · have e : i = l.length := by omega
    subst e
    exact .inl ⟨by show (tx l).cps.size ≤ l.length; omega, hd σ H p⟩

/-! ### f-strings of plain fields -/
end
end L2

namespace L2
open PySem PySem.Spec PyProof.Rows
/-! ### isinstance of an exception of an own class -/
section
variable {prog : Program} {w : World} {A : Around} {E : Value → Shared → Prop} {K : PySem.W.Frag} {x D : Addr} {ox : Obj} {od : Option Obj}
end
/-! ### a class whose __init__ may raise -/
section
variable {X : Cx} {k : Nat} {f C : Addr} {fd : FuncData} {ps : List Str} {sp : Sp} {x : Str} {p pos : Pos} {e : Expr} {es : List Expr} {t : TA} {W : St → XK}
end
/-! ### == of two lists with the very same items -/
end L2

namespace L2
open PySem PySem.Spec PyProof.Rows
/-! ### exceptions of own classes as values: made by hand, kept, asked for what they keep -/
section
variable {X : Cx} {x : Str} {C f : Addr} {p pos : Pos} {e : Expr} {es : List Expr} {t : TA}
end
/-! ### a class of the text whose __init__ is a def of its own -/
section
variable {prog : Program} {w : World} {A : Around} {Ex : Value → Shared → Prop} {hp : Heap} {gs : Array GenState} {dr : Drawn} {tk : Nat} {os : OsState}
variable {nm q : Str} {C N fI : Addr} {bs bm bmB : List Value} {hdct : Bool} {sn : List Str} {sub : List Value} {ab : Bool} {col : Option Bool} {dd : Option Addr} {k0 k1 k2 k3 k5 : Option Value} {B newId initId : String} {mN : Str → Option Value} {us : List Value} {oI : Obj}
end
section
variable {prog : Program} {w : World} {A : Around} {E : Value → Shared → Prop} {K : PySem.W.Frag} {x D : Addr} {ox : Obj} {od : Option Obj}
end
end L2

namespace L2
open PySem PySem.Spec PyProof.Rows
/-! ### exceptions that keep values: the rules -/
section
variable {X : Cx} {pins : List (Addr × Obj)} {σ : St} {H : Hp} {s : Shared} {e : Addr}
end
section
variable {X : Cx} {x f : Str} {C g : Addr} {p pos apos : Pos} {e o value : Expr} {es : List Expr} {t : TA} {ta tv : TE}
end
end L2

namespace L2
open PySem PySem.Spec PyProof.Rows
/-! ### more on texts and tuples -/
section
variable {X : Cx}
end
end L2

namespace L2
open PySem PySem.Spec PyProof.Rows
/-! ### things of things: == and != over lists and tuples of lists and tuples -/
section
variable {X : Cx} {pins : List (Addr × Obj)} {σ : St} {H : Hp} {s : Shared}
end
section
variable {X : Cx}
/-! ### xs[lo::k]: some items of the list -/
/-- index of a tuple, K told -/
theorem ix_tupK {K : PySem.W.Frag} (h : X.K = K) : IxR X (rIxT K) := h ▸ ix_tup
end
end L2

namespace L2
open PySem PySem.Spec PyProof.Rows
/-! ### B.m(self, ..): a method called by its class; methods of objects of several classes -/
structure BMeth (K : PySem.W.Frag) (B : Addr) (m : Str) (f : Addr) : Prop where
  ga : PySem.W.specialIn K (.ref B) "__getattribute__" = some (some (.builtin "type.__getattribute__"))
  rd : PySem.W.readsIn K B (.type "type") = true
  fc : PySem.W.findCls K (.ref B) (.type "type") m = some (.val (.ref f))
  kp : PySem.W.keepIn K (.ref f) = true
section
variable {X : Cx} {k : Nat} {m x : Str} {ps : List Str} {sp : Sp} {e : Expr} {es : List Expr} {p apos pos : Pos} {t : TA} {W : St → XK}
theorem getmeth_cls {A : Around} {E : Value → Shared → Prop} {pins : List (Addr × Obj)} {σ : St} {H : Hp} {s : Shared} {B g : Addr} {pl : Sem Bool} {Q : Value × List Value → Shared → Prop} (I : Inv X pins σ H s) (Z : BMeth X.K B m g) (h : Q (.ref g, []) { s with toks := s.toks + 1 }) :
    wpAny (model X.prog X.w) A (getMethod (.ref B) m pl) Q E s := PySem.W.method_cls I.kIn Z.ga (PySem.W.cls_value I.kIn Z.rd Z.fc rfl h)
structure BCal (P : Program) (w : World) (K : PySem.W.Frag) (mg : Str → Option Value) (base : Heap) (k : Nat) (x m : Str) (ps : List Str) (sp : Sp) : Prop where
  ex : ∃ B f fd, FnOk P w K mg base CX0 k f fd ps sp ∧ Binds K fd ps [] ∧ BMeth K B m f ∧ mg x = some (.ref B)
theorem pe_baseC {pl : Sem Bool} (C : BCal X.prog X.w X.K X.mg X.base k x m ps sp) (hr : Room k X.A) (hg : Gl X x) (ha : PA X (e :: es) t) (hdb : (x == ("__debug__" : Str)) = false := by decide)
    (hst : starEach (e :: es) X.env = (false, eval e X.env) :: starEach es X.env := by rfl) (hpl : (backTo pos (starEach es X.env)).any (·.1) = false := by rfl)
    (ht : eval (.Call (.Attribute (.Name x p) m apos) (e :: es) [] pos) X.env = (do
      let ov ← eval (.Name x p) X.env
      standAt apos.atName
      let (f, first) ← holding [ov] (getMethod ov m pl)
      callWith pos f first (backTo pos (starEach (e :: es) X.env)) (backToKw pos (keywordEach [] X.env))) := by rfl) :
    PE X (.Call (.Attribute (.Name x p) m apos) (e :: es) [] pos) (tCall sp [] E0 t) := by
  intro pins s σ H Q I h
  obtain ⟨B, f, fd, F, b, Z, hm⟩ := C.ex
  refine PySem.W.methodCall_KW (pl := pl) (ld_glob I hg hm ?_ hdb) ht
  refine getmeth_cls I Z ?_
  have I' := I.tok (s.toks + 1)
  refine PySem.W.callWith_K (first := []) (h₀ := X.base) I.ok.mod.kin Z.kp (thn (ha pos pins _ σ H _ I' h) fun us s2 ⟨vs, H2, I2, r, q2⟩ => ⟨I2.kIn, ?_⟩) hst hpl
  exact run_fn (us := us) (vs := vs) F hr b .nil pass0 I2 r q2
/-- o.m(..), o of one of several classes -/
def tMethD (Fam : Addr → Prop) (m : Str) (sp : Addr → Sp) (ta : TE) (t : TA) : TE := fun σ H Q => ta σ H fun x H1 => ∃ a C dx fs, x = .ref a ∧ H1 a = some (.ins C dx fs) ∧ Fam C ∧ fs.lookup m = none ∧ t σ H1 fun vs H2 => sp C (.ref a :: vs) H2 Q E0
structure MFam (P : Program) (w : World) (K : PySem.W.Frag) (mg : Str → Option Value) (base : Heap) (k : Nat) (Fam : Addr → Prop) (m : Str) (ps : List Str) (sp : Addr → Sp) : Prop where
  ex : ∀ C, Fam C → MCal P w K mg base k C m ps (sp C)
theorem pe_methD {Fam : Addr → Prop} {spC : Addr → Sp} {o : Expr} {ta : TE} {pl : Sem Bool} (M : MFam X.prog X.w X.K X.mg X.base k Fam m ps spC) (hr : Room k X.A) (he : PE X o ta) (ha : PA X (e :: es) t)
    (hst : starEach (e :: es) X.env = (false, eval e X.env) :: starEach es X.env := by rfl) (hpl : (backTo pos (starEach es X.env)).any (·.1) = false := by rfl)
    (ht : eval (.Call (.Attribute o m apos) (e :: es) [] pos) X.env = (do
      let ov ← eval o X.env
      standAt apos.atName
      let (f, first) ← holding [ov] (getMethod ov m pl)
      callWith pos f first (backTo pos (starEach (e :: es) X.env)) (backToKw pos (keywordEach [] X.env))) := by rfl) :
    PE X (.Call (.Attribute o m apos) (e :: es) [] pos) (tMethD Fam m spC ta t) := by
  intro pins s σ H Q I h
  refine PySem.W.methodCall_KW (pl := pl) (thn (he pins s σ H _ I h) fun u s1 ⟨x, H1, I1, rx, a, C, dx, fs, ex, ea, hF, l, q⟩ => ?_) ht
  subst ex
  obtain rfl : u = Value.ref a := rx
  obtain ⟨f, fd, F, b, hm⟩ := (M.ex C hF).ex
  refine getmeth_ok I1 ea (M.ex C hF).cl hm l ?_
  refine PySem.W.callWith_K (first := [.ref a]) (h₀ := X.base) I.ok.mod.kin hm.kp (thn (ha pos pins s1 σ H1 _ I1 q) fun us s2 ⟨vs, H2, I2, r, q2⟩ => ⟨I2.kIn, ?_⟩) hst hpl
  exact run_fn (us := .ref a :: us) (vs := .ref a :: vs) F hr b .nil pass0 I2 (.cons rfl r) (by rw [List.append_nil]; exact q2)
end
/-! ### a tuple of the module -/
def GTup (K : PySem.W.Frag) (mg : Str → Option Value) (x : Str) (xs : List V) : Prop := ∃ a, mg x = some (.ref a) ∧ ∀ H, SqT K H a xs
theorem pe_gtup {X : Cx} {x : Str} {xs : List V} {pos : Pos} (h : GTup X.K X.mg x xs) (hg : Gl X x) (hd : (x == ("__debug__" : Str)) = false := by decide) : PE X (.Name x pos) (fun _ H Q => ∀ a, SqT X.K H a xs → Q (.ref a) H) := by
  obtain ⟨a, e, hs⟩ := h
  exact fun _ _ _ H _ I q => ld_glob I hg e ⟨.ref a, H, I, rfl, q a (hs H)⟩ hd
/-! ### range(a, b, c), c above nought -/
/-! ### a op1 b op2 c op3 d -/
end L2

namespace L2
open PySem PySem.Spec PyProof.Rows
section
variable {X : Cx}
end
end L2

namespace L2
open PySem PySem.Spec PyProof.Rows
/-! ### C() where there is no __init__ but object's -/
structure Mk0 (K : PySem.W.Frag) (mg : Str → Option Value) (x : Str) (C : Addr) : Prop where
  makes : PySem.W.makesIn K C = true
  init : PySem.W.findIn K (.ref C) "__init__" = some (some (.builtin "object.__init__"))
  kp : PySem.W.keepIn K (.ref C) = true
  at_ : mg x = some (.ref C)
def tNew (C : Addr) : TE := fun _ H Q => ∀ y dx, H y = none → H dx = none → dx ≠ y → Q (.ref y) (upd (upd H dx (.own y)) y (.ins C dx []))
theorem pe_new0 {X : Cx} {x : Str} {C : Addr} {p pos : Pos} (M : Mk0 X.K X.mg x C) (hg : Gl X x) (hdb : (x == ("__debug__" : Str)) = false := by decide) : PE X (.Call (.Name x p) [] [] pos) (tNew C) := by
  intro pins s σ H Q I h
  refine wpAny_Call_Name_kw (ld_glob I hg M.at_ ?_ hdb)
  refine PySem.W.callWith_K0 I.kIn M.kp (wpAny_call (make_map0 I.kIn M.makes M.init (fun self => PySem.W.Looks.of_pure (PySem.W.oi_bind self)) ?_))
  have hq := h (s.heap.objs.size + 1) s.heap.objs.size (I.hok.fresh (Nat.le_succ _)) (I.hok.fresh (Nat.le_refl _)) (Nat.ne_of_lt (Nat.lt_succ_self _))
  have I2 := Inv.made (C := C) I
  have Y := PySem.W.makes_of (M := model X.prog X.w) I.kIn M.makes
  have ob : ((s.heap.push PySem.W.emptyDict).push (PySem.W.instObj C s.heap.objs.size)).get? (s.heap.objs.size + 1) = some (PySem.W.instObj C s.heap.objs.size) := by
    have e : (s.heap.push PySem.W.emptyDict).objs.size = s.heap.objs.size + 1 := by rw [Heap.size_push]
    rw [← e]
    exact Heap.get?_push_size _ rfl
  have t1 : PySem.W.Looks (model X.prog X.w) ((s.heap.push PySem.W.emptyDict).push (PySem.W.instObj C s.heap.objs.size)) (typeOf (.ref (s.heap.objs.size + 1))) (.ref C) := (PySem.W.Looks.ld ob).andThen .now
  have t2 : PySem.W.Looks (model X.prog X.w) ((s.heap.push PySem.W.emptyDict).push (PySem.W.instObj C s.heap.objs.size)) (isInstance (.ref (s.heap.objs.size + 1)) (.type "object")) true := t1.andThen (Y.top.keeps fun b o e => Heap.get?_push_of_some _ (Heap.get?_push_of_some _ e))
  obtain ⟨hh, g, d, t, os⟩ := s
  refine codeAny_call_builtin PySem.W.oi_plain PySem.W.entry_oi (@PySem.W.check_slot (model X.prog X.w) _ _ _ "object.__init__" "object" "__init__" (.ref (hh.objs.size + 1)) [] [] _ PySem.W.oi_kind PySem.W.oi_split t2 (PySem.W.oi_args (.ref (hh.objs.size + 1))) ?_)
  rw [PySem.W.oi_run]
  exact wpAny_pure (And.intro rfl ⟨V.ref (hh.objs.size + 1), _, I2, rfl, hq⟩)
end L2

namespace L2
open PySem PySem.Spec PyProof.Rows
/-! ### x (not) in a tuple of texts, for x of any kind; z.upper() -/
end L2

namespace L2
open PySem PySem.Spec PyProof.Rows

/-! ### for .. in reversed(xs), a list that stays -/
end L2

namespace L2
open PySem PySem.Spec PyProof.Rows
/-! ### a def with default arguments, all of its arguments given -/
structure FunD (K : PySem.W.Frag) (x qual : Str) (st : Stmt) (f : Addr) (fd : FuncData) : Prop where
  ex : ∃ (oc : Value) (od : Option Addr) (dV kV doc pm : Value) (an : Option Addr) (cdv ct : Value) (osl : Array (Option Value)),
    fd = PySem.W.fnOf x qual (defArgs st) (defBody st) (defScope st) dV kV doc pm an cdv ct ∧ K.lookup f = some ⟨oc, od, .func fd, osl⟩ ∧ PySem.W.codeIn K cdv qual = true
  kp : PySem.W.keepIn K (.ref f) = true
section
variable {P : Program} {w : World} {K : PySem.W.Frag} {mg : Str → Option Value} {base : Heap}
theorem FunD.ok {x qual : Str} {st : Stmt} {f : Addr} {fd : FuncData} {N ps : List Str} {k : Nat} {sp : Sp} (F : FunD K x qual st f fd) (S : FnScope N ps (defScope st)) (len : ∀ vs H Q E, sp vs H Q E → vs.length = ps.length)
    (hbody : ∀ (cdv : Value) (A : Around) (outer : List Env) (s : Shared) (H : Hp) (vs : List V) (Q : VK) (E : XK), Room k (A.deeper (envOfC qual (defScope st) s.heap.objs.size f cdv)) → sp vs H Q E →
      ∃ t, PSs (cxOf CX0 P w K mg base N qual (defScope st) f cdv A outer s H E).nox (defBody st) t ∧ t { nx := fun _ H' => Q .non H', rt := Q } (start N vs) H) : FnOk P w K mg base CX0 (k + 1) f fd ps sp := by
  obtain ⟨oc, od, dV, kV, doc, pm, an, cdv, ct, osl, e, lk, hcd⟩ := F.ex
  subst e
  refine fn_of lk hcd S len fun A outer s H vs Q E hr hsp => ?_
  obtain ⟨t, h, q⟩ := hbody cdv A outer s H vs Q E hr hsp
  exact ⟨t, h.nox, q⟩
theorem funD_mk {x qual : Str} {st : Stmt} {f : Addr} {oc : Value} {od an : Option Addr} {osl : Array (Option Value)} {dV kV doc pm cdv ct : Value} (l : K.lookup f = some ⟨oc, od, .func (PySem.W.fnOf x qual (defArgs st) (defBody st) (defScope st) dV kV doc pm an cdv ct), osl⟩)
    (c : PySem.W.codeIn K cdv qual = true) (k : PySem.W.keepIn K (.ref f) = true) : FunD K x qual st f (PySem.W.fnOf x qual (defArgs st) (defBody st) (defScope st) dV kV doc pm an cdv ct) := ⟨⟨oc, od, dV, kV, doc, pm, an, cdv, ct, osl, rfl, l, c⟩, k⟩
end
end L2
namespace L2
open PySem PySem.Spec PyProof.Rows
/-- for i, x in enumerate(xs), a list that the body leaves as it is -/
theorem for_enum {K K' : PySem.W.Frag} {a : Addr} {xs : List V} {i1 i2 : Nat} {tb : TS} {D : Ends} {σ : St} {H : Hp} (Pv : Nat → St → Hp → Prop) (h0 : Pv 0 σ H) (hl : ∀ i σ H, i ≤ xs.length → Pv i σ H → SqL K H a xs)
    (hs : ∀ i x σ H t, xs[i]? = some x → Pv i σ H → H t = none → tb { D with nx := Pv (i + 1), ct := Pv (i + 1), bk := D.nx } ((σ.set i1 (some (.int i))).set i2 (some x)) (upd H t (.tup [.int i, x]))) (hd : ∀ σ H, Pv xs.length σ H → D.nx σ H) :
    ∃ W : Nat → Nat → St → Hp → Prop, (∃ m, W 0 m σ H) ∧ ∀ i m σ H, W i m σ H →
      ((Ite K a).stop i H ∧ D.nx σ H) ∨ ((Ite K a).go i H ∧ ∃ N : St → Hp → Prop, (∀ σ' H', N σ' H' → ∃ m', m' < m ∧ W (i + 1) m' σ' H') ∧ ∀ x H', (Ite K a).yld i H x H' → gTup K' 2 (gCons (gName i1) (gCons (gName i2) gNil)) x σ H' fun σ2 H2 => tb { D with nx := N, ct := N, bk := D.nx } σ2 H2) := by
  refine ⟨fun i m σ H => m = xs.length - i ∧ i ≤ xs.length ∧ Pv i σ H, ⟨xs.length, by simp, Nat.zero_le _, h0⟩, ?_⟩
  rintro i m σ H ⟨rfl, hi, p⟩
  have q := hl i σ H hi p
  by_cases hlt : i < xs.length
  · refine .inr ⟨⟨xs, xs[i], q, by simp [hlt]⟩, Pv (i + 1), fun σ' H' p' => ⟨xs.length - (i + 1), by omega, rfl, hlt, p'⟩, fun x H' y => ?_⟩
    obtain ⟨t, z, ex, ht, hz, e3⟩ := y
    subst ex e3
    exact ⟨t, _, rfl, SqT.of upd_same, rfl, _, _, rfl, _, _, rfl, rfl, hs i z σ H t (hz xs q) p ht⟩
  · obtain rfl : i = xs.length := by omega
    exact .inl ⟨⟨xs, q, Nat.le_refl _⟩, hd σ H p⟩
end L2

/-! runs of whole numbers, without the program -/
namespace CR
/-! ### from lo on and below hi -/
/-! ### the lowest -/
/-! ### those that are none of others -/
def maxI (a b : Int) : Int := if b > a then b else a
end CR

/-! the turns, as plain functions over lists of ints -/
namespace CR
def at0 (l : List Int) (k : Int) : Int := l.getD k.toNat 0
structure GW (ws : List Int) : Prop where
  lo : 1 ≤ ws.length
  hi : ws.length ≤ 8
  pos : ∀ w ∈ ws, 1 ≤ w
  sum : ws.sum ≤ 100
def may (ws ds : List Int) (t k : Int) : Bool := decide (at0 ds k * ws.sum < at0 ws k * (t + 1))
def due (ws ds : List Int) (k : Int) : Int := ((at0 ds k + 1) * ws.sum + at0 ws k - 1) / at0 ws k
/-- the places among the first n that may have the turn t -/
def placesTo (ws ds : List Int) (t : Int) (n : Nat) : List Int := ((List.range n).map fun k : Nat => (k : Int)).filter fun k => may ws ds t k
def places (ws ds : List Int) (t : Int) : List Int := placesTo ws ds t ws.length
def pick (f : Int → Int) (b : Int) (l : List Int) : Int := l.foldl (fun b p => if f p < f b then p else b) b
def place (ws ds : List Int) (t : Int) : Int := pick (due ws ds) ((places ws ds t).headD 0) (places ws ds t)
def put (ds : List Int) (p : Int) : List Int := ds.set p.toNat (at0 ds p + 1)
/-- behind the first t turns: what each place has, the turns -/
def run (ws : List Int) : Nat → List Int × List Int
  | 0 => (List.replicate ws.length 0, [])
  | t + 1 => (put (run ws t).1 (place ws (run ws t).1 t), (run ws t).2 ++ [place ws (run ws t).1 t])
def wheel (ws : List Int) : List Int := (run ws ws.sum.toNat).2

theorem placesTo_succ (ws ds : List Int) (t : Int) (n : Nat) : placesTo ws ds t (n + 1) = placesTo ws ds t n ++ (if may ws ds t n = true then [(n : Int)] else []) := by
  unfold placesTo
  rw [List.range_succ, List.map_append, List.filter_append]
  congr 1
  by_cases h : may ws ds t n = true
  · simp [h]
  · simp [h]
theorem placesTo_le (ws ds : List Int) (t : Int) (n : Nat) : (placesTo ws ds t n).length ≤ n := by
  unfold placesTo
  refine Nat.le_trans (List.length_filter_le _ _) ?_
  rw [List.length_map, List.length_range]
  exact Nat.le_refl _
theorem placesTo_mem {ws ds : List Int} {t : Int} {n : Nat} {k : Int} (h : k ∈ placesTo ws ds t n) : 0 ≤ k ∧ k < n ∧ may ws ds t k = true := by
  unfold placesTo at h
  obtain ⟨h1, h2⟩ := List.mem_filter.mp h
  obtain ⟨j, hj, rfl⟩ := List.mem_map.mp h1
  have := List.mem_range.mp hj
  exact ⟨by omega, by omega, h2⟩
theorem pick_mem (f : Int → Int) : ∀ (l : List Int) (b : Int), pick f b l = b ∨ pick f b l ∈ l
  | [], b => .inl rfl
  | p :: l, b => by
    show pick f (if f p < f b then p else b) l = b ∨ pick f (if f p < f b then p else b) l ∈ p :: l
    rcases pick_mem f l (if f p < f b then p else b) with h | h
    · rw [h]
      split
      · exact .inr List.mem_cons_self
      · exact .inl rfl
    · exact .inr (List.mem_cons_of_mem _ h)
theorem place_mem {ws ds : List Int} {t : Int} (h : places ws ds t ≠ []) : place ws ds t ∈ places ws ds t := by
  unfold place
  rcases pick_mem (due ws ds) (places ws ds t) ((places ws ds t).headD 0) with e | e
  · rw [e]
    cases q : places ws ds t with
    | nil => exact absurd q h
    | cons p l => exact List.mem_cons_self
  · exact e
/-- the sums: if no place may have the turn, all have too much -/
theorem sum_le : ∀ (ws ds : List Int) (T c : Int), ds.length = ws.length → (∀ k : Nat, k < ws.length → ws.getD k 0 * c ≤ ds.getD k 0 * T) → ws.sum * c ≤ ds.sum * T
  | [], [], _, _, _, _ => by simp
  | [], _ :: _, _, _, h, _ => by simp at h
  | _ :: _, [], _, _, h, _ => by simp at h
  | w :: ws, d :: ds, T, c, h, hk => by
    have ih := sum_le ws ds T c (by simpa using h) fun k hk' => by simpa using hk (k + 1) (by simpa using hk')
    have h0 := hk 0 (by simp)
    simp only [List.sum_cons, List.getD_cons_zero] at *
    rw [Int.add_mul, Int.add_mul]
    omega
theorem sum_pos {ws : List Int} (g : GW ws) : 1 ≤ ws.sum := by
  have aux : ∀ l : List Int, (∀ w ∈ l, 1 ≤ w) → (l.length : Int) ≤ l.sum := by
    intro l
    induction l with
    | nil => intro _; simp
    | cons w l ih =>
      intro h
      have h1 := h w List.mem_cons_self
      have h2 := ih fun x hx => h x (List.mem_cons_of_mem _ hx)
      rw [List.sum_cons, List.length_cons]
      omega
  have := aux ws g.pos
  have := g.lo
  omega
theorem places_ne {ws ds : List Int} {t : Nat} (g : GW ws) (hl : ds.length = ws.length) (hs : ds.sum = t) : places ws ds t ≠ [] := by
  intro h
  have key : ∀ k : Nat, k < ws.length → ws.getD k 0 * ((t : Int) + 1) ≤ ds.getD k 0 * ws.sum := fun k hk => by
    by_cases c : ds.getD k 0 * ws.sum < ws.getD k 0 * ((t : Int) + 1)
    · have m : (k : Int) ∈ places ws ds t := by
        unfold places placesTo
        refine List.mem_filter.mpr ⟨List.mem_map.mpr ⟨k, List.mem_range.mpr hk, rfl⟩, ?_⟩
        unfold may at0
        simpa using c
      rw [h] at m
      cases m
    · omega
  have q := sum_le ws ds ws.sum ((t : Int) + 1) hl key
  rw [hs] at q
  have p := sum_pos g
  have e : ws.sum * ((t : Int) + 1) = (t : Int) * ws.sum + ws.sum := by rw [Int.mul_add, Int.mul_comm, Int.mul_one]
  omega
theorem put_length (ds : List Int) (p : Int) : (put ds p).length = ds.length := by unfold put; rw [List.length_set]
theorem sum_set : ∀ (ds : List Int) (k : Nat) (x : Int), k < ds.length → (ds.set k x).sum = ds.sum - ds.getD k 0 + x
  | [], _, _, h => by simp at h
  | d :: ds, 0, x, _ => by simp only [List.set_cons_zero, List.sum_cons, List.getD_cons_zero]; omega
  | d :: ds, k + 1, x, h => by
    have ih := sum_set ds k x (by simpa using h)
    simp only [List.set_cons_succ, List.sum_cons, List.getD_cons_succ, ih]; omega
theorem put_sum {ds : List Int} {p : Int} (h0 : 0 ≤ p) (h : p < ds.length) : (put ds p).sum = ds.sum + 1 := by
  unfold put at0
  rw [sum_set ds p.toNat _ (by omega)]
  omega
theorem sum_replicate (n : Nat) : (List.replicate n (0 : Int)).sum = 0 := by
  induction n with
  | zero => rfl
  | succ n ih => rw [List.replicate_succ, List.sum_cons, ih]; rfl
/-- what stands behind the first t turns -/
structure At (ws : List Int) (t : Nat) : Prop where
  len : (run ws t).1.length = ws.length
  sum : (run ws t).1.sum = t
  row : (run ws t).2.length = t
  inr : ∀ p ∈ (run ws t).2, 0 ≤ p ∧ p < ws.length
theorem place_in {ws ds : List Int} {t : Nat} (g : GW ws) (hl : ds.length = ws.length) (hs : ds.sum = t) : 0 ≤ place ws ds t ∧ place ws ds t < ws.length ∧ may ws ds t (place ws ds t) = true :=
  placesTo_mem (place_mem (places_ne g hl hs))
theorem run_at {ws : List Int} (g : GW ws) : ∀ t : Nat, At ws t
  | 0 => ⟨by simp [run], by show (List.replicate _ 0).sum = _; rw [sum_replicate]; rfl, rfl, fun _ h => by cases h⟩
  | t + 1 => by
    have a := run_at g t
    obtain ⟨h0, h1, _⟩ := place_in (t := t) g a.len a.sum
    refine ⟨?_, ?_, ?_, fun p hp => ?_⟩
    · show (put _ _).length = _
      rw [put_length, a.len]
    · show (put _ _).sum = _
      rw [put_sum h0 (by rw [a.len]; exact h1), a.sum]
      omega
    · show (_ ++ [_]).length = _
      rw [List.length_append, a.row]
      rfl
    · rcases List.mem_append.mp hp with h | h
      · exact a.inr p h
      · rw [List.mem_singleton.mp h]
        exact ⟨h0, h1⟩
end CR

namespace CR
section
variable {ws : List Int}
end
end CR

namespace CR
section
variable {ws : List Int}
end
end CR

namespace CRL
open PySem L2
def top (i : Nat) : Stmt := PySem.Challenge.pw_coverroll_k37_rests.main.body.getD i (.Pass ⟨0, 0, 0, 0⟩)
abbrev s_is_whole : Stmt := top 7
abbrev s_has_letters_alone : Stmt := top 12
abbrev s_is_name : Stmt := top 13
abbrev s_is_amount : Stmt := top 14
abbrev s_are_weights : Stmt := top 18
abbrev s_may_have : Stmt := top 19
abbrev s_due_by : Stmt := top 20
abbrev s_place_of_turn : Stmt := top 21
abbrev s_turns : Stmt := top 22
abbrev s_Deal___init__ : Stmt := inClass (top 23) 0
abbrev s_check_houses : Stmt := top 27
abbrev s_Cover___init__ : Stmt := inClass (top 28) 0
abbrev s_Cover_rest : Stmt := inClass (top 28) 5
abbrev s_checked_amount : Stmt := top 31
abbrev s_Clause___init__ : Stmt := inClass (top 32) 0
abbrev s_Clause_room : Stmt := inClass (top 32) 3
abbrev s_Own___init__ : Stmt := inClass (top 33) 0
abbrev s_Layer___init__ : Stmt := inClass (top 34) 0
abbrev s_Limit___init__ : Stmt := inClass (top 35) 0
abbrev s_Limit_room : Stmt := inClass (top 35) 1
abbrev s__law_cell : Stmt := top 39
abbrev s__law_whole : Stmt := top 40
abbrev s__law_row : Stmt := top 41
abbrev s__law_clause : Stmt := top 42
abbrev s__law_right : Stmt := top 43
abbrev s_law : Stmt := top 44
/-- what the text's own names stand for -/
structure Txt (K : PySem.W.Frag) (mg : Str → Option Value) : Prop where
  g_COVERED_ONE : GStr mg "COVERED_ONE" "self"
  g_LETTERS : GStr mg "LETTERS" "abcdefghijklmnopqrstuvwxyz"
  g_LONGEST_NAME : GInt mg "LONGEST_NAME" 8
  g_MOST_CENTS : GInt mg "MOST_CENTS" 999999999999
  g_MOST_CLAUSES : GInt mg "MOST_CLAUSES" 8
  g_MOST_PLACES : GInt mg "MOST_PLACES" 8
  g_MOST_TURNS : GInt mg "MOST_TURNS" 100
  n_bool : mg "bool" = none
  n_enumerate : mg "enumerate" = none
  n_int : mg "int" = none
  n_isinstance : mg "isinstance" = none
  n_len : mg "len" = none
  n_list : mg "list" = none
  n_max : mg "max" = none
  n_range : mg "range" = none
  n_str : mg "str" = none
  n_sum : mg "sum" = none
  n_tuple : mg "tuple" = none
  t_WAYS : GTup K mg "WAYS" [.str "event", .str "thing", .str "year", .str "loss"]
/-- the text's own classes -/
structure Kl (K : PySem.W.Frag) (mg : Str → Option Value) (C_Clause C_Own C_Layer C_Limit C_Deal C_Cover C_Condition : Addr) : Prop where
  mg_Clause : mg "Clause" = some (.ref C_Clause)
  cl_Clause : Cls K C_Clause
  na_Clause_by : NoAttr K C_Clause "by"
  mg_Own : mg "Own" = some (.ref C_Own)
  cl_Own : Cls K C_Own
  na_Own_cents : NoAttr K C_Own "cents"
  na_Own_by : NoAttr K C_Own "by"
  mg_Layer : mg "Layer" = some (.ref C_Layer)
  cl_Layer : Cls K C_Layer
  na_Layer_first : NoAttr K C_Layer "first"
  na_Layer_upto : NoAttr K C_Layer "upto"
  na_Layer_by : NoAttr K C_Layer "by"
  mg_Limit : mg "Limit" = some (.ref C_Limit)
  cl_Limit : Cls K C_Limit
  na_Limit_most : NoAttr K C_Limit "most"
  na_Limit_by : NoAttr K C_Limit "by"
  mg_Deal : mg "Deal" = some (.ref C_Deal)
  cl_Deal : Cls K C_Deal
  na_Deal_wheel : NoAttr K C_Deal "wheel"
  na_Deal_weights : NoAttr K C_Deal "weights"
  mg_Cover : mg "Cover" = some (.ref C_Cover)
  cl_Cover : Cls K C_Cover
  na_Cover_name : NoAttr K C_Cover "name"
  na_Cover_condition : NoAttr K C_Cover "condition"
  na_Cover_clauses : NoAttr K C_Cover "clauses"
  na_Cover_houses : NoAttr K C_Cover "houses"
  na_Cover_deal : NoAttr K C_Cover "deal"
  na_Cover_waits : NoAttr K C_Cover "waits"
  mg_Condition : mg "Condition" = some (.ref C_Condition)
  cl_Condition : Cls K C_Condition
  nd : ([C_Clause, C_Own, C_Layer, C_Limit, C_Deal, C_Cover, C_Condition] : List Addr).Nodup
/-! ### tests that are known -/
theorem dT {c A B : Prop} [Decidable c] (h : c) (q : A) : if decide c = true then A else B := by rw [decide_eq_true h, if_pos rfl]; exact q
theorem dF {c A B : Prop} [Decidable c] (h : ¬ c) (q : B) : if decide c = true then A else B := by rw [decide_eq_false h, if_neg Bool.false_ne_true]; exact q
theorem nT {c A B : Prop} [Decidable c] (h : ¬ c) (q : A) : if (!decide c) = true then A else B := by rw [decide_eq_false h]; exact q
theorem nF {c A B : Prop} [Decidable c] (h : c) (q : B) : if (!decide c) = true then A else B := by rw [decide_eq_true h]; exact q
theorem bT {c : Bool} {A B : Prop} (h : c = true) (q : A) : if c = true then A else B := by rw [if_pos h]; exact q
theorem bF {c : Bool} {A B : Prop} (h : c = false) (q : B) : if c = true then A else B := by rw [if_neg (by rw [h]; exact Bool.false_ne_true)]; exact q
/-- an int and no bool -/
def wholeV : V → Bool
  | .int _ => true
  | _ => false
theorem whole_kit {K : PySem.W.Frag} {H : Hp} {x : V} {T : String} (h : TyOf K H x (.type T)) : ∃ b1 b2, PySem.W.kitOne K (.type T) (.type "int") = some b1 ∧ PySem.W.kitOne K (.type T) (.type "bool") = some b2 ∧ wholeV x = (b1 && !b2) := by
  cases h with
  | non => exact ⟨false, false, by kernel_rfl, by kernel_rfl, rfl⟩
  | bl b => exact ⟨true, true, by kernel_rfl, by kernel_rfl, rfl⟩
  | int i => exact ⟨true, false, by kernel_rfl, by kernel_rfl, rfl⟩
  | str i => exact ⟨false, false, by kernel_rfl, by kernel_rfl, rfl⟩
  | flt i => exact ⟨false, false, by kernel_rfl, by kernel_rfl, rfl⟩
  | lst e => exact ⟨false, false, by kernel_rfl, by kernel_rfl, rfl⟩
  | frz e => exact ⟨false, false, by kernel_rfl, by kernel_rfl, rfl⟩
  | tup e => exact ⟨false, false, by kernel_rfl, by kernel_rfl, rfl⟩
  | dK e => exact ⟨false, false, by kernel_rfl, by kernel_rfl, rfl⟩
  | dT e => exact ⟨false, false, by kernel_rfl, by kernel_rfl, rfl⟩
theorem kit_ll {K : PySem.W.Frag} : PySem.W.kitOne K (.type "list") (.type "list") = some true := by kernel_rfl
/-! ### promises -/
def spWhole (K : PySem.W.Frag) : Sp := fun vs H Q _ => ∃ x T, vs = [x] ∧ TyOf K H x (.type T) ∧ Q (.bl (wholeV x)) H
theorem kit_tt {K : PySem.W.Frag} : PySem.W.kitOne K (.type "tuple") (.type "tuple") = some true := by kernel_rfl


section
variable {P : Program} {w : World} {K : PySem.W.Frag} {mg : Str → Option Value} {base : Heap}
theorem sc__law_whole : FnScope ["_law_found"] ["_law_found"] (defScope s__law_whole) := ⟨rfl, rfl, rfl, by decide +kernel, rfl, by decide +kernel, by decide +kernel⟩
theorem ok__law_whole {f : Addr} {fd : FuncData} (F : Fun K "_law_whole" "_law_whole" s__law_whole f fd) (T : Txt K mg) : FnOk P w K mg base CX0 1 f fd ["_law_found"] (spWhole K) := by
  have sc := sc__law_whole
  refine F.ok sc (fun vs H Q E h => ?_) (fun cdv A outer s H vs Q E hr h => ?_)
  · obtain ⟨x, T, rfl, _⟩ := h
    rfl
  obtain ⟨x, ty, rfl, hty, q⟩ := h
  refine ⟨_, (pss_one (ps_ret (pe_and (pe_callB call_isinst rfl T.n_isinstance (show bootBuiltins _ = some (.builtin "isinstance") from rfl) (pa_cons (pv 0) (pa_cons (pe_ty "int" rfl T.n_int rfl) pa_nil))) (pe_one (pe_not (pe_callB call_isinst rfl T.n_isinstance (show bootBuiltins _ = some (.builtin "isinstance") from rfl) (pa_cons (pv 0) (pa_cons (pe_ty "bool" rfl T.n_bool rfl) pa_nil)))))))), ?_⟩
  obtain ⟨b1, b2, k1, k2, e⟩ := whole_kit hty
  rw [e] at q
  refine ⟨_, rfl, _, _, _, _, _, rfl, ty_is, hty, k1, _, rfl, ?_⟩
  cases b1 with
  | false => exact q
  | true => exact ⟨_, rfl, _, _, _, _, _, rfl, ty_is, hty, k2, _, rfl, q⟩
end


def spCell (K : PySem.W.Frag) : Sp := fun vs H Q _ => ∃ a ns, ∃ k : Int, vs = [.ref a, .int k] ∧ SqL K H a (List.map V.int ns) ∧ 0 ≤ k ∧ ns.length ≤ 63 ∧ Q (.int (ns.getD k.toNat 0)) H
section
variable {P : Program} {w : World} {K : PySem.W.Frag} {mg : Str → Option Value} {base : Heap}
theorem sc__law_cell : FnScope ["_law_script", "_law_k"] ["_law_script", "_law_k"] (defScope s__law_cell) := ⟨rfl, rfl, rfl, by decide +kernel, rfl, by decide +kernel, by decide +kernel⟩
theorem ok__law_cell {f : Addr} {fd : FuncData} (F : Fun K "_law_cell" "_law_cell" s__law_cell f fd) (T : Txt K mg) : FnOk P w K mg base CX0 1 f fd ["_law_script", "_law_k"] (spCell K) := by
  have sc := sc__law_cell
  refine F.ok sc (fun vs H Q E h => ?_) (fun cdv A outer s H vs Q E hr h => ?_)
  · obtain ⟨_, _, _, rfl, _⟩ := h
    rfl
  obtain ⟨a, ns, k, rfl, ha, h0, h63, q⟩ := h
  refine ⟨_, (pss_cons (ps_if (pt_cmpR op_lt (pv 1) (pe_callB call_len_seq rfl T.n_len (show bootBuiltins _ = some (.builtin "len") from rfl) (pa_cons (pv 0) pa_nil)) (nomark _))
        (pss_one (ps_ret (pe_ix ix_list (pv 0) (pv 1) (fun _ _ => rfl))))
        pss_nil)
      (pss_one (ps_ret pe_int))), ?_⟩
  have hl : (List.map V.int ns).length = ns.length := List.length_map _
  refine ⟨_, rfl, _, rfl, a, _, rfl, .inl ha, _, _, rfl, rfl, _, rfl, ?_⟩
  rw [hl]
  refine ite2 (fun c => ?_) (fun c => ?_)
  · have c' : k < (ns.length : Int) := of_decide_eq_true c
    exact ⟨_, rfl, _, rfl, a, _, _, _, rfl, rfl, ha, at_intI h0 c', q⟩
  · have c' : ¬ k < (ns.length : Int) := of_decide_eq_false (Bool.eq_false_iff.mpr c)
    have e : ns.getD k.toNat 0 = 0 := by
      rw [List.getD_eq_getElem?_getD, List.getElem?_eq_none (by omega)]
      rfl
    rw [e] at q
    exact q
end


section
variable {P : Program} {w : World} {K : PySem.W.Frag} {mg : Str → Option Value} {base : Heap}
theorem sc_is_whole : FnScope ["thing"] ["thing"] (defScope s_is_whole) := ⟨rfl, rfl, rfl, by decide +kernel, rfl, by decide +kernel, by decide +kernel⟩
theorem ok_is_whole {f : Addr} {fd : FuncData} (F : Fun K "is_whole" "is_whole" s_is_whole f fd) (T : Txt K mg) : FnOk P w K mg base CX0 1 f fd ["thing"] (spWhole K) := by
  have sc := sc_is_whole
  refine F.ok sc (fun vs H Q E h => ?_) (fun cdv A outer s H vs Q E hr h => ?_)
  · obtain ⟨x, T, rfl, _⟩ := h
    rfl
  obtain ⟨x, ty, rfl, hty, q⟩ := h
  refine ⟨_, (pss_one (ps_ret (pe_and (pe_callB call_isinst rfl T.n_isinstance (show bootBuiltins _ = some (.builtin "isinstance") from rfl) (pa_cons (pv 0) (pa_cons (pe_ty "int" rfl T.n_int rfl) pa_nil))) (pe_one (pe_not (pe_callB call_isinst rfl T.n_isinstance (show bootBuiltins _ = some (.builtin "isinstance") from rfl) (pa_cons (pv 0) (pa_cons (pe_ty "bool" rfl T.n_bool rfl) pa_nil)))))))), ?_⟩
  obtain ⟨b1, b2, k1, k2, e⟩ := whole_kit hty
  rw [e] at q
  refine ⟨_, rfl, _, _, _, _, _, rfl, ty_is, hty, k1, _, rfl, ?_⟩
  cases b1 with
  | false => exact q
  | true => exact ⟨_, rfl, _, _, _, _, _, rfl, ty_is, hty, k2, _, rfl, q⟩
end


def inB (m : Int) : V → Bool
  | .int i => decide (0 ≤ i ∧ i ≤ m)
  | _ => false
def spInB (K : PySem.W.Frag) (m : Int) : Sp := fun vs H Q _ => ∃ x T, vs = [x] ∧ TyOf K H x (.type T) ∧ Q (.bl (inB m x)) H
section
variable {P : Program} {w : World} {K : PySem.W.Frag} {mg : Str → Option Value} {base : Heap}
theorem sc_is_amount : FnScope ["thing"] ["thing"] (defScope s_is_amount) := ⟨rfl, rfl, rfl, by decide +kernel, rfl, by decide +kernel, by decide +kernel⟩
theorem ok_is_amount {f : Addr} {fd : FuncData} (F : Fun K "is_amount" "is_amount" s_is_amount f fd) (T : Txt K mg) (Cis_whole : Cal P w K mg base 1 "is_whole" ["thing"] (spWhole K)) : FnOk P w K mg base CX0 2 f fd ["thing"] (spInB K 999999999999) := by
  have sc := sc_is_amount
  refine F.ok sc (fun vs H Q E h => ?_) (fun cdv A outer s H vs Q E hr h => ?_)
  · obtain ⟨_, _, rfl, _⟩ := h
    rfl
  obtain ⟨x, ty, rfl, hty, q⟩ := h
  refine ⟨_, (pss_one (ps_ret (pe_and (pe_callC Cis_whole (hr.mono (by decide)) rfl (pa_cons (pv 0) pa_nil)) (pe_one (pe_chain op_le op_le pe_int (pv 0) (pe_gint T.g_MOST_CENTS rfl)))))), ?_⟩
  refine ⟨_, rfl, _, _, rfl, hty, _, rfl, ?_⟩
  cases x with
  | int i =>
    refine iteT ⟨_, rfl, _, _, rfl, rfl, _, rfl, ?_⟩
    by_cases c1 : (0 : Int) ≤ i
    · refine dT c1 ⟨_, _, rfl, rfl, ?_⟩
      show Q (.bl (decide (i ≤ 999999999999))) H
      have e : decide (0 ≤ i ∧ i ≤ 999999999999) = decide (i ≤ 999999999999) := by
        by_cases c2 : i ≤ 999999999999
        · rw [decide_eq_true c2, decide_eq_true ⟨c1, c2⟩]
        · rw [decide_eq_false c2, decide_eq_false (fun y => c2 y.2)]
      rw [← e]
      exact q
    · refine dF c1 ?_
      rw [show inB 999999999999 (.int i) = false from decide_eq_false (fun y => c1 y.1)] at q
      exact q
  | _ => exact iteF q
end


/-! ### clauses -/
inductive Cl where
  | own (y : Str) (d : Int) | lay (y : Str) (a b : Int) | lim (y : Str) (m : Int) | any (y : Str)
def Cl.way : Cl → Str
  | .own y _ => y
  | .lay y _ _ => y
  | .lim y _ => y
  | .any y => y
def flds : Cl → List (Str × V)
  | .own y d => putF "cents" (.int d) (putF "by" (.str y) [])
  | .lay y a b => putF "upto" (.int b) (putF "first" (.int a) (putF "by" (.str y) []))
  | .lim y m => putF "most" (.int m) (putF "by" (.str y) [])
  | .any y => putF "by" (.str y) []
def isWay (y : Str) : Prop := y = "event" ∨ y = "thing" ∨ y = "year" ∨ y = "loss"
def amt (d : Int) : Prop := 0 ≤ d ∧ d ≤ 999999999999
def clsOf (CC CO CL CM : Addr) : Cl → Addr
  | .own _ _ => CO
  | .lay _ _ _ => CL
  | .lim _ _ => CM
  | .any _ => CC
def ClAt (CC CO CL CM : Addr) (H : Hp) (p : Addr) (c : Cl) : Prop := ∃ dx, H p = some (.ins (clsOf CC CO CL CM c) dx (flds c))
def Fam (CC CO CL CM : Addr) (C : Addr) : Prop := C = CC ∨ C = CO ∨ C = CL ∨ C = CM
theorem fam_of (CC CO CL CM : Addr) (c : Cl) : Fam CC CO CL CM (clsOf CC CO CL CM c) := by
  cases c with
  | own _ _ => exact .inr (.inl rfl)
  | lay _ _ _ => exact .inr (.inr (.inl rfl))
  | lim _ _ => exact .inr (.inr (.inr rfl))
  | any _ => exact .inl rfl
theorem way_in {y : Str} (h : isWay y) : inV (.str y) [.str "event", .str "thing", .str "year", .str "loss"] = true := by
  rcases h with rfl | rfl | rfl | rfl <;> decide +kernel
theorem lk_most (y : Str) (m : Int) : (flds (.lim y m)).lookup ("most" : Str) = some (.int m) := by unfold flds; rw [lookup_putF, if_pos rfl]
theorem lk_no (c : Cl) {m : Str} (h1 : ¬ m = "by") (h2 : ¬ m = "cents") (h3 : ¬ m = "first") (h4 : ¬ m = "upto") (h5 : ¬ m = "most") : (flds c).lookup m = none := by
  cases c with
  | own y d => unfold flds; rw [lookup_putF, if_neg h2, lookup_putF, if_neg h1]; rfl
  | lay y a b => unfold flds; rw [lookup_putF, if_neg h4, lookup_putF, if_neg h3, lookup_putF, if_neg h1]; rfl
  | lim y n => unfold flds; rw [lookup_putF, if_neg h5, lookup_putF, if_neg h1]; rfl
  | any y => unfold flds; rw [lookup_putF, if_neg h1]; rfl
theorem no_room (c : Cl) : (flds c).lookup ("room" : Str) = none := lk_no c (by decide +kernel) (by decide +kernel) (by decide +kernel) (by decide +kernel) (by decide +kernel)
def sRoom : Cl → Int → V
  | .lim _ m, n => .int (CR.maxI (m - n) 0)
  | _, _ => .non
def spChk : Sp := fun vs H Q _ => ∃ n : Int, vs = [.int n] ∧ amt n ∧ Q (.int n) H
def spCI (CC CO CL CM : Addr) : Sp := fun vs H Q _ => ∃ p C dx fs y, vs = [.ref p, .str y] ∧ H p = some (.ins C dx fs) ∧ Fam CC CO CL CM C ∧ fs.length < 1000 ∧ isWay y ∧ Q .non (upd H p (.ins C dx (putF "by" (.str y) fs)))
def spOwn (CC CO CL CM : Addr) : Sp := fun vs H Q _ => ∃ p dx y, ∃ d : Int, vs = [.ref p, .str y, .int d] ∧ H p = some (.ins CO dx []) ∧ isWay y ∧ amt d ∧ ∀ H', (∀ b o, H b = some o → b ≠ p → H' b = some o) → ClAt CC CO CL CM H' p (.own y d) → Q .non H'
def spLay (CC CO CL CM : Addr) : Sp := fun vs H Q _ => ∃ p dx y, ∃ a b : Int, vs = [.ref p, .str y, .int a, .int b] ∧ H p = some (.ins CL dx []) ∧ isWay y ∧ amt a ∧ amt b ∧ a < b ∧ ∀ H', (∀ b o, H b = some o → b ≠ p → H' b = some o) → ClAt CC CO CL CM H' p (.lay y a b) → Q .non H'
def spLim (CC CO CL CM : Addr) : Sp := fun vs H Q _ => ∃ p dx y, ∃ d : Int, vs = [.ref p, .str y, .int d] ∧ H p = some (.ins CM dx []) ∧ isWay y ∧ amt d ∧ ∀ H', (∀ b o, H b = some o → b ≠ p → H' b = some o) → ClAt CC CO CL CM H' p (.lim y d) → Q .non H'
def spRoom (CC CO CL CM : Addr) (C : Addr) : Sp := fun vs H Q _ => ∃ p c, ∃ n : Int, vs = [.ref p, .int n] ∧ ClAt CC CO CL CM H p c ∧ clsOf CC CO CL CM c = C ∧ Q (sRoom c n) H
theorem made_same {C : Addr} {H H2 : Hp} {x dx : Addr} (nx : H x = none) (ndx : H dx = none) (kp : ∀ b o, (upd (upd H dx (.own x)) x (.ins C dx [])) b = some o → b ≠ x → H2 b = some o) : Same H H2 := fun b o e =>
  kp b o (by rw [upd_ne (ne_of_none e nx), upd_ne (ne_of_none e ndx)]; exact e) (ne_of_none e nx)
theorem kit_ss {K : PySem.W.Frag} : PySem.W.kitOne K (.type "str") (.type "str") = some true := by kernel_rfl
section
variable {P : Program} {w : World} {K : PySem.W.Frag} {mg : Str → Option Value} {base : Heap} {C_Clause C_Own C_Layer C_Limit C_Deal C_Cover C_Condition : Addr}
theorem cls_any (L : Kl K mg C_Clause C_Own C_Layer C_Limit C_Deal C_Cover C_Condition) {c : Cl} (h : clsOf C_Clause C_Own C_Layer C_Limit c = C_Clause) : ∃ y, c = .any y := by
  have nd := L.nd
  simp only [List.nodup_cons, List.mem_cons, List.not_mem_nil, not_or, or_false] at nd
  cases c with
  | any y => exact ⟨y, rfl⟩
  | own _ _ => exact absurd (show C_Own = C_Clause from h).symm nd.1.1
  | lay _ _ _ => exact absurd (show C_Layer = C_Clause from h).symm nd.1.2.1
  | lim _ _ => exact absurd (show C_Limit = C_Clause from h).symm nd.1.2.2.1
theorem cls_own (L : Kl K mg C_Clause C_Own C_Layer C_Limit C_Deal C_Cover C_Condition) {c : Cl} (h : clsOf C_Clause C_Own C_Layer C_Limit c = C_Own) : ∃ y d, c = .own y d := by
  have nd := L.nd
  simp only [List.nodup_cons, List.mem_cons, List.not_mem_nil, not_or, or_false] at nd
  cases c with
  | own y d => exact ⟨y, d, rfl⟩
  | any _ => exact absurd (show C_Clause = C_Own from h) nd.1.1
  | lay _ _ _ => exact absurd (show C_Layer = C_Own from h).symm nd.2.1.1
  | lim _ _ => exact absurd (show C_Limit = C_Own from h).symm nd.2.1.2.1
theorem cls_lay (L : Kl K mg C_Clause C_Own C_Layer C_Limit C_Deal C_Cover C_Condition) {c : Cl} (h : clsOf C_Clause C_Own C_Layer C_Limit c = C_Layer) : ∃ y a b, c = .lay y a b := by
  have nd := L.nd
  simp only [List.nodup_cons, List.mem_cons, List.not_mem_nil, not_or, or_false] at nd
  cases c with
  | lay y a b => exact ⟨y, a, b, rfl⟩
  | any _ => exact absurd (show C_Clause = C_Layer from h) nd.1.2.1
  | own _ _ => exact absurd (show C_Own = C_Layer from h) nd.2.1.1
  | lim _ _ => exact absurd (show C_Limit = C_Layer from h).symm nd.2.2.1.1
theorem cls_lim (L : Kl K mg C_Clause C_Own C_Layer C_Limit C_Deal C_Cover C_Condition) {c : Cl} (h : clsOf C_Clause C_Own C_Layer C_Limit c = C_Limit) : ∃ y m, c = .lim y m := by
  have nd := L.nd
  simp only [List.nodup_cons, List.mem_cons, List.not_mem_nil, not_or, or_false] at nd
  cases c with
  | lim y m => exact ⟨y, m, rfl⟩
  | any _ => exact absurd (show C_Clause = C_Limit from h) nd.1.2.2.1
  | own _ _ => exact absurd (show C_Own = C_Limit from h) nd.2.1.2.1
  | lay _ _ _ => exact absurd (show C_Layer = C_Limit from h) nd.2.2.1.1
theorem sc_checked_amount : FnScope ["thing"] ["thing"] (defScope s_checked_amount) := ⟨rfl, rfl, rfl, by decide +kernel, rfl, by decide +kernel, by decide +kernel⟩
theorem ok_checked_amount {f : Addr} {fd : FuncData} (F : Fun K "checked_amount" "checked_amount" s_checked_amount f fd) (T : Txt K mg) (Cis_amount : Cal P w K mg base 2 "is_amount" ["thing"] (spInB K 999999999999)) : FnOk P w K mg base CX0 3 f fd ["thing"] spChk := by
  have sc := sc_checked_amount
  refine F.ok sc (fun vs H Q E h => ?_) (fun cdv A outer s H vs Q E hr h => ?_)
  · obtain ⟨_, rfl, _⟩ := h
    rfl
  obtain ⟨n, rfl, ⟨h0, h1⟩, q⟩ := h
  refine ⟨_, (pss_cons (ps_if (pt_not (pt_val (pe_callC Cis_amount (hr.mono (by decide)) rfl (pa_cons (pv 0) pa_nil))))
        (pss_one ps_never)
        pss_nil)
      (pss_one (ps_ret (pv 0)))), ?_⟩
  refine ⟨_, rfl, _, _, rfl, .int n, _, rfl, ?_⟩
  rw [show inB 999999999999 (.int n) = true from decide_eq_true ⟨h0, h1⟩]
  exact iteF ⟨_, rfl, q⟩
theorem sc_Clause___init__ : FnScope ["self", "by"] ["self", "by"] (defScope s_Clause___init__) := ⟨rfl, rfl, rfl, by decide +kernel, rfl, by decide +kernel, by decide +kernel⟩
theorem ok_Clause___init__ {f : Addr} {fd : FuncData} (F : Fun K "__init__" "Clause.__init__" s_Clause___init__ f fd) (T : Txt K mg) (L : Kl K mg C_Clause C_Own C_Layer C_Limit C_Deal C_Cover C_Condition) : FnOk P w K mg base CX0 2 f fd ["self", "by"] (spCI C_Clause C_Own C_Layer C_Limit) := by
  have sc := sc_Clause___init__
  refine F.ok sc (fun vs H Q E h => ?_) (fun cdv A outer s H vs Q E hr h => ?_)
  · obtain ⟨_, _, _, _, _, rfl, _⟩ := h
    rfl
  obtain ⟨p, C, dx, fs, y, rfl, hp, fam, hl, hy, q⟩ := h
  refine ⟨_, (pss_cons (ps_if (PW.pt (pw_or (pt_not (pt_val (pe_callB call_isinst rfl T.n_isinstance (show bootBuiltins _ = some (.builtin "isinstance") from rfl) (pa_cons (pv 1) (pa_cons (pe_ty "str" rfl T.n_str rfl) pa_nil))))) (pw_or1 (pt_cmpR op_notIn_seq (pv 1) (pe_gtup T.t_WAYS rfl) rfl))))
        (pss_one ps_never)
        pss_nil)
      (pss_one (ps_fld (pv 0) (pv 1) rfl))), ?_⟩
  refine ⟨_, rfl, _, _, _, _, _, rfl, ty_is, .str y, kit_ss, _, rfl, iteF ?_⟩
  refine ⟨_, rfl, fun a hs => ⟨a, _, rfl, .inr hs, rfl, rfl, _, rfl, ?_⟩⟩
  show if (!inV (.str y) [.str "event", .str "thing", .str "year", .str "loss"]) = true then _ else _
  rw [way_in hy]
  refine iteF ?_
  have cl : Cls K C := by
    rcases fam with rfl | rfl | rfl | rfl
    · exact L.cl_Clause
    · exact L.cl_Own
    · exact L.cl_Layer
    · exact L.cl_Limit
  have na : NoAttr K C "by" := by
    rcases fam with rfl | rfl | rfl | rfl
    · exact L.na_Clause_by
    · exact L.na_Own_by
    · exact L.na_Layer_by
    · exact L.na_Limit_by
  exact ⟨_, rfl, _, rfl, p, C, dx, fs, rfl, hp, cl, na, hl, q⟩
theorem sc_Own___init__ : FnScope ["self", "by", "cents"] ["self", "by", "cents"] (defScope s_Own___init__) := ⟨rfl, rfl, rfl, by decide +kernel, rfl, by decide +kernel, by decide +kernel⟩
theorem ok_Own___init__ {f : Addr} {fd : FuncData} (F : Fun K "__init__" "Own.__init__" s_Own___init__ f fd) (T : Txt K mg) (L : Kl K mg C_Clause C_Own C_Layer C_Limit C_Deal C_Cover C_Condition) (BClause___init__ : BCal P w K mg base 2 "Clause" "__init__" ["self", "by"] (spCI C_Clause C_Own C_Layer C_Limit)) (Cchecked_amount : Cal P w K mg base 3 "checked_amount" ["thing"] spChk) :
    FnOk P w K mg base CX0 4 f fd ["self", "by", "cents"] (spOwn C_Clause C_Own C_Layer C_Limit) := by
  have sc := sc_Own___init__
  refine F.ok sc (fun vs H Q E h => ?_) (fun cdv A outer s H vs Q E hr h => ?_)
  · obtain ⟨_, _, _, _, rfl, _⟩ := h
    rfl
  obtain ⟨p, dx, y, d, rfl, hp, hy, hd, q⟩ := h
  refine ⟨_, (pss_cons (ps_expr (pe_baseC BClause___init__ (hr.mono (by decide)) rfl (pa_cons (pv 0) (pa_cons (pv 1) pa_nil))))
      (pss_one (ps_fld (pv 0) (pe_callC Cchecked_amount (hr.mono (by decide)) rfl (pa_cons (pv 2) pa_nil)) rfl))), ?_⟩
  refine ⟨_, rfl, _, rfl, p, _, dx, [], y, rfl, hp, .inr (.inl rfl), by decide, hy, ?_⟩
  exact ⟨_, rfl, d, rfl, hd, _, rfl, p, _, dx, _, rfl, upd_same, L.cl_Own, L.na_Own_cents, (by show 1 < 1000; decide), q _ (fun b o z n => by rw [upd_ne n, upd_ne n]; exact z) ⟨dx, upd_same⟩⟩
theorem sc_Layer___init__ : FnScope ["self", "by", "first", "upto"] ["self", "by", "first", "upto"] (defScope s_Layer___init__) := ⟨rfl, rfl, rfl, by decide +kernel, rfl, by decide +kernel, by decide +kernel⟩
theorem ok_Layer___init__ {f : Addr} {fd : FuncData} (F : Fun K "__init__" "Layer.__init__" s_Layer___init__ f fd) (T : Txt K mg) (L : Kl K mg C_Clause C_Own C_Layer C_Limit C_Deal C_Cover C_Condition) (BClause___init__ : BCal P w K mg base 2 "Clause" "__init__" ["self", "by"] (spCI C_Clause C_Own C_Layer C_Limit)) (Cchecked_amount : Cal P w K mg base 3 "checked_amount" ["thing"] spChk) :
    FnOk P w K mg base CX0 4 f fd ["self", "by", "first", "upto"] (spLay C_Clause C_Own C_Layer C_Limit) := by
  have sc := sc_Layer___init__
  refine F.ok sc (fun vs H Q E h => ?_) (fun cdv A outer s H vs Q E hr h => ?_)
  · obtain ⟨_, _, _, _, _, rfl, _⟩ := h
    rfl
  obtain ⟨p, dx, y, a, b, rfl, hp, hy, ha, hb, hab, q⟩ := h
  refine ⟨_, (pss_cons (ps_expr (pe_baseC BClause___init__ (hr.mono (by decide)) rfl (pa_cons (pv 0) (pa_cons (pv 1) pa_nil))))
      (pss_cons (ps_fld (pv 0) (pe_callC Cchecked_amount (hr.mono (by decide)) rfl (pa_cons (pv 2) pa_nil)) rfl)
      (pss_cons (ps_fld (pv 0) (pe_callC Cchecked_amount (hr.mono (by decide)) rfl (pa_cons (pv 3) pa_nil)) rfl)
      (pss_one (ps_if (pt_not (pt_cmpR op_lt (pv 2) (pv 3) (nomark _)))
        (pss_one ps_never)
        pss_nil))))), ?_⟩
  refine ⟨_, rfl, _, rfl, p, _, dx, [], y, rfl, hp, .inr (.inr (.inl rfl)), by decide, hy, ?_⟩
  refine ⟨_, rfl, a, rfl, ha, _, rfl, p, _, dx, _, rfl, upd_same, L.cl_Layer, L.na_Layer_first, (by show 1 < 1000; decide), ?_⟩
  refine ⟨_, rfl, b, rfl, hb, _, rfl, p, _, dx, _, rfl, upd_same, L.cl_Layer, L.na_Layer_upto, (by show 2 < 1000; decide), ?_⟩
  refine ⟨_, rfl, _, rfl, _, _, rfl, rfl, _, rfl, nF hab ?_⟩
  exact q _ (fun b o z n => by rw [upd_ne n, upd_ne n, upd_ne n]; exact z) ⟨dx, upd_same⟩
theorem sc_Limit___init__ : FnScope ["self", "by", "most"] ["self", "by", "most"] (defScope s_Limit___init__) := ⟨rfl, rfl, rfl, by decide +kernel, rfl, by decide +kernel, by decide +kernel⟩
theorem ok_Limit___init__ {f : Addr} {fd : FuncData} (F : Fun K "__init__" "Limit.__init__" s_Limit___init__ f fd) (T : Txt K mg) (L : Kl K mg C_Clause C_Own C_Layer C_Limit C_Deal C_Cover C_Condition) (BClause___init__ : BCal P w K mg base 2 "Clause" "__init__" ["self", "by"] (spCI C_Clause C_Own C_Layer C_Limit)) (Cchecked_amount : Cal P w K mg base 3 "checked_amount" ["thing"] spChk) :
    FnOk P w K mg base CX0 4 f fd ["self", "by", "most"] (spLim C_Clause C_Own C_Layer C_Limit) := by
  have sc := sc_Limit___init__
  refine F.ok sc (fun vs H Q E h => ?_) (fun cdv A outer s H vs Q E hr h => ?_)
  · obtain ⟨_, _, _, _, rfl, _⟩ := h
    rfl
  obtain ⟨p, dx, y, d, rfl, hp, hy, hd, q⟩ := h
  refine ⟨_, (pss_cons (ps_expr (pe_baseC BClause___init__ (hr.mono (by decide)) rfl (pa_cons (pv 0) (pa_cons (pv 1) pa_nil))))
      (pss_one (ps_fld (pv 0) (pe_callC Cchecked_amount (hr.mono (by decide)) rfl (pa_cons (pv 2) pa_nil)) rfl))), ?_⟩
  refine ⟨_, rfl, _, rfl, p, _, dx, [], y, rfl, hp, .inr (.inr (.inr rfl)), by decide, hy, ?_⟩
  exact ⟨_, rfl, d, rfl, hd, _, rfl, p, _, dx, _, rfl, upd_same, L.cl_Limit, L.na_Limit_most, (by show 1 < 1000; decide), q _ (fun b o z n => by rw [upd_ne n, upd_ne n]; exact z) ⟨dx, upd_same⟩⟩
end


section
variable {P : Program} {w : World} {K : PySem.W.Frag} {mg : Str → Option Value} {base : Heap} {C_Clause C_Own C_Layer C_Limit C_Deal C_Cover C_Condition : Addr}
theorem sc_Clause_room : FnScope ["self", "paid"] ["self", "paid"] (defScope s_Clause_room) := ⟨rfl, rfl, rfl, by decide +kernel, rfl, by decide +kernel, by decide +kernel⟩
theorem ok_Clause_room {f : Addr} {fd : FuncData} (F : Fun K "room" "Clause.room" s_Clause_room f fd) (T : Txt K mg) {C : Addr} (hC : ∀ c, clsOf C_Clause C_Own C_Layer C_Limit c = C → ∀ n, sRoom c n = .non) : FnOk P w K mg base CX0 1 f fd ["self", "paid"] (spRoom C_Clause C_Own C_Layer C_Limit C) := by
  have sc := sc_Clause_room
  refine F.ok sc (fun vs H Q E h => ?_) (fun cdv A outer s H vs Q E hr h => ?_)
  · obtain ⟨_, _, _, rfl, _⟩ := h
    rfl
  obtain ⟨p, c, n, rfl, hp, hc, q⟩ := h
  refine ⟨_, (pss_one (ps_ret pe_non)), ?_⟩
  rw [hC c hc n] at q
  exact q
theorem sc_Limit_room : FnScope ["self", "paid"] ["self", "paid"] (defScope s_Limit_room) := ⟨rfl, rfl, rfl, by decide +kernel, rfl, by decide +kernel, by decide +kernel⟩
theorem ok_Limit_room {f : Addr} {fd : FuncData} (F : Fun K "room" "Limit.room" s_Limit_room f fd) (T : Txt K mg) (L : Kl K mg C_Clause C_Own C_Layer C_Limit C_Deal C_Cover C_Condition) : FnOk P w K mg base CX0 1 f fd ["self", "paid"] (spRoom C_Clause C_Own C_Layer C_Limit C_Limit) := by
  have sc := sc_Limit_room
  refine F.ok sc (fun vs H Q E h => ?_) (fun cdv A outer s H vs Q E hr h => ?_)
  · obtain ⟨_, _, _, rfl, _⟩ := h
    rfl
  obtain ⟨p, c, n, rfl, ⟨dx, hp⟩, hc, q⟩ := h
  obtain ⟨y, m, rfl⟩ := cls_lim L hc
  refine ⟨_, (pss_one (ps_ret (pe_callB (call_max2 rfl) rfl T.n_max (show bootBuiltins _ = some (.builtin "max") from rfl) (pa_cons (pe_op op_sub (pe_fld (pv 0) rfl) (pv 1)) (pa_cons pe_int pa_nil))))), ?_⟩
  exact ⟨_, rfl, p, _, dx, _, _, rfl, hp, L.cl_Limit, L.na_Limit_most, lk_most y m, _, rfl, _, _, rfl, rfl, _, _, rfl, q⟩
end


def spWeights : Sp := fun vs H Q _ => ∃ a ws, vs = [.ref a] ∧ H a = some (.lst (List.map V.int ws)) ∧ CR.GW ws ∧ Q (.bl true) H
def spMay : Sp := fun vs H Q _ => ∃ w d T t : Int, vs = [.int w, .int d, .int T, .int t] ∧ (0 ≤ w ∧ w ≤ 100) ∧ (0 ≤ T ∧ T ≤ 100) ∧ Q (.bl (decide (d * T < w * (t + 1)))) H
def spDue : Sp := fun vs H Q _ => ∃ w d T : Int, vs = [.int w, .int d, .int T] ∧ (1 ≤ w ∧ w ≤ 100) ∧ (0 ≤ T ∧ T ≤ 100) ∧ Q (.int (((d + 1) * T + w - 1) / w)) H
def spPlace : Sp := fun vs H Q _ => ∃ a b ws ds, ∃ t : Nat, vs = [.ref a, .ref b, .int t] ∧ H a = some (.lst (List.map V.int ws)) ∧ H b = some (.lst (List.map V.int ds)) ∧ CR.GW ws ∧ ds.length = ws.length ∧ ds.sum = t ∧
  ∀ H', Same H H' → Q (.int (CR.place ws ds t)) H'
def spTurns : Sp := fun vs H Q _ => ∃ a ws, vs = [.ref a] ∧ H a = some (.lst (List.map V.int ws)) ∧ CR.GW ws ∧ ∀ r H', Same H H' → H r = none → H' r = some (.lst (List.map V.int (CR.wheel ws))) → Q (.ref r) H'
section
variable {P : Program} {w : World} {K : PySem.W.Frag} {mg : Str → Option Value} {base : Heap}
theorem gw_at {ws : List Int} (g : CR.GW ws) {k : Int} (h0 : 0 ≤ k) (h : k < ws.length) : 1 ≤ ws.getD k.toNat 0 ∧ ws.getD k.toNat 0 ≤ 100 := by
  have m : ws.getD k.toNat 0 ∈ ws := by
    rw [List.getD_eq_getElem?_getD, List.getElem?_eq_getElem (by omega)]
    exact List.getElem_mem _
  refine ⟨g.pos _ m, ?_⟩
  have aux : ∀ (l : List Int) (x : Int), (∀ w ∈ l, 1 ≤ w) → x ∈ l → x ≤ l.sum := by
    intro l x
    induction l with
    | nil => intro _ h; cases h
    | cons y l ih =>
      intro hp hx
      have nn : ∀ l : List Int, (∀ w ∈ l, 1 ≤ w) → 0 ≤ l.sum := by
        intro l
        induction l with
        | nil => intro _; exact Int.le_refl 0
        | cons z l ih => intro h; have := h z List.mem_cons_self; have := ih fun w hw => h w (List.mem_cons_of_mem _ hw); rw [List.sum_cons]; omega
      have h1 := hp y List.mem_cons_self
      have hp' : ∀ w ∈ l, 1 ≤ w := fun w hw => hp w (List.mem_cons_of_mem _ hw)
      have h2 := nn l hp'
      rw [List.sum_cons]
      rcases List.mem_cons.mp hx with rfl | hx
      · omega
      · have := ih hp' hx
        omega
  have := aux ws _ g.pos m
  have := g.sum
  omega
theorem sc_are_weights : FnScope ["thing", "weight"] ["thing"] (defScope s_are_weights) := ⟨rfl, rfl, rfl, by decide +kernel, rfl, by decide +kernel, by decide +kernel⟩
theorem ok_are_weights {f : Addr} {fd : FuncData} (F : Fun K "are_weights" "are_weights" s_are_weights f fd) (T : Txt K mg) (Cis_whole : Cal P w K mg base 1 "is_whole" ["thing"] (spWhole K)) : FnOk P w K mg base CX0 2 f fd ["thing"] spWeights := by
  have sc := sc_are_weights
  refine F.ok sc (fun vs H Q E h => ?_) (fun cdv A outer s H vs Q E hr h => ?_)
  · obtain ⟨a, ws, rfl, _⟩ := h
    rfl
  obtain ⟨a, ws, rfl, ha, g, q⟩ := h
  refine ⟨_, (pss_cons (ps_if (pt_not (pt_val (pe_callB call_isinst rfl T.n_isinstance (show bootBuiltins _ = some (.builtin "isinstance") from rfl) (pa_cons (pv 0) (pa_cons (pe_ty "list" rfl T.n_list rfl) pa_nil)))))
        (pss_one (ps_ret pe_bl))
        pss_nil)
      (pss_cons (ps_if (PW.pt (pw_or (pt_cmpR op_lt (pe_callB call_len_seq rfl T.n_len (show bootBuiltins _ = some (.builtin "len") from rfl) (pa_cons (pv 0) pa_nil)) pe_int (nomark _)) (pw_or1 (pt_cmpR op_gt (pe_callB call_len_seq rfl T.n_len (show bootBuiltins _ = some (.builtin "len") from rfl) (pa_cons (pv 0) pa_nil)) (pe_gint T.g_MOST_PLACES rfl) (nomark _)))))
        (pss_one (ps_ret pe_bl))
        pss_nil)
      (pss_cons (ps_for PassesOwn.never rfl (pi_list (pv 0)) (pg_name (i := 1) sc.nd rfl (Or.inl rfl))
        (pss_one (ps_if (PW.pt (pw_or (pt_not (pt_val (pe_callC Cis_whole (hr.mono (by decide)) rfl (pa_cons (pv 1) pa_nil)))) (pw_or1 (pt_cmpR op_lt (pv 1) pe_int (nomark _)))))
        (pss_one (ps_ret pe_bl))
        pss_nil)))
      (pss_one (ps_ret (pe_cmpR op_le (pe_callB (call_sum rfl) rfl T.n_sum (show bootBuiltins _ = some (.builtin "sum") from rfl) (pa_cons (pv 0) pa_nil)) (pe_gint T.g_MOST_TURNS rfl) (nomark _))))))), ?_⟩
  have hl : (List.map V.int ws).length = ws.length := List.length_map _
  have g1 := g.lo
  have g2 := g.hi
  refine ⟨_, rfl, _, _, _, _, _, rfl, ty_is, .lst ha, kit_ll, _, rfl, ?_⟩
  refine iteF ?_
  refine ⟨_, rfl, a, _, rfl, .inl (SqL.of ha), _, _, rfl, rfl, _, rfl, ?_⟩
  refine dF (by rw [hl]; omega) ?_
  refine ⟨_, rfl, a, _, rfl, .inl (SqL.of ha), _, _, rfl, rfl, _, rfl, ?_⟩
  refine dF (by rw [hl]; omega) ?_
  refine ⟨_, rfl, a, rfl, ⟨_, SqL.of ha⟩, for_list (K := K) (a := a) (xs := List.map V.int ws) (fun i σ H2 => (∃ o, σ = [some (.ref a), o]) ∧ H2 = H) ⟨⟨none, rfl⟩, rfl⟩ (fun i σ H2 _ ⟨_, e⟩ => by rw [e]; exact SqL.of ha) ?_ ?_⟩
  · rintro i y σ H2 hi ⟨⟨o, rfl⟩, rfl⟩
    obtain ⟨n, hn, rfl⟩ := item_int hi
    refine ⟨_, rfl, _, _, rfl, .int n, _, rfl, ?_⟩
    refine iteF ?_
    refine ⟨_, rfl, _, _, rfl, rfl, _, rfl, ?_⟩
    have := g.pos n (List.mem_of_getElem? hn)
    refine dF (by omega) ?_
    exact ⟨⟨_, rfl⟩, rfl⟩
  · rintro σ H2 ⟨⟨o, rfl⟩, rfl⟩
    refine ⟨_, rfl, a, ws, rfl, SqL.of ha, _, _, rfl, rfl, ?_⟩
    show Q (.bl (decide (ws.sum ≤ 100))) H2
    rw [decide_eq_true g.sum]
    exact q
theorem sc_may_have : FnScope ["weight", "dealt", "total", "turn"] ["weight", "dealt", "total", "turn"] (defScope s_may_have) := ⟨rfl, rfl, rfl, by decide +kernel, rfl, by decide +kernel, by decide +kernel⟩
theorem ok_may_have {f : Addr} {fd : FuncData} (F : Fun K "may_have" "may_have" s_may_have f fd) (T : Txt K mg) : FnOk P w K mg base CX0 1 f fd ["weight", "dealt", "total", "turn"] spMay := by
  have sc := sc_may_have
  refine F.ok sc (fun vs H Q E h => ?_) (fun cdv A outer s H vs Q E hr h => ?_)
  · obtain ⟨_, _, _, _, rfl, _⟩ := h
    rfl
  obtain ⟨v, d, t0, t, rfl, hw, ht, q⟩ := h
  refine ⟨_, (pss_one (ps_ret (pe_cmpR op_lt (pe_op op_mul (pv 1) (pv 2)) (pe_op op_mul (pv 0) (pe_op op_add (pv 3) pe_int)) (nomark _)))), ?_⟩
  refine ⟨_, rfl, _, rfl, _, _, rfl, rfl, .inr ⟨by omega, by omega⟩, _, rfl, _, rfl, _, _, rfl, rfl, _, _, rfl, rfl, .inl ⟨by omega, by omega⟩, _, _, rfl, rfl, q⟩
theorem sc_due_by : FnScope ["weight", "dealt", "total"] ["weight", "dealt", "total"] (defScope s_due_by) := ⟨rfl, rfl, rfl, by decide +kernel, rfl, by decide +kernel, by decide +kernel⟩
theorem ok_due_by {f : Addr} {fd : FuncData} (F : Fun K "due_by" "due_by" s_due_by f fd) (T : Txt K mg) : FnOk P w K mg base CX0 1 f fd ["weight", "dealt", "total"] spDue := by
  have sc := sc_due_by
  refine F.ok sc (fun vs H Q E h => ?_) (fun cdv A outer s H vs Q E hr h => ?_)
  · obtain ⟨_, _, _, rfl, _⟩ := h
    rfl
  obtain ⟨v, d, t0, rfl, hw, ht, q⟩ := h
  refine ⟨_, (pss_one (ps_ret (pe_op op_fdiv (pe_op op_sub (pe_op op_add (pe_op op_mul (pe_op op_add (pv 1) pe_int) (pv 2)) (pv 0)) pe_int) (pv 0)))), ?_⟩
  refine ⟨_, rfl, _, _, rfl, rfl, _, rfl, _, _, rfl, rfl, .inr ⟨by omega, by omega⟩, _, rfl, _, _, rfl, rfl, _, _, rfl, rfl, _, rfl, _, _, rfl, rfl, ⟨by omega, by omega⟩, q⟩
theorem sc_place_of_turn : FnScope ["weights", "dealt", "turn", "total", "places", "best", "place"] ["weights", "dealt", "turn"] (defScope s_place_of_turn) := ⟨rfl, rfl, rfl, by decide +kernel, rfl, by decide +kernel, by decide +kernel⟩
theorem ok_place_of_turn {f : Addr} {fd : FuncData} (F : Fun K "place_of_turn" "place_of_turn" s_place_of_turn f fd) (T : Txt K mg) (Cmay_have : Cal P w K mg base 1 "may_have" ["weight", "dealt", "total", "turn"] spMay) (Cdue_by : Cal P w K mg base 1 "due_by" ["weight", "dealt", "total"] spDue) :
    FnOk P w K mg base CX0 2 f fd ["weights", "dealt", "turn"] spPlace := by
  have sc := sc_place_of_turn
  refine F.ok sc (fun vs H Q E h => ?_) (fun cdv A outer s H vs Q E hr h => ?_)
  · obtain ⟨_, _, _, _, _, rfl, _⟩ := h
    rfl
  obtain ⟨a, b, ws, ds, t, rfl, ha, hb, g, hlen, hsum, q⟩ := h
  refine ⟨_, (pss_cons (ps_set (i := 3) sc.nd rfl (Or.inr rfl) (pe_callB (call_sum rfl) rfl T.n_sum (show bootBuiltins _ = some (.builtin "sum") from rfl) (pa_cons (pv 0) pa_nil)))
      (pss_cons (ps_comp (NC := ["k", "total", "turn", "weights", "dealt"]) (own := ["k"]) (cs := ["total", "turn", "weights", "dealt"]) (ix := [3, 2, 0, 1]) (j := 4) sc.nd rfl rfl rfl (CompScope.of rfl) rfl ⟨⟨rfl, .inl rfl, rfl⟩, ⟨⟨rfl, .inl rfl, rfl⟩, ⟨⟨rfl, .inl rfl, rfl⟩, ⟨⟨rfl, .inl rfl, rfl⟩, trivial⟩⟩⟩⟩ (pi_range1 rfl T.n_range (pa_cons (pe_callB call_len_seq rfl T.n_len (show bootBuiltins _ = some (.builtin "len") from rfl) (pa_cons (pv 0) pa_nil)) pa_nil)) (fun _ _ _ => (pg_name (i := 0) (show (["k", "total", "turn", "weights", "dealt"] : List Str).Nodup from by decide +kernel) rfl (Or.inl rfl))) (fun _ _ _ => (pts_one (pt_val (pe_callC Cmay_have (hr.mono (by decide)) rfl (pa_cons (pe_ix (ix_listK (K := K) rfl) (pv 3) (pv 0) (fun _ _ => rfl)) (pa_cons (pe_ix (ix_listK (K := K) rfl) (pv 4) (pv 0) (fun _ _ => rfl)) (pa_cons (pv 1) (pa_cons (pv 2) pa_nil)))))))) (fun _ _ _ => (pv 0)))
      (pss_cons (ps_set (i := 5) sc.nd rfl (Or.inl rfl) (pe_ix ix_list (pv 4) pe_int (fun _ _ => rfl)))
      (pss_cons (ps_for PassesOwn.never rfl (pi_list (pv 4)) (pg_name (i := 6) sc.nd rfl (Or.inl rfl))
        (pss_one (ps_if (pt_cmpR op_lt (pe_callC Cdue_by (hr.mono (by decide)) rfl (pa_cons (pe_ix ix_list (pv 0) (pv 6) (fun _ _ => rfl)) (pa_cons (pe_ix ix_list (pv 1) (pv 6) (fun _ _ => rfl)) (pa_cons (pv 3) pa_nil)))) (pe_callC Cdue_by (hr.mono (by decide)) rfl (pa_cons (pe_ix ix_list (pv 0) (pv 5) (fun _ _ => rfl)) (pa_cons (pe_ix ix_list (pv 1) (pv 5) (fun _ _ => rfl)) (pa_cons (pv 3) pa_nil)))) (nomark _))
        (pss_one (ps_set (i := 5) sc.nd rfl (Or.inl rfl) (pv 6)))
        pss_nil)))
      (pss_one (ps_ret (pv 5))))))), ?_⟩
  have hl : (List.map V.int ws).length = ws.length := List.length_map _
  have g1 := g.lo
  have g2 := g.hi
  have gs := g.sum
  have gp := CR.sum_pos g
  -- total = sum(weights)
  refine ⟨_, rfl, a, ws, rfl, SqL.of ha, ?_⟩
  -- places = [k for k in range(len(weights)) if may_have(..)]
  refine ⟨_, rfl, a, _, rfl, .inl (SqL.of ha), _, rfl, by omega, by omega, fun p hp => ?_⟩
  have ep : ((List.map V.int ws).length : Int).toNat = ws.length := by rw [hl]; omega
  rw [ep]
  refine comp_range (lo := 0) (n := ws.length) (fun i ys H2 => ys = (CR.placesTo ws ds t i).map V.int ∧ H2 p = some (.lst ys) ∧ Same H H2) ⟨rfl, upd_same, same_new hp _⟩ (fun i ys H2 _ ⟨e, h1, _⟩ => ⟨h1, by rw [e, List.length_map]; exact CR.placesTo_le _ _ _ _⟩) (by rw [sizeLine_eq]; omega) (fun i ys H2 hi ⟨e, h1, s1⟩ => ?_) (fun ys H2 ⟨e, h1, s1⟩ => ?_)
  · have hw := gw_at g (k := 0 + (i : Int)) (by omega) (by omega)
    refine ⟨_, rfl, _, rfl, a, _, _, _, rfl, rfl, SqL.of (s1 _ _ ha), at_intI (by omega) (by omega), _, rfl, _, rfl, b, _, _, _, rfl, rfl, SqL.of (s1 _ _ hb), at_intI (by omega) (by omega), _, rfl, _, rfl, _, _, _, _, rfl, ⟨by omega, by omega⟩, ⟨by omega, by omega⟩, _, rfl, ?_⟩
    have em : decide (ds.getD (0 + (i : Int)).toNat 0 * ws.sum < ws.getD (0 + (i : Int)).toNat 0 * ((t : Int) + 1)) = CR.may ws ds t i := by
      rw [show (0 + (i : Int)) = (i : Int) by omega]
      rfl
    rw [em]
    have es := CR.placesTo_succ ws ds t i
    cases c : CR.may ws ds t i with
    | false =>
      rw [c] at es
      refine iteF ⟨rfl, ?_, h1, s1⟩
      rw [es, e]
      simp
    | true =>
      rw [c] at es
      refine iteT ⟨_, rfl, h1, rfl, ?_, upd_same, fun x o z => ?_⟩
      · rw [es, e]
        simp
      · rw [upd_ne (ne_of_none z hp)]
        exact s1 x o z
  subst e
  have hpl : CR.placesTo ws ds t ws.length = CR.places ws ds t := rfl
  rw [hpl] at h1
  have hne := CR.places_ne (t := t) g hlen hsum
  -- best = places[0]
  have hd0 : atI ((CR.places ws ds t).map V.int) 0 = some (.int ((CR.places ws ds t).headD 0)) := by
    cases z : CR.places ws ds t with
    | nil => exact absurd z hne
    | cons x l => exact at_int (i := 0) rfl
  refine ⟨_, rfl, p, _, _, _, rfl, rfl, SqL.of h1, hd0, ?_⟩
  -- for place in places
  have inr : ∀ k : Int, k ∈ CR.places ws ds t → 0 ≤ k ∧ k < ws.length := fun k hk => ⟨(CR.placesTo_mem hk).1, (CR.placesTo_mem hk).2.1⟩
  refine ⟨_, rfl, p, rfl, ⟨_, SqL.of h1⟩, for_list (K := K) (a := p) (xs := (CR.places ws ds t).map V.int)
    (fun i σ H3 => (∃ o, ∃ best : Int, σ = [some (.ref a), some (.ref b), some (.int t), some (.int ws.sum), some (.ref p), some (.int best), o] ∧ best = CR.pick (CR.due ws ds) ((CR.places ws ds t).headD 0) ((CR.places ws ds t).take i) ∧ 0 ≤ best ∧ best < ws.length) ∧ H3 = H2)
    ⟨⟨none, _, rfl, rfl, ?_⟩, rfl⟩ (fun i σ H3 _ ⟨_, z⟩ => by rw [z]; exact SqL.of h1) ?_ ?_⟩
  · cases z : CR.places ws ds t with
    | nil => exact absurd z hne
    | cons x l => exact inr x (by rw [z]; exact List.mem_cons_self)
  · rintro i y σ H3 hi ⟨⟨o, best, rfl, eb, b0, b1⟩, rfl⟩
    obtain ⟨n, hn, rfl⟩ := item_int hi
    have hnm := inr n (List.mem_of_getElem? hn)
    have w1 := gw_at g hnm.1 hnm.2
    have w2 := gw_at g b0 b1
    refine ⟨_, rfl, _, rfl, a, _, _, _, rfl, rfl, SqL.of (s1 _ _ ha), at_intI hnm.1 hnm.2, _, rfl, _, rfl, b, _, _, _, rfl, rfl, SqL.of (s1 _ _ hb), at_intI hnm.1 (by omega), _, rfl, _, _, _, rfl, w1, ⟨by omega, by omega⟩, ?_⟩
    refine ⟨_, rfl, _, rfl, a, _, _, _, rfl, rfl, SqL.of (s1 _ _ ha), at_intI b0 b1, _, rfl, _, rfl, b, _, _, _, rfl, rfl, SqL.of (s1 _ _ hb), at_intI b0 (by omega), _, rfl, _, _, _, rfl, w2, ⟨by omega, by omega⟩, _, _, rfl, rfl, _, rfl, ?_⟩
    have et : (CR.places ws ds t).take (i + 1) = (CR.places ws ds t).take i ++ [n] := by rw [List.take_add_one, hn]; rfl
    have ef : CR.pick (CR.due ws ds) ((CR.places ws ds t).headD 0) ((CR.places ws ds t).take (i + 1)) = if CR.due ws ds n < CR.due ws ds best then n else best := by
      rw [et, eb]
      unfold CR.pick
      rw [List.foldl_append]
      rfl
    refine ite2 (fun c => ?_) (fun c => ?_)
    · have c' : CR.due ws ds n < CR.due ws ds best := of_decide_eq_true c
      refine ⟨_, rfl, ⟨⟨_, n, rfl, ?_, hnm⟩, rfl⟩⟩
      rw [ef, if_pos c']
    · have c' : ¬ CR.due ws ds n < CR.due ws ds best := of_decide_eq_false (Bool.eq_false_iff.mpr c)
      refine ⟨⟨_, best, rfl, ?_, b0, b1⟩, rfl⟩
      rw [ef, if_neg c']
  · rintro σ H3 ⟨⟨o, best, rfl, eb, b0, b1⟩, rfl⟩
    refine ⟨_, rfl, ?_⟩
    rw [List.length_map, List.take_length] at eb
    rw [eb]
    exact q _ s1
theorem sc_turns : FnScope ["weights", "dealt", "wheel", "turn", "place"] ["weights"] (defScope s_turns) := ⟨rfl, rfl, rfl, by decide +kernel, rfl, by decide +kernel, by decide +kernel⟩
theorem ok_turns {f : Addr} {fd : FuncData} (F : Fun K "turns" "turns" s_turns f fd) (T : Txt K mg) (Care_weights : Cal P w K mg base 2 "are_weights" ["thing"] spWeights) (Cplace_of_turn : Cal P w K mg base 2 "place_of_turn" ["weights", "dealt", "turn"] spPlace) :
    FnOk P w K mg base CX0 3 f fd ["weights"] spTurns := by
  have sc := sc_turns
  refine F.ok sc (fun vs H Q E h => ?_) (fun cdv A outer s H vs Q E hr h => ?_)
  · obtain ⟨_, _, rfl, _⟩ := h
    rfl
  obtain ⟨a, ws, rfl, ha, g, q⟩ := h
  refine ⟨_, (pss_cons (ps_if (pt_not (pt_val (pe_callC Care_weights (hr.mono (by decide)) rfl (pa_cons (pv 0) pa_nil))))
        (pss_one ps_never)
        pss_nil)
      (pss_cons (ps_comp (NC := ["weight"]) (own := ["weight"]) (cs := []) (ix := []) (j := 1) sc.nd rfl rfl rfl (CompScope.of rfl) rfl trivial (pi_list (pv 0)) (fun _ _ _ => (pg_name (i := 0) (show (["weight"] : List Str).Nodup from by decide +kernel) rfl (Or.inl rfl))) (fun _ _ _ => pts_nil) (fun _ _ _ => pe_int))
      (pss_cons (ps_set (i := 2) sc.nd rfl (Or.inl rfl) (pe_lst pa_nil))
      (pss_cons (ps_for PassesOwn.never rfl (pi_range1 rfl T.n_range (pa_cons (pe_callB (call_sum rfl) rfl T.n_sum (show bootBuiltins _ = some (.builtin "sum") from rfl) (pa_cons (pv 0) pa_nil)) pa_nil)) (pg_name (i := 3) sc.nd rfl (Or.inl rfl))
        (pss_cons (ps_set (i := 4) sc.nd rfl (Or.inl rfl) (pe_callC Cplace_of_turn (hr.mono (by decide)) rfl (pa_cons (pv 0) (pa_cons (pv 1) (pa_cons (pv 3) pa_nil)))))
      (pss_cons (ps_asg (pe_op op_add (pe_ix ix_list (pv 1) (pv 4) (fun _ _ => rfl)) pe_int) (pg_sub (pv 1) (pv 4) set_list))
      (pss_one (ps_expr (pe_bm PySem.F.plainAttrs_list PySem.F.slot_list_append PySem.F.type_list_append mt_append (pv 2) (pa_cons (pv 4) pa_nil)))))))
      (pss_one (ps_ret (pv 2))))))), ?_⟩
  have hl : (List.map V.int ws).length = ws.length := List.length_map _
  have g1 := g.lo
  have g2 := g.hi
  have gs := g.sum
  have gp := CR.sum_pos g
  refine ⟨_, rfl, a, ws, rfl, ha, g, _, rfl, ?_⟩
  refine iteF ?_
  -- dealt = [0 for weight in weights]
  refine ⟨_, rfl, a, rfl, ⟨_, SqL.of ha⟩, fun b hb => ?_⟩
  refine comp_list (K := K) (a := a) (xs := List.map V.int ws) (fun i ys H2 => ys = (List.replicate i (0 : Int)).map V.int ∧ H2 b = some (.lst ys) ∧ Same H H2) ⟨rfl, upd_same, same_new hb _⟩
    (fun i ys H2 _ ⟨e, h1, s1⟩ => ⟨h1, by rw [e, List.length_map, List.length_replicate]; exact Nat.le_refl _, SqL.of (s1 _ _ ha)⟩) (by rw [hl, sizeLine_eq]; omega) (fun i x ys H2 hi ⟨e, h1, s1⟩ => ?_) (fun ys H2 ⟨e, h1, s1⟩ => ?_)
  · show H2 b = some (.lst ys) ∧ _ ∧ _
    refine ⟨h1, rfl, ?_, upd_same, fun x o z => ?_⟩
    · rw [e, List.replicate_succ', List.map_append]
      rfl
    · rw [upd_ne (ne_of_none z hb)]
      exact s1 x o z
  subst e
  rw [hl] at h1
  -- wheel = []
  refine ⟨Nat.zero_le _, fun r hr' => ?_⟩
  have s2 : Same H2 (upd H2 r (.lst [])) := same_new hr' _
  have hab : a ≠ b := ne_of_none ha hb
  have har : a ≠ r := ne_of_none (s1 _ _ ha) hr'
  have hbr : b ≠ r := ne_of_none h1 hr'
  have hrH : H r = none := s1.free hr'
  -- for turn in range(sum(weights))
  refine ⟨_, rfl, a, ws, rfl, SqL.of (s2 _ _ (s1 _ _ ha)), _, rfl, by omega, by omega, for_range (lo := 0) (n := ws.sum.toNat)
    (fun i σ H3 => (∃ o1 o2, σ = [some (.ref a), some (.ref b), some (.ref r), o1, o2]) ∧ H3 b = some (.lst ((CR.run ws i).1.map V.int)) ∧ H3 r = some (.lst ((CR.run ws i).2.map V.int)) ∧ Same H H3)
    ⟨⟨none, none, rfl⟩, s2 _ _ h1, upd_same, s1.trans s2⟩ ?_ ?_⟩
  · rintro i σ H3 hi ⟨⟨o1, o2, rfl⟩, hb3, hr3, s3⟩
    have A0 := CR.run_at g i
    have hpl := CR.place_in (t := i) g A0.len A0.sum
    have ei : (0 + (i : Int)) = (i : Int) := by omega
    rw [ei]
    -- place = place_of_turn(weights, dealt, turn)
    refine ⟨_, rfl, _, rfl, _, rfl, a, b, ws, _, i, rfl, s3 _ _ ha, hb3, g, A0.len, A0.sum, fun H4 s4 => ?_⟩
    -- dealt[place] = dealt[place] + 1
    have lenb : ((CR.run ws i).1.map V.int).length = ws.length := by rw [List.length_map, A0.len]
    refine ⟨_, rfl, _, rfl, b, _, _, _, rfl, rfl, SqL.of (s4 _ _ hb3), at_intI hpl.1 (by rw [A0.len]; exact hpl.2.1), _, _, rfl, rfl, ?_⟩
    refine ⟨_, rfl, _, rfl, b, _, _, (CR.place ws (CR.run ws i).1 i).toNat, rfl, rfl, s4 _ _ hb3, ?_, ?_⟩
    · rw [lenb]
      exact ix_of hpl.1 hpl.2.1
    -- wheel.append(place)
    have hr5 : upd H4 b (.lst (((CR.run ws i).1.map V.int).set (CR.place ws (CR.run ws i).1 i).toNat (.int ((CR.run ws i).1.getD (CR.place ws (CR.run ws i).1 i).toNat 0 + 1)))) r = some (.lst ((CR.run ws i).2.map V.int)) := by
      rw [upd_ne hbr.symm]
      exact s4 _ _ hr3
    refine ⟨_, rfl, .inl ⟨rfl, _, SqL.of hr5⟩, _, rfl, r, _, _, rfl, rfl, hr5, ?_, ?_⟩
    · rw [List.length_map, A0.row, sizeLine_eq]
      omega
    refine ⟨⟨_, _, rfl⟩, ?_, ?_, fun x o z => ?_⟩
    · rw [upd_ne hbr, upd_same]
      congr 2
      show _ = (CR.put _ _).map V.int
      unfold CR.put
      rw [List.map_set]
      rfl
    · rw [upd_same]
      congr 2
      show _ = ((CR.run ws i).2 ++ [_]).map V.int
      rw [List.map_append]
      rfl
    · rw [upd_ne (ne_of_none z hrH), upd_ne (ne_of_none z hb)]
      exact s4 _ _ (s3 x o z)
  · rintro σ H3 ⟨⟨o1, o2, rfl⟩, hb3, hr3, s3⟩
    exact ⟨_, rfl, q r H3 s3 hrH hr3⟩
end


/-! ### the class Deal -/
def fldsD (wh wt : Addr) : List (Str × V) := putF "weights" (.ref wt) (putF "wheel" (.ref wh) [])
structure DealAt (C : Addr) (H : Hp) (d wh wt : Addr) (ws : List Int) : Prop where
  ob : ∃ dx, H d = some (.ins C dx (fldsD wh wt))
  hw : H wh = some (.lst (List.map V.int (CR.wheel ws)))
  ht : H wt = some (.lst (List.map V.int ws))
structure Dl (K : PySem.W.Frag) (C : Addr) : Prop where
  cl : Cls K C
  nW : NoAttr K C "wheel"
  nG : NoAttr K C "weights"
def spInit (C : Addr) : Sp := fun vs H Q _ => ∃ p dx a ws, vs = [.ref p, .ref a] ∧ H p = some (.ins C dx []) ∧ H a = some (.lst (List.map V.int ws)) ∧ CR.GW ws ∧
  ∀ wh wt H', (∀ b o, H b = some o → b ≠ p → H' b = some o) → DealAt C H' p wh wt ws → H wh = none → H wt = none → Q .non H'
section
variable {P : Program} {w : World} {K : PySem.W.Frag} {mg : Str → Option Value} {base : Heap}
theorem sc_Deal___init__ : FnScope ["self", "weights"] ["self", "weights"] (defScope s_Deal___init__) := ⟨rfl, rfl, rfl, by decide +kernel, rfl, by decide +kernel, by decide +kernel⟩
theorem ok_Deal___init__ {f C : Addr} {fd : FuncData} (F : Fun K "__init__" "Deal.__init__" s_Deal___init__ f fd) (T : Txt K mg) (L : Dl K C) (Cturns : Cal P w K mg base 3 "turns" ["weights"] spTurns) : FnOk P w K mg base CX0 4 f fd ["self", "weights"] (spInit C) := by
  have sc := sc_Deal___init__
  refine F.ok sc (fun vs H Q E h => ?_) (fun cdv A outer s H vs Q E hr h => ?_)
  · obtain ⟨_, _, _, _, rfl, _⟩ := h
    rfl
  obtain ⟨p, dx, a, ws, rfl, hp, ha, g, q⟩ := h
  refine ⟨_, (pss_cons (ps_fld (pv 0) (pe_callC Cturns (hr.mono (by decide)) rfl (pa_cons (pv 1) pa_nil)) rfl)
      (pss_one (ps_fld (pv 0) (pe_callTy call_list_of rfl T.n_list (show bootBuiltins _ = some (.type "list") from rfl) (pa_cons (pv 1) pa_nil)) rfl))), ?_⟩
  have hpa : a ≠ p := ne_of ha hp (by intro z; cases z)
  refine ⟨_, rfl, a, ws, rfl, ha, g, fun wh H1 s1 hwn h1 => ?_⟩
  refine ⟨_, rfl, p, C, dx, [], rfl, s1 _ _ hp, L.cl, L.nW, (by show 0 < 1000; decide), ?_⟩
  have hwp : wh ≠ p := (ne_of_none hp hwn).symm
  have ha2 : upd H1 p (.ins C dx (putF "wheel" (.ref wh) [])) a = some (.lst (List.map V.int ws)) := by rw [upd_ne hpa]; exact s1 _ _ ha
  refine ⟨_, rfl, a, _, rfl, .inl (SqL.of ha2), fun wt hwt => ?_⟩
  have hpt : p ≠ wt := fun z => by rw [← z, upd_same] at hwt; cases hwt
  have hwt1 : H1 wt = none := by rw [upd_ne hpt.symm] at hwt; exact hwt
  refine ⟨_, rfl, p, C, dx, _, rfl, (by rw [upd_ne hpt, upd_same]), L.cl, L.nG, (by show 1 < 1000; decide), ?_⟩
  refine q wh wt _ (fun b o e hb => ?_) ⟨⟨dx, upd_same⟩, ?_, ?_⟩ ?_ ?_
  · rw [upd_ne hb, upd_ne (ne_of_none (s1 _ _ e) hwt1), upd_ne hb]
    exact s1 _ _ e
  · rw [upd_ne hwp, upd_ne (ne_of_none h1 hwt1), upd_ne hwp]
    exact h1
  · rw [upd_ne hpt.symm, upd_same]
  · exact hwn
  · exact s1.free hwt1
end


/-! ### names -/
def letter (c : Nat) : Prop := 97 ≤ c ∧ c ≤ 122
instance : DecidablePred letter := fun c => by unfold letter; exact inferInstance
def AllLet (l : List Nat) : Prop := ∀ c ∈ l, letter c
instance (l : List Nat) : Decidable (AllLet l) := by unfold AllLet; exact inferInstance
def NameL (l : List Nat) : Prop := (1 ≤ l.length ∧ l.length ≤ 8) ∧ AllLet l
instance (l : List Nat) : Decidable (NameL l) := by unfold NameL; exact inferInstance
theorem let_in {c : Nat} : (c ∈ (Str.ofString "abcdefghijklmnopqrstuvwxyz").cps.toList) ↔ letter c := by
  have e : (Str.ofString "abcdefghijklmnopqrstuvwxyz").cps.toList = (List.range 26).map (97 + ·) := by decide +kernel
  rw [e, List.mem_map]
  unfold letter
  constructor
  · rintro ⟨k, hk, rfl⟩
    have := List.mem_range.mp hk
    omega
  · intro h
    exact ⟨c - 97, List.mem_range.mpr (by omega), by omega⟩
def isStrV : V → Bool
  | .str _ => true
  | _ => false
def nameV : V → Bool
  | .str z => decide (NameL z.cps.toList)
  | _ => false
def okX (x : V) : Prop := ∀ z, x = .str z → z.length ≤ 900
theorem str_kit {K : PySem.W.Frag} {H : Hp} {x : V} {T : String} (h : TyOf K H x (.type T)) : PySem.W.kitOne K (.type T) (.type "str") = some (isStrV x) := by
  cases h with
  | non => kernel_rfl
  | bl b => kernel_rfl
  | int i => kernel_rfl
  | str i => kernel_rfl
  | flt i => kernel_rfl
  | lst e => kernel_rfl
  | frz e => kernel_rfl
  | tup e => kernel_rfl
  | dK e => kernel_rfl
  | dT e => kernel_rfl
def spLet : Sp := fun vs H Q _ => ∃ l, vs = [.str (tx l)] ∧ Q (.bl (decide (AllLet l))) H
def spName (K : PySem.W.Frag) : Sp := fun vs H Q _ => ∃ x T, vs = [x] ∧ TyOf K H x (.type T) ∧ okX x ∧ Q (.bl (nameV x)) H
section
seal L2.PS L2.PSs L2.PE
variable {P : Program} {w : World} {K : PySem.W.Frag} {mg : Str → Option Value} {base : Heap}
theorem sc_has_letters_alone : FnScope ["text", "sign"] ["text"] (defScope s_has_letters_alone) := ⟨rfl, rfl, rfl, by decide +kernel, rfl, by decide +kernel, by decide +kernel⟩
theorem ok_has_letters_alone {f : Addr} {fd : FuncData} (F : Fun K "has_letters_alone" "has_letters_alone" s_has_letters_alone f fd) (T : Txt K mg) : FnOk P w K mg base CX0 1 f fd ["text"] spLet := by
  have sc := sc_has_letters_alone
  refine F.ok sc (fun vs H Q E h => ?_) (fun cdv A outer s H vs Q E hr h => ?_)
  · obtain ⟨_, rfl, _⟩ := h
    rfl
  obtain ⟨l, rfl, q⟩ := h
  refine ⟨_, (pss_cons (ps_for PassesOwn.never rfl (pi_str (pv 0)) (pg_name (i := 1) sc.nd rfl (Or.inl rfl))
        (pss_one (ps_if (pt_cmpR op_notIn1 (pv 1) (pe_gstr T.g_LETTERS rfl) rfl)
        (pss_one (ps_ret pe_bl))
        pss_nil)))
      (pss_one (ps_ret pe_bl))), ?_⟩
  refine ⟨_, rfl, _, rfl, for_str (l := l) (fun i σ H2 => ((∃ o, σ = [some (.str (tx l)), o]) ∧ H2 = H) ∧ ∀ j c, j < i → l[j]? = some c → letter c) ⟨⟨⟨none, rfl⟩, rfl⟩, fun _ _ z => absurd z (Nat.not_lt_zero _)⟩ ?_ ?_⟩
  · rintro i c σ H2 hi ⟨⟨⟨o, rfl⟩, rfl⟩, good⟩
    refine ⟨_, rfl, c, _, rfl, rfl, _, rfl, ?_⟩
    by_cases hc : letter c
    · refine nF (let_in.mpr hc) ⟨⟨⟨_, rfl⟩, rfl⟩, fun j d hj hd => ?_⟩
      by_cases e : j = i
      · subst e
        rw [hi] at hd
        cases hd
        exact hc
      · exact good j d (by omega) hd
    · refine nT (fun z => hc (let_in.mp z)) ?_
      have n : ¬ AllLet l := fun z => hc (z c (List.mem_of_getElem? hi))
      rw [decide_eq_false n] at q
      exact q
  · rintro σ H2 ⟨⟨⟨o, rfl⟩, rfl⟩, good⟩
    have all : AllLet l := fun c hc => by
      obtain ⟨j, hj, e⟩ := List.getElem_of_mem hc
      exact good j c hj (by rw [List.getElem?_eq_getElem hj, e])
    rw [decide_eq_true all] at q
    exact q
theorem sc_is_name : FnScope ["thing"] ["thing"] (defScope s_is_name) := ⟨rfl, rfl, rfl, by decide +kernel, rfl, by decide +kernel, by decide +kernel⟩
theorem ok_is_name {f : Addr} {fd : FuncData} (F : Fun K "is_name" "is_name" s_is_name f fd) (T : Txt K mg) (Chas_letters_alone : Cal P w K mg base 1 "has_letters_alone" ["text"] spLet) : FnOk P w K mg base CX0 2 f fd ["thing"] (spName K) := by
  have sc := sc_is_name
  refine F.ok sc (fun vs H Q E h => ?_) (fun cdv A outer s H vs Q E hr h => ?_)
  · obtain ⟨_, _, rfl, _⟩ := h
    rfl
  obtain ⟨x, ty, rfl, hty, ok, q⟩ := h
  refine ⟨_, (pss_cons (ps_if (pt_not (pt_val (pe_callB call_isinst rfl T.n_isinstance (show bootBuiltins _ = some (.builtin "isinstance") from rfl) (pa_cons (pv 0) (pa_cons (pe_ty "str" rfl T.n_str rfl) pa_nil)))))
        (pss_one (ps_ret pe_bl))
        pss_nil)
      (pss_one (ps_ret (pe_and (pe_chain op_le op_le pe_int (pe_callB call_len_str rfl T.n_len (show bootBuiltins _ = some (.builtin "len") from rfl) (pa_cons (pv 0) pa_nil)) (pe_gint T.g_LONGEST_NAME rfl)) (pe_one (pe_callC Chas_letters_alone (hr.mono (by decide)) rfl (pa_cons (pv 0) pa_nil))))))), ?_⟩
  refine ⟨_, rfl, _, _, _, _, _, rfl, ty_is, hty, str_kit hty, _, rfl, ?_⟩
  cases x with
  | str z =>
    have hz := ok z rfl
    have ez : tx z.cps.toList = z := tx_of z
    refine iteF ⟨_, rfl, _, rfl, le_line (by omega), ?_⟩
    have lz : (z.length : Int) = (z.cps.toList.length : Int) := by rw [← tx_len, ez]
    refine ⟨_, _, rfl, rfl, _, rfl, ?_⟩
    by_cases c1 : 1 ≤ (z.length : Int)
    · refine dT c1 ⟨_, _, rfl, rfl, _, rfl, ?_⟩
      by_cases c2 : (z.length : Int) ≤ 8
      · refine dT c2 ⟨_, rfl, z.cps.toList, by rw [ez]; rfl, ?_⟩
        have e : decide (NameL z.cps.toList) = decide (AllLet z.cps.toList) := by
          by_cases a : AllLet z.cps.toList
          · rw [decide_eq_true a, decide_eq_true (show NameL _ from ⟨⟨by omega, by omega⟩, a⟩)]
          · rw [decide_eq_false a, decide_eq_false (fun y => a y.2)]
        rw [← e]
        exact q
      · refine dF c2 ?_
        rw [show nameV (.str z) = false from decide_eq_false (fun y => c2 (by have := y.1.2; omega))] at q
        exact q
    · refine dF c1 ⟨_, rfl, iteF ?_⟩
      rw [show nameV (.str z) = false from decide_eq_false (fun y => c1 (by have := y.1.1; omega))] at q
      exact q
  | _ => exact iteT q
end


/-! ### covers, no houses told -/
def KB (p : Addr) (H H' : Hp) : Prop := ∀ b o, H b = some o → b ≠ p → H' b = some o
theorem KB.upd {p : Addr} {H H' : Hp} (k : KB p H H') (o : HO) : KB p H (upd H' p o) := fun b u e n => by rw [upd_ne n]; exact k b u e n
theorem KB.same {p : Addr} {H H' H'' : Hp} (k : KB p H H') (s : Same H' H'') : KB p H H'' := fun b u e n => s _ _ (k b u e n)
/-- the cover at p keeps its clauses at cl -/
def CvAt (C : Addr) (H : Hp) (p cl : Addr) : Prop := ∃ dx fs, H p = some (.ins C dx fs) ∧ fs.lookup ("clauses" : Str) = some (.ref cl) ∧ fs.lookup ("rest" : Str) = none
theorem atG {i : Nat} {v : V} {nx : St → Hp → Prop} {σ : St} {H : Hp} (σ' : St) (e : σ.set i (some v) = σ') (h : nx σ' H) : gName i v σ H nx := by
  unfold gName
  rw [e]
  exact h
theorem drop_at {α : Type} {l : List α} {i : Nat} {x : α} (h : l[i]? = some x) : l.drop i = x :: l.drop (i + 1) := by
  rw [List.drop_eq_getElem_cons (List.getElem?_eq_some_iff.mp h).1]
  congr 1
  exact (List.getElem?_eq_some_iff.mp h).2
theorem flat_strs (l : List Str) : (l.map V.str).all flatV = true := by
  rw [List.all_map]
  exact List.all_eq_true.mpr fun _ _ => rfl
theorem flat_ints (l : List Int) : (l.map V.int).all flatV = true := by
  rw [List.all_map]
  exact List.all_eq_true.mpr fun _ _ => rfl
def spHouses : Sp := fun vs H Q _ => ∃ a, ∃ ns : List Str, vs = [.ref a] ∧ H a = some (.lst (ns.map V.str)) ∧ (∀ z ∈ ns, nameV (.str z) = true ∧ z.length ≤ 900) ∧ ns.Nodup ∧ ∀ H', Same H H' → Q .non H'
def spCover (C : Addr) : Sp := fun vs H Q _ => ∃ p dx nm cd c0 xs wv, vs = [.ref p, .str nm, cd, .ref c0, .non, wv] ∧ H p = some (.ins C dx []) ∧ nameV (.str nm) = true ∧ nm.length ≤ 900 ∧ nm ≠ "self" ∧ H c0 = some (.lst xs) ∧ xs.length ≤ 8 ∧
  ∀ cl H', KB p H H' → CvAt C H' p cl → H' cl = some (.lst xs) → Q .non H'
theorem gw_one : CR.GW [1] := ⟨by decide, by decide, by decide, by decide⟩
theorem f1 {f g : Str} {v : V} {fs : List (Str × V)} (h : ¬ g = f) : (putF f v fs).lookup g = fs.lookup g := by rw [lookup_putF, if_neg h]
theorem len_putF (f : Str) (v : V) : ∀ fs : List (Str × V), (putF f v fs).length ≤ fs.length + 1
  | [] => Nat.le_refl _
  | (g, u) :: fs => by
    unfold putF
    split
    · simp
    · have := len_putF f v fs
      simp only [List.length_cons]
      omega
section
variable {P : Program} {w : World} {K : PySem.W.Frag} {mg : Str → Option Value} {base : Heap} {C_Clause C_Own C_Layer C_Limit C_Deal C_Cover C_Condition : Addr}
theorem sc_check_houses : FnScope ["houses", "k", "house"] ["houses"] (defScope s_check_houses) := ⟨rfl, rfl, rfl, by decide +kernel, rfl, by decide +kernel, by decide +kernel⟩
theorem ok_check_houses {f : Addr} {fd : FuncData} (F : Fun K "check_houses" "check_houses" s_check_houses f fd) (T : Txt K mg) (Cis_name : Cal P w K mg base 2 "is_name" ["thing"] (spName K)) : FnOk P w K mg base CX0 3 f fd ["houses"] spHouses := by
  have sc := sc_check_houses
  refine F.ok sc (fun vs H Q E h => ?_) (fun cdv A outer s H vs Q E hr h => ?_)
  · obtain ⟨_, _, rfl, _⟩ := h
    rfl
  obtain ⟨a, ns, rfl, ha, hn, nd, q⟩ := h
  refine ⟨_, (pss_one (ps_for PassesOwn.never rfl (pi_enum rfl T.n_enumerate (pa_cons (pv 0) pa_nil)) (pg_tup (n := 2) rfl (pgs_cons (pg_name (i := 1) sc.nd rfl (Or.inl rfl)) (pgs_cons (pg_name (i := 2) sc.nd rfl (Or.inl rfl)) pgs_nil)))
        (pss_one (ps_if (PW.pt (pw_or (pt_not (pt_val (pe_callC Cis_name (hr.mono (by decide)) rfl (pa_cons (pv 2) pa_nil)))) (pw_or1 (pt_cmpR op_in_seq (pv 2) (pe_slice sl_list (pv 0) po_none (po_some (pv 1))) rfl))))
        (pss_one ps_never)
        pss_nil)))), ?_⟩
  refine ⟨_, rfl, a, rfl, ⟨_, SqL.of ha⟩, for_enum (K := K) (a := a) (xs := ns.map V.str) (fun i σ H2 => (∃ o1 o2, σ = [some (.ref a), o1, o2]) ∧ Same H H2) ⟨⟨none, none, rfl⟩, fun _ _ z => z⟩ (fun i σ H2 _ ⟨_, e⟩ => SqL.of (e _ _ ha)) ?_ ?_⟩
  · rintro i x σ H2 t hi ⟨⟨o1, o2, rfl⟩, s2⟩ nt
    rw [List.getElem?_map] at hi
    obtain ⟨z, hz, rfl⟩ : ∃ z, ns[i]? = some z ∧ V.str z = x := by
      cases e : ns[i]? with
      | none => rw [e] at hi; cases hi
      | some z => rw [e] at hi; exact ⟨z, rfl, by simpa using hi⟩
    obtain ⟨h1, h2⟩ := hn z (List.mem_of_getElem? hz)
    have s3 := s2.trans (same_new nt (.tup [.int i, .str z]))
    have il : i < ns.length := (List.getElem?_eq_some_iff.mp hz).1
    refine ⟨_, rfl, _, _, rfl, .str z, (fun y e => by cases e; exact h2), _, rfl, bF (by rw [h1]; rfl) ?_⟩
    refine ⟨_, rfl, _, rfl, _, rfl, _, rfl, a, _, rfl, SqL.of (s3 _ _ ha), fun m nm => ?_⟩
    have ec : cutV (ns.map V.str) none (some (i : Int)) = (ns.take i).map V.str := by
      unfold cutV
      have e1 : HT.sIx (ns.map V.str).length (ns.map V.str).length (some (i : Int)) = i := by rw [HT.sIx_nat, List.length_map]; omega
      rw [e1, HT.sIx_none, List.drop_zero, Nat.sub_zero, List.map_take]
    have s4 := s3.trans (same_new nm (.lst (cutV (ns.map V.str) none (some (i : Int)))))
    refine ⟨m, (ns.take i).map V.str, rfl, .inl (SqL.of (by rw [upd_same, ec])), rfl, flat_strs _, _, rfl, bF ?_ ⟨⟨_, _, rfl⟩, s4⟩⟩
    show inV (.str z) ((ns.take i).map V.str) = false
    unfold inV
    rw [List.any_map]
    rw [List.any_eq_false]
    intro y hy e
    have ne : y ≠ z := fun c => by
      subst c
      obtain ⟨j, hj, ej⟩ := List.getElem_of_mem hy
      have hj' : j < i := by rw [List.length_take] at hj; omega
      have e2 : ns[j]'(by omega) = ns[i] := by
        rw [List.getElem_take] at ej
        rw [ej]
        exact ((List.getElem?_eq_some_iff.mp hz).2).symm
      exact absurd ((List.getElem_inj nd).mp e2) (by omega)
    have e' : eqV (.str y) (.str z) = true := e
    unfold eqV at e'
    exact ne (by simpa using e')
  · rintro σ H2 ⟨⟨o1, o2, rfl⟩, s2⟩
    exact q _ s2
theorem sc_Cover___init__ : FnScope ["self", "name", "condition", "clauses", "houses", "waits", "pairs"] ["self", "name", "condition", "clauses", "houses", "waits"] (defScope s_Cover___init__) := ⟨rfl, rfl, rfl, by decide +kernel, rfl, by decide +kernel, by decide +kernel⟩
seal L2.PS L2.PSs L2.PE L2.PA
theorem ok_Cover___init__ {f : Addr} {fd : FuncData} (F : FunD K "__init__" "Cover.__init__" s_Cover___init__ f fd) (T : Txt K mg) (L : Kl K mg C_Clause C_Own C_Layer C_Limit C_Deal C_Cover C_Condition) (Cis_name : Cal P w K mg base 2 "is_name" ["thing"] (spName K)) (Ccheck_houses : Cal P w K mg base 3 "check_houses" ["houses"] spHouses)
    (KDeal : KCal P w K mg base 4 "Deal" C_Deal ["self", "weights"] (spInit C_Deal)) : FnOk P w K mg base CX0 6 f fd ["self", "name", "condition", "clauses", "houses", "waits"] (spCover C_Cover) := by
  have sc := sc_Cover___init__
  refine F.ok sc (fun vs H Q E h => ?_) (fun cdv A outer s H vs Q E hr h => ?_)
  · obtain ⟨_, _, _, _, _, _, _, rfl, _⟩ := h
    rfl
  obtain ⟨p, dx, nm, cd, c0, xs, wv, rfl, hp, hn, hl, ns, hc, l8, q⟩ := h
  refine ⟨_, (pss_cons (ps_if (PW.pt (pw_or (pt_not (pt_val (pe_callC Cis_name (hr.mono (by decide)) rfl (pa_cons (pv 1) pa_nil)))) (pw_or1 (pt_cmpR op_eq (pv 1) (pe_gstr T.g_COVERED_ONE rfl) (nomark _)))))
        (pss_one ps_never)
        pss_nil)
      (pss_cons (ps_fld (pv 0) (pv 1) rfl)
      (pss_cons (ps_fld (pv 0) (pv 2) rfl)
      (pss_cons (ps_fld (pv 0) (pe_ifExp (pt_cmpR op_isN (pv 3) pe_non (nomark _)) (pe_lst pa_nil) (pe_callTy call_list_of rfl T.n_list (show bootBuiltins _ = some (.type "list") from rfl) (pa_cons (pv 3) pa_nil))) rfl)
      (pss_cons (ps_if (pt_cmpR op_gt (pe_callB call_len_seq rfl T.n_len (show bootBuiltins _ = some (.builtin "len") from rfl) (pa_cons (pe_fld (pv 0) rfl) pa_nil)) (pe_gint T.g_MOST_CLAUSES rfl) (nomark _))
        (pss_one ps_never)
        pss_nil)
      (pss_cons (ps_set (i := 6) sc.nd rfl (Or.inl rfl) (pe_ifExp (pt_cmpR op_isN (pv 4) pe_non (nomark _)) (pe_lst (pa_cons (pe_tup (pa_cons (pv 1) (pa_cons pe_int pa_nil))) pa_nil)) (pv 4)))
      (pss_cons (ps_fld (pv 0) (pe_comp (NC := ["pair"]) (own := ["pair"]) (cs := []) (ix := []) rfl (CompScope.of rfl) rfl trivial (pi_list (pv 6)) (fun _ _ _ => (pg_name (i := 0) (show (["pair"] : List Str).Nodup from by decide +kernel) rfl (Or.inl rfl))) (fun _ _ _ => pts_nil) (fun _ _ _ => (pe_ix (ix_tupK (K := K) rfl) (pv 0) pe_int (fun _ _ => rfl)))) rfl)
      (pss_cons (ps_expr (pe_callC Ccheck_houses (hr.mono (by decide)) rfl (pa_cons (pe_fld (pv 0) rfl) pa_nil)))
      (pss_cons (ps_fld (pv 0) (pe_makeC KDeal (hr.mono (by decide)) rfl (pa_cons (pe_comp (NC := ["pair"]) (own := ["pair"]) (cs := []) (ix := []) rfl (CompScope.of rfl) rfl trivial (pi_list (pv 6)) (fun _ _ _ => (pg_name (i := 0) (show (["pair"] : List Str).Nodup from by decide +kernel) rfl (Or.inl rfl))) (fun _ _ _ => pts_nil) (fun _ _ _ => (pe_ix (ix_tupK (K := K) rfl) (pv 0) pe_int (fun _ _ => rfl)))) pa_nil)) rfl)
      (pss_one (ps_fld (pv 0) (pv 5) rfl))))))))))), ?_⟩
  have one : 1 ≤ sizeLine := by rw [sizeLine_eq]; decide
  have two : 2 ≤ sizeLine := by rw [sizeLine_eq]; decide
  have ncp : c0 ≠ p := ne_of hc hp (by intro z; cases z)
  refine ⟨_, rfl, _, _, rfl, .str nm, (fun y e => by cases e; exact hl), _, rfl, bF (by rw [hn]; rfl) ?_⟩
  refine ⟨_, rfl, rfl, _, rfl, dF (fun z => ns (V.str.inj z)) ?_⟩
  -- name, condition
  refine ⟨_, rfl, _, rfl, p, C_Cover, dx, [], rfl, hp, L.cl_Cover, L.na_Cover_name, by decide, ?_⟩
  refine ⟨_, rfl, _, rfl, p, C_Cover, dx, _, rfl, upd_same, L.cl_Cover, L.na_Cover_condition, Nat.lt_of_le_of_lt (len_putF _ _ _) (by decide), ?_⟩
  have k2 : KB p H (upd (upd H p (.ins C_Cover dx (putF "name" (.str nm) []))) p (.ins C_Cover dx (putF "condition" cd (putF "name" (.str nm) [])))) := KB.upd (KB.upd (fun _ _ e _ => e) _) _
  have e2 : upd (upd H p (.ins C_Cover dx (putF "name" (.str nm) []))) p (.ins C_Cover dx (putF "condition" cd (putF "name" (.str nm) []))) p = some (.ins C_Cover dx (putF "condition" cd (putF "name" (.str nm) []))) := upd_same
  have g2 : (putF "condition" cd (putF "name" (.str nm) [])).length ≤ 2 := Nat.le_trans (len_putF _ _ _) (Nat.succ_le_succ (len_putF _ _ _))
  have r2 : (putF "condition" cd (putF "name" (.str nm) [])).lookup ("rest" : Str) = none := by rw [f1 (by decide +kernel), f1 (by decide +kernel)]; rfl
  generalize putF "condition" cd (putF "name" (.str nm) []) = fs2 at k2 e2 g2 r2
  generalize upd (upd H p (.ins C_Cover dx (putF "name" (.str nm) []))) p (.ins C_Cover dx fs2) = H2 at k2 e2
  -- clauses
  have hc2 := k2 _ _ hc ncp
  refine ⟨_, rfl, rfl, _, rfl, dF (fun z => nomatch z) ?_⟩
  refine ⟨_, rfl, c0, _, rfl, .inl (SqL.of hc2), fun cl ncl => ?_⟩
  have s3 := same_new ncl (.lst xs)
  have ncl' : cl ≠ p := (ne_of_none e2 ncl).symm
  refine ⟨_, rfl, p, C_Cover, dx, fs2, rfl, s3 _ _ e2, L.cl_Cover, L.na_Cover_clauses, by omega, ?_⟩
  have k3 : KB p H (upd (upd H2 cl (.lst xs)) p (.ins C_Cover dx (putF "clauses" (.ref cl) fs2))) := (k2.same s3).upd _
  have e3 : upd (upd H2 cl (.lst xs)) p (.ins C_Cover dx (putF "clauses" (.ref cl) fs2)) p = some (.ins C_Cover dx (putF "clauses" (.ref cl) fs2)) := upd_same
  have c3 : upd (upd H2 cl (.lst xs)) p (.ins C_Cover dx (putF "clauses" (.ref cl) fs2)) cl = some (.lst xs) := by rw [upd_ne ncl', upd_same]
  have g3 : (putF "clauses" (.ref cl) fs2).length ≤ 3 := Nat.le_trans (len_putF _ _ _) (by omega)
  have r3 : (putF "clauses" (.ref cl) fs2).lookup ("rest" : Str) = none := by rw [f1 (by decide +kernel)]; exact r2
  have w3 : (putF "clauses" (.ref cl) fs2).lookup ("clauses" : Str) = some (.ref cl) := by rw [lookup_putF, if_pos rfl]
  generalize putF "clauses" (.ref cl) fs2 = fs3 at k3 e3 c3 g3 r3 w3
  generalize upd (upd H2 cl (.lst xs)) p (.ins C_Cover dx fs3) = H3 at k3 e3 c3
  refine ⟨_, rfl, p, C_Cover, dx, fs3, _, rfl, e3, L.cl_Cover, L.na_Cover_clauses, w3, cl, _, rfl, .inl (SqL.of c3), _, _, rfl, rfl, _, rfl, dF (by omega) ?_⟩
  -- pairs
  refine ⟨_, rfl, rfl, _, rfl, dT rfl ?_⟩
  refine ⟨_, rfl, two, fun t nt => ⟨one, fun pl npl => ?_⟩⟩
  have s4 := (same_new nt (.tup [.str nm, .int 1])).trans (same_new npl (.lst [.ref t]))
  have et : upd (upd H3 t (.tup [.str nm, .int 1])) pl (.lst [.ref t]) t = some (.tup [.str nm, .int 1]) := same_new npl _ _ _ upd_same
  have ep : upd (upd H3 t (.tup [.str nm, .int 1])) pl (.lst [.ref t]) pl = some (.lst [.ref t]) := upd_same
  refine atG [some (.ref p), some (.str nm), some cd, some (.ref c0), some .non, some wv, some (.ref pl)] rfl ?_
  generalize upd (upd H3 t (.tup [.str nm, .int 1])) pl (.lst [.ref t]) = H4 at s4 et ep
  have e4 := s4 _ _ e3
  have c4 := s4 _ _ c3
  have k4 := k3.same s4
  have npp : pl ≠ p := ne_of ep e4 (by intro z; cases z)
  have ntp : t ≠ p := ne_of et e4 (by intro z; cases z)
  -- houses
  refine ⟨_, rfl, pl, rfl, ⟨_, SqL.of ep⟩, fun hs nhs => ?_⟩
  refine comp_list (K := K) (a := pl) (xs := [.ref t]) (fun i ys H5 => ys = ([V.str nm].take i) ∧ H5 hs = some (.lst ys) ∧ Same H4 H5) ⟨rfl, upd_same, same_new nhs _⟩
    (fun i ys H5 _ ⟨e, h1, s5⟩ => ⟨h1, by rw [e, List.length_take]; omega, SqL.of (s5 _ _ ep)⟩) one (fun i x ys H5 hi ⟨e, h1, s5⟩ => ?_) (fun ys H5 ⟨e, h1, s5⟩ => ?_)
  · obtain ⟨rfl, rfl⟩ : i = 0 ∧ x = .ref t := by
      cases i with
      | zero => exact ⟨rfl, by simpa using hi.symm⟩
      | succ i => simp at hi
    refine ⟨_, rfl, t, _, _, _, rfl, rfl, SqT.of (s5 _ _ et), rfl, h1, rfl, by rw [e]; rfl, upd_same, fun b o z => ?_⟩
    rw [upd_ne (ne_of_none z nhs)]
    exact s5 b o z
  subst e
  have h1' : H5 hs = some (.lst ([nm].map V.str)) := h1
  have e5 := s5 _ _ e4
  have c5 := s5 _ _ c4
  have k5 := k4.same s5
  have et5 := s5 _ _ et
  have ep5 := s5 _ _ ep
  have nhp : hs ≠ p := (ne_of_none e4 nhs).symm
  refine ⟨_, rfl, p, C_Cover, dx, fs3, rfl, e5, L.cl_Cover, L.na_Cover_houses, by omega, ?_⟩
  have e6 : upd H5 p (.ins C_Cover dx (putF "houses" (.ref hs) fs3)) p = some (.ins C_Cover dx (putF "houses" (.ref hs) fs3)) := upd_same
  have c6 : upd H5 p (.ins C_Cover dx (putF "houses" (.ref hs) fs3)) cl = some (.lst xs) := by rw [upd_ne ncl']; exact c5
  have h6 : upd H5 p (.ins C_Cover dx (putF "houses" (.ref hs) fs3)) hs = some (.lst ([nm].map V.str)) := by rw [upd_ne nhp]; exact h1'
  have ep6 : upd H5 p (.ins C_Cover dx (putF "houses" (.ref hs) fs3)) pl = some (.lst [.ref t]) := by rw [upd_ne npp]; exact ep5
  have et6 : upd H5 p (.ins C_Cover dx (putF "houses" (.ref hs) fs3)) t = some (.tup [.str nm, .int 1]) := by rw [upd_ne ntp]; exact et5
  have k6 : KB p H (upd H5 p (.ins C_Cover dx (putF "houses" (.ref hs) fs3))) := k5.upd _
  have g6 : (putF "houses" (.ref hs) fs3).length ≤ 4 := Nat.le_trans (len_putF _ _ _) (by omega)
  have r6 : (putF "houses" (.ref hs) fs3).lookup ("rest" : Str) = none := by rw [f1 (by decide +kernel)]; exact r3
  have w6 : (putF "houses" (.ref hs) fs3).lookup ("clauses" : Str) = some (.ref cl) := by rw [f1 (by decide +kernel)]; exact w3
  have v6 : (putF "houses" (.ref hs) fs3).lookup ("houses" : Str) = some (.ref hs) := by rw [lookup_putF, if_pos rfl]
  generalize putF "houses" (.ref hs) fs3 = fs6 at e6 c6 h6 ep6 et6 k6 g6 r6 w6 v6
  generalize upd H5 p (.ins C_Cover dx fs6) = H6 at e6 c6 h6 ep6 et6 k6
  refine ⟨_, rfl, p, C_Cover, dx, fs6, _, rfl, e6, L.cl_Cover, L.na_Cover_houses, v6, hs, [nm], rfl, h6, fun z hz => by rw [List.mem_singleton] at hz; subst hz; exact ⟨hn, hl⟩, List.pairwise_singleton _ _, fun H7 s7 => ?_⟩
  have e7 := s7 _ _ e6
  have c7 := s7 _ _ c6
  have ep7 := s7 _ _ ep6
  have et7 := s7 _ _ et6
  have k7 := k6.same s7
  -- deal
  refine ⟨_, rfl, pl, rfl, ⟨_, SqL.of ep7⟩, fun wl nwl => ?_⟩
  refine comp_list (K := K) (a := pl) (xs := [.ref t]) (fun i ys H8 => ys = ([V.int 1].take i) ∧ H8 wl = some (.lst ys) ∧ Same H7 H8) ⟨rfl, upd_same, same_new nwl _⟩
    (fun i ys H8 _ ⟨e, h1, s8⟩ => ⟨h1, by rw [e, List.length_take]; omega, SqL.of (s8 _ _ ep7)⟩) one (fun i x ys H8 hi ⟨e, h1, s8⟩ => ?_) (fun ys H8 ⟨e, h1, s8⟩ => ?_)
  · obtain ⟨rfl, rfl⟩ : i = 0 ∧ x = .ref t := by
      cases i with
      | zero => exact ⟨rfl, by simpa using hi.symm⟩
      | succ i => simp at hi
    refine ⟨_, rfl, t, _, _, _, rfl, rfl, SqT.of (s8 _ _ et7), rfl, h1, rfl, by rw [e]; rfl, upd_same, fun b o z => ?_⟩
    rw [upd_ne (ne_of_none z nwl)]
    exact s8 b o z
  subst e
  have h2' : H8 wl = some (.lst (List.map V.int [1])) := h1
  have e8 := s8 _ _ e7
  have c8 := s8 _ _ c7
  have k8 := k7.same s8
  intro d dd nd ndd nde
  have nwd : wl ≠ d := ne_of_none h2' nd
  have nwdd : wl ≠ dd := ne_of_none h2' ndd
  refine ⟨d, dd, wl, [1], rfl, upd_same, by rw [upd_ne nwd, upd_ne nwdd]; exact h2', gw_one, fun wh wt H9 kp9 D9 _ _ => ⟨rfl, ?_⟩⟩
  have s9 : Same H8 H9 := made_same nd ndd kp9
  have e9 := s9 _ _ e8
  have c9 := s9 _ _ c8
  have k9 := k8.same s9
  refine ⟨_, rfl, p, C_Cover, dx, fs6, rfl, e9, L.cl_Cover, L.na_Cover_deal, by omega, ?_⟩
  have e10 : upd H9 p (.ins C_Cover dx (putF "deal" (.ref d) fs6)) p = some (.ins C_Cover dx (putF "deal" (.ref d) fs6)) := upd_same
  have g10 : (putF "deal" (.ref d) fs6).length ≤ 5 := Nat.le_trans (len_putF _ _ _) (by omega)
  have r10 : (putF "deal" (.ref d) fs6).lookup ("rest" : Str) = none := by rw [f1 (by decide +kernel)]; exact r6
  have w10 : (putF "deal" (.ref d) fs6).lookup ("clauses" : Str) = some (.ref cl) := by rw [f1 (by decide +kernel)]; exact w6
  refine ⟨_, rfl, _, rfl, p, C_Cover, dx, _, rfl, e10, L.cl_Cover, L.na_Cover_waits, by omega, ?_⟩
  refine q cl _ ((k9.upd _).upd _) ⟨dx, _, upd_same, by rw [f1 (by decide +kernel)]; exact w10, by rw [f1 (by decide +kernel)]; exact r10⟩ ?_
  rw [upd_ne ncl', upd_ne ncl']
  exact c9
/-- the rest, reckoned: the rooms from the k-th on -/
def restW : List (Option Int) → Int → Option (Int × Int) → Option (Int × Int)
  | [], _, o => o
  | none :: r, k, o => restW r (k + 1) o
  | some n :: r, k, none => restW r (k + 1) (some (n, k))
  | some n :: r, k, some (m, j) => restW r (k + 1) (if n < m then some (n, k) else some (m, j))
def roomO : V → Option Int
  | .int n => some n
  | _ => none
/-- a rest as a value -/
def RV (H : Hp) (v : V) : Option (Int × Int) → Prop
  | none => v = .non
  | some (n, k) => ∃ t, v = .ref t ∧ H t = some (.tup [.int n, .int k])
theorem RV.same {H H' : Hp} {v : V} (s : Same H H') : ∀ {o : Option (Int × Int)}, RV H v o → RV H' v o
  | none, h => h
  | some (n, k), ⟨t, e, h⟩ => ⟨t, e, s _ _ h⟩
def Cls4 (CC CO CL CM : Addr) (H : Hp) : List V → List Cl → Prop
  | [], [] => True
  | x :: xs, c :: cs => (∃ p, x = .ref p ∧ ClAt CC CO CL CM H p c) ∧ Cls4 CC CO CL CM H xs cs
  | _, _ => False
theorem Cls4.len {CC CO CL CM : Addr} {H : Hp} : ∀ {xs : List V} {cs : List Cl}, Cls4 CC CO CL CM H xs cs → xs.length = cs.length
  | [], [], _ => rfl
  | [], _ :: _, h => h.elim
  | _ :: _, [], h => h.elim
  | x :: xs, c :: cs, h => by rw [List.length_cons, List.length_cons, Cls4.len h.2]
theorem Cls4.get {CC CO CL CM : Addr} {H : Hp} : ∀ {xs : List V} {cs : List Cl} {i : Nat} {x : V}, Cls4 CC CO CL CM H xs cs → xs[i]? = some x → ∃ p c, cs[i]? = some c ∧ x = .ref p ∧ ClAt CC CO CL CM H p c
  | [], [], _, _, _, e => by simp at e
  | [], _ :: _, _, _, h, _ => h.elim
  | _ :: _, [], _, _, h, _ => h.elim
  | x :: xs, c :: cs, 0, y, ⟨⟨p, e, h⟩, r⟩, q => by
    simp at q
    subst q
    exact ⟨p, c, rfl, e, h⟩
  | x :: xs, c :: cs, i + 1, y, ⟨_, r⟩, q => by
    obtain ⟨p, c', h1, h2⟩ := Cls4.get (i := i) r (by simpa using q)
    exact ⟨p, c', by simpa using h1, h2⟩
theorem Cls4.mono {CC CO CL CM : Addr} {H H' : Hp} (s : ∀ b C dx fs, H b = some (.ins C dx fs) → H' b = some (.ins C dx fs)) : ∀ {xs : List V} {cs : List Cl}, Cls4 CC CO CL CM H xs cs → Cls4 CC CO CL CM H' xs cs
  | [], [], _ => trivial
  | [], _ :: _, h => h.elim
  | _ :: _, [], h => h.elim
  | x :: xs, c :: cs, ⟨⟨p, e, dx, h⟩, r⟩ => ⟨⟨p, e, dx, s _ _ _ _ h⟩, Cls4.mono s r⟩
def roomsOf (cs : List Cl) (ns : List Int) : List (Option Int) := List.zipWith (fun c n => roomO (sRoom c n)) cs ns
def spRest (CC CO CL CM C : Addr) : Sp := fun vs H Q _ => ∃ p cl ct xs cs ns, vs = [.ref p, .ref ct] ∧ CvAt C H p cl ∧ H cl = some (.lst xs) ∧ Cls4 CC CO CL CM H xs cs ∧ H ct = some (.lst (List.map V.int ns)) ∧ ns.length = cs.length ∧
  ∀ v H', Same H H' → RV H' v (restW (roomsOf cs ns) 0 none) → Q v H'
theorem room_int (c : Cl) (n : Int) : sRoom c n = .non ∨ ∃ m : Int, sRoom c n = .int m := by
  cases c with
  | own y d => exact .inl rfl
  | lay y a b => exact .inl rfl
  | lim y m => exact .inr ⟨_, rfl⟩
  | any y => exact .inl rfl
theorem sc_Cover_rest : FnScope ["self", "counts", "least", "k", "clause", "room"] ["self", "counts"] (defScope s_Cover_rest) := ⟨rfl, rfl, rfl, by decide +kernel, rfl, by decide +kernel, by decide +kernel⟩
theorem ok_Cover_rest {f : Addr} {fd : FuncData} (F : Fun K "rest" "Cover.rest" s_Cover_rest f fd) (T : Txt K mg) (L : Kl K mg C_Clause C_Own C_Layer C_Limit C_Deal C_Cover C_Condition) (Mroom : MFam P w K mg base 1 (Fam C_Clause C_Own C_Layer C_Limit) "room" ["self", "paid"] (spRoom C_Clause C_Own C_Layer C_Limit)) : FnOk P w K mg base CX0 2 f fd ["self", "counts"] (spRest C_Clause C_Own C_Layer C_Limit C_Cover) := by
  have sc := sc_Cover_rest
  refine F.ok sc (fun vs H Q E h => ?_) (fun cdv A outer s H vs Q E hr h => ?_)
  · obtain ⟨_, _, _, _, _, _, rfl, _⟩ := h
    rfl
  obtain ⟨p, cl, ct, xs, cs, ns, rfl, ⟨dx, fs, hp, hlk, _⟩, hcl, C4, hct, ln, q⟩ := h
  refine ⟨_, (pss_cons (ps_set (i := 2) sc.nd rfl (Or.inl rfl) pe_non)
      (pss_cons (ps_for PassesOwn.never rfl (pi_enum rfl T.n_enumerate (pa_cons (pe_fld (pv 0) rfl) pa_nil)) (pg_tup (n := 2) rfl (pgs_cons (pg_name (i := 3) sc.nd rfl (Or.inl rfl)) (pgs_cons (pg_name (i := 4) sc.nd rfl (Or.inl rfl)) pgs_nil)))
        (pss_cons (ps_set (i := 5) sc.nd rfl (Or.inl rfl) (pe_methD Mroom (hr.mono (by decide)) (pv 4) (pa_cons (pe_ix ix_list (pv 1) (pv 3) (fun _ _ => rfl)) pa_nil)))
      (pss_one (ps_if (PW.pt (pw_and (pt_cmpR op_notN (pv 5) pe_non (nomark _)) (pw_and1 (PW.pt (pw_or (pt_cmpR op_isN (pv 2) pe_non (nomark _)) (pw_or1 (pt_cmpR op_lt (pv 5) (pe_ix ix_tup (pv 2) pe_int (fun _ _ => rfl)) (nomark _))))))))
        (pss_one (ps_set (i := 2) sc.nd rfl (Or.inl rfl) (pe_tup (pa_cons (pv 5) (pa_cons (pv 3) pa_nil)))))
        pss_nil))))
      (pss_one (ps_ret (pv 2))))), ?_⟩
  have lx := C4.len
  have two : 2 ≤ sizeLine := by rw [sizeLine_eq]; decide
  refine ⟨_, rfl, p, C_Cover, dx, fs, _, rfl, hp, L.cl_Cover, L.na_Cover_clauses, hlk, cl, rfl, ⟨_, SqL.of hcl⟩, for_enum (K := K) (a := cl) (xs := xs)
    (fun i σ H2 => (∃ v o3 o4 o5 o, σ = [some (.ref p), some (.ref ct), some v, o3, o4, o5] ∧ RV H2 v o ∧ restW (roomsOf cs ns) 0 none = restW ((roomsOf cs ns).drop i) i o) ∧ Same H H2) ⟨⟨.non, none, none, none, none, rfl, rfl, rfl⟩, fun _ _ z => z⟩ (fun i σ H2 _ ⟨_, e⟩ => SqL.of (e _ _ hcl)) ?_ ?_⟩
  · rintro i x σ H2 t hi ⟨⟨v, o3, o4, o5, o, rfl, rv, er⟩, s2⟩ nt
    obtain ⟨pc, c, hc, rfl, ⟨dc, hat⟩⟩ := C4.get hi
    have s3 := same_new nt (.tup [.int i, .ref pc])
    have s23 := s2.trans s3
    have ic : i < cs.length := (List.getElem?_eq_some_iff.mp hc).1
    have hcn : cs[i]'ic = c := (List.getElem?_eq_some_iff.mp hc).2
    have hnn : ns.getD i 0 = ns[i]'(by omega) := by rw [List.getD_eq_getElem?_getD, List.getElem?_eq_getElem (by omega)]; rfl
    have nth : (roomsOf cs ns)[i]? = some (roomO (sRoom c (ns.getD i 0))) := by
      unfold roomsOf
      rw [List.getElem?_zipWith, hc, List.getElem?_eq_getElem (show i < ns.length by omega), ← hnn]
    rw [drop_at nth] at er
    have rv3 := rv.same s3
    refine ⟨_, rfl, pc, _, dc, _, rfl, s23 _ _ hat, fam_of C_Clause C_Own C_Layer C_Limit c, no_room c, _, rfl, _, rfl, ct, _, _, _, rfl, rfl, SqL.of (s23 _ _ hct), at_intI (by omega) (by omega), pc, c, _, rfl, ⟨dc, s23 _ _ hat⟩, rfl, ?_⟩
    have ei : ((i : Int)).toNat = i := Int.toNat_natCast i
    rw [ei]
    generalize hR : sRoom c (ns.getD i 0) = rm at er
    have rmv : rm = .non ∨ ∃ m : Int, rm = .int m := by rw [← hR]; exact room_int c _
    rcases rmv with rfl | ⟨m, rfl⟩
    · refine ⟨_, rfl, rfl, _, rfl, nF rfl (iteF ?_)⟩
      exact ⟨⟨v, _, _, _, o, rfl, rv3, er⟩, s23⟩
    · refine ⟨_, rfl, rfl, _, rfl, nT (fun z => nomatch z) ?_⟩
      have done : ∀ (H4 : Hp) (u : Addr) o5', Same H H4 → H4 u = none → restW (roomsOf cs ns) 0 none = restW ((roomsOf cs ns).drop (i + 1)) ((i : Int) + 1) (some (m, (i : Int))) →
          (∃ v o3 o4 o5 o, [some (.ref p), some (.ref ct), some (.ref u), some (.int i), some (.ref pc), o5'] = [some (.ref p), some (.ref ct), some v, o3, o4, o5] ∧ RV (upd H4 u (.tup [.int m, .int i])) v o ∧ restW (roomsOf cs ns) 0 none = restW ((roomsOf cs ns).drop (i + 1)) ((i + 1 : Nat) : Int) o) ∧ Same H (upd H4 u (.tup [.int m, .int i])) := fun H4 u o5' s4 nu e => by
        exact ⟨⟨.ref u, _, _, _, some (m, i), rfl, ⟨u, rfl, upd_same⟩, by rw [e]; rfl⟩, s4.trans (same_new nu _)⟩
      cases o with
      | none =>
        have v0 : v = .non := rv
        subst v0
        refine ⟨_, rfl, rfl, _, rfl, dT rfl (iteT ?_)⟩
        exact ⟨_, rfl, _, rfl, two, fun u nu => done _ u _ s23 nu er⟩
      | some mj =>
        obtain ⟨n0, j0⟩ := mj
        obtain ⟨tv, rfl, htv⟩ := rv3
        refine ⟨_, rfl, rfl, _, rfl, dF (fun z => nomatch z) ?_⟩
        refine ⟨_, rfl, _, rfl, tv, _, _, _, rfl, rfl, SqT.of htv, rfl, _, _, rfl, rfl, _, rfl, ite2 (fun c1 => ?_) (fun c1 => ?_)⟩
        · have c1' : m < n0 := of_decide_eq_true c1
          have er' : restW (roomsOf cs ns) 0 none = restW ((roomsOf cs ns).drop (i + 1)) ((i : Int) + 1) (if m < n0 then some (m, (i : Int)) else some (n0, j0)) := er
          rw [if_pos c1'] at er'
          exact ⟨_, rfl, _, rfl, two, fun u nu => done _ u _ s23 nu er'⟩
        · have c1' : ¬ m < n0 := of_decide_eq_false (Bool.eq_false_iff.mpr c1)
          have er' : restW (roomsOf cs ns) 0 none = restW ((roomsOf cs ns).drop (i + 1)) ((i : Int) + 1) (if m < n0 then some (m, (i : Int)) else some (n0, j0)) := er
          rw [if_neg c1'] at er'
          exact ⟨⟨.ref tv, _, _, _, some (n0, j0), rfl, ⟨tv, rfl, htv⟩, by rw [er']; rfl⟩, s23⟩
  · rintro σ H2 ⟨⟨v, o3, o4, o5, o, rfl, rv, er⟩, s2⟩
    have lr : (roomsOf cs ns).length = xs.length := by unfold roomsOf; rw [List.length_zipWith]; omega
    rw [← lr, List.drop_length] at er
    exact ⟨_, rfl, q v H2 s2 (by rw [er]; exact rv)⟩
end


/-! ### the law's own defs -/
abbrev Rw := Str × Str × Int × Int
def tupR (r : Rw) : List V := [.str r.1, .str r.2.1, .int r.2.2.1, .int r.2.2.2]
def okR (r : Rw) : Prop := (r.1 = "limit" ∨ r.1 = "own" ∨ r.1 = "layer") ∧ isWay r.2.1 ∧ (0 ≤ r.2.2.1 ∧ r.2.2.1 ≤ 999999999998) ∧ 0 ≤ r.2.2.2
def Rws (H : Hp) : List V → List Rw → Prop
  | [], [] => True
  | x :: xs, r :: rs => (∃ t, x = .ref t ∧ H t = some (.tup (tupR r))) ∧ Rws H xs rs
  | _, _ => False
theorem Rws.len {H : Hp} : ∀ {xs : List V} {ps : List Rw}, Rws H xs ps → xs.length = ps.length
  | [], [], _ => rfl
  | [], _ :: _, h => h.elim
  | _ :: _, [], h => h.elim
  | x :: xs, p :: ps, h => by rw [List.length_cons, List.length_cons, Rws.len h.2]
/-- tuples stay -/
def Tst (H H' : Hp) : Prop := ∀ t xs, H t = some (.tup xs) → H' t = some (.tup xs)
theorem tst_same {H H' : Hp} (s : Same H H') : Tst H H' := fun t xs h => s t _ h
theorem Tst.trans {H H1 H2 : Hp} (a : Tst H H1) (b : Tst H1 H2) : Tst H H2 := fun t xs h => b t xs (a t xs h)
theorem tst_lst {H : Hp} {l : Addr} {xs : List V} (h : H l = some (.lst xs)) (o : HO) : Tst H (upd H l o) := fun t zs z => by
  rw [upd_ne (ne_of z h (by intro e; cases e))]
  exact z
theorem Rws.mono {H H' : Hp} (s : Tst H H') : ∀ {xs : List V} {ps : List Rw}, Rws H xs ps → Rws H' xs ps
  | [], [], _ => trivial
  | [], _ :: _, h => h.elim
  | _ :: _, [], h => h.elim
  | x :: xs, p :: ps, ⟨⟨t, e, h⟩, r⟩ => ⟨⟨t, e, s _ _ h⟩, Rws.mono s r⟩
theorem Rws.get {H : Hp} : ∀ {xs : List V} {ps : List Rw} {i : Nat} {x : V}, Rws H xs ps → xs[i]? = some x → ∃ t p, ps[i]? = some p ∧ x = .ref t ∧ H t = some (.tup (tupR p))
  | [], [], _, _, _, e => by simp at e
  | [], _ :: _, _, _, h, _ => h.elim
  | _ :: _, [], _, _, h, _ => h.elim
  | x :: xs, p :: ps, 0, y, ⟨⟨t, e, h⟩, r⟩, q => by
    simp at q
    subst q
    exact ⟨t, p, rfl, e, h⟩
  | x :: xs, p :: ps, i + 1, y, ⟨_, r⟩, q => by
    obtain ⟨t, p', h1, h2⟩ := Rws.get (i := i) r (by simpa using q)
    exact ⟨t, p', by simpa using h1, h2⟩
theorem Rws.snoc {H : Hp} : ∀ {xs : List V} {ps : List Rw} {t : Addr} {r : Rw}, Rws H xs ps → H t = some (.tup (tupR r)) → Rws H (xs ++ [.ref t]) (ps ++ [r])
  | [], [], t, _, _, h => ⟨⟨t, rfl, h⟩, trivial⟩
  | [], _ :: _, _, _, z, _ => z.elim
  | _ :: _, [], _, _, z, _ => z.elim
  | x :: xs, p :: ps, _, _, ⟨z, r⟩, h => ⟨z, Rws.snoc r h⟩
theorem Rws.set {H : Hp} {t : Addr} {r : Rw} (h : H t = some (.tup (tupR r))) : ∀ {xs : List V} {ps : List Rw} (i : Nat), Rws H xs ps → Rws H (xs.set i (.ref t)) (ps.set i r)
  | [], [], _, _ => by rw [List.set_nil, List.set_nil]; trivial
  | [], _ :: _, _, z => z.elim
  | _ :: _, [], _, z => z.elim
  | x :: xs, p :: ps, 0, ⟨_, z⟩ => ⟨⟨t, rfl, h⟩, z⟩
  | x :: xs, p :: ps, i + 1, ⟨y, z⟩ => ⟨y, Rws.set h i z⟩
def clOf (r : Rw) : Cl := if r.1 = "limit" then .lim r.2.1 r.2.2.1 else if r.1 = "own" then .own r.2.1 r.2.2.1 else .lay r.2.1 r.2.2.1 (r.2.2.1 + 1)
def roomR (r : Rw) : Option Int := if r.1 = "limit" then some (if r.2.2.1 - r.2.2.2 > 0 then r.2.2.1 - r.2.2.2 else 0) else none
def ovV : Option Int → V
  | some n => .int n
  | none => .non
theorem room_of (r : Rw) : roomO (sRoom (clOf r) r.2.2.2) = roomR r := by
  unfold clOf roomR
  by_cases h : r.1 = "limit"
  · rw [if_pos h, if_pos h]
    show some (CR.maxI (r.2.2.1 - r.2.2.2) 0) = _
    unfold CR.maxI
    congr 1
    split <;> split <;> omega
  · rw [if_neg h, if_neg h]
    by_cases h2 : r.1 = "own"
    · rw [if_pos h2]; rfl
    · rw [if_neg h2]; rfl
theorem rooms_of (rs : List Rw) : roomsOf (rs.map clOf) (rs.map fun r => r.2.2.2) = rs.map roomR := by
  induction rs with
  | nil => rfl
  | cons r rs ih =>
    unfold roomsOf at ih ⊢
    rw [List.map_cons, List.map_cons, List.zipWith_cons_cons, ih, room_of, List.map_cons]
/-! #### what the rest is -/
theorem restW_some {n k : Int} : ∀ (R : List (Option Int)) (k0 : Int) (o : Option (Int × Int)), restW R k0 o = some (n, k) →
    (o = some (n, k) ∧ ∀ (j : Nat) (m : Int), R[j]? = some (some m) → n ≤ m) ∨ ∃ i : Nat, k = k0 + i ∧ R[i]? = some (some n) ∧ (∀ (j : Nat) (m : Int), R[j]? = some (some m) → n ≤ m) ∧ (∀ (j : Nat) (m : Int), j < i → R[j]? = some (some m) → n < m) ∧ ∀ n0 j0, o = some (n0, j0) → n < n0
  | [], k0, o, h => .inl ⟨h, fun j m e => by simp at e⟩
  | none :: R, k0, o, h => by
    rcases restW_some R (k0 + 1) o h with ⟨e, a⟩ | ⟨i, e, b, c, d, f⟩
    · refine .inl ⟨e, fun j m z => ?_⟩
      cases j with
      | zero => simp at z
      | succ j => exact a j m (by simpa using z)
    · refine .inr ⟨i + 1, by omega, by simpa using b, fun j m z => ?_, fun j m hj z => ?_, f⟩
      · cases j with
        | zero => simp at z
        | succ j => exact c j m (by simpa using z)
      · cases j with
        | zero => simp at z
        | succ j => exact d j m (by omega) (by simpa using z)
  | some x :: R, k0, none, h => by
    rcases restW_some R (k0 + 1) (some (x, k0)) h with ⟨e, a⟩ | ⟨i, e, b, c, d, f⟩
    · cases e
      refine .inr ⟨0, by omega, by simp, fun j m z => ?_, fun j m hj z => by omega, fun _ _ z => (nomatch z)⟩
      cases j with
      | zero => simp at z; omega
      | succ j => exact a j m (by simpa using z)
    · have fx := f x k0 rfl
      refine .inr ⟨i + 1, by omega, by simpa using b, fun j m z => ?_, fun j m hj z => ?_, fun _ _ z => (nomatch z)⟩
      · cases j with
        | zero => simp at z; omega
        | succ j => exact c j m (by simpa using z)
      · cases j with
        | zero => simp at z; omega
        | succ j => exact d j m (by omega) (by simpa using z)
  | some x :: R, k0, some (y, l), h => by
    have h' : restW R (k0 + 1) (if x < y then some (x, k0) else some (y, l)) = some (n, k) := h
    by_cases c0 : x < y
    · rw [if_pos c0] at h'
      rcases restW_some R (k0 + 1) (some (x, k0)) h' with ⟨e, a⟩ | ⟨i, e, b, c, d, f⟩
      · cases e
        refine .inr ⟨0, by omega, by simp, fun j m z => ?_, fun j m hj z => by omega, fun _ _ z => by cases z; exact c0⟩
        cases j with
        | zero => simp at z; omega
        | succ j => exact a j m (by simpa using z)
      · have fx := f x k0 rfl
        refine .inr ⟨i + 1, by omega, by simpa using b, fun j m z => ?_, fun j m hj z => ?_, fun _ _ z => by cases z; omega⟩
        · cases j with
          | zero => simp at z; omega
          | succ j => exact c j m (by simpa using z)
        · cases j with
          | zero => simp at z; omega
          | succ j => exact d j m (by omega) (by simpa using z)
    · rw [if_neg c0] at h'
      rcases restW_some R (k0 + 1) (some (y, l)) h' with ⟨e, a⟩ | ⟨i, e, b, c, d, f⟩
      · cases e
        refine .inl ⟨rfl, fun j m z => ?_⟩
        cases j with
        | zero => simp at z; omega
        | succ j => exact a j m (by simpa using z)
      · have fx := f y l rfl
        refine .inr ⟨i + 1, by omega, by simpa using b, fun j m z => ?_, fun j m hj z => ?_, fun _ _ z => by cases z; exact fx⟩
        · cases j with
          | zero => simp at z; omega
          | succ j => exact c j m (by simpa using z)
        · cases j with
          | zero => simp at z; omega
          | succ j => exact d j m (by omega) (by simpa using z)
theorem restW_keep : ∀ (R : List (Option Int)) (k0 : Int) (a : Int × Int), ∃ b, restW R k0 (some a) = some b
  | [], _, a => ⟨a, rfl⟩
  | none :: R, k0, a => restW_keep R (k0 + 1) a
  | some x :: R, k0, (y, l) => by
    show ∃ b, restW R (k0 + 1) (if x < y then some (x, k0) else some (y, l)) = some b
    by_cases c0 : x < y
    · rw [if_pos c0]; exact restW_keep R _ _
    · rw [if_neg c0]; exact restW_keep R _ _
theorem restW_none : ∀ (R : List (Option Int)) (k0 : Int), (restW R k0 none = none ∧ R.filterMap id = []) ∨ ((∃ b, restW R k0 none = some b) ∧ R.filterMap id ≠ [])
  | [], _ => .inl ⟨rfl, rfl⟩
  | none :: R, k0 => restW_none R (k0 + 1)
  | some x :: R, k0 => .inr ⟨restW_keep R (k0 + 1) (x, k0), by simp⟩
def spRow : Sp := fun vs H Q _ => ∃ c o : Int, vs = [.int c, .int o] ∧ ∀ t r H', Same H H' → H t = none → H' t = some (.tup (tupR r)) → okR r → Q (.ref t) H'
def spClause (CC CO CL CM : Addr) : Sp := fun vs H Q _ => ∃ t r, vs = [.ref t] ∧ H t = some (.tup (tupR r)) ∧ okR r ∧ ∀ p H', Same H H' → ClAt CC CO CL CM H' p (clOf r) → Q (.ref p) H'
def spRightR : Sp := fun vs H Q _ => ∃ v b xs rs, vs = [v, .ref b] ∧ H b = some (.lst xs) ∧ Rws H xs rs ∧ rs.length ≤ 8 ∧ RV H v (restW (rs.map roomR) 0 none) ∧ ∀ H', Same H H' → Q (.bl true) H'
theorem md {a b : Int} (h : 0 < b) : 0 ≤ a % b ∧ a % b ≤ b - 1 := ⟨Int.emod_nonneg _ (by omega), by have := Int.emod_lt_of_pos a h; omega⟩
theorem hideI {i : Nat} {v : Int} {nx : St → Hp → Prop} {σ : St} {H : Hp} (lo hi : Int) (h0 : lo ≤ v ∧ v ≤ hi) (h : ∀ x : Int, lo ≤ x → x ≤ hi → gName i (.int x) σ H nx) : gName i (.int v) σ H nx := h v h0.1 h0.2
theorem ways_at {i : Int} (h0 : 0 ≤ i) (h : i ≤ 3) : ∃ y, isWay y ∧ atI [V.str "event", V.str "thing", V.str "year", V.str "loss"] i = some (.str y) := by
  have z : i = 0 ∨ i = 1 ∨ i = 2 ∨ i = 3 := by omega
  rcases z with rfl | rfl | rfl | rfl
  · exact ⟨_, .inl rfl, rfl⟩
  · exact ⟨_, .inr (.inl rfl), rfl⟩
  · exact ⟨_, .inr (.inr (.inl rfl)), rfl⟩
  · exact ⟨_, .inr (.inr (.inr rfl)), rfl⟩
theorem words_at {i : Int} (h0 : 0 ≤ i) (h : i ≤ 5) : ∃ y : Str, (y = "limit" ∨ y = "own" ∨ y = "layer") ∧ atI [V.str "limit", V.str "limit", V.str "limit", V.str "limit", V.str "own", V.str "layer"] i = some (.str y) := by
  have z : i = 0 ∨ i = 1 ∨ i = 2 ∨ i = 3 ∨ i = 4 ∨ i = 5 := by omega
  rcases z with rfl | rfl | rfl | rfl | rfl | rfl
  · exact ⟨_, .inl rfl, rfl⟩
  · exact ⟨_, .inl rfl, rfl⟩
  · exact ⟨_, .inl rfl, rfl⟩
  · exact ⟨_, .inl rfl, rfl⟩
  · exact ⟨_, .inr (.inl rfl), rfl⟩
  · exact ⟨_, .inr (.inr rfl), rfl⟩
theorem units_at {i : Int} (h0 : 0 ≤ i) (h : i ≤ 2) : ∃ u : Int, (0 ≤ u ∧ u ≤ 1000000007) ∧ atI [V.int 1, V.int 1, V.int ((10 : Int) ^ (9 : Int).toNat + 7)] i = some (.int u) := by
  have z : i = 0 ∨ i = 1 ∨ i = 2 := by omega
  rcases z with rfl | rfl | rfl
  · exact ⟨1, by decide, rfl⟩
  · exact ⟨1, by decide, rfl⟩
  · exact ⟨(10 : Int) ^ (9 : Int).toNat + 7, by decide +kernel, rfl⟩
theorem e12 : (10 : Int) ^ (12 : Int).toNat = 1000000000000 := by decide +kernel
theorem e13 : (10 : Int) ^ (13 : Int).toNat = 10000000000000 := by decide +kernel
theorem e14 : (10 : Int) ^ (14 : Int).toNat = 100000000000000 := by decide +kernel
theorem hideA {i : Nat} {v : Int} {nx : St → Hp → Prop} {σ : St} {H : Hp} (h : ∀ x : Int, gName i (.int x) σ H nx) : gName i (.int v) σ H nx := h v
theorem atσ {nx : St → Hp → Prop} {σ : St} {H : Hp} (σ' : St) (e : σ = σ') (h : nx σ' H) : nx σ H := e ▸ h
theorem take_snoc {α : Type} {l : List α} {i : Nat} {x : α} (h : l[i]? = some x) : l.take (i + 1) = l.take i ++ [x] := by
  rw [List.take_add_one, h]
  rfl
/-- if c: x = e, then what follows, of either value -/
theorem join_set {c : Prop} {inst : Decidable c} {te : TE} {i : Nat} {D : Ends} {σ : St} {H : Hp} (G : V → Hp → Prop) (v0 : V) (e0 : σ.set i (some v0) = σ) (g0 : G v0 H) (h : c → ∀ Q : VK, (∀ v H', G v H' → Q v H') → te σ H Q) (R : ∀ v H', G v H' → D.nx (σ.set i (some v)) H') :
    @ite Prop c inst (tAsg te (gName i) D σ H) (tNext D σ H) := by
  by_cases z : c
  · rw [if_pos z]; exact h z _ R
  · rw [if_neg z]
    have r := R v0 H g0
    rw [e0] at r
    exact r
section
variable {P : Program} {w : World} {K : PySem.W.Frag} {mg : Str → Option Value} {base : Heap} {C_Clause C_Own C_Layer C_Limit C_Deal C_Cover C_Condition : Addr}
theorem sc__law_row : FnScope ["_law_cell_here", "_law_other", "_law_by", "_law_word", "_law_unit", "_law_most", "_law_count"] ["_law_cell_here", "_law_other"] (defScope s__law_row) := ⟨rfl, rfl, rfl, by decide +kernel, rfl, by decide +kernel, by decide +kernel⟩
seal L2.PS L2.PSs L2.PE L2.PA
theorem ok__law_row {f : Addr} {fd : FuncData} (F : Fun K "_law_row" "_law_row" s__law_row f fd) (T : Txt K mg) : FnOk P w K mg base CX0 1 f fd ["_law_cell_here", "_law_other"] spRow := by
  have sc := sc__law_row
  refine F.ok sc (fun vs H Q E h => ?_) (fun cdv A outer s H vs Q E hr h => ?_)
  · obtain ⟨_, _, rfl, _⟩ := h
    rfl
  obtain ⟨c, o, rfl, q⟩ := h
  refine ⟨_, (pss_cons (ps_set (i := 2) sc.nd rfl (Or.inl rfl) (pe_ix ix_list (pe_lst (pa_cons pe_str (pa_cons pe_str (pa_cons pe_str (pa_cons pe_str pa_nil))))) (pe_op op_mod (pe_op op_fdiv (pv 0) pe_int) pe_int) (fun _ _ => rfl)))
      (pss_cons (ps_set (i := 3) sc.nd rfl (Or.inl rfl) (pe_ix ix_list (pe_lst (pa_cons pe_str (pa_cons pe_str (pa_cons pe_str (pa_cons pe_str (pa_cons pe_str (pa_cons pe_str pa_nil))))))) (pe_op op_mod (pv 0) pe_int) (fun _ _ => rfl)))
      (pss_cons (ps_set (i := 4) sc.nd rfl (Or.inl rfl) (pe_ix ix_list (pe_lst (pa_cons pe_int (pa_cons pe_int (pa_cons (pe_op op_add (pe_op op_pow pe_int pe_int) pe_int) pa_nil)))) (pe_op op_mod (pe_op op_fdiv (pv 0) pe_int) pe_int) (fun _ _ => rfl)))
      (pss_cons (ps_set (i := 5) sc.nd rfl (Or.inl rfl) (pe_op op_mul (pe_op op_add pe_int (pe_op op_mod (pe_op op_fdiv (pv 0) pe_int) pe_int)) (pv 4)))
      (pss_cons (ps_if (pt_cmpR op_eq (pe_op op_mod (pe_op op_fdiv (pv 0) pe_int) pe_int) pe_int (nomark _))
        (pss_one (ps_set (i := 5) sc.nd rfl (Or.inl rfl) (pe_op op_mod (pe_op op_fdiv (pv 0) pe_int) (pe_op op_sub (pe_op op_pow pe_int pe_int) pe_int))))
        pss_nil)
      (pss_cons (ps_set (i := 6) sc.nd rfl (Or.inl rfl) (pe_op op_sub (pv 5) (pe_op op_mul (pe_op op_mod (pv 1) pe_int) (pv 4))))
      (pss_cons (ps_if (pt_cmpR op_eq (pe_op op_mod (pe_op op_fdiv (pv 1) pe_int) pe_int) pe_int (nomark _))
        (pss_one (ps_set (i := 6) sc.nd rfl (Or.inl rfl) (pe_op op_mod (pe_op op_fdiv (pv 1) pe_int) (pe_op op_add (pv 5) pe_int))))
        pss_nil)
      (pss_cons (ps_if (pt_cmpR op_eq (pe_op op_mod (pe_op op_fdiv (pv 1) pe_int) pe_int) pe_int (nomark _))
        (pss_one (ps_set (i := 6) sc.nd rfl (Or.inl rfl) (pe_op op_add (pv 5) (pe_op op_mod (pe_op op_fdiv (pv 1) pe_int) (pe_op op_pow pe_int pe_int)))))
        pss_nil)
      (pss_one (ps_ret (pe_tup (pa_cons (pv 3) (pa_cons (pv 2) (pa_cons (pv 5) (pa_cons (pe_callB (call_max2 rfl) rfl T.n_max (show bootBuiltins _ = some (.builtin "max") from rfl) (pa_cons pe_int (pa_cons (pv 6) pa_nil))) pa_nil))))))))))))))), ?_⟩
  have three : 3 ≤ sizeLine := by rw [sizeLine_eq]; decide
  have four : 4 ≤ sizeLine := by rw [sizeLine_eq]; decide
  have six : 6 ≤ sizeLine := by rw [sizeLine_eq]; decide
  have m4 := md (a := c / 6) (b := 4) (by decide)
  have m6 := md (a := c) (b := 6) (by decide)
  have m3 := md (a := c / 24) (b := 3) (by decide)
  have m9 := md (a := c / 72) (b := 9) (by decide)
  have n6 := md (a := o) (b := 6) (by decide)
  obtain ⟨by', hby, eby⟩ := ways_at m4.1 m4.2
  obtain ⟨wd, hwd, ewd⟩ := words_at m6.1 m6.2
  obtain ⟨un, ⟨un0, un1⟩, eun⟩ := units_at m3.1 m3.2
  refine ⟨four, fun l1 h1 => ⟨_, rfl, _, _, rfl, rfl, ⟨by decide, by decide⟩, _, _, rfl, rfl, (by show (0 : Int) < 4; decide), l1, _, _, _, rfl, rfl, SqL.of upd_same, eby, ?_⟩⟩
  have s1 := same_new h1 (.lst [V.str "event", V.str "thing", V.str "year", V.str "loss"])
  refine ⟨six, fun l2 h2 => ⟨_, rfl, _, _, rfl, rfl, (by show (0 : Int) < 6; decide), l2, _, _, _, rfl, rfl, SqL.of upd_same, ewd, ?_⟩⟩
  have s2 := s1.trans (same_new h2 (.lst [V.str "limit", V.str "limit", V.str "limit", V.str "limit", V.str "own", V.str "layer"]))
  refine ⟨_, _, rfl, rfl, ⟨by decide, by decide, by decide⟩, _, _, rfl, rfl, three, fun l3 h3 => ⟨_, rfl, _, _, rfl, rfl, ⟨by decide, by decide⟩, _, _, rfl, rfl, (by show (0 : Int) < 3; decide), l3, _, _, _, rfl, rfl, SqL.of upd_same, eun, ?_⟩⟩
  have s3 := s2.trans (same_new h3 (.lst [V.int 1, V.int 1, V.int ((10 : Int) ^ (9 : Int).toNat + 7)]))
  generalize upd (upd (upd H l1 _) l2 _) l3 _ = H3 at s3
  refine ⟨_, rfl, _, _, rfl, rfl, ⟨by decide, by decide⟩, _, _, rfl, rfl, (by show (0 : Int) < 9; decide), _, _, rfl, rfl, _, rfl, _, _, rfl, rfl, .inl ⟨by omega, by omega⟩, ?_⟩
  have pm0 : 0 ≤ (4 + c / 72 % 9) * un := Int.mul_nonneg (by omega) un0
  have pm1 : (4 + c / 72 % 9) * un ≤ 12 * 1000000007 := Int.mul_le_mul (by omega) un1 un0 (by omega)
  refine hideI 0 999999999998 ⟨pm0, by omega⟩ fun mo mo0 mo1 => ?_
  refine atG [some (.int c), some (.int o), some (.str by'), some (.str wd), some (.int un), some (.int mo), none] rfl ?_
  refine ⟨_, rfl, _, _, rfl, rfl, ⟨by decide, by decide⟩, _, _, rfl, rfl, (by show (0 : Int) < 4; decide), rfl, _, rfl, ?_⟩
  refine join_set (fun v H' => (∃ m : Int, v = .int m ∧ 0 ≤ m ∧ m ≤ 999999999998) ∧ H' = H3) (.int mo) rfl ⟨⟨mo, rfl, mo0, mo1⟩, rfl⟩ (fun _ Q' k => ?_) fun v H' g => ?_
  · have b := md (a := c / 2592) (b := (10 : Int) ^ (12 : Int).toNat - 1) (by rw [e12]; decide)
    refine ⟨_, rfl, _, _, rfl, rfl, ⟨by decide, by decide⟩, _, _, rfl, rfl, ⟨by decide, by decide, by decide⟩, _, _, rfl, rfl, _, _, rfl, rfl, (by show (0 : Int) < (10 : Int) ^ (12 : Int).toNat - 1; rw [e12]; decide), k _ _ ⟨⟨_, rfl, b.1, ?_⟩, rfl⟩⟩
    have := b.2
    rw [e12] at this
    show _ % ((10 : Int) ^ (12 : Int).toNat - 1) ≤ 999999999998
    rw [e12]
    omega
  obtain ⟨⟨mo', rfl, mo0', mo1'⟩, eH⟩ := g
  rw [eH]
  clear eH H'
  refine atσ [some (.int c), some (.int o), some (.str by'), some (.str wd), some (.int un), some (.int mo'), none] rfl ?_
  refine ⟨_, rfl, _, rfl, _, _, rfl, rfl, (by show (0 : Int) < 6; decide), _, rfl, _, _, rfl, rfl, .inl ⟨by omega, by omega⟩, _, _, rfl, rfl, ?_⟩
  refine hideA fun x => ?_
  refine atG [some (.int c), some (.int o), some (.str by'), some (.str wd), some (.int un), some (.int mo'), some (.int x)] rfl ?_
  refine ⟨_, rfl, _, _, rfl, rfl, ⟨by decide, by decide⟩, _, _, rfl, rfl, (by show (0 : Int) < 3; decide), rfl, _, rfl, ?_⟩
  refine join_set (fun v H' => (∃ m : Int, v = .int m) ∧ H' = H3) (.int x) rfl ⟨⟨_, rfl⟩, rfl⟩ (fun _ Q' k => ?_) fun v H' g => ?_
  · exact ⟨_, rfl, _, _, rfl, rfl, ⟨by decide, by decide⟩, _, rfl, _, _, rfl, rfl, _, _, rfl, rfl, (by show (0 : Int) < mo' + 1; omega), k _ _ ⟨⟨_, rfl⟩, rfl⟩⟩
  obtain ⟨⟨x1, rfl⟩, eH⟩ := g
  rw [eH]
  clear eH H'
  refine atσ [some (.int c), some (.int o), some (.str by'), some (.str wd), some (.int un), some (.int mo'), some (.int x1)] rfl ?_
  refine ⟨_, rfl, _, _, rfl, rfl, ⟨by decide, by decide⟩, _, _, rfl, rfl, (by show (0 : Int) < 9; decide), rfl, _, rfl, ?_⟩
  refine join_set (fun v H' => (∃ m : Int, v = .int m) ∧ H' = H3) (.int x1) rfl ⟨⟨_, rfl⟩, rfl⟩ (fun _ Q' k => ?_) fun v H' g => ?_
  · exact ⟨_, rfl, _, rfl, _, _, rfl, rfl, ⟨by decide, by decide⟩, _, _, rfl, rfl, ⟨by decide, by decide, by decide⟩, _, _, rfl, rfl, (by show (0 : Int) < (10 : Int) ^ (13 : Int).toNat; rw [e13]; decide), _, _, rfl, rfl, k _ _ ⟨⟨_, rfl⟩, rfl⟩⟩
  obtain ⟨⟨x2, rfl⟩, eH⟩ := g
  rw [eH]
  clear eH H'
  refine atσ [some (.int c), some (.int o), some (.str by'), some (.str wd), some (.int un), some (.int mo'), some (.int x2)] rfl ?_
  refine ⟨_, rfl, _, rfl, _, rfl, _, rfl, _, _, rfl, four, fun t nt => ?_⟩
  exact q t (wd, by', mo', if x2 > 0 then x2 else 0) _ (s3.trans (same_new nt _)) (s3.free nt) upd_same ⟨hwd, hby, ⟨mo0', mo1'⟩, by show 0 ≤ (if x2 > 0 then x2 else 0); split <;> omega⟩
theorem sc__law_clause : FnScope ["_law_row_here"] ["_law_row_here"] (defScope s__law_clause) := ⟨rfl, rfl, rfl, by decide +kernel, rfl, by decide +kernel, by decide +kernel⟩
theorem ok__law_clause {f : Addr} {fd : FuncData} (F : Fun K "_law_clause" "_law_clause" s__law_clause f fd) (T : Txt K mg) (L : Kl K mg C_Clause C_Own C_Layer C_Limit C_Deal C_Cover C_Condition) (KLimit : KCal P w K mg base 4 "Limit" C_Limit ["self", "by", "most"] (spLim C_Clause C_Own C_Layer C_Limit)) (KOwn : KCal P w K mg base 4 "Own" C_Own ["self", "by", "cents"] (spOwn C_Clause C_Own C_Layer C_Limit)) (KLayer : KCal P w K mg base 4 "Layer" C_Layer ["self", "by", "first", "upto"] (spLay C_Clause C_Own C_Layer C_Limit)) : FnOk P w K mg base CX0 6 f fd ["_law_row_here"] (spClause C_Clause C_Own C_Layer C_Limit) := by
  have sc := sc__law_clause
  refine F.ok sc (fun vs H Q E h => ?_) (fun cdv A outer s H vs Q E hr h => ?_)
  · obtain ⟨_, _, rfl, _⟩ := h
    rfl
  obtain ⟨t, ⟨wd, by', mo, ct⟩, rfl, ht, ⟨hwd, hby, ⟨mo0, mo1⟩, _⟩, q⟩ := h
  have ht' : H t = some (.tup [.str wd, .str by', .int mo, .int ct]) := ht
  refine ⟨_, (pss_cons (ps_if (pt_cmpR op_eq (pe_ix ix_tup (pv 0) pe_int (fun _ _ => rfl)) pe_str (nomark _))
        (pss_one (ps_ret (pe_makeC KLimit (hr.mono (by decide)) rfl (pa_cons (pe_ix ix_tup (pv 0) pe_int (fun _ _ => rfl)) (pa_cons (pe_ix ix_tup (pv 0) pe_int (fun _ _ => rfl)) pa_nil)))))
        pss_nil)
      (pss_cons (ps_if (pt_cmpR op_eq (pe_ix ix_tup (pv 0) pe_int (fun _ _ => rfl)) pe_str (nomark _))
        (pss_one (ps_ret (pe_makeC KOwn (hr.mono (by decide)) rfl (pa_cons (pe_ix ix_tup (pv 0) pe_int (fun _ _ => rfl)) (pa_cons (pe_ix ix_tup (pv 0) pe_int (fun _ _ => rfl)) pa_nil)))))
        pss_nil)
      (pss_one (ps_ret (pe_makeC KLayer (hr.mono (by decide)) rfl (pa_cons (pe_ix ix_tup (pv 0) pe_int (fun _ _ => rfl)) (pa_cons (pe_ix ix_tup (pv 0) pe_int (fun _ _ => rfl)) (pa_cons (pe_op op_add (pe_ix ix_tup (pv 0) pe_int (fun _ _ => rfl)) pe_int) pa_nil)))))))), ?_⟩
  have am : amt mo := ⟨mo0, by have : mo ≤ 999999999998 := mo1; omega⟩
  refine ⟨_, rfl, t, _, _, _, rfl, rfl, SqT.of ht', rfl, rfl, _, rfl, ite2 (fun c1 => ?_) (fun c1 => ?_)⟩
  · have c1' : wd = "limit" := V.str.inj (of_decide_eq_true c1)
    refine ⟨_, rfl, t, _, _, _, rfl, rfl, SqT.of ht', rfl, _, rfl, t, _, _, _, rfl, rfl, SqT.of ht', rfl, fun x dx nx ndx nex => ⟨x, dx, by', mo, rfl, upd_same, hby, am, fun H' kp D => ⟨rfl, q x H' (made_same nx ndx kp) ?_⟩⟩⟩
    have e : clOf (wd, by', mo, ct) = .lim by' mo := if_pos c1'
    rw [e]
    exact D
  have c1' : wd ≠ "limit" := fun e => c1 (decide_eq_true (congrArg V.str e))
  refine ⟨_, rfl, t, _, _, _, rfl, rfl, SqT.of ht', rfl, rfl, _, rfl, ite2 (fun c2 => ?_) (fun c2 => ?_)⟩
  · have c2' : wd = "own" := V.str.inj (of_decide_eq_true c2)
    refine ⟨_, rfl, t, _, _, _, rfl, rfl, SqT.of ht', rfl, _, rfl, t, _, _, _, rfl, rfl, SqT.of ht', rfl, fun x dx nx ndx nex => ⟨x, dx, by', mo, rfl, upd_same, hby, am, fun H' kp D => ⟨rfl, q x H' (made_same nx ndx kp) ?_⟩⟩⟩
    have e : clOf (wd, by', mo, ct) = .own by' mo := (if_neg c1').trans (if_pos c2')
    rw [e]
    exact D
  · have c2' : wd ≠ "own" := fun e => c2 (decide_eq_true (congrArg V.str e))
    have mo0' : 0 ≤ mo := mo0
    have am1 : amt (mo + 1) := ⟨by omega, by have : mo ≤ 999999999998 := mo1; omega⟩
    refine ⟨_, rfl, t, _, _, _, rfl, rfl, SqT.of ht', rfl, _, rfl, t, _, _, _, rfl, rfl, SqT.of ht', rfl, _, rfl, t, _, _, _, rfl, rfl, SqT.of ht', rfl, _, _, rfl, rfl, fun x dx nx ndx nex => ⟨x, dx, by', mo, mo + 1, rfl, upd_same, hby, am, am1, by omega, fun H' kp D => ⟨rfl, q x H' (made_same nx ndx kp) ?_⟩⟩⟩
    have e : clOf (wd, by', mo, ct) = .lay by' mo (mo + 1) := (if_neg c1').trans (if_neg c2')
    rw [e]
    exact D
theorem sc__law_right : FnScope ["_law_found", "_law_rows", "_law_rooms", "_law_word", "_law_by", "_law_most", "_law_count", "_law_n", "_law_k", "_law_j"] ["_law_found", "_law_rows"] (defScope s__law_right) := ⟨rfl, rfl, rfl, by decide +kernel, rfl, by decide +kernel, by decide +kernel⟩
theorem ok__law_right {f : Addr} {fd : FuncData} (F : Fun K "_law_right" "_law_right" s__law_right f fd) (T : Txt K mg) (C_law_whole : Cal P w K mg base 1 "_law_whole" ["_law_found"] (spWhole K)) : FnOk P w K mg base CX0 2 f fd ["_law_found", "_law_rows"] spRightR := by
  have sc := sc__law_right
  refine F.ok sc (fun vs H Q E h => ?_) (fun cdv A outer s H vs Q E hr h => ?_)
  · obtain ⟨_, _, _, _, rfl, _⟩ := h
    rfl
  have hu := room_u hr
  obtain ⟨v, b, xs, rs, rfl, hb, pr, l8, rv, q⟩ := h
  refine ⟨_, (pss_cons (ps_set (i := 2) sc.nd rfl (Or.inl rfl) (pe_lst pa_nil))
      (pss_cons (ps_for PassesOwn.never rfl (pi_list (pv 1)) (pg_tup (n := 4) rfl (pgs_cons (pg_name (i := 3) sc.nd rfl (Or.inl rfl)) (pgs_cons (pg_name (i := 4) sc.nd rfl (Or.inl rfl)) (pgs_cons (pg_name (i := 5) sc.nd rfl (Or.inl rfl)) (pgs_cons (pg_name (i := 6) sc.nd rfl (Or.inl rfl)) pgs_nil)))))
        (pss_one (ps_if (pt_cmpR op_eq (pv 3) pe_str (nomark _))
        (pss_one (ps_expr (pe_bm PySem.F.plainAttrs_list PySem.F.slot_list_append PySem.F.type_list_append mt_append (pv 2) (pa_cons (pe_callB (call_max2 rfl) rfl T.n_max (show bootBuiltins _ = some (.builtin "max") from rfl) (pa_cons pe_int (pa_cons (pe_op op_sub (pv 5) (pv 6)) pa_nil))) pa_nil))))
        (pss_one (ps_expr (pe_bm PySem.F.plainAttrs_list PySem.F.slot_list_append PySem.F.type_list_append mt_append (pv 2) (pa_cons pe_non pa_nil)))))))
      (pss_cons (ps_if (pt_cmpR (op_eqL hu) (pe_comp (NC := ["_law_room"]) (own := ["_law_room"]) (cs := []) (ix := []) rfl (CompScope.of rfl) rfl trivial (pi_list (pv 2)) (fun _ _ _ => (pg_name (i := 0) (show (["_law_room"] : List Str).Nodup from by decide +kernel) rfl (Or.inl rfl))) (fun _ _ _ => (pts_one (pt_cmpR op_notN (pv 0) pe_non (nomark _)))) (fun _ _ _ => (pv 0))) (pe_lst pa_nil) (nomark _))
        (pss_one (ps_ret (pe_cmpR op_isN (pv 0) pe_non (nomark _))))
        pss_nil)
      (pss_cons (ps_if (PW.pt (pw_or (pt_not (pt_val (pe_callB call_isinst rfl T.n_isinstance (show bootBuiltins _ = some (.builtin "isinstance") from rfl) (pa_cons (pv 0) (pa_cons (pe_ty "tuple" rfl T.n_tuple rfl) pa_nil))))) (pw_or (pt_cmpR op_ne (pe_callB call_len_seq rfl T.n_len (show bootBuiltins _ = some (.builtin "len") from rfl) (pa_cons (pv 0) pa_nil)) pe_int (nomark _)) (pw_or (pt_not (pt_val (pe_callC C_law_whole (hr.mono (by decide)) rfl (pa_cons (pe_ix ix_tup (pv 0) pe_int (fun _ _ => rfl)) pa_nil)))) (pw_or1 (pt_not (pt_val (pe_callC C_law_whole (hr.mono (by decide)) rfl (pa_cons (pe_ix ix_tup (pv 0) pe_int (fun _ _ => rfl)) pa_nil)))))))))
        (pss_one (ps_ret pe_bl))
        pss_nil)
      (pss_cons (ps_asg (pv 0) (pg_tup (n := 2) rfl (pgs_cons (pg_name (i := 7) sc.nd rfl (Or.inl rfl)) (pgs_cons (pg_name (i := 8) sc.nd rfl (Or.inl rfl)) pgs_nil))))
      (pss_cons (ps_if (PW.pt (pw_or (pt_not (pt_chain op_le op_lt pe_int (pv 8) (pe_callB call_len_seq rfl T.n_len (show bootBuiltins _ = some (.builtin "len") from rfl) (pa_cons (pv 2) pa_nil)))) (pw_or (pt_cmpR op_isN (pe_ix ix_list (pv 2) (pv 8) (fun _ _ => rfl)) pe_non (nomark _)) (pw_or1 (pt_cmpR op_ne (pe_ix ix_list (pv 2) (pv 8) (fun _ _ => rfl)) (pv 7) (nomark _))))))
        (pss_one (ps_ret pe_bl))
        pss_nil)
      (pss_cons (ps_for PassesOwn.never rfl (pi_range1 rfl T.n_range (pa_cons (pe_callB call_len_seq rfl T.n_len (show bootBuiltins _ = some (.builtin "len") from rfl) (pa_cons (pv 2) pa_nil)) pa_nil)) (pg_name (i := 9) sc.nd rfl (Or.inl rfl))
        (pss_one (ps_if (PW.pt (pw_and (pt_cmpR op_notN (pe_ix ix_list (pv 2) (pv 9) (fun _ _ => rfl)) pe_non (nomark _)) (pw_and1 (PW.pt (pw_or (pt_cmpR op_lt (pe_ix ix_list (pv 2) (pv 9) (fun _ _ => rfl)) (pv 7) (nomark _)) (pw_or1 (PW.pt (pw_and (pt_cmpR op_lt (pv 9) (pv 8) (nomark _)) (pw_and1 (pt_cmpR op_eq (pe_ix ix_list (pv 2) (pv 9) (fun _ _ => rfl)) (pv 7) (nomark _)))))))))))
        (pss_one (ps_ret pe_bl))
        pss_nil)))
      (pss_one (ps_ret pe_bl))))))))), ?_⟩
  have lx := pr.len
  refine ⟨Nat.zero_le _, fun r hr' => ?_⟩
  have s1 : Same H (upd H r (.lst [])) := same_new hr' _
  refine ⟨_, rfl, b, rfl, ⟨_, SqL.of (s1 _ _ hb)⟩, for_list (K := K) (a := b) (xs := xs)
    (fun i σ H2 => (∃ o3 o4 o5 o6, σ = [some v, some (.ref b), some (.ref r), o3, o4, o5, o6, none, none, none] ∧ H2 r = some (.lst (((rs.take i).map roomR).map ovV))) ∧ Same H H2)
    ⟨⟨none, none, none, none, rfl, upd_same⟩, s1⟩ (fun i σ H2 _ ⟨_, e⟩ => SqL.of (e _ _ hb)) ?_ ?_⟩
  · rintro i x σ H2 hi ⟨⟨o3, o4, o5, o6, rfl, h1⟩, s2⟩
    obtain ⟨t, ⟨wd, by', mo, ct⟩, hp, rfl, ht⟩ := pr.get hi
    have ht2 : H2 t = some (.tup [.str wd, .str by', .int mo, .int ct]) := s2 _ _ ht
    have il : i < rs.length := (List.getElem?_eq_some_iff.mp hp).1
    have ll : (((rs.take i).map roomR).map ovV).length < sizeLine := by rw [List.length_map, List.length_map, List.length_take, sizeLine_eq]; omega
    have nx : ((rs.take (i + 1)).map roomR).map ovV = ((rs.take i).map roomR).map ovV ++ [ovV (roomR (wd, by', mo, ct))] := by
      rw [take_snoc hp, List.map_append, List.map_append]
      rfl
    have kp : ∀ y, Same H (upd H2 r (.lst y)) := fun y b' o z => by rw [upd_ne (ne_of_none z hr')]; exact s2 b' o z
    refine ⟨t, _, rfl, SqT.of ht2, rfl, _, _, rfl, _, _, rfl, _, _, rfl, _, _, rfl, rfl, ?_⟩
    refine ⟨_, rfl, rfl, _, rfl, ite2 (fun c1 => ?_) (fun c1 => ?_)⟩
    · have c1' : wd = "limit" := V.str.inj (of_decide_eq_true c1)
      have er : roomR (wd, by', mo, ct) = some (if mo - ct > 0 then mo - ct else 0) := if_pos c1'
      refine ⟨_, rfl, .inl ⟨rfl, _, SqL.of h1⟩, _, rfl, _, rfl, _, _, rfl, rfl, _, _, rfl, r, _, _, rfl, rfl, h1, ll, ⟨_, _, _, _, rfl, ?_⟩, kp _⟩
      rw [upd_same, nx, er]
      rfl
    · have c1' : wd ≠ "limit" := fun e => c1 (decide_eq_true (congrArg V.str e))
      have er : roomR (wd, by', mo, ct) = none := if_neg c1'
      refine ⟨_, rfl, .inl ⟨rfl, _, SqL.of h1⟩, r, _, _, rfl, rfl, h1, ll, ⟨_, _, _, _, rfl, ?_⟩, kp _⟩
      rw [upd_same, nx, er]
      rfl
  rintro σ H2 ⟨⟨o3, o4, o5, o6, rfl, h1⟩, s2⟩
  rw [lx, List.take_length] at h1
  have lr : (rs.map roomR).length ≤ 8 := by rw [List.length_map]; exact l8
  have rv2 := rv.same s2
  generalize rs.map roomR = R at h1 rv2 lr
  have nth : ∀ (j : Nat) (o : Option Int), R[j]? = some o → atI (R.map ovV) (j : Int) = some (ovV o) := fun j o e => atI_nat (by rw [List.getElem?_map, e]; rfl)
  -- [room for room in rooms if room is not None] == []
  refine ⟨_, rfl, r, rfl, ⟨_, SqL.of h1⟩, fun p np => ?_⟩
  refine comp_list (K := K) (a := r) (xs := R.map ovV) (fun i ys H3 => ys = ((R.take i).filterMap id).map V.int ∧ H3 p = some (.lst ys) ∧ Same H2 H3) ⟨rfl, upd_same, same_new np _⟩
    (fun i ys H3 _ ⟨e, h2, s3⟩ => ⟨h2, ?_, SqL.of (s3 _ _ h1)⟩) (by rw [List.length_map, sizeLine_eq]; omega) (fun i x ys H3 hi ⟨e, h2, s3⟩ => ?_) (fun ys H3 ⟨e, h2, s3⟩ => ?_)
  · rw [e, List.length_map]
    refine Nat.le_trans (List.length_filterMap_le _ _) ?_
    rw [List.length_take]
    omega
  · rw [List.getElem?_map] at hi
    obtain ⟨o, ho, rfl⟩ : ∃ o, R[i]? = some o ∧ ovV o = x := by
      cases e' : R[i]? with
      | none => rw [e'] at hi; cases hi
      | some o => rw [e'] at hi; exact ⟨o, rfl, by simpa using hi⟩
    cases o with
    | none =>
      refine ⟨_, rfl, rfl, _, rfl, nF rfl ⟨rfl, ?_, h2, s3⟩⟩
      rw [take_snoc ho, List.filterMap_append, e]
      simp
    | some n =>
      refine ⟨_, rfl, rfl, _, rfl, nT (fun z => nomatch z) ⟨_, rfl, h2, rfl, ?_, upd_same, fun b' o' z => ?_⟩⟩
      · rw [take_snoc ho, List.filterMap_append, List.map_append, e]
        rfl
      · rw [upd_ne (ne_of_none z np)]
        exact s3 b' o' z
  subst e
  rw [List.length_map, List.take_length] at h2
  refine ⟨Nat.zero_le _, fun em nem => ?_⟩
  have s4 := s3.trans (same_new nem (.lst []))
  refine ⟨p, em, _, [], rfl, rfl, SqL.of (same_new nem _ _ _ h2), SqL.of upd_same, flat_ints _, rfl, _, rfl, ?_⟩
  have h14 := s4 _ _ h1
  have rv4 := rv2.same s4
  have S4 := s2.trans s4
  generalize upd H3 em (.lst []) = H4 at s4 h14 rv4 S4
  rcases restW_none R 0 with ⟨e0, f0⟩ | ⟨⟨⟨n, k⟩, e0⟩, f0⟩
  · rw [f0]
    rw [e0] at rv4
    have v0 : v = .non := rv4
    subst v0
    refine bT rfl ?_
    exact ⟨_, rfl, rfl, by rw [decide_eq_true rfl]; exact q _ S4⟩
  · refine bF ?_ ?_
    · cases g : R.filterMap id with
      | nil => exact absurd g f0
      | cons _ _ => rfl
    rw [e0] at rv4
    obtain ⟨t, rfl, ht⟩ := rv4
    refine ⟨_, rfl, _, _, _, _, _, rfl, ty_is, .tup ht, kit_tt, _, rfl, iteF ?_⟩
    refine ⟨_, rfl, t, _, rfl, .inr (SqT.of ht), rfl, _, rfl, nF rfl ?_⟩
    refine ⟨_, rfl, t, _, _, _, rfl, rfl, SqT.of ht, rfl, _, _, rfl, .int n, _, rfl, iteF ?_⟩
    refine ⟨_, rfl, t, _, _, _, rfl, rfl, SqT.of ht, rfl, _, _, rfl, .int k, _, rfl, iteF ?_⟩
    refine ⟨_, rfl, t, _, rfl, SqT.of ht, rfl, _, _, rfl, _, _, rfl, rfl, ?_⟩
    rcases restW_some R 0 none e0 with ⟨z, _⟩ | ⟨i, ek, hi, hmin, hfirst, _⟩
    · cases z
    have ek' : k = (i : Int) := by omega
    subst ek'
    have il : i < R.length := (List.getElem?_eq_some_iff.mp hi).1
    have ati := nth i _ hi
    refine ⟨_, rfl, _, _, rfl, rfl, _, rfl, dT (by omega) ⟨_, rfl, r, _, rfl, .inl (SqL.of h14), _, _, rfl, rfl, _, rfl, nF (by rw [List.length_map]; omega) ?_⟩⟩
    refine ⟨_, rfl, _, rfl, r, _, _, _, rfl, rfl, SqL.of h14, ati, rfl, _, rfl, dF (fun z => nomatch z) ?_⟩
    refine ⟨_, rfl, _, rfl, r, _, _, _, rfl, rfl, SqL.of h14, ati, _, rfl, rfl, _, rfl, nF rfl ?_⟩
    refine ⟨_, rfl, r, _, rfl, .inl (SqL.of h14), _, rfl, by rw [List.length_map]; omega, by rw [List.length_map]; omega, for_range (n := (((R.map ovV).length : Nat) : Int).toNat)
      (fun j σ H5 => (∃ o9, σ = [some (.ref t), some (.ref b), some (.ref r), o3, o4, o5, o6, some (.int n), some (.int i), o9]) ∧ H5 = H4) ⟨⟨none, rfl⟩, rfl⟩ ?_ ?_⟩
    · rintro j σ H5 hj ⟨⟨o9, rfl⟩, rfl⟩
      rw [List.length_map, Int.toNat_natCast] at hj
      have ej : (0 : Int) + (j : Int) = (j : Int) := by omega
      rw [ej]
      have hR : R[j]? = some (R[j]'hj) := List.getElem?_eq_getElem hj
      generalize R[j]'hj = oj at hR
      have atj := nth j _ hR
      cases oj with
      | none => exact ⟨_, rfl, _, rfl, r, _, _, _, rfl, rfl, SqL.of h14, atj, rfl, _, rfl, nF rfl (iteF ⟨⟨_, rfl⟩, rfl⟩)⟩
      | some m =>
        have mn := hmin j m hR
        refine ⟨_, rfl, _, rfl, r, _, _, _, rfl, rfl, SqL.of h14, atj, rfl, _, rfl, nT (fun z => nomatch z) ?_⟩
        refine ⟨_, rfl, _, rfl, r, _, _, _, rfl, rfl, SqL.of h14, atj, _, rfl, _, _, rfl, rfl, _, rfl, dF (by omega) ?_⟩
        refine ⟨_, rfl, _, rfl, _, _, rfl, rfl, _, rfl, ite2 (fun c1 => ?_) (fun c1 => ?_)⟩
        · have c1' : (j : Int) < (i : Int) := of_decide_eq_true c1
          have lt := hfirst j m (by omega) hR
          exact ⟨_, rfl, _, rfl, r, _, _, _, rfl, rfl, SqL.of h14, atj, _, rfl, rfl, _, rfl, dF (fun z => by cases z; omega) ⟨⟨_, rfl⟩, rfl⟩⟩
        · exact iteF ⟨⟨_, rfl⟩, rfl⟩
    · rintro σ H5 ⟨⟨o9, rfl⟩, rfl⟩
      exact q _ S4
end


/-- [.. for y, z, u, t in xs] over a list of tuples of four -/
theorem comp_fours {K K' : PySem.W.Frag} {a : Addr} {xs : List V} {tc : TT} {te : TE} {σ : St} {ix : List Nat} {QQ : Hp → Prop} {H1 : Hp} {p : Addr} (Pv : Nat → List V → Hp → Prop) (h0 : Pv 0 [] (upd H1 p (.lst [])))
    (hp : ∀ i ys H, i ≤ xs.length → Pv i ys H → H p = some (.lst ys) ∧ ys.length ≤ i ∧ SqL K H a xs) (hn : xs.length ≤ sizeLine)
    (hs : ∀ i x ys H, xs[i]? = some x → Pv i ys H → ∃ t y z u v, x = .ref t ∧ SqT K' H t [y, z, u, v] ∧ tc (some y :: some z :: some u :: some v :: caps ix σ) H fun b H5 => if b = true then te (some y :: some z :: some u :: some v :: caps ix σ) H5 fun r H6 => H6 p = some (.lst ys) ∧
      (some y :: some z :: some u :: some v :: caps ix σ) = (some y :: some z :: some u :: some v :: caps ix σ) ∧ Pv (i + 1) (ys ++ [r]) (upd H6 p (.lst (ys ++ [r]))) else (some y :: some z :: some u :: some v :: caps ix σ) = (some y :: some z :: some u :: some v :: caps ix σ) ∧ Pv (i + 1) ys H5)
    (hd : ∀ ys H, Pv xs.length ys H → QQ H) :
    CompW (gTup K' 4 (gCons (gName 0) (gCons (gName 1) (gCons (gName 2) (gCons (gName 3) gNil))))) tc te 4 ix σ (Itl K a) p H1 QQ := by
  refine ⟨fun i m ys σ2 H2 => m = xs.length - i ∧ i ≤ xs.length ∧ (∃ o o' o2 o3, σ2 = o :: o' :: o2 :: o3 :: caps ix σ) ∧ Pv i ys H2, ⟨xs.length, by simp, Nat.zero_le _, ⟨none, none, none, none, rfl⟩, h0⟩, ?_⟩
  rintro i m ys σ2 H2 ⟨rfl, hi, ⟨o, o', o2, o3, rfl⟩, pv⟩
  obtain ⟨hp2, hl2, hq2⟩ := hp i ys H2 hi pv
  refine ⟨hp2, ?_⟩
  by_cases hlt : i < xs.length
  · refine .inr ⟨⟨xs, xs[i], hq2, by simp [hlt]⟩, by omega, fun x H3 yy => ?_⟩
    obtain ⟨e, yy⟩ := yy
    subst e
    obtain ⟨t, y, z, u, v, ex, ht, q⟩ := hs i x ys _ (yy xs hq2) pv
    subst ex
    refine ⟨fun ys' σ' H' => σ' = (some y :: some z :: some u :: some v :: caps ix σ) ∧ Pv (i + 1) ys' H', fun ys' σ' H' ⟨e, q⟩ => ⟨xs.length - (i + 1), by omega, rfl, hlt, ⟨_, _, _, _, e⟩, q⟩, ?_⟩
    exact ⟨t, _, rfl, ht, rfl, _, _, rfl, _, _, rfl, _, _, rfl, _, _, rfl, rfl, q⟩
  · obtain rfl : i = xs.length := by omega
    exact .inl ⟨⟨xs, hq2, Nat.le_refl _⟩, hd ys H2 pv⟩
theorem rep0 (k : Nat) : (List.replicate k [V.int 0]).flatten = (List.replicate k (0 : Int)).map V.int := by
  induction k with
  | zero => rfl
  | succ k ih => rw [List.replicate_succ, List.flatten_cons, ih, List.replicate_succ, List.map_cons]; rfl
theorem set_ints (ns : List Int) (i : Nat) (v : Int) : (List.map V.int ns).set i (.int v) = List.map V.int (ns.set i v) := by rw [List.map_set]
theorem eqL_same (ns : List Int) : eqL (List.map V.int ns) (List.map V.int ns) = true := by
  induction ns with
  | nil => rfl
  | cons n ns ih =>
    rw [List.map_cons]
    unfold eqL
    rw [ih]
    simp [eqV]
theorem Cls4.snoc {CC CO CL CM : Addr} {H : Hp} : ∀ {xs : List V} {cs : List Cl} {p : Addr} {c : Cl}, Cls4 CC CO CL CM H xs cs → ClAt CC CO CL CM H p c → Cls4 CC CO CL CM H (xs ++ [.ref p]) (cs ++ [c])
  | [], [], p, _, _, h => ⟨⟨p, rfl, h⟩, trivial⟩
  | [], _ :: _, _, _, z, _ => z.elim
  | _ :: _, [], _, _, z, _ => z.elim
  | x :: xs, c :: cs, _, _, ⟨z, r⟩, h => ⟨z, Cls4.snoc r h⟩
/-- if c: two statements, then what follows, of either state -/
theorem join_blk {c : Prop} {inst : Decidable c} {t u : TS} {D : Ends} {σ : St} {H : Hp} (G : St → Hp → Prop) (g0 : G σ H) (h : c → ∀ D' : Ends, (∀ σ' H', G σ' H' → D'.nx σ' H') → tSeq t u D' σ H) (R : ∀ σ' H', G σ' H' → D.nx σ' H') :
    @ite Prop c inst (tSeq t u D σ H) (tNext D σ H) := by
  by_cases z : c
  · rw [if_pos z]; exact h z D R
  · rw [if_neg z]; exact R σ H g0
theorem hideV {i : Nat} {v : V} {nx : St → Hp → Prop} {σ : St} {H : Hp} (h : ∀ x : V, gName i x σ H nx) : gName i v σ H nx := h v
def spLaw (K : PySem.W.Frag) : Sp := fun vs H Q _ => ∃ (a : Addr) (ns : List Int), vs = [.ref a] ∧ SqL K H a (ns.map V.int) ∧ ns.length ≤ 63 ∧ ∀ H', Q (.bl true) H'
section
variable {P : Program} {w : World} {K : PySem.W.Frag} {mg : Str → Option Value} {base : Heap} {C_Clause C_Own C_Layer C_Limit C_Deal C_Cover C_Condition : Addr}
theorem sc_law : FnScope ["_law_script", "_law_many", "_law_rows", "_law_others", "_law_at", "_law_waits", "_law_cover", "_law_counts", "_law_some", "_law_k"] ["_law_script"] (defScope s_law) := ⟨rfl, rfl, rfl, by decide +kernel, rfl, by decide +kernel, by decide +kernel⟩
seal L2.PS L2.PSs L2.PE L2.PA
theorem ok_law {f : Addr} {fd : FuncData} (F : Fun K "law" "law" s_law f fd) (T : Txt K mg) (L : Kl K mg C_Clause C_Own C_Layer C_Limit C_Deal C_Cover C_Condition) (NCondition : Mk0 K mg "Condition" C_Condition) (C_law_cell : Cal P w K mg base 1 "_law_cell" ["_law_script", "_law_k"] (spCell K)) (C_law_row : Cal P w K mg base 1 "_law_row" ["_law_cell_here", "_law_other"] spRow)
    (C_law_clause : Cal P w K mg base 6 "_law_clause" ["_law_row_here"] (spClause C_Clause C_Own C_Layer C_Limit)) (C_law_right : Cal P w K mg base 2 "_law_right" ["_law_found", "_law_rows"] spRightR) (KCover : KCal P w K mg base 6 "Cover" C_Cover ["self", "name", "condition", "clauses", "houses", "waits"] (spCover C_Cover))
    (Mrest : MCal P w K mg base 2 C_Cover "rest" ["self", "counts"] (spRest C_Clause C_Own C_Layer C_Limit C_Cover)) : FnOk P w K mg base CX0 8 f fd ["_law_script"] (spLaw K) := by
  have sc := sc_law
  refine F.ok sc (fun vs H Q E h => ?_) (fun cdv A outer s H vs Q E hr h => ?_)
  · obtain ⟨_, _, rfl, _⟩ := h
    rfl
  have hu := room_u hr
  obtain ⟨a, ns, rfl, ha, h63, q⟩ := h
  refine ⟨_, (pss_cons (ps_set (i := 1) sc.nd rfl (Or.inl rfl) (pe_op op_mod (pe_callC C_law_cell (hr.mono (by decide)) rfl (pa_cons (pv 0) (pa_cons pe_int pa_nil))) pe_int))
      (pss_cons (ps_comp (NC := ["_law_k", "_law_script"]) (own := ["_law_k"]) (cs := ["_law_script"]) (ix := [0]) (j := 2) sc.nd rfl rfl rfl (CompScope.of rfl) rfl ⟨⟨rfl, .inl rfl, rfl⟩, trivial⟩ (pi_range1 rfl T.n_range (pa_cons (pv 1) pa_nil)) (fun _ _ _ => (pg_name (i := 0) (show (["_law_k", "_law_script"] : List Str).Nodup from by decide +kernel) rfl (Or.inl rfl))) (fun _ _ _ => pts_nil) (fun _ _ _ => (pe_callC C_law_row (hr.mono (by decide)) rfl (pa_cons (pe_callC C_law_cell (hr.mono (by decide)) rfl (pa_cons (pv 1) (pa_cons (pe_op op_add pe_int (pe_op op_mul pe_int (pv 0))) pa_nil))) (pa_cons (pe_callC C_law_cell (hr.mono (by decide)) rfl (pa_cons (pv 1) (pa_cons (pe_op op_add pe_int (pe_op op_mul pe_int (pv 0))) pa_nil))) pa_nil)))))
      (pss_cons (ps_comp (NC := ["_law_word", "_law_by", "_law_most", "_law_count"]) (own := ["_law_word", "_law_by", "_law_most", "_law_count"]) (cs := []) (ix := []) (j := 3) sc.nd rfl rfl rfl (CompScope.of rfl) rfl trivial (pi_list (pv 2)) (fun _ _ _ => (pg_tupK (K := K) (n := 4) rfl rfl (pgs_cons (pg_name (i := 0) (show (["_law_word", "_law_by", "_law_most", "_law_count"] : List Str).Nodup from by decide +kernel) rfl (Or.inl rfl)) (pgs_cons (pg_name (i := 1) (show (["_law_word", "_law_by", "_law_most", "_law_count"] : List Str).Nodup from by decide +kernel) rfl (Or.inl rfl)) (pgs_cons (pg_name (i := 2) (show (["_law_word", "_law_by", "_law_most", "_law_count"] : List Str).Nodup from by decide +kernel) rfl (Or.inl rfl)) (pgs_cons (pg_name (i := 3) (show (["_law_word", "_law_by", "_law_most", "_law_count"] : List Str).Nodup from by decide +kernel) rfl (Or.inl rfl)) pgs_nil)))))) (fun _ _ _ => pts_nil) (fun _ _ _ => (pe_tup (pa_cons (pv 0) (pa_cons (pv 1) (pa_cons (pv 2) (pa_cons pe_int pa_nil)))))))
      (pss_cons (ps_if (pt_cmpR op_gt (pv 1) pe_int (nomark _))
        (pss_cons (ps_set (i := 4) sc.nd rfl (Or.inl rfl) (pe_op op_mod (pe_callC C_law_cell (hr.mono (by decide)) rfl (pa_cons (pv 0) (pa_cons pe_int pa_nil))) (pv 1)))
      (pss_one (ps_asg (pe_tup (pa_cons (pe_ix ix_tup (pe_ix ix_list (pv 2) (pv 4) (fun _ _ => rfl)) pe_int (fun _ _ => rfl)) (pa_cons (pe_ix ix_tup (pe_ix ix_list (pv 2) (pv 4) (fun _ _ => rfl)) pe_int (fun _ _ => rfl)) (pa_cons (pe_ix ix_tup (pe_ix ix_list (pv 2) (pv 4) (fun _ _ => rfl)) pe_int (fun _ _ => rfl)) (pa_cons (pe_op op_mod (pe_callC C_law_cell (hr.mono (by decide)) rfl (pa_cons (pv 0) (pa_cons pe_int pa_nil))) (pe_op op_pow pe_int pe_int)) pa_nil))))) (pg_sub (pv 3) (pv 4) set_list))))
        pss_nil)
      (pss_cons (ps_set (i := 5) sc.nd rfl (Or.inl rfl) (pe_cmpR op_eq (pe_op op_mod (pe_op op_fdiv (pe_callC C_law_cell (hr.mono (by decide)) rfl (pa_cons (pv 0) (pa_cons pe_int pa_nil))) pe_int) pe_int) pe_int (nomark _)))
      (pss_cons (ps_set (i := 6) sc.nd rfl (Or.inl rfl) (pe_makeC KCover (hr.mono (by decide)) rfl (pa_cons pe_str (pa_cons (pe_new0 NCondition rfl) (pa_cons (pe_comp (NC := ["_law_row_here"]) (own := ["_law_row_here"]) (cs := []) (ix := []) rfl (CompScope.of rfl) rfl trivial (pi_list (pv 2)) (fun _ _ _ => (pg_name (i := 0) (show (["_law_row_here"] : List Str).Nodup from by decide +kernel) rfl (Or.inl rfl))) (fun _ _ _ => pts_nil) (fun _ _ _ => (pe_callC C_law_clause (hr.mono (by decide)) rfl (pa_cons (pv 0) pa_nil)))) (pa_cons pe_non (pa_cons (pv 5) pa_nil)))))))
      (pss_cons (ps_set (i := 7) sc.nd rfl (Or.inl rfl) (pe_op op_rep (pe_lst (pa_cons pe_int pa_nil)) (pv 1)))
      (pss_cons (ps_for PassesOwn.never rfl (pi_list (pe_lst (pa_cons (pv 2) (pa_cons (pv 3) (pa_cons (pv 2) pa_nil))))) (pg_name (i := 8) sc.nd rfl (Or.inl rfl))
        (pss_cons (ps_for PassesOwn.never rfl (pi_range1 rfl T.n_range (pa_cons (pv 1) pa_nil)) (pg_name (i := 9) sc.nd rfl (Or.inl rfl))
        (pss_one (ps_asg (pe_ix ix_tup (pe_ix ix_list (pv 8) (pv 9) (fun _ _ => rfl)) pe_int (fun _ _ => rfl)) (pg_sub (pv 7) (pv 9) set_list))))
      (pss_one (ps_if (PW.pt (pw_or (pt_not (pt_val (pe_callC C_law_right (hr.mono (by decide)) rfl (pa_cons (pe_methC Mrest (hr.mono (by decide)) (pv 6) (pa_cons (pv 7) pa_nil)) (pa_cons (pv 8) pa_nil))))) (pw_or1 (pt_cmpR (op_neL hu) (pv 7) (pe_comp (NC := ["_law_row_here"]) (own := ["_law_row_here"]) (cs := []) (ix := []) rfl (CompScope.of rfl) rfl trivial (pi_list (pv 8)) (fun _ _ _ => (pg_name (i := 0) (show (["_law_row_here"] : List Str).Nodup from by decide +kernel) rfl (Or.inl rfl))) (fun _ _ _ => pts_nil) (fun _ _ _ => (pe_ix (ix_tupK (K := K) rfl) (pv 0) pe_int (fun _ _ => rfl)))) (nomark _)))))
        (pss_one (ps_ret pe_bl))
        pss_nil))))
      (pss_one (ps_ret pe_bl)))))))))), ?_⟩
  have one : 1 ≤ sizeLine := by rw [sizeLine_eq]; decide
  have three : 3 ≤ sizeLine := by rw [sizeLine_eq]; decide
  have four : 4 ≤ sizeLine := by rw [sizeLine_eq]; decide
  -- many
  refine ⟨_, rfl, a, ns, 0, rfl, ha, Int.le_refl 0, h63, _, _, rfl, rfl, (by show (0 : Int) < 9; decide), ?_⟩
  refine hideI 0 8 (md (by decide)) fun mn mn0 mn8 => ?_
  refine atG [some (.ref a), some (.int mn), none, none, none, none, none, none, none, none] rfl ?_
  -- rows
  refine ⟨_, rfl, _, rfl, by omega, by omega, fun b nb => ?_⟩
  refine comp_range (lo := 0) (n := mn.toNat) (fun i ys H2 => (∃ rs : List Rw, Rws H2 ys rs ∧ rs.length = i ∧ ∀ r ∈ rs, okR r) ∧ H2 b = some (.lst ys) ∧ Same H H2) ⟨⟨[], trivial, rfl, fun _ z => (nomatch z)⟩, upd_same, same_new nb _⟩
    (fun i ys H2 _ ⟨⟨rs, pr, e, _⟩, h1, _⟩ => ⟨h1, by rw [pr.len, e]; exact Nat.le_refl _⟩) (by rw [sizeLine_eq]; omega) (fun i ys H2 hi ⟨⟨rs, pr, e, ok⟩, h1, s2⟩ => ?_) (fun ys H2 ⟨⟨rs, pr, e, ok⟩, h1, s2⟩ => ?_)
  · refine ⟨_, rfl, _, rfl, _, _, rfl, rfl, .inl ⟨by decide, by decide⟩, _, _, rfl, rfl, a, ns, _, rfl, s2.seq ha, by omega, h63, ?_⟩
    refine ⟨_, rfl, _, rfl, _, _, rfl, rfl, .inl ⟨by decide, by decide⟩, _, _, rfl, rfl, a, ns, _, rfl, s2.seq ha, by omega, h63, _, _, rfl, fun t r H3 s3 nt et okr => ?_⟩
    refine ⟨s3 _ _ h1, rfl, ⟨rs ++ [r], ((pr.mono (tst_same s3)).snoc et).mono (tst_lst (s3 _ _ h1) _), by rw [List.length_append, e]; rfl, fun r' hr' => ?_⟩, upd_same, fun x o z => ?_⟩
    · rcases List.mem_append.mp hr' with z | z
      · exact ok r' z
      · rw [List.mem_singleton] at z; subst z; exact okr
    · rw [upd_ne (ne_of_none z nb)]
      exact s3 _ _ (s2 x o z)
  have lr : rs.length = mn.toNat := e
  have ly := pr.len
  -- others
  refine ⟨_, rfl, b, rfl, ⟨_, SqL.of h1⟩, fun d nd => ?_⟩
  refine comp_fours (K := K) (a := b) (xs := ys) (fun i zs H3 => Rws H3 zs ((rs.take i).map fun r => (r.1, r.2.1, r.2.2.1, 0)) ∧ H3 d = some (.lst zs) ∧ Same H2 H3) ⟨trivial, upd_same, same_new nd _⟩
    (fun i zs H3 _ ⟨e, h2, s3⟩ => ⟨h2, by rw [e.len, List.length_map, List.length_take]; omega, SqL.of (s3 _ _ h1)⟩) (by rw [sizeLine_eq]; omega) (fun i x zs H3 hi ⟨e, h2, s3⟩ => ?_) (fun zs H3 ⟨pz, h2, s3⟩ => ?_)
  · obtain ⟨t, r, hp, rfl, ht⟩ := pr.get hi
    refine ⟨t, _, _, _, _, rfl, SqT.of (s3 _ _ ht), ?_⟩
    refine ⟨_, rfl, _, rfl, _, rfl, four, fun u nu => ?_⟩
    have su := same_new nu (.tup (tupR (r.1, r.2.1, r.2.2.1, 0)))
    refine ⟨su _ _ h2, rfl, ?_, upd_same, fun x o z => ?_⟩
    · rw [take_snoc hp, List.map_append]
      exact ((e.mono (tst_same su)).snoc upd_same).mono (tst_lst (su _ _ h2) _)
    · rw [upd_ne (ne_of_none z nd)]
      exact su _ _ (s3 x o z)
  rw [ly, List.take_length] at pz
  have nbd : b ≠ d := ne_of_none h1 nd
  have okz : ∀ r ∈ rs.map (fun r => ((r.1, r.2.1, r.2.2.1, 0) : Rw)), okR r := fun r hr => by
    obtain ⟨r0, h0, rfl⟩ := List.mem_map.mp hr
    obtain ⟨a1, a2, a3, _⟩ := ok r0 h0
    exact ⟨a1, a2, a3, Int.le_refl 0⟩
  have S3 := s2.trans s3
  -- if many > 0
  have e0 : (rs.map (fun r => ((r.1, r.2.1, r.2.2.1, 0) : Rw))).map clOf = rs.map clOf := by
    rw [List.map_map]
    exact List.map_congr_left fun r _ => rfl
  refine ⟨_, rfl, _, _, rfl, rfl, _, rfl, ?_⟩
  refine join_blk (fun σ' H4 => ∃ o4 zs' rs', σ' = [some (.ref a), some (.int mn), some (.ref b), some (.ref d), o4, none, none, none, none, none] ∧ Same H H4 ∧ H4 b = some (.lst ys) ∧ Rws H4 ys rs ∧ H4 d = some (.lst zs') ∧ Rws H4 zs' rs' ∧ rs'.map clOf = rs.map clOf ∧ rs'.length = rs.length)
    ⟨none, zs, _, rfl, S3, s3 _ _ h1, pr.mono (tst_same s3), h2, pz, e0, List.length_map _⟩ (fun c D' k => ?_) ?_
  · have c' : 0 < mn := of_decide_eq_true c
    refine ⟨_, rfl, a, ns, 17, rfl, S3.seq ha, by decide, h63, _, rfl, _, _, rfl, rfl, c', ?_⟩
    refine hideI 0 (mn - 1) (md c') fun at' at0 at1 => ?_
    have atl : at'.toNat < ys.length := by omega
    obtain ⟨t0, r0, hr0, et0, ht0⟩ := pr.get (List.getElem?_eq_getElem atl)
    have ht3 : H3 t0 = some (.tup [.str r0.1, .str r0.2.1, .int r0.2.2.1, .int r0.2.2.2]) := s3 _ _ ht0
    have h13 := s3 _ _ h1
    have ati : atI ys at' = some (.ref t0) := by
      have e' : at' = ((at'.toNat : Nat) : Int) := by omega
      rw [e', ← et0]
      exact atI_nat (List.getElem?_eq_getElem atl)
    refine ⟨_, rfl, _, rfl, b, _, _, _, rfl, rfl, SqL.of h13, ati, t0, _, _, _, rfl, rfl, SqT.of ht3, rfl, _, rfl, _, rfl, b, _, _, _, rfl, rfl, SqL.of h13, ati, t0, _, _, _, rfl, rfl, SqT.of ht3, rfl, _, rfl, _, rfl, b, _, _, _, rfl, rfl, SqL.of h13, ati, t0, _, _, _, rfl, rfl, SqT.of ht3, rfl, _, rfl, a, ns, 18, rfl, S3.seq ha, by decide, h63, _, _, rfl, rfl, ⟨by decide, by decide, by decide⟩, _, _, rfl, rfl, (by show (0 : Int) < (10 : Int) ^ (14 : Int).toNat; rw [e14]; decide), four, fun u nu => ?_⟩
    have su := same_new nu (.tup (tupR (r0.1, r0.2.1, r0.2.2.1, (ns.getD (18 : Int).toNat 0 % (10 : Int) ^ (14 : Int).toNat))))
    have eu : upd H3 u (.tup (tupR (r0.1, r0.2.1, r0.2.2.1, (ns.getD (18 : Int).toNat 0 % (10 : Int) ^ (14 : Int).toNat)))) u = some (.tup (tupR (r0.1, r0.2.1, r0.2.2.1, (ns.getD (18 : Int).toNat 0 % (10 : Int) ^ (14 : Int).toNat)))) := upd_same
    have lz : zs.length = ys.length := by rw [pz.len, List.length_map, ly]
    refine ⟨_, rfl, _, rfl, d, zs, at', at'.toNat, rfl, rfl, su _ _ h2, by rw [lz]; exact ix_of at0 (by omega), ?_⟩
    have tt := (tst_same su).trans (tst_lst (su _ _ h2) (.lst (zs.set at'.toNat (.ref u))))
    refine k _ _ ⟨_, _, (rs.map (fun r => ((r.1, r.2.1, r.2.2.1, 0) : Rw))).set at'.toNat (r0.1, r0.2.1, r0.2.2.1, (ns.getD (18 : Int).toNat 0 % (10 : Int) ^ (14 : Int).toNat)), rfl, fun x o z => ?_, ?_, (pr.mono (tst_same s3)).mono tt, upd_same, Rws.set (tst_lst (su _ _ h2) _ _ _ eu) at'.toNat (pz.mono tt), ?_, by rw [List.length_set, List.length_map]⟩
    · rw [upd_ne (ne_of_none (s2 _ _ z) nd)]
      exact su _ _ (S3 x o z)
    · rw [upd_ne nbd]
      exact su _ _ h13
    · rw [List.map_set, e0]
      have e2 : clOf (r0.1, r0.2.1, r0.2.2.1, (ns.getD (18 : Int).toNat 0 % (10 : Int) ^ (14 : Int).toNat)) = clOf r0 := rfl
      rw [e2, ← List.map_set]
      congr 1
      obtain ⟨hh, e3⟩ := List.getElem?_eq_some_iff.mp hr0
      rw [← e3]
      exact List.set_getElem_self hh
  rintro σ' H4 ⟨o4, zs', rs', rfl, S4, hb4, pr4, hd4, pz4, ec, lq⟩
  -- waits
  refine ⟨_, rfl, a, ns, 0, rfl, S4.seq ha, Int.le_refl 0, h63, _, _, rfl, rfl, ⟨by decide, by decide⟩, _, _, rfl, rfl, (by show (0 : Int) < 2; decide), rfl, ?_⟩
  refine hideV fun wv => ?_
  refine atG [some (.ref a), some (.int mn), some (.ref b), some (.ref d), o4, some wv, none, none, none, none] rfl ?_
  -- cover
  refine fun cy cdy ncy ncdy ney => ?_
  have s5 : Same H4 (upd (upd H4 cdy (.own cy)) cy (.ins C_Condition cdy [])) := fun x o z => by rw [upd_ne (ne_of_none z ncy), upd_ne (ne_of_none z ncdy)]; exact z
  generalize upd (upd H4 cdy (.own cy)) cy (.ins C_Condition cdy []) = H5 at s5
  have hb5 := s5 _ _ hb4
  have pr5 := pr4.mono (tst_same s5)
  refine ⟨_, rfl, b, rfl, ⟨_, SqL.of hb5⟩, fun c0 nc0 => ?_⟩
  refine comp_list (K := K) (a := b) (xs := ys) (fun i zs H6 => Cls4 C_Clause C_Own C_Layer C_Limit H6 zs ((rs.take i).map clOf) ∧ H6 c0 = some (.lst zs) ∧ Same H5 H6) ⟨trivial, upd_same, same_new nc0 _⟩
    (fun i zs H6 _ ⟨e, h2, s6⟩ => ⟨h2, by rw [e.len, List.length_map, List.length_take]; omega, SqL.of (s6 _ _ hb5)⟩) (by rw [sizeLine_eq]; omega) (fun i x zs H6 hi ⟨e, h2, s6⟩ => ?_) (fun cs H6 ⟨c4, h6, s6⟩ => ?_)
  · obtain ⟨t, r, hp, rfl, ht⟩ := pr5.get hi
    refine ⟨_, rfl, t, r, rfl, s6 _ _ ht, ok r (List.mem_of_getElem? hp), fun pc H7 s7 ca => ?_⟩
    refine ⟨s7 _ _ h2, rfl, ?_, upd_same, fun x o z => ?_⟩
    · rw [take_snoc hp, List.map_append]
      have h27 := s7 _ _ h2
      exact Cls4.mono (fun b' C dx fs z => by rw [upd_ne (ne_of z h27 (by intro e'; cases e'))]; exact z) (Cls4.snoc (e.mono fun b' C dx fs z => s7 _ _ z) ca)
    · rw [upd_ne (ne_of_none z nc0)]
      exact s7 _ _ (s6 x o z)
  rw [ly, List.take_length] at c4
  have lc := c4.len
  rw [List.length_map] at lc
  refine ⟨_, rfl, fun x dx nx ndx nex => ?_⟩
  have n0x : c0 ≠ x := ne_of_none h6 nx
  have n0d : c0 ≠ dx := ne_of_none h6 ndx
  refine ⟨x, dx, "acme", .ref cy, c0, cs, wv, rfl, upd_same, by decide +kernel, by decide +kernel, by decide +kernel, by rw [upd_ne n0x, upd_ne n0d]; exact h6, by omega, fun kl H7 kb cv ek => ⟨rfl, ?_⟩⟩
  have s7 : Same H6 H7 := made_same nx ndx kb
  have S7 : Same H4 H7 := s5.trans (s6.trans s7)
  have c47 := c4.mono fun b' C dx fs z => s7 _ _ z
  refine atG [some (.ref a), some (.int mn), some (.ref b), some (.ref d), o4, some wv, some (.ref x), none, none, none] rfl ?_
  -- counts
  refine ⟨one, fun l nl => ⟨_, rfl, l, mn, _, rfl, rfl, upd_same, by omega, by omega, by rw [sizeLine_eq]; show 1 * mn.toNat ≤ _; omega, fun ct nct => ?_⟩⟩
  rw [rep0]
  have s8 := (same_new nl (.lst [V.int 0])).trans (same_new nct (.lst ((List.replicate mn.toNat (0 : Int)).map V.int)))
  have ect : upd (upd H7 l (.lst [V.int 0])) ct (.lst ((List.replicate mn.toNat (0 : Int)).map V.int)) ct = some (.lst ((List.replicate mn.toNat (0 : Int)).map V.int)) := upd_same
  have nct7 : H7 ct = none := by
    by_cases z : ct = l
    · subst z; rw [upd_same] at nct; cases nct
    · rw [upd_ne z] at nct; exact nct
  refine atG [some (.ref a), some (.int mn), some (.ref b), some (.ref d), o4, some wv, some (.ref x), some (.ref ct), none, none] rfl ?_
  generalize upd (upd H7 l (.lst [V.int 0])) ct (.lst ((List.replicate mn.toNat (0 : Int)).map V.int)) = H8 at s8 ect
  -- for some in [rows, others, rows]
  refine ⟨_, rfl, _, rfl, _, rfl, three, fun l3 nl3 => ?_⟩
  have s9 := same_new nl3 (.lst [V.ref b, V.ref d, V.ref b])
  have e3 : upd H8 l3 (.lst [V.ref b, V.ref d, V.ref b]) l3 = some (.lst [V.ref b, V.ref d, V.ref b]) := upd_same
  have n3c : l3 ≠ ct := (ne_of_none ect nl3).symm
  have S9 : Same H7 (upd H8 l3 (.lst [V.ref b, V.ref d, V.ref b])) := s8.trans s9
  have ect9 : upd H8 l3 (.lst [V.ref b, V.ref d, V.ref b]) ct = some (.lst ((List.replicate mn.toNat (0 : Int)).map V.int)) := s9 _ _ ect
  generalize upd H8 l3 (.lst [V.ref b, V.ref d, V.ref b]) = H9 at s9 e3 S9 ect9
  have S49 := S7.trans S9
  have nbc : b ≠ ct := ne_of_none (S7 _ _ hb4) nct7
  have ndc : d ≠ ct := ne_of_none (S7 _ _ hd4) nct7
  have src : ∀ (i : Nat) (y : V), ([V.ref b, V.ref d, V.ref b] : List V)[i]? = some y → ∃ e es qs, y = .ref e ∧ H9 e = some (.lst es) ∧ Rws H9 es qs ∧ qs.map clOf = rs.map clOf ∧ qs.length = rs.length ∧ e ≠ ct := fun i y h => by
    have hb9 : ∃ e es qs, V.ref b = .ref e ∧ H9 e = some (.lst es) ∧ Rws H9 es qs ∧ qs.map clOf = rs.map clOf ∧ qs.length = rs.length ∧ e ≠ ct := ⟨b, ys, rs, rfl, S49 _ _ hb4, pr4.mono (tst_same S49), rfl, rfl, nbc⟩
    match i, h with
    | 0, h => cases h; exact hb9
    | 1, h => cases h; exact ⟨d, zs', rs', rfl, S49 _ _ hd4, pz4.mono (tst_same S49), ec, lq, ndc⟩
    | 2, h => cases h; exact hb9
    | _ + 3, h => cases h
  refine ⟨l3, rfl, ⟨_, SqL.of e3⟩, for_list (K := K) (a := l3) (xs := [V.ref b, V.ref d, V.ref b])
    (fun i σ H2 => (∃ o8 o9 cn, σ = [some (.ref a), some (.int mn), some (.ref b), some (.ref d), o4, some wv, some (.ref x), some (.ref ct), o8, o9] ∧ H2 ct = some (.lst (List.map V.int cn)) ∧ cn.length = rs.length) ∧ ∀ b' o, H9 b' = some o → b' ≠ ct → H2 b' = some o)
    ⟨⟨none, none, _, rfl, ect9, by rw [List.length_replicate, lr]⟩, fun _ _ z _ => z⟩ (fun i σ H2 _ ⟨_, k⟩ => SqL.of (k _ _ e3 n3c)) ?_ ?_⟩
  · rintro i y σ H2 hi ⟨⟨o8, o9, cn, rfl, hcn, lcn⟩, kp⟩
    obtain ⟨e, es, qs, rfl, he, pe, eqc, lqs, nec⟩ := src i y hi
    have le := pe.len
    refine atG [some (.ref a), some (.int mn), some (.ref b), some (.ref d), o4, some wv, some (.ref x), some (.ref ct), some (.ref e), o9] rfl ?_
    have tk : ∀ {H' : Hp}, (∀ b' o, H9 b' = some o → b' ≠ ct → H' b' = some o) → Tst H9 H' := fun k t xs z => k _ _ z (ne_of z ect9 (by intro e'; cases e'))
    refine ⟨_, rfl, _, rfl, by omega, by omega, for_range (n := mn.toNat)
      (fun j σ H3 => (∃ o9, σ = [some (.ref a), some (.int mn), some (.ref b), some (.ref d), o4, some wv, some (.ref x), some (.ref ct), some (.ref e), o9] ∧ H3 ct = some (.lst (List.map V.int ((qs.take j).map (fun r => r.2.2.2) ++ cn.drop j)))) ∧ ∀ b' o, H9 b' = some o → b' ≠ ct → H3 b' = some o) ⟨⟨o9, rfl, hcn⟩, kp⟩ ?_ ?_⟩
    · rintro j σ H3 hj ⟨⟨o9', rfl, hc3⟩, kp3⟩
      have ej : (0 : Int) + (j : Int) = (j : Int) := by omega
      rw [ej]
      refine atG [some (.ref a), some (.int mn), some (.ref b), some (.ref d), o4, some wv, some (.ref x), some (.ref ct), some (.ref e), some (.int j)] rfl ?_
      have jl : j < es.length := by omega
      obtain ⟨t, r, hp, et, ht⟩ := pe.get (List.getElem?_eq_getElem jl)
      have ht3 : H3 t = some (.tup [.str r.1, .str r.2.1, .int r.2.2.1, .int r.2.2.2]) := tk kp3 _ _ ht
      refine ⟨_, rfl, _, rfl, e, _, _, _, rfl, rfl, SqL.of (kp3 _ _ he nec), (by rw [← et]; exact atI_nat (List.getElem?_eq_getElem jl)), t, _, _, _, rfl, rfl, SqT.of ht3, rfl, ?_⟩
      have ll : (List.map V.int ((qs.take j).map (fun r => r.2.2.2) ++ cn.drop j)).length = rs.length := by rw [List.length_map, List.length_append, List.length_map, List.length_take, List.length_drop]; omega
      have ixj : ixN rs.length (j : Int) = some j := by
        have z := ix_of (n := rs.length) (k := (j : Int)) (by omega) (by omega)
        rwa [Int.toNat_natCast] at z
      refine ⟨_, rfl, _, rfl, ct, _, _, j, rfl, rfl, hc3, by rw [ll]; exact ixj, ⟨_, rfl, ?_⟩, fun b' o z n => ?_⟩
      · rw [upd_same, set_ints]
        congr 3
        have hl : ((qs.take j).map fun r => r.2.2.2).length = j := by rw [List.length_map, List.length_take]; omega
        have dc : cn.drop j = (cn[j]'(by omega)) :: cn.drop (j + 1) := List.drop_eq_getElem_cons (by omega)
        rw [take_snoc hp, List.map_append, dc, List.set_append_right _ _ (by omega), hl, Nat.sub_self, List.set_cons_zero, List.append_assoc]
        rfl
      · rw [upd_ne n]
        exact kp3 b' o z n
    rintro σ H3 ⟨⟨o9', rfl, hc3⟩, kp3⟩
    rw [show mn.toNat = qs.length by omega, List.take_length, show cn.drop qs.length = [] from List.drop_eq_nil_of_le (by omega), List.append_nil] at hc3
    have h9k := S9 _ _ ek
    have nkc : kl ≠ ct := ne_of_none ek nct7
    obtain ⟨dx7, fs7, e7, f7, g7⟩ := cv
    have nxc : x ≠ ct := ne_of_none e7 nct7
    have e9x := kp3 _ _ (S9 _ _ e7) nxc
    refine ⟨_, rfl, x, dx7, fs7, rfl, e9x, g7, _, rfl, x, kl, ct, cs, rs.map clOf, qs.map (fun r => r.2.2.2), rfl, ⟨dx7, fs7, e9x, f7, g7⟩, kp3 _ _ h9k nkc, c47.mono (fun b' C dx fs z => kp3 _ _ (S9 _ _ z) (ne_of (S9 _ _ z) ect9 (by intro e'; cases e'))), hc3, by rw [List.length_map, List.length_map]; omega, fun v H5 s5' rv => ?_⟩
    rw [← eqc, rooms_of] at rv
    have he5 := s5' _ _ (kp3 _ _ he nec)
    have pe5 := (pe.mono (tk kp3)).mono (tst_same s5')
    refine ⟨_, rfl, v, e, es, qs, rfl, he5, pe5, by omega, rv, fun H6' s6' => ⟨_, rfl, iteF ?_⟩⟩
    have s56 := s5'.trans s6'
    have hc6 := s56 _ _ hc3
    have he6 := s56 _ _ (kp3 _ _ he nec)
    have pe6 := pe5.mono (tst_same s6')
    refine ⟨_, rfl, _, rfl, e, rfl, ⟨_, SqL.of he6⟩, fun p np => ?_⟩
    refine comp_list (K := K) (a := e) (xs := es) (fun j zs H8 => zs = ((qs.take j).map fun r => r.2.2.2).map V.int ∧ H8 p = some (.lst zs) ∧ Same H6' H8) ⟨rfl, upd_same, same_new np _⟩
      (fun j zs H8 _ ⟨e', h2, s8⟩ => ⟨h2, by rw [e', List.length_map, List.length_map, List.length_take]; omega, SqL.of (s8 _ _ he6)⟩) (by rw [sizeLine_eq]; omega) (fun j y zs H8 hj ⟨e', h2, s8⟩ => ?_) (fun zs H8 ⟨e', h2, s8⟩ => ?_)
    · obtain ⟨t, r, hp, rfl, ht⟩ := pe6.get hj
      have ht8 : H8 t = some (.tup [.str r.1, .str r.2.1, .int r.2.2.1, .int r.2.2.2]) := s8 _ _ ht
      refine ⟨_, rfl, t, _, _, _, rfl, rfl, SqT.of ht8, rfl, h2, rfl, ?_, upd_same, fun b' o z => ?_⟩
      · rw [take_snoc hp, List.map_append, List.map_append, e']
        rfl
      · rw [upd_ne (ne_of_none z np)]
        exact s8 b' o z
    subst e'
    rw [le, List.take_length] at h2
    refine ⟨ct, p, _, _, rfl, rfl, SqL.of (s8 _ _ hc6), SqL.of h2, flat_ints _, flat_ints _, _, rfl, bF (by rw [eqL_same]; rfl) ?_⟩
    exact ⟨⟨_, _, _, rfl, s8 _ _ hc6, by rw [List.length_map]; exact lqs⟩, fun b' o z n => s8 _ _ (s56 _ _ (kp3 b' o z n))⟩
  · rintro σ H2 ⟨⟨o8, o9, cn, rfl, hcn, lcn⟩, kp⟩
    exact q _
end


theorem all_mk {l : PySem.W.OpenLaw} {w : World} {K : PySem.W.Frag} {h : Heap} {mg : Str → Option Value} {fa : Addr} (X : K.In h) (G : h.Ns mainGlobals mg) (hfa : mg "law" = some (.ref fa))
    {f0 : Addr} {od0 an0 : Option Addr} {sl0 : Array (Option Value)} {oc0 kV0 dc0 pm0 cd0 ct0 : Value}
    (a0 : PySem.W.nsIn K mainGlobals "is_whole" = some (some (.ref f0))) (l0 : K.lookup f0 = some ⟨oc0, od0, .func (PySem.W.fnOf "is_whole" "is_whole" (defArgs s_is_whole) (defBody s_is_whole) (defScope s_is_whole) .none kV0 dc0 pm0 an0 cd0 ct0), sl0⟩) (c0 : PySem.W.codeIn K cd0 "is_whole" = true) (k0 : PySem.W.keepIn K (.ref f0) = true)
    {f1 : Addr} {od1 an1 : Option Addr} {sl1 : Array (Option Value)} {oc1 kV1 dc1 pm1 cd1 ct1 : Value}
    (a1 : PySem.W.nsIn K mainGlobals "has_letters_alone" = some (some (.ref f1))) (l1 : K.lookup f1 = some ⟨oc1, od1, .func (PySem.W.fnOf "has_letters_alone" "has_letters_alone" (defArgs s_has_letters_alone) (defBody s_has_letters_alone) (defScope s_has_letters_alone) .none kV1 dc1 pm1 an1 cd1 ct1), sl1⟩) (c1 : PySem.W.codeIn K cd1 "has_letters_alone" = true) (k1 : PySem.W.keepIn K (.ref f1) = true)
    {f2 : Addr} {od2 an2 : Option Addr} {sl2 : Array (Option Value)} {oc2 kV2 dc2 pm2 cd2 ct2 : Value}
    (a2 : PySem.W.nsIn K mainGlobals "is_name" = some (some (.ref f2))) (l2 : K.lookup f2 = some ⟨oc2, od2, .func (PySem.W.fnOf "is_name" "is_name" (defArgs s_is_name) (defBody s_is_name) (defScope s_is_name) .none kV2 dc2 pm2 an2 cd2 ct2), sl2⟩) (c2 : PySem.W.codeIn K cd2 "is_name" = true) (k2 : PySem.W.keepIn K (.ref f2) = true)
    {f3 : Addr} {od3 an3 : Option Addr} {sl3 : Array (Option Value)} {oc3 kV3 dc3 pm3 cd3 ct3 : Value}
    (a3 : PySem.W.nsIn K mainGlobals "is_amount" = some (some (.ref f3))) (l3 : K.lookup f3 = some ⟨oc3, od3, .func (PySem.W.fnOf "is_amount" "is_amount" (defArgs s_is_amount) (defBody s_is_amount) (defScope s_is_amount) .none kV3 dc3 pm3 an3 cd3 ct3), sl3⟩) (c3 : PySem.W.codeIn K cd3 "is_amount" = true) (k3 : PySem.W.keepIn K (.ref f3) = true)
    {f4 : Addr} {od4 an4 : Option Addr} {sl4 : Array (Option Value)} {oc4 kV4 dc4 pm4 cd4 ct4 : Value}
    (a4 : PySem.W.nsIn K mainGlobals "are_weights" = some (some (.ref f4))) (l4 : K.lookup f4 = some ⟨oc4, od4, .func (PySem.W.fnOf "are_weights" "are_weights" (defArgs s_are_weights) (defBody s_are_weights) (defScope s_are_weights) .none kV4 dc4 pm4 an4 cd4 ct4), sl4⟩) (c4 : PySem.W.codeIn K cd4 "are_weights" = true) (k4 : PySem.W.keepIn K (.ref f4) = true)
    {f5 : Addr} {od5 an5 : Option Addr} {sl5 : Array (Option Value)} {oc5 kV5 dc5 pm5 cd5 ct5 : Value}
    (a5 : PySem.W.nsIn K mainGlobals "may_have" = some (some (.ref f5))) (l5 : K.lookup f5 = some ⟨oc5, od5, .func (PySem.W.fnOf "may_have" "may_have" (defArgs s_may_have) (defBody s_may_have) (defScope s_may_have) .none kV5 dc5 pm5 an5 cd5 ct5), sl5⟩) (c5 : PySem.W.codeIn K cd5 "may_have" = true) (k5 : PySem.W.keepIn K (.ref f5) = true)
    {f6 : Addr} {od6 an6 : Option Addr} {sl6 : Array (Option Value)} {oc6 kV6 dc6 pm6 cd6 ct6 : Value}
    (a6 : PySem.W.nsIn K mainGlobals "due_by" = some (some (.ref f6))) (l6 : K.lookup f6 = some ⟨oc6, od6, .func (PySem.W.fnOf "due_by" "due_by" (defArgs s_due_by) (defBody s_due_by) (defScope s_due_by) .none kV6 dc6 pm6 an6 cd6 ct6), sl6⟩) (c6 : PySem.W.codeIn K cd6 "due_by" = true) (k6 : PySem.W.keepIn K (.ref f6) = true)
    {f7 : Addr} {od7 an7 : Option Addr} {sl7 : Array (Option Value)} {oc7 kV7 dc7 pm7 cd7 ct7 : Value}
    (a7 : PySem.W.nsIn K mainGlobals "place_of_turn" = some (some (.ref f7))) (l7 : K.lookup f7 = some ⟨oc7, od7, .func (PySem.W.fnOf "place_of_turn" "place_of_turn" (defArgs s_place_of_turn) (defBody s_place_of_turn) (defScope s_place_of_turn) .none kV7 dc7 pm7 an7 cd7 ct7), sl7⟩) (c7 : PySem.W.codeIn K cd7 "place_of_turn" = true) (k7 : PySem.W.keepIn K (.ref f7) = true)
    {f8 : Addr} {od8 an8 : Option Addr} {sl8 : Array (Option Value)} {oc8 kV8 dc8 pm8 cd8 ct8 : Value}
    (a8 : PySem.W.nsIn K mainGlobals "turns" = some (some (.ref f8))) (l8 : K.lookup f8 = some ⟨oc8, od8, .func (PySem.W.fnOf "turns" "turns" (defArgs s_turns) (defBody s_turns) (defScope s_turns) .none kV8 dc8 pm8 an8 cd8 ct8), sl8⟩) (c8 : PySem.W.codeIn K cd8 "turns" = true) (k8 : PySem.W.keepIn K (.ref f8) = true)
    {f9 : Addr} {od9 an9 : Option Addr} {sl9 : Array (Option Value)} {oc9 kV9 dc9 pm9 cd9 ct9 : Value}
    (a9 : PySem.W.nsIn K mainGlobals "check_houses" = some (some (.ref f9))) (l9 : K.lookup f9 = some ⟨oc9, od9, .func (PySem.W.fnOf "check_houses" "check_houses" (defArgs s_check_houses) (defBody s_check_houses) (defScope s_check_houses) .none kV9 dc9 pm9 an9 cd9 ct9), sl9⟩) (c9 : PySem.W.codeIn K cd9 "check_houses" = true) (k9 : PySem.W.keepIn K (.ref f9) = true)
    {f10 : Addr} {od10 an10 : Option Addr} {sl10 : Array (Option Value)} {oc10 kV10 dc10 pm10 cd10 ct10 : Value}
    (a10 : PySem.W.nsIn K mainGlobals "checked_amount" = some (some (.ref f10))) (l10 : K.lookup f10 = some ⟨oc10, od10, .func (PySem.W.fnOf "checked_amount" "checked_amount" (defArgs s_checked_amount) (defBody s_checked_amount) (defScope s_checked_amount) .none kV10 dc10 pm10 an10 cd10 ct10), sl10⟩) (c10 : PySem.W.codeIn K cd10 "checked_amount" = true) (k10 : PySem.W.keepIn K (.ref f10) = true)
    {f11 : Addr} {od11 an11 : Option Addr} {sl11 : Array (Option Value)} {oc11 kV11 dc11 pm11 cd11 ct11 : Value}
    (a11 : PySem.W.nsIn K mainGlobals "_law_cell" = some (some (.ref f11))) (l11 : K.lookup f11 = some ⟨oc11, od11, .func (PySem.W.fnOf "_law_cell" "_law_cell" (defArgs s__law_cell) (defBody s__law_cell) (defScope s__law_cell) .none kV11 dc11 pm11 an11 cd11 ct11), sl11⟩) (c11 : PySem.W.codeIn K cd11 "_law_cell" = true) (k11 : PySem.W.keepIn K (.ref f11) = true)
    {f12 : Addr} {od12 an12 : Option Addr} {sl12 : Array (Option Value)} {oc12 kV12 dc12 pm12 cd12 ct12 : Value}
    (a12 : PySem.W.nsIn K mainGlobals "_law_whole" = some (some (.ref f12))) (l12 : K.lookup f12 = some ⟨oc12, od12, .func (PySem.W.fnOf "_law_whole" "_law_whole" (defArgs s__law_whole) (defBody s__law_whole) (defScope s__law_whole) .none kV12 dc12 pm12 an12 cd12 ct12), sl12⟩) (c12 : PySem.W.codeIn K cd12 "_law_whole" = true) (k12 : PySem.W.keepIn K (.ref f12) = true)
    {f13 : Addr} {od13 an13 : Option Addr} {sl13 : Array (Option Value)} {oc13 kV13 dc13 pm13 cd13 ct13 : Value}
    (a13 : PySem.W.nsIn K mainGlobals "_law_row" = some (some (.ref f13))) (l13 : K.lookup f13 = some ⟨oc13, od13, .func (PySem.W.fnOf "_law_row" "_law_row" (defArgs s__law_row) (defBody s__law_row) (defScope s__law_row) .none kV13 dc13 pm13 an13 cd13 ct13), sl13⟩) (c13 : PySem.W.codeIn K cd13 "_law_row" = true) (k13 : PySem.W.keepIn K (.ref f13) = true)
    {f14 : Addr} {od14 an14 : Option Addr} {sl14 : Array (Option Value)} {oc14 kV14 dc14 pm14 cd14 ct14 : Value}
    (a14 : PySem.W.nsIn K mainGlobals "_law_clause" = some (some (.ref f14))) (l14 : K.lookup f14 = some ⟨oc14, od14, .func (PySem.W.fnOf "_law_clause" "_law_clause" (defArgs s__law_clause) (defBody s__law_clause) (defScope s__law_clause) .none kV14 dc14 pm14 an14 cd14 ct14), sl14⟩) (c14 : PySem.W.codeIn K cd14 "_law_clause" = true) (k14 : PySem.W.keepIn K (.ref f14) = true)
    {f15 : Addr} {od15 an15 : Option Addr} {sl15 : Array (Option Value)} {oc15 kV15 dc15 pm15 cd15 ct15 : Value}
    (a15 : PySem.W.nsIn K mainGlobals "_law_right" = some (some (.ref f15))) (l15 : K.lookup f15 = some ⟨oc15, od15, .func (PySem.W.fnOf "_law_right" "_law_right" (defArgs s__law_right) (defBody s__law_right) (defScope s__law_right) .none kV15 dc15 pm15 an15 cd15 ct15), sl15⟩) (c15 : PySem.W.codeIn K cd15 "_law_right" = true) (k15 : PySem.W.keepIn K (.ref f15) = true)
    {f16 : Addr} {od16 an16 : Option Addr} {sl16 : Array (Option Value)} {oc16 kV16 dc16 pm16 cd16 ct16 : Value}
    (a16 : PySem.W.nsIn K mainGlobals "law" = some (some (.ref f16))) (l16 : K.lookup f16 = some ⟨oc16, od16, .func (PySem.W.fnOf "law" "law" (defArgs s_law) (defBody s_law) (defScope s_law) .none kV16 dc16 pm16 an16 cd16 ct16), sl16⟩) (c16 : PySem.W.codeIn K cd16 "law" = true) (k16 : PySem.W.keepIn K (.ref f16) = true)
    {C_Clause : Addr} (q_Clause : PySem.W.nsIn K mainGlobals "Clause" = some (some (.ref C_Clause)))
    (pg_Clause : PySem.W.plainGet K C_Clause Str.empty = true) (hd_Clause : PySem.W.hasDictIn K C_Clause = true) (po_Clause : PySem.W.plainOver K C_Clause = true) (sa_Clause : PySem.W.findIn K (.ref C_Clause) "__setattr__" = some (some (.builtin "object.__setattr__"))) (mk_Clause : PySem.W.makesIn K C_Clause = true) (kc_Clause : PySem.W.keepIn K (.ref C_Clause) = true)
    (na_Clause_by : PySem.W.findIn K (.ref C_Clause) "by" = some none)
    {C_Own : Addr} (q_Own : PySem.W.nsIn K mainGlobals "Own" = some (some (.ref C_Own)))
    (pg_Own : PySem.W.plainGet K C_Own Str.empty = true) (hd_Own : PySem.W.hasDictIn K C_Own = true) (po_Own : PySem.W.plainOver K C_Own = true) (sa_Own : PySem.W.findIn K (.ref C_Own) "__setattr__" = some (some (.builtin "object.__setattr__"))) (mk_Own : PySem.W.makesIn K C_Own = true) (kc_Own : PySem.W.keepIn K (.ref C_Own) = true)
    (na_Own_cents : PySem.W.findIn K (.ref C_Own) "cents" = some none)
    (na_Own_by : PySem.W.findIn K (.ref C_Own) "by" = some none)
    {C_Layer : Addr} (q_Layer : PySem.W.nsIn K mainGlobals "Layer" = some (some (.ref C_Layer)))
    (pg_Layer : PySem.W.plainGet K C_Layer Str.empty = true) (hd_Layer : PySem.W.hasDictIn K C_Layer = true) (po_Layer : PySem.W.plainOver K C_Layer = true) (sa_Layer : PySem.W.findIn K (.ref C_Layer) "__setattr__" = some (some (.builtin "object.__setattr__"))) (mk_Layer : PySem.W.makesIn K C_Layer = true) (kc_Layer : PySem.W.keepIn K (.ref C_Layer) = true)
    (na_Layer_first : PySem.W.findIn K (.ref C_Layer) "first" = some none)
    (na_Layer_upto : PySem.W.findIn K (.ref C_Layer) "upto" = some none)
    (na_Layer_by : PySem.W.findIn K (.ref C_Layer) "by" = some none)
    {C_Limit : Addr} (q_Limit : PySem.W.nsIn K mainGlobals "Limit" = some (some (.ref C_Limit)))
    (pg_Limit : PySem.W.plainGet K C_Limit Str.empty = true) (hd_Limit : PySem.W.hasDictIn K C_Limit = true) (po_Limit : PySem.W.plainOver K C_Limit = true) (sa_Limit : PySem.W.findIn K (.ref C_Limit) "__setattr__" = some (some (.builtin "object.__setattr__"))) (mk_Limit : PySem.W.makesIn K C_Limit = true) (kc_Limit : PySem.W.keepIn K (.ref C_Limit) = true)
    (na_Limit_most : PySem.W.findIn K (.ref C_Limit) "most" = some none)
    (na_Limit_by : PySem.W.findIn K (.ref C_Limit) "by" = some none)
    {C_Deal : Addr} (q_Deal : PySem.W.nsIn K mainGlobals "Deal" = some (some (.ref C_Deal)))
    (pg_Deal : PySem.W.plainGet K C_Deal Str.empty = true) (hd_Deal : PySem.W.hasDictIn K C_Deal = true) (po_Deal : PySem.W.plainOver K C_Deal = true) (sa_Deal : PySem.W.findIn K (.ref C_Deal) "__setattr__" = some (some (.builtin "object.__setattr__"))) (mk_Deal : PySem.W.makesIn K C_Deal = true) (kc_Deal : PySem.W.keepIn K (.ref C_Deal) = true)
    (na_Deal_wheel : PySem.W.findIn K (.ref C_Deal) "wheel" = some none)
    (na_Deal_weights : PySem.W.findIn K (.ref C_Deal) "weights" = some none)
    {C_Cover : Addr} (q_Cover : PySem.W.nsIn K mainGlobals "Cover" = some (some (.ref C_Cover)))
    (pg_Cover : PySem.W.plainGet K C_Cover Str.empty = true) (hd_Cover : PySem.W.hasDictIn K C_Cover = true) (po_Cover : PySem.W.plainOver K C_Cover = true) (sa_Cover : PySem.W.findIn K (.ref C_Cover) "__setattr__" = some (some (.builtin "object.__setattr__"))) (mk_Cover : PySem.W.makesIn K C_Cover = true) (kc_Cover : PySem.W.keepIn K (.ref C_Cover) = true)
    (na_Cover_name : PySem.W.findIn K (.ref C_Cover) "name" = some none)
    (na_Cover_condition : PySem.W.findIn K (.ref C_Cover) "condition" = some none)
    (na_Cover_clauses : PySem.W.findIn K (.ref C_Cover) "clauses" = some none)
    (na_Cover_houses : PySem.W.findIn K (.ref C_Cover) "houses" = some none)
    (na_Cover_deal : PySem.W.findIn K (.ref C_Cover) "deal" = some none)
    (na_Cover_waits : PySem.W.findIn K (.ref C_Cover) "waits" = some none)
    {C_Condition : Addr} (q_Condition : PySem.W.nsIn K mainGlobals "Condition" = some (some (.ref C_Condition)))
    (pg_Condition : PySem.W.plainGet K C_Condition Str.empty = true) (hd_Condition : PySem.W.hasDictIn K C_Condition = true) (po_Condition : PySem.W.plainOver K C_Condition = true) (sa_Condition : PySem.W.findIn K (.ref C_Condition) "__setattr__" = some (some (.builtin "object.__setattr__"))) (mk_Condition : PySem.W.makesIn K C_Condition = true) (kc_Condition : PySem.W.keepIn K (.ref C_Condition) = true)
    (nd_C : ([C_Clause, C_Own, C_Layer, C_Limit, C_Deal, C_Cover, C_Condition] : List Addr).Nodup)
    {fClause___init__ : Addr} {odClause___init__ anClause___init__ : Option Addr} {slClause___init__ : Array (Option Value)} {ocClause___init__ kVClause___init__ dcClause___init__ pmClause___init__ cdClause___init__ ctClause___init__ : Value}
    (a_Clause___init__ : PySem.W.findIn K (.ref C_Clause) "__init__" = some (some (.ref fClause___init__)))
    (iClause___init__ : PySem.W.isFn K (.ref fClause___init__) = true) (lClause___init__ : K.lookup fClause___init__ = some ⟨ocClause___init__, odClause___init__, .func (PySem.W.fnOf "__init__" "Clause.__init__" (defArgs s_Clause___init__) (defBody s_Clause___init__) (defScope s_Clause___init__) .none kVClause___init__ dcClause___init__ pmClause___init__ anClause___init__ cdClause___init__ ctClause___init__), slClause___init__⟩) (cClause___init__ : PySem.W.codeIn K cdClause___init__ "Clause.__init__" = true) (kClause___init__ : PySem.W.keepIn K (.ref fClause___init__) = true)
    {fClause_room : Addr} {odClause_room anClause_room : Option Addr} {slClause_room : Array (Option Value)} {ocClause_room kVClause_room dcClause_room pmClause_room cdClause_room ctClause_room : Value}
    (a_Clause_room : PySem.W.findIn K (.ref C_Clause) "room" = some (some (.ref fClause_room)))
    (iClause_room : PySem.W.isFn K (.ref fClause_room) = true) (lClause_room : K.lookup fClause_room = some ⟨ocClause_room, odClause_room, .func (PySem.W.fnOf "room" "Clause.room" (defArgs s_Clause_room) (defBody s_Clause_room) (defScope s_Clause_room) .none kVClause_room dcClause_room pmClause_room anClause_room cdClause_room ctClause_room), slClause_room⟩) (cClause_room : PySem.W.codeIn K cdClause_room "Clause.room" = true) (kClause_room : PySem.W.keepIn K (.ref fClause_room) = true)
    {fOwn___init__ : Addr} {odOwn___init__ anOwn___init__ : Option Addr} {slOwn___init__ : Array (Option Value)} {ocOwn___init__ kVOwn___init__ dcOwn___init__ pmOwn___init__ cdOwn___init__ ctOwn___init__ : Value}
    (a_Own___init__ : PySem.W.findIn K (.ref C_Own) "__init__" = some (some (.ref fOwn___init__)))
    (iOwn___init__ : PySem.W.isFn K (.ref fOwn___init__) = true) (lOwn___init__ : K.lookup fOwn___init__ = some ⟨ocOwn___init__, odOwn___init__, .func (PySem.W.fnOf "__init__" "Own.__init__" (defArgs s_Own___init__) (defBody s_Own___init__) (defScope s_Own___init__) .none kVOwn___init__ dcOwn___init__ pmOwn___init__ anOwn___init__ cdOwn___init__ ctOwn___init__), slOwn___init__⟩) (cOwn___init__ : PySem.W.codeIn K cdOwn___init__ "Own.__init__" = true) (kOwn___init__ : PySem.W.keepIn K (.ref fOwn___init__) = true)
    {fLayer___init__ : Addr} {odLayer___init__ anLayer___init__ : Option Addr} {slLayer___init__ : Array (Option Value)} {ocLayer___init__ kVLayer___init__ dcLayer___init__ pmLayer___init__ cdLayer___init__ ctLayer___init__ : Value}
    (a_Layer___init__ : PySem.W.findIn K (.ref C_Layer) "__init__" = some (some (.ref fLayer___init__)))
    (iLayer___init__ : PySem.W.isFn K (.ref fLayer___init__) = true) (lLayer___init__ : K.lookup fLayer___init__ = some ⟨ocLayer___init__, odLayer___init__, .func (PySem.W.fnOf "__init__" "Layer.__init__" (defArgs s_Layer___init__) (defBody s_Layer___init__) (defScope s_Layer___init__) .none kVLayer___init__ dcLayer___init__ pmLayer___init__ anLayer___init__ cdLayer___init__ ctLayer___init__), slLayer___init__⟩) (cLayer___init__ : PySem.W.codeIn K cdLayer___init__ "Layer.__init__" = true) (kLayer___init__ : PySem.W.keepIn K (.ref fLayer___init__) = true)
    {fLimit___init__ : Addr} {odLimit___init__ anLimit___init__ : Option Addr} {slLimit___init__ : Array (Option Value)} {ocLimit___init__ kVLimit___init__ dcLimit___init__ pmLimit___init__ cdLimit___init__ ctLimit___init__ : Value}
    (a_Limit___init__ : PySem.W.findIn K (.ref C_Limit) "__init__" = some (some (.ref fLimit___init__)))
    (iLimit___init__ : PySem.W.isFn K (.ref fLimit___init__) = true) (lLimit___init__ : K.lookup fLimit___init__ = some ⟨ocLimit___init__, odLimit___init__, .func (PySem.W.fnOf "__init__" "Limit.__init__" (defArgs s_Limit___init__) (defBody s_Limit___init__) (defScope s_Limit___init__) .none kVLimit___init__ dcLimit___init__ pmLimit___init__ anLimit___init__ cdLimit___init__ ctLimit___init__), slLimit___init__⟩) (cLimit___init__ : PySem.W.codeIn K cdLimit___init__ "Limit.__init__" = true) (kLimit___init__ : PySem.W.keepIn K (.ref fLimit___init__) = true)
    {fLimit_room : Addr} {odLimit_room anLimit_room : Option Addr} {slLimit_room : Array (Option Value)} {ocLimit_room kVLimit_room dcLimit_room pmLimit_room cdLimit_room ctLimit_room : Value}
    (a_Limit_room : PySem.W.findIn K (.ref C_Limit) "room" = some (some (.ref fLimit_room)))
    (iLimit_room : PySem.W.isFn K (.ref fLimit_room) = true) (lLimit_room : K.lookup fLimit_room = some ⟨ocLimit_room, odLimit_room, .func (PySem.W.fnOf "room" "Limit.room" (defArgs s_Limit_room) (defBody s_Limit_room) (defScope s_Limit_room) .none kVLimit_room dcLimit_room pmLimit_room anLimit_room cdLimit_room ctLimit_room), slLimit_room⟩) (cLimit_room : PySem.W.codeIn K cdLimit_room "Limit.room" = true) (kLimit_room : PySem.W.keepIn K (.ref fLimit_room) = true)
    {fDeal___init__ : Addr} {odDeal___init__ anDeal___init__ : Option Addr} {slDeal___init__ : Array (Option Value)} {ocDeal___init__ kVDeal___init__ dcDeal___init__ pmDeal___init__ cdDeal___init__ ctDeal___init__ : Value}
    (a_Deal___init__ : PySem.W.findIn K (.ref C_Deal) "__init__" = some (some (.ref fDeal___init__)))
    (iDeal___init__ : PySem.W.isFn K (.ref fDeal___init__) = true) (lDeal___init__ : K.lookup fDeal___init__ = some ⟨ocDeal___init__, odDeal___init__, .func (PySem.W.fnOf "__init__" "Deal.__init__" (defArgs s_Deal___init__) (defBody s_Deal___init__) (defScope s_Deal___init__) .none kVDeal___init__ dcDeal___init__ pmDeal___init__ anDeal___init__ cdDeal___init__ ctDeal___init__), slDeal___init__⟩) (cDeal___init__ : PySem.W.codeIn K cdDeal___init__ "Deal.__init__" = true) (kDeal___init__ : PySem.W.keepIn K (.ref fDeal___init__) = true)
    {fCover___init__ dvCover___init__ : Addr} {odCover___init__ anCover___init__ : Option Addr} {slCover___init__ : Array (Option Value)} {ocCover___init__ kVCover___init__ dcCover___init__ pmCover___init__ cdCover___init__ ctCover___init__ : Value}
    (a_Cover___init__ : PySem.W.findIn K (.ref C_Cover) "__init__" = some (some (.ref fCover___init__)))
    (iCover___init__ : PySem.W.isFn K (.ref fCover___init__) = true) (lCover___init__ : K.lookup fCover___init__ = some ⟨ocCover___init__, odCover___init__, .func (PySem.W.fnOf "__init__" "Cover.__init__" (defArgs s_Cover___init__) (defBody s_Cover___init__) (defScope s_Cover___init__) (.ref dvCover___init__) kVCover___init__ dcCover___init__ pmCover___init__ anCover___init__ cdCover___init__ ctCover___init__), slCover___init__⟩) (cCover___init__ : PySem.W.codeIn K cdCover___init__ "Cover.__init__" = true) (kCover___init__ : PySem.W.keepIn K (.ref fCover___init__) = true)
    {ndCover___init__ : Nat} (dlCover___init__ : K.lookup dvCover___init__ = some ⟨.type "tuple", none, .seq #[.none, .none, .bool false] ndCover___init__, #[]⟩)
    {fCover_rest : Addr} {odCover_rest anCover_rest : Option Addr} {slCover_rest : Array (Option Value)} {ocCover_rest kVCover_rest dcCover_rest pmCover_rest cdCover_rest ctCover_rest : Value}
    (a_Cover_rest : PySem.W.findIn K (.ref C_Cover) "rest" = some (some (.ref fCover_rest)))
    (iCover_rest : PySem.W.isFn K (.ref fCover_rest) = true) (lCover_rest : K.lookup fCover_rest = some ⟨ocCover_rest, odCover_rest, .func (PySem.W.fnOf "rest" "Cover.rest" (defArgs s_Cover_rest) (defBody s_Cover_rest) (defScope s_Cover_rest) .none kVCover_rest dcCover_rest pmCover_rest anCover_rest cdCover_rest ctCover_rest), slCover_rest⟩) (cCover_rest : PySem.W.codeIn K cdCover_rest "Cover.rest" = true) (kCover_rest : PySem.W.keepIn K (.ref fCover_rest) = true)
    (a_Own_room : PySem.W.findIn K (.ref C_Own) "room" = some (some (.ref fClause_room)))
    (a_Layer_room : PySem.W.findIn K (.ref C_Layer) "room" = some (some (.ref fClause_room)))
    (bg_Clause___init__ : PySem.W.specialIn K (.ref C_Clause) "__getattribute__" = some (some (.builtin "type.__getattribute__"))) (br_Clause___init__ : PySem.W.readsIn K C_Clause (.type "type") = true) (bf_Clause___init__ : PySem.W.findCls K (.ref C_Clause) (.type "type") "__init__" = some (.val (.ref fClause___init__)))
    (ni_Condition : PySem.W.findIn K (.ref C_Condition) "__init__" = some (some (.builtin "object.__init__")))
    {w_WAYS : Addr} {nw_WAYS : Nat} {tk_WAYS0 tk_WAYS1 tk_WAYS2 tk_WAYS3 : Tok} (z_WAYS : PySem.W.nsIn K mainGlobals "WAYS" = some (some (.ref w_WAYS))) (lw_WAYS : K.lookup w_WAYS = some ⟨.type "tuple", none, .seq #[.str "event" tk_WAYS0, .str "thing" tk_WAYS1, .str "year" tk_WAYS2, .str "loss" tk_WAYS3] nw_WAYS, #[]⟩)
    {tk_COVERED_ONE : Tok} (z_COVERED_ONE : PySem.W.nsIn K mainGlobals "COVERED_ONE" = some (some (.str "self" tk_COVERED_ONE)))
    {tk_LETTERS : Tok} (z_LETTERS : PySem.W.nsIn K mainGlobals "LETTERS" = some (some (.str "abcdefghijklmnopqrstuvwxyz" tk_LETTERS)))
    {tk_LONGEST_NAME : Tok} (z_LONGEST_NAME : PySem.W.nsIn K mainGlobals "LONGEST_NAME" = some (some (.int 8 tk_LONGEST_NAME)))
    {tk_MOST_CENTS : Tok} (z_MOST_CENTS : PySem.W.nsIn K mainGlobals "MOST_CENTS" = some (some (.int 999999999999 tk_MOST_CENTS)))
    {tk_MOST_CLAUSES : Tok} (z_MOST_CLAUSES : PySem.W.nsIn K mainGlobals "MOST_CLAUSES" = some (some (.int 8 tk_MOST_CLAUSES)))
    {tk_MOST_PLACES : Tok} (z_MOST_PLACES : PySem.W.nsIn K mainGlobals "MOST_PLACES" = some (some (.int 8 tk_MOST_PLACES)))
    {tk_MOST_TURNS : Tok} (z_MOST_TURNS : PySem.W.nsIn K mainGlobals "MOST_TURNS" = some (some (.int 100 tk_MOST_TURNS)))
    (z_bool : PySem.W.nsIn K mainGlobals "bool" = some none)
    (z_enumerate : PySem.W.nsIn K mainGlobals "enumerate" = some none)
    (z_int : PySem.W.nsIn K mainGlobals "int" = some none)
    (z_isinstance : PySem.W.nsIn K mainGlobals "isinstance" = some none)
    (z_len : PySem.W.nsIn K mainGlobals "len" = some none)
    (z_list : PySem.W.nsIn K mainGlobals "list" = some none)
    (z_max : PySem.W.nsIn K mainGlobals "max" = some none)
    (z_range : PySem.W.nsIn K mainGlobals "range" = some none)
    (z_str : PySem.W.nsIn K mainGlobals "str" = some none)
    (z_sum : PySem.W.nsIn K mainGlobals "sum" = some none)
    (z_tuple : PySem.W.nsIn K mainGlobals "tuple" = some none) :
    ∃ fd : FuncData, (∀ (s : Shared) (v : Value), BindsTo s fd ⟨[v], []⟩ [("_law_script", v)]) ∧ ∀ base : Heap, K.In base → base.Ns mainGlobals mg → FnOk l.prog w K mg base CX0 8 fa fd ["_law_script"] (spLaw K) := by
  have e := hfa.symm.trans (PySem.W.mg_of X G a16)
  cases e
  have F0 := fun_mk (st := s_is_whole) l0 c0 k0
  have B0 := F0.binds (ps := ["thing"]) fun _ _ _ _ _ _ us hl => match us, hl with | [_], _ => rfl
  have D_is_whole : Def K mg "is_whole" s_is_whole ["thing"] := ⟨f0, _, F0, B0, PySem.W.mg_of X G a0⟩
  have F1 := fun_mk (st := s_has_letters_alone) l1 c1 k1
  have B1 := F1.binds (ps := ["text"]) fun _ _ _ _ _ _ us hl => match us, hl with | [_], _ => rfl
  have D_has_letters_alone : Def K mg "has_letters_alone" s_has_letters_alone ["text"] := ⟨f1, _, F1, B1, PySem.W.mg_of X G a1⟩
  have F2 := fun_mk (st := s_is_name) l2 c2 k2
  have B2 := F2.binds (ps := ["thing"]) fun _ _ _ _ _ _ us hl => match us, hl with | [_], _ => rfl
  have D_is_name : Def K mg "is_name" s_is_name ["thing"] := ⟨f2, _, F2, B2, PySem.W.mg_of X G a2⟩
  have F3 := fun_mk (st := s_is_amount) l3 c3 k3
  have B3 := F3.binds (ps := ["thing"]) fun _ _ _ _ _ _ us hl => match us, hl with | [_], _ => rfl
  have D_is_amount : Def K mg "is_amount" s_is_amount ["thing"] := ⟨f3, _, F3, B3, PySem.W.mg_of X G a3⟩
  have F4 := fun_mk (st := s_are_weights) l4 c4 k4
  have B4 := F4.binds (ps := ["thing"]) fun _ _ _ _ _ _ us hl => match us, hl with | [_], _ => rfl
  have D_are_weights : Def K mg "are_weights" s_are_weights ["thing"] := ⟨f4, _, F4, B4, PySem.W.mg_of X G a4⟩
  have F5 := fun_mk (st := s_may_have) l5 c5 k5
  have B5 := F5.binds (ps := ["weight", "dealt", "total", "turn"]) fun _ _ _ _ _ _ us hl => match us, hl with | [_, _, _, _], _ => rfl
  have D_may_have : Def K mg "may_have" s_may_have ["weight", "dealt", "total", "turn"] := ⟨f5, _, F5, B5, PySem.W.mg_of X G a5⟩
  have F6 := fun_mk (st := s_due_by) l6 c6 k6
  have B6 := F6.binds (ps := ["weight", "dealt", "total"]) fun _ _ _ _ _ _ us hl => match us, hl with | [_, _, _], _ => rfl
  have D_due_by : Def K mg "due_by" s_due_by ["weight", "dealt", "total"] := ⟨f6, _, F6, B6, PySem.W.mg_of X G a6⟩
  have F7 := fun_mk (st := s_place_of_turn) l7 c7 k7
  have B7 := F7.binds (ps := ["weights", "dealt", "turn"]) fun _ _ _ _ _ _ us hl => match us, hl with | [_, _, _], _ => rfl
  have D_place_of_turn : Def K mg "place_of_turn" s_place_of_turn ["weights", "dealt", "turn"] := ⟨f7, _, F7, B7, PySem.W.mg_of X G a7⟩
  have F8 := fun_mk (st := s_turns) l8 c8 k8
  have B8 := F8.binds (ps := ["weights"]) fun _ _ _ _ _ _ us hl => match us, hl with | [_], _ => rfl
  have D_turns : Def K mg "turns" s_turns ["weights"] := ⟨f8, _, F8, B8, PySem.W.mg_of X G a8⟩
  have F9 := fun_mk (st := s_check_houses) l9 c9 k9
  have B9 := F9.binds (ps := ["houses"]) fun _ _ _ _ _ _ us hl => match us, hl with | [_], _ => rfl
  have D_check_houses : Def K mg "check_houses" s_check_houses ["houses"] := ⟨f9, _, F9, B9, PySem.W.mg_of X G a9⟩
  have F10 := fun_mk (st := s_checked_amount) l10 c10 k10
  have B10 := F10.binds (ps := ["thing"]) fun _ _ _ _ _ _ us hl => match us, hl with | [_], _ => rfl
  have D_checked_amount : Def K mg "checked_amount" s_checked_amount ["thing"] := ⟨f10, _, F10, B10, PySem.W.mg_of X G a10⟩
  have F11 := fun_mk (st := s__law_cell) l11 c11 k11
  have B11 := F11.binds (ps := ["_law_script", "_law_k"]) fun _ _ _ _ _ _ us hl => match us, hl with | [_, _], _ => rfl
  have D__law_cell : Def K mg "_law_cell" s__law_cell ["_law_script", "_law_k"] := ⟨f11, _, F11, B11, PySem.W.mg_of X G a11⟩
  have F12 := fun_mk (st := s__law_whole) l12 c12 k12
  have B12 := F12.binds (ps := ["_law_found"]) fun _ _ _ _ _ _ us hl => match us, hl with | [_], _ => rfl
  have D__law_whole : Def K mg "_law_whole" s__law_whole ["_law_found"] := ⟨f12, _, F12, B12, PySem.W.mg_of X G a12⟩
  have F13 := fun_mk (st := s__law_row) l13 c13 k13
  have B13 := F13.binds (ps := ["_law_cell_here", "_law_other"]) fun _ _ _ _ _ _ us hl => match us, hl with | [_, _], _ => rfl
  have D__law_row : Def K mg "_law_row" s__law_row ["_law_cell_here", "_law_other"] := ⟨f13, _, F13, B13, PySem.W.mg_of X G a13⟩
  have F14 := fun_mk (st := s__law_clause) l14 c14 k14
  have B14 := F14.binds (ps := ["_law_row_here"]) fun _ _ _ _ _ _ us hl => match us, hl with | [_], _ => rfl
  have D__law_clause : Def K mg "_law_clause" s__law_clause ["_law_row_here"] := ⟨f14, _, F14, B14, PySem.W.mg_of X G a14⟩
  have F15 := fun_mk (st := s__law_right) l15 c15 k15
  have B15 := F15.binds (ps := ["_law_found", "_law_rows"]) fun _ _ _ _ _ _ us hl => match us, hl with | [_, _], _ => rfl
  have D__law_right : Def K mg "_law_right" s__law_right ["_law_found", "_law_rows"] := ⟨f15, _, F15, B15, PySem.W.mg_of X G a15⟩
  have F16 := fun_mk (st := s_law) l16 c16 k16
  have B16 := F16.binds (ps := ["_law_script"]) fun _ _ _ _ _ _ us hl => match us, hl with | [_], _ => rfl
  have F_Clause___init__ := fun_mk (x := "__init__") (qual := "Clause.__init__") (st := s_Clause___init__) lClause___init__ cClause___init__ kClause___init__
  have B_Clause___init__ := F_Clause___init__.binds (ps := ["self", "by"]) fun _ _ _ _ _ _ us hl => match us, hl with | [_, _], _ => rfl
  have F_Clause_room := fun_mk (x := "room") (qual := "Clause.room") (st := s_Clause_room) lClause_room cClause_room kClause_room
  have B_Clause_room := F_Clause_room.binds (ps := ["self", "paid"]) fun _ _ _ _ _ _ us hl => match us, hl with | [_, _], _ => rfl
  have F_Own___init__ := fun_mk (x := "__init__") (qual := "Own.__init__") (st := s_Own___init__) lOwn___init__ cOwn___init__ kOwn___init__
  have B_Own___init__ := F_Own___init__.binds (ps := ["self", "by", "cents"]) fun _ _ _ _ _ _ us hl => match us, hl with | [_, _, _], _ => rfl
  have F_Layer___init__ := fun_mk (x := "__init__") (qual := "Layer.__init__") (st := s_Layer___init__) lLayer___init__ cLayer___init__ kLayer___init__
  have B_Layer___init__ := F_Layer___init__.binds (ps := ["self", "by", "first", "upto"]) fun _ _ _ _ _ _ us hl => match us, hl with | [_, _, _, _], _ => rfl
  have F_Limit___init__ := fun_mk (x := "__init__") (qual := "Limit.__init__") (st := s_Limit___init__) lLimit___init__ cLimit___init__ kLimit___init__
  have B_Limit___init__ := F_Limit___init__.binds (ps := ["self", "by", "most"]) fun _ _ _ _ _ _ us hl => match us, hl with | [_, _, _], _ => rfl
  have F_Limit_room := fun_mk (x := "room") (qual := "Limit.room") (st := s_Limit_room) lLimit_room cLimit_room kLimit_room
  have B_Limit_room := F_Limit_room.binds (ps := ["self", "paid"]) fun _ _ _ _ _ _ us hl => match us, hl with | [_, _], _ => rfl
  have F_Deal___init__ := fun_mk (x := "__init__") (qual := "Deal.__init__") (st := s_Deal___init__) lDeal___init__ cDeal___init__ kDeal___init__
  have B_Deal___init__ := F_Deal___init__.binds (ps := ["self", "weights"]) fun _ _ _ _ _ _ us hl => match us, hl with | [_, _], _ => rfl
  have F_Cover___init__ := funD_mk (x := "__init__") (qual := "Cover.__init__") (st := s_Cover___init__) lCover___init__ cCover___init__ kCover___init__
  have B_Cover___init__ : Binds K _ ["self", "name", "condition", "clauses", "houses", "waits"] [] := fun s us X hl => by
    rw [List.append_nil] at hl ⊢
    match us, hl with | [_, _, _, _, _, _], _ => exact BindsTo.of_defaults (fd := PySem.W.fnOf "__init__" "Cover.__init__" (defArgs s_Cover___init__) (defBody s_Cover___init__) (defScope s_Cover___init__) (.ref dvCover___init__) kVCover___init__ dcCover___init__ pmCover___init__ anCover___init__ cdCover___init__ ctCover___init__) rfl (X _ _ dlCover___init__) rfl rfl rfl
  have F_Cover_rest := fun_mk (x := "rest") (qual := "Cover.rest") (st := s_Cover_rest) lCover_rest cCover_rest kCover_rest
  have B_Cover_rest := F_Cover_rest.binds (ps := ["self", "counts"]) fun _ _ _ _ _ _ us hl => match us, hl with | [_, _], _ => rfl
  have H_Clause_make : Mk K C_Clause fClause___init__ := ⟨mk_Clause, a_Clause___init__, iClause___init__, kc_Clause⟩
  have H_Clause_room : Meth K C_Clause "room" fClause_room := ⟨a_Clause_room, iClause_room, kClause_room⟩
  have H_Own_make : Mk K C_Own fOwn___init__ := ⟨mk_Own, a_Own___init__, iOwn___init__, kc_Own⟩
  have H_Own_room : Meth K C_Own "room" fClause_room := ⟨a_Own_room, iClause_room, kClause_room⟩
  have H_Layer_make : Mk K C_Layer fLayer___init__ := ⟨mk_Layer, a_Layer___init__, iLayer___init__, kc_Layer⟩
  have H_Layer_room : Meth K C_Layer "room" fClause_room := ⟨a_Layer_room, iClause_room, kClause_room⟩
  have H_Limit_make : Mk K C_Limit fLimit___init__ := ⟨mk_Limit, a_Limit___init__, iLimit___init__, kc_Limit⟩
  have H_Limit_room : Meth K C_Limit "room" fLimit_room := ⟨a_Limit_room, iLimit_room, kLimit_room⟩
  have H_Deal_make : Mk K C_Deal fDeal___init__ := ⟨mk_Deal, a_Deal___init__, iDeal___init__, kc_Deal⟩
  have H_Cover_make : Mk K C_Cover fCover___init__ := ⟨mk_Cover, a_Cover___init__, iCover___init__, kc_Cover⟩
  have H_Cover_rest : Meth K C_Cover "rest" fCover_rest := ⟨a_Cover_rest, iCover_rest, kCover_rest⟩
  have Z_Clause___init__ : BMeth K C_Clause "__init__" fClause___init__ := ⟨bg_Clause___init__, br_Clause___init__, bf_Clause___init__, kClause___init__⟩
  have NCondition : Mk0 K mg "Condition" C_Condition := ⟨mk_Condition, ni_Condition, kc_Condition, PySem.W.mg_of X G q_Condition⟩
  have L : Kl K mg C_Clause C_Own C_Layer C_Limit C_Deal C_Cover C_Condition := ⟨PySem.W.mg_of X G q_Clause, ⟨pg_Clause, hd_Clause, po_Clause, sa_Clause⟩, na_Clause_by, PySem.W.mg_of X G q_Own, ⟨pg_Own, hd_Own, po_Own, sa_Own⟩, na_Own_cents, na_Own_by, PySem.W.mg_of X G q_Layer, ⟨pg_Layer, hd_Layer, po_Layer, sa_Layer⟩, na_Layer_first, na_Layer_upto, na_Layer_by, PySem.W.mg_of X G q_Limit, ⟨pg_Limit, hd_Limit, po_Limit, sa_Limit⟩, na_Limit_most, na_Limit_by, PySem.W.mg_of X G q_Deal, ⟨pg_Deal, hd_Deal, po_Deal, sa_Deal⟩, na_Deal_wheel, na_Deal_weights, PySem.W.mg_of X G q_Cover, ⟨pg_Cover, hd_Cover, po_Cover, sa_Cover⟩, na_Cover_name, na_Cover_condition, na_Cover_clauses, na_Cover_houses, na_Cover_deal, na_Cover_waits, PySem.W.mg_of X G q_Condition, ⟨pg_Condition, hd_Condition, po_Condition, sa_Condition⟩, nd_C⟩
  have T : Txt K mg := ⟨⟨tk_COVERED_ONE, PySem.W.mg_of X G z_COVERED_ONE⟩, ⟨tk_LETTERS, PySem.W.mg_of X G z_LETTERS⟩, ⟨tk_LONGEST_NAME, PySem.W.mg_of X G z_LONGEST_NAME⟩, ⟨tk_MOST_CENTS, PySem.W.mg_of X G z_MOST_CENTS⟩, ⟨tk_MOST_CLAUSES, PySem.W.mg_of X G z_MOST_CLAUSES⟩, ⟨tk_MOST_PLACES, PySem.W.mg_of X G z_MOST_PLACES⟩, ⟨tk_MOST_TURNS, PySem.W.mg_of X G z_MOST_TURNS⟩, PySem.W.mg_none_of X G z_bool, PySem.W.mg_none_of X G z_enumerate, PySem.W.mg_none_of X G z_int, PySem.W.mg_none_of X G z_isinstance, PySem.W.mg_none_of X G z_len, PySem.W.mg_none_of X G z_list, PySem.W.mg_none_of X G z_max, PySem.W.mg_none_of X G z_range, PySem.W.mg_none_of X G z_str, PySem.W.mg_none_of X G z_sum, PySem.W.mg_none_of X G z_tuple, ⟨w_WAYS, PySem.W.mg_of X G z_WAYS, fun H => .inr ⟨_, _, _, lw_WAYS, rfl, rfl, by show 4 ≤ sizeLine; rw [sizeLine_eq]; decide, .cons ⟨_, rfl⟩ (.cons ⟨_, rfl⟩ (.cons ⟨_, rfl⟩ (.cons ⟨_, rfl⟩ (.nil))))⟩⟩⟩
  refine ⟨PySem.W.fnOf "law" "law" (defArgs s_law) (defBody s_law) (defScope s_law) .none kV16 dc16 pm16 an16 cd16 ct16, fun s v => .of_eq rfl, fun base _ _ => ?_⟩
  have Cis_whole : Cal l.prog w K mg base 1 "is_whole" ["thing"] (spWhole K) := D_is_whole.cal fun f fd F => ok_is_whole F T
  have Cis_amount : Cal l.prog w K mg base 2 "is_amount" ["thing"] (spInB K 999999999999) := D_is_amount.cal fun f fd F => ok_is_amount F T Cis_whole
  have Cchecked_amount : Cal l.prog w K mg base 3 "checked_amount" ["thing"] spChk := D_checked_amount.cal fun f fd F => ok_checked_amount F T Cis_amount
  have BClause___init__ : BCal l.prog w K mg base 2 "Clause" "__init__" ["self", "by"] (spCI C_Clause C_Own C_Layer C_Limit) := ⟨_, _, _, ok_Clause___init__ F_Clause___init__ T L, B_Clause___init__, Z_Clause___init__, L.mg_Clause⟩
  have KOwn : KCal l.prog w K mg base 4 "Own" C_Own ["self", "by", "cents"] (spOwn C_Clause C_Own C_Layer C_Limit) := ⟨_, _, H_Own_make, ok_Own___init__ F_Own___init__ T L BClause___init__ Cchecked_amount, B_Own___init__, L.mg_Own⟩
  have KLayer : KCal l.prog w K mg base 4 "Layer" C_Layer ["self", "by", "first", "upto"] (spLay C_Clause C_Own C_Layer C_Limit) := ⟨_, _, H_Layer_make, ok_Layer___init__ F_Layer___init__ T L BClause___init__ Cchecked_amount, B_Layer___init__, L.mg_Layer⟩
  have KLimit : KCal l.prog w K mg base 4 "Limit" C_Limit ["self", "by", "most"] (spLim C_Clause C_Own C_Layer C_Limit) := ⟨_, _, H_Limit_make, ok_Limit___init__ F_Limit___init__ T L BClause___init__ Cchecked_amount, B_Limit___init__, L.mg_Limit⟩
  have Mroom : MFam l.prog w K mg base 1 (Fam C_Clause C_Own C_Layer C_Limit) "room" ["self", "paid"] (spRoom C_Clause C_Own C_Layer C_Limit) := ⟨fun C hC => by
    rcases hC with rfl | rfl | rfl | rfl
    · exact ⟨⟨_, _, ok_Clause_room F_Clause_room T (fun c h n => by obtain ⟨y, rfl⟩ := cls_any L h; rfl), B_Clause_room, H_Clause_room⟩, L.cl_Clause⟩
    · exact ⟨⟨_, _, ok_Clause_room F_Clause_room T (fun c h n => by obtain ⟨y, d, rfl⟩ := cls_own L h; rfl), B_Clause_room, H_Own_room⟩, L.cl_Own⟩
    · exact ⟨⟨_, _, ok_Clause_room F_Clause_room T (fun c h n => by obtain ⟨y, a, b, rfl⟩ := cls_lay L h; rfl), B_Clause_room, H_Layer_room⟩, L.cl_Layer⟩
    · exact ⟨⟨_, _, ok_Limit_room F_Limit_room T L, B_Limit_room, H_Limit_room⟩, L.cl_Limit⟩⟩
  have Care_weights : Cal l.prog w K mg base 2 "are_weights" ["thing"] spWeights := D_are_weights.cal fun f fd F => ok_are_weights F T Cis_whole
  have Cmay_have : Cal l.prog w K mg base 1 "may_have" ["weight", "dealt", "total", "turn"] spMay := D_may_have.cal fun f fd F => ok_may_have F T
  have Cdue_by : Cal l.prog w K mg base 1 "due_by" ["weight", "dealt", "total"] spDue := D_due_by.cal fun f fd F => ok_due_by F T
  have Cplace_of_turn : Cal l.prog w K mg base 2 "place_of_turn" ["weights", "dealt", "turn"] spPlace := D_place_of_turn.cal fun f fd F => ok_place_of_turn F T Cmay_have Cdue_by
  have Cturns : Cal l.prog w K mg base 3 "turns" ["weights"] spTurns := D_turns.cal fun f fd F => ok_turns F T Care_weights Cplace_of_turn
  have DL : Dl K C_Deal := ⟨L.cl_Deal, L.na_Deal_wheel, L.na_Deal_weights⟩
  have KDeal : KCal l.prog w K mg base 4 "Deal" C_Deal ["self", "weights"] (spInit C_Deal) := ⟨_, _, H_Deal_make, ok_Deal___init__ F_Deal___init__ T DL Cturns, B_Deal___init__, L.mg_Deal⟩
  have Chas_letters_alone : Cal l.prog w K mg base 1 "has_letters_alone" ["text"] spLet := D_has_letters_alone.cal fun f fd F => ok_has_letters_alone F T
  have Cis_name : Cal l.prog w K mg base 2 "is_name" ["thing"] (spName K) := D_is_name.cal fun f fd F => ok_is_name F T Chas_letters_alone
  have Ccheck_houses : Cal l.prog w K mg base 3 "check_houses" ["houses"] spHouses := D_check_houses.cal fun f fd F => ok_check_houses F T Cis_name
  have KCover : KCal l.prog w K mg base 6 "Cover" C_Cover ["self", "name", "condition", "clauses", "houses", "waits"] (spCover C_Cover) := ⟨_, _, H_Cover_make, ok_Cover___init__ F_Cover___init__ T L Cis_name Ccheck_houses KDeal, B_Cover___init__, L.mg_Cover⟩
  have Mrest : MCal l.prog w K mg base 2 C_Cover "rest" ["self", "counts"] (spRest C_Clause C_Own C_Layer C_Limit C_Cover) := ⟨⟨_, _, ok_Cover_rest F_Cover_rest T L Mroom, B_Cover_rest, H_Cover_rest⟩, L.cl_Cover⟩
  have C_law_cell : Cal l.prog w K mg base 1 "_law_cell" ["_law_script", "_law_k"] (spCell K) := D__law_cell.cal fun f fd F => ok__law_cell F T
  have C_law_whole : Cal l.prog w K mg base 1 "_law_whole" ["_law_found"] (spWhole K) := D__law_whole.cal fun f fd F => ok__law_whole F T
  have C_law_row : Cal l.prog w K mg base 1 "_law_row" ["_law_cell_here", "_law_other"] spRow := D__law_row.cal fun f fd F => ok__law_row F T
  have C_law_clause : Cal l.prog w K mg base 6 "_law_clause" ["_law_row_here"] (spClause C_Clause C_Own C_Layer C_Limit) := D__law_clause.cal fun f fd F => ok__law_clause F T L KLimit KOwn KLayer
  have C_law_right : Cal l.prog w K mg base 2 "_law_right" ["_law_found", "_law_rows"] spRightR := D__law_right.cal fun f fd F => ok__law_right F T C_law_whole
  exact ok_law F16 T L NCondition C_law_cell C_law_row C_law_clause C_law_right KCover Mrest

theorem walk {l : PySem.W.OpenLaw} {q : Program} {loose : List Str} {XP : (Str → Option Value) → Heap → Prop} {YP : World → Heap → Prop} {d : DefRec} {K : Params → PySem.W.Frag} (hn : l.most = some 63) (hdf : d.params.defaults = [])
    (hY : ∀ (w : World) (h : Heap), YP w h → (K w.params).In h)
    (F : ∀ (w : World) (mg : Str → Option Value) (fa : Addr) (h : Heap), (K w.params).In h → h.Ns mainGlobals mg → mg d.name = some (.ref fa) →
      ∃ fd : FuncData, (∀ (s : Shared) (u : Value), BindsTo s fd ⟨[u], []⟩ [("_law_script", u)]) ∧ ∀ base : Heap, (K w.params).In base → base.Ns mainGlobals mg → FnOk l.prog w (K w.params) mg base CX0 8 fa fd ["_law_script"] (spLaw (K w.params))) :
    PySem.W.WalkO q loose XP YP l.row.toRowW d [] (fun f vs => PySem.call f vs) :=
  L2.walk_of (n := 63) (k := 8) (x := "_law_script") (CX := fun _ => CX0) (sp := fun w => spLaw (K w.params)) hn (by decide) hdf ⟨rfl, by decide, by decide⟩ hY F (fun _ _ a ns hl _ hS => ⟨a, ns, rfl, hS, hl, fun _ => rfl⟩) fun _ _ _ _ _ z => z
end CRL
open PySem PySem.W PyProof.Rows
def PySem.W.Fast.tw14951811401665559027 : Unit := ()
def PySem.W.Fast.tw4962261069341985679 : Unit := ()
def PySem.W.Fast.tw17423860639112030400 : Unit := ()
def PySem.W.Fast.tw15160499004485787961 : Unit := ()
def PySem.W.Fast.tw3347984233135426963 : Unit := ()
def PySem.W.Fast.tw18208760079491290106 : Unit := ()
def PySem.W.Fast.tw11105815056656313926 : Unit := ()
def PySem.W.Fast.tw4736667013601703784 : Unit := ()
def PySem.W.Fast.tw2605700543090675890 : Unit := ()
def PySem.W.Fast.tw11641434109974470989 : Unit := ()
def PySem.W.Fast.tw13928139283480073040 : Unit := ()
def PySem.W.Fast.tw3700759149669825776 : Unit := ()
set_option maxRecDepth 100000 in
set_option maxHeartbeats 0 in
theorem PySem.Challenge.cw_coverroll_k37_rests_holds : PySem.Challenge.rw_coverroll_k37_rests.Holds := by
  w_on; o_law; k_head; (case hw => w_witness2)
  k_fill
  refine CRL.walk (l := PySem.Challenge.rw_coverroll_k37_rests) rfl rfl (fun w h Y => PySem.W.kIn_of Y) ?F
  case F =>
    intro w mg fa h KX G hmg
    refine' CRL.all_mk KX G hmg ?a0 ?l0 ?c0 ?k0 ?a1 ?l1 ?c1 ?k1 ?a2 ?l2 ?c2 ?k2 ?a3 ?l3 ?c3 ?k3 ?a4 ?l4 ?c4 ?k4 ?a5 ?l5 ?c5 ?k5 ?a6 ?l6 ?c6 ?k6 ?a7 ?l7 ?c7 ?k7 ?a8 ?l8 ?c8 ?k8 ?a9 ?l9 ?c9 ?k9 ?a10 ?l10 ?c10 ?k10 ?a11 ?l11 ?c11 ?k11 ?a12 ?l12 ?c12 ?k12 ?a13 ?l13 ?c13 ?k13 ?a14 ?l14 ?c14 ?k14 ?a15 ?l15 ?c15 ?k15 ?a16 ?l16 ?c16 ?k16 ?q_Clause ?pg_Clause ?hd_Clause ?po_Clause ?sa_Clause ?mk_Clause ?kc_Clause ?na_Clause_by ?q_Own ?pg_Own ?hd_Own ?po_Own ?sa_Own ?mk_Own ?kc_Own ?na_Own_cents ?na_Own_by ?q_Layer ?pg_Layer ?hd_Layer ?po_Layer ?sa_Layer ?mk_Layer ?kc_Layer ?na_Layer_first ?na_Layer_upto ?na_Layer_by ?q_Limit ?pg_Limit ?hd_Limit ?po_Limit ?sa_Limit ?mk_Limit ?kc_Limit ?na_Limit_most ?na_Limit_by ?q_Deal ?pg_Deal ?hd_Deal ?po_Deal ?sa_Deal ?mk_Deal ?kc_Deal ?na_Deal_wheel ?na_Deal_weights ?q_Cover ?pg_Cover ?hd_Cover ?po_Cover ?sa_Cover ?mk_Cover ?kc_Cover ?na_Cover_name ?na_Cover_condition ?na_Cover_clauses ?na_Cover_houses ?na_Cover_deal ?na_Cover_waits ?q_Condition ?pg_Condition ?hd_Condition ?po_Condition ?sa_Condition ?mk_Condition ?kc_Condition ?nd_C ?a_Clause___init__ ?iClause___init__ ?lClause___init__ ?cClause___init__ ?kClause___init__ ?a_Clause_room ?iClause_room ?lClause_room ?cClause_room ?kClause_room ?a_Own___init__ ?iOwn___init__ ?lOwn___init__ ?cOwn___init__ ?kOwn___init__ ?a_Layer___init__ ?iLayer___init__ ?lLayer___init__ ?cLayer___init__ ?kLayer___init__ ?a_Limit___init__ ?iLimit___init__ ?lLimit___init__ ?cLimit___init__ ?kLimit___init__ ?a_Limit_room ?iLimit_room ?lLimit_room ?cLimit_room ?kLimit_room ?a_Deal___init__ ?iDeal___init__ ?lDeal___init__ ?cDeal___init__ ?kDeal___init__ ?a_Cover___init__ ?iCover___init__ ?lCover___init__ ?cCover___init__ ?kCover___init__ ?dlCover___init__ ?a_Cover_rest ?iCover_rest ?lCover_rest ?cCover_rest ?kCover_rest ?a_Own_room ?a_Layer_room ?bg_Clause___init__ ?br_Clause___init__ ?bf_Clause___init__ ?ni_Condition ?z_WAYS ?lw_WAYS ?z_COVERED_ONE ?z_LETTERS ?z_LONGEST_NAME ?z_MOST_CENTS ?z_MOST_CLAUSES ?z_MOST_PLACES ?z_MOST_TURNS ?z_bool ?z_enumerate ?z_int ?z_isinstance ?z_len ?z_list ?z_max ?z_range ?z_str ?z_sum ?z_tuple
    (case a0 => k_is)
    (case l0 => k_is)
    (case c0 => k_is)
    (case k0 => k_is)
    (case a1 => k_is)
    (case l1 => k_is)
    (case c1 => k_is)
    (case k1 => k_is)
    (case a2 => k_is)
    (case l2 => k_is)
    (case c2 => k_is)
    (case k2 => k_is)
    (case a3 => k_is)
    (case l3 => k_is)
    (case c3 => k_is)
    (case k3 => k_is)
    (case a4 => k_is)
    (case l4 => k_is)
    (case c4 => k_is)
    (case k4 => k_is)
    (case a5 => k_is)
    (case l5 => k_is)
    (case c5 => k_is)
    (case k5 => k_is)
    (case a6 => k_is)
    (case l6 => k_is)
    (case c6 => k_is)
    (case k6 => k_is)
    (case a7 => k_is)
    (case l7 => k_is)
    (case c7 => k_is)
    (case k7 => k_is)
    (case a8 => k_is)
    (case l8 => k_is)
    (case c8 => k_is)
    (case k8 => k_is)
    (case a9 => k_is)
    (case l9 => k_is)
    (case c9 => k_is)
    (case k9 => k_is)
    (case a10 => k_is)
    (case l10 => k_is)
    (case c10 => k_is)
    (case k10 => k_is)
    (case a11 => k_is)
    (case l11 => k_is)
    (case c11 => k_is)
    (case k11 => k_is)
    (case a12 => k_is)
    (case l12 => k_is)
    (case c12 => k_is)
    (case k12 => k_is)
    (case a13 => k_is)
    (case l13 => k_is)
    (case c13 => k_is)
    (case k13 => k_is)
    (case a14 => k_is)
    (case l14 => k_is)
    (case c14 => k_is)
    (case k14 => k_is)
    (case a15 => k_is)
    (case l15 => k_is)
    (case c15 => k_is)
    (case k15 => k_is)
    (case a16 => k_is)
    (case l16 => k_is)
    (case c16 => k_is)
    (case k16 => k_is)
    (case q_Clause => k_is)
    (case pg_Clause => k_is)
    (case hd_Clause => k_is)
    (case po_Clause => k_is)
    (case sa_Clause => k_is)
    (case mk_Clause => k_is)
    (case kc_Clause => k_is)
    (case na_Clause_by => k_is)
    (case q_Own => k_is)
    (case pg_Own => k_is)
    (case hd_Own => k_is)
    (case po_Own => k_is)
    (case sa_Own => k_is)
    (case mk_Own => k_is)
    (case kc_Own => k_is)
    (case na_Own_cents => k_is)
    (case na_Own_by => k_is)
    (case q_Layer => k_is)
    (case pg_Layer => k_is)
    (case hd_Layer => k_is)
    (case po_Layer => k_is)
    (case sa_Layer => k_is)
    (case mk_Layer => k_is)
    (case kc_Layer => k_is)
    (case na_Layer_first => k_is)
    (case na_Layer_upto => k_is)
    (case na_Layer_by => k_is)
    (case q_Limit => k_is)
    (case pg_Limit => k_is)
    (case hd_Limit => k_is)
    (case po_Limit => k_is)
    (case sa_Limit => k_is)
    (case mk_Limit => k_is)
    (case kc_Limit => k_is)
    (case na_Limit_most => k_is)
    (case na_Limit_by => k_is)
    (case q_Deal => k_is)
    (case pg_Deal => k_is)
    (case hd_Deal => k_is)
    (case po_Deal => k_is)
    (case sa_Deal => k_is)
    (case mk_Deal => k_is)
    (case kc_Deal => k_is)
    (case na_Deal_wheel => k_is)
    (case na_Deal_weights => k_is)
    (case q_Cover => k_is)
    (case pg_Cover => k_is)
    (case hd_Cover => k_is)
    (case po_Cover => k_is)
    (case sa_Cover => k_is)
    (case mk_Cover => k_is)
    (case kc_Cover => k_is)
    (case na_Cover_name => k_is)
    (case na_Cover_condition => k_is)
    (case na_Cover_clauses => k_is)
    (case na_Cover_houses => k_is)
    (case na_Cover_deal => k_is)
    (case na_Cover_waits => k_is)
    (case q_Condition => k_is)
    (case pg_Condition => k_is)
    (case hd_Condition => k_is)
    (case po_Condition => k_is)
    (case sa_Condition => k_is)
    (case mk_Condition => k_is)
    (case kc_Condition => k_is)
    (case nd_C => decide)
    (case a_Clause___init__ => k_is)
    (case iClause___init__ => k_is)
    (case lClause___init__ => k_is)
    (case cClause___init__ => k_is)
    (case kClause___init__ => k_is)
    (case a_Clause_room => k_is)
    (case iClause_room => k_is)
    (case lClause_room => k_is)
    (case cClause_room => k_is)
    (case kClause_room => k_is)
    (case a_Own___init__ => k_is)
    (case iOwn___init__ => k_is)
    (case lOwn___init__ => k_is)
    (case cOwn___init__ => k_is)
    (case kOwn___init__ => k_is)
    (case a_Layer___init__ => k_is)
    (case iLayer___init__ => k_is)
    (case lLayer___init__ => k_is)
    (case cLayer___init__ => k_is)
    (case kLayer___init__ => k_is)
    (case a_Limit___init__ => k_is)
    (case iLimit___init__ => k_is)
    (case lLimit___init__ => k_is)
    (case cLimit___init__ => k_is)
    (case kLimit___init__ => k_is)
    (case a_Limit_room => k_is)
    (case iLimit_room => k_is)
    (case lLimit_room => k_is)
    (case cLimit_room => k_is)
    (case kLimit_room => k_is)
    (case a_Deal___init__ => k_is)
    (case iDeal___init__ => k_is)
    (case lDeal___init__ => k_is)
    (case cDeal___init__ => k_is)
    (case kDeal___init__ => k_is)
    (case a_Cover___init__ => k_is)
    (case iCover___init__ => k_is)
    (case lCover___init__ => k_is)
    (case cCover___init__ => k_is)
    (case kCover___init__ => k_is)
    (case dlCover___init__ => k_is)
    (case a_Cover_rest => k_is)
    (case iCover_rest => k_is)
    (case lCover_rest => k_is)
    (case cCover_rest => k_is)
    (case kCover_rest => k_is)
    (case a_Own_room => k_is)
    (case a_Layer_room => k_is)
    (case bg_Clause___init__ => k_is)
    (case br_Clause___init__ => k_is)
    (case bf_Clause___init__ => k_is)
    (case ni_Condition => k_is)
    (case z_WAYS => k_is)
    (case lw_WAYS => k_is)
    (case z_COVERED_ONE => k_is)
    (case z_LETTERS => k_is)
    (case z_LONGEST_NAME => k_is)
    (case z_MOST_CENTS => k_is)
    (case z_MOST_CLAUSES => k_is)
    (case z_MOST_PLACES => k_is)
    (case z_MOST_TURNS => k_is)
    (case z_bool => k_is)
    (case z_enumerate => k_is)
    (case z_int => k_is)
    (case z_isinstance => k_is)
    (case z_len => k_is)
    (case z_list => k_is)
    (case z_max => k_is)
    (case z_range => k_is)
    (case z_str => k_is)
    (case z_sum => k_is)
    (case z_tuple => k_is)
