import PyProof.Rows.All
import Wide.All
import OpenK.AllK
import Wide.FinOn
import Lean
import PyProof.EqAt
import PyProof.EqKinds
import PyProof.TupleCall
import PySem.Challenge.RW_coverroll_k62_dealt_to_houses
set_option Elab.async false
set_option linter.all false
set_option maxRecDepth 100000
set_option maxHeartbeats 4000000
/-! THE HAND LAYER, for ints, bools, texts, own classes, LISTS and tuples (index, slices, in, append, pop ..), calls, loops. Paste it whole ahead of your own text; what your proof does not reach may be deleted. -/
namespace L2
open PySem PySem.Spec PyProof.Rows

/-- a key: an int or a str -/
abbrev Key := Sum Int Str
def keyIs : Key → Value → Bool
  | .inl k, v => Value.isInt k v
  | .inr x, v => Value.isStrOf x v
def keyH (w : World) : Key → Int
  | .inl k => hashInt k
  | .inr x => hashStr w x
theorem keyIs_shape : ∀ {k : Key} {v : Value}, keyIs k v = true → (∃ i t, k = Sum.inl i ∧ v = Value.int i t) ∨ (∃ x t, k = Sum.inr x ∧ v = Value.str x t)
  | .inl i, v, h => by
    obtain ⟨t, e⟩ := Value.isInt_shape (k := i) (v := v) h
    exact .inl ⟨i, t, rfl, e⟩
  | .inr x, v, h => by
    obtain ⟨t, e⟩ := Value.isStrOf_shape (x := x) (v := v) h
    exact .inr ⟨x, t, rfl, e⟩
theorem key_ll (a b : Int) : decide ((Sum.inl a : Key) = Sum.inl b) = (a == b) := by
  by_cases e : a = b
  · subst e; simp
  · have h : ¬ (Sum.inl a : Key) = Sum.inl b := fun q => e (Sum.inl.inj q)
    rw [decide_eq_false h]
    exact (beq_eq_false_iff_ne.mpr e).symm
theorem key_rr (a b : Str) : decide ((Sum.inr a : Key) = Sum.inr b) = decide (a = b) := by
  by_cases e : a = b
  · subst e; simp
  · have h : ¬ (Sum.inr a : Key) = Sum.inr b := fun q => e (Sum.inr.inj q)
    rw [decide_eq_false h, decide_eq_false e]
theorem key_lr (a : Int) (b : Str) : decide ((Sum.inl a : Key) = Sum.inr b) = false := decide_eq_false (fun q => nomatch q)
theorem key_rl (a : Str) (b : Int) : decide ((Sum.inr a : Key) = Sum.inl b) = false := decide_eq_false (fun q => nomatch q)

def mixKind (prog : Program) (w : World) : PySem.KeyKind prog w Key where
  is := keyIs
  hash := keyH w
  inj := fun v a b ha hb => by
    rcases keyIs_shape ha with ⟨i, t, rfl, rfl⟩ | ⟨x, t, rfl, rfl⟩
    · rcases keyIs_shape hb with ⟨j, u, rfl, e⟩ | ⟨y, u, rfl, e⟩
      · injection e with e1 _; rw [e1]
      · exact nomatch e
    · rcases keyIs_shape hb with ⟨j, u, rfl, e⟩ | ⟨y, u, rfl, e⟩
      · exact nomatch e
      · injection e with e1 _; rw [e1]
  byValue := fun k v h => by
    rcases keyIs_shape h with ⟨i, t, rfl, rfl⟩ | ⟨x, t, rfl, rfl⟩ <;> rfl
  pyHash := fun hv h => by
    rcases keyIs_shape hv with ⟨i, t, rfl, rfl⟩ | ⟨x, t, rfl, rfl⟩
    · exact wpAny_pyHash_int h
    · exact wpAny_pyHash_str h
  eqBool := fun hu hv h => by
    rcases keyIs_shape hu with ⟨i, t, rfl, rfl⟩ | ⟨x, t, rfl, rfl⟩
    · rcases keyIs_shape hv with ⟨j, u, rfl, rfl⟩ | ⟨y, u, rfl, rfl⟩
      · rw [key_ll] at h; exact wpAny_eqBool_int h
      · rw [key_lr] at h; exact SeqAt.EqAt.int_str i t y u _ _ _ _ h
    · rcases keyIs_shape hv with ⟨j, u, rfl, rfl⟩ | ⟨y, u, rfl, rfl⟩
      · rw [key_rl] at h; exact SeqAt.EqAt.str_int x t j u _ _ _ _ h
      · rw [key_rr] at h; exact wpAny_eqBool_str h
  «strs» := fun k x t v h => by
    rcases keyIs_shape h with ⟨i, u, rfl, e⟩ | ⟨y, u, rfl, e⟩
    · exact nomatch e
    · injection e with e1 _
      subst e1
      cases v <;> rfl

end L2

namespace L2
open PySem PySem.Spec PyProof.Rows

/-- a value, without the heap -/
inductive V where
  | non | bl (b : Bool) | int (i : Int) | str (x : Str) | byt (b : Array UInt8) | flt (b : UInt64) | ref (a : Addr) | ty (n : String)
  deriving DecidableEq

def RelV : V → Value → Prop
  | .non, u => u = Value.none
  | .bl b, u => u = Value.bool b
  | .int i, u => ∃ t, u = Value.int i t
  | .str x, u => ∃ t, u = Value.str x t
  | .byt b, u => ∃ t, u = Value.bytes b t
  | .flt b, u => ∃ t, u = Value.float b t
  | .ref a, u => u = Value.ref a
  | .ty n, u => u = Value.type n

abbrev Vals : List V → List Value → Prop := Paired RelV
theorem Vals.length {xs : List V} {us : List Value} (r : Vals xs us) : xs.length = us.length := Paired.length r
theorem Vals.get : ∀ {xs : List V} {us : List Value} {i : Nat} {x : V}, Vals xs us → xs[i]? = some x → ∃ u, us[i]? = some u ∧ RelV x u
  | _, _, _, _, .nil, e => by simp at e
  | _, _, 0, _, .cons r _, e => by simp at e; subst e; exact ⟨_, rfl, r⟩
  | _, _, i + 1, x, .cons _ t, e => by
    obtain ⟨u, h1, h2⟩ := Vals.get (i := i) (x := x) t (by simpa using e)
    exact ⟨u, by simpa using h1, h2⟩
theorem Vals.set {x : V} {u : Value} (r : RelV x u) : ∀ {xs : List V} {us : List Value} (i : Nat), Vals xs us → Vals (xs.set i x) (us.set i u)
  | _, _, _, .nil => .nil
  | _, _, 0, .cons _ t => .cons r t
  | _, _, i + 1, .cons q t => .cons q (Vals.set r i t)
theorem Vals.append : ∀ {xs ys : List V} {us ws : List Value}, Vals xs us → Vals ys ws → Vals (xs ++ ys) (us ++ ws)
  | _, _, _, _, .nil, s => s
  | _, _, _, _, .cons r t, s => .cons r (Vals.append t s)
theorem Vals.take : ∀ {xs : List V} {us : List Value} (n : Nat), Vals xs us → Vals (xs.take n) (us.take n)
  | _, _, 0, _ => .nil
  | _, _, _ + 1, .nil => .nil
  | _, _, n + 1, .cons r t => .cons r (Vals.take n t)
theorem Vals.drop : ∀ {xs : List V} {us : List Value} (n : Nat), Vals xs us → Vals (xs.drop n) (us.drop n)
  | _, _, 0, r => r
  | _, _, _ + 1, .nil => .nil
  | _, _, n + 1, .cons _ t => Vals.drop n t

def RelO : Option V → Option Value → Prop
  | some v, some u => RelV v u
  | none, none => True
  | _, _ => False
def KV {κ : Type} : List (κ × V) → List (κ × Value) → Prop := Paired fun (p : κ × V) (q : κ × Value) => p.1 = q.1 ∧ RelV p.2 q.2

/-- a key of a dict (00_mix): an int or a text -/
def kV : Key → V
  | .inl i => .int i
  | .inr x => .str x

/-- what stands at a tracked address -/
inductive HO where
  /-- a list -/
  | lst (xs : List V)
  /-- a tuple (never changes) -/
  | tup (xs : List V)
  /-- a dict whose keys are ints and texts; one whose keys are tuples of ints and texts (the empty one is both) -/
  | dK (kvs : List (Key × V)) | dT (kvs : List (List Key × V))
  /-- a set of ints: its members, its size -/
  | set (S : Int → Bool) (n : Nat)
  /-- an instance of the class at C, its dict at dx, its attributes -/
  | ins (C dx : Addr) (fs : List (Str × V))
  /-- the dict of the instance at x -/
  | own (x : Addr)
  /-- the dict of an exception -/
  | xd (fs : List (Str × V))
  /-- a bound method, f of x -/
  | met (f x : Addr)
  /-- a range object lo, lo + 1, .. below hi -/
  | rng (lo hi : Int)
  /-- a thing that is known to the object (the script; a dict while a loop walks it): read, never written while it is so -/
  | frz (o : Obj) (u : HO)
  /-- a code object's table -/
  | tbl (ps : Array Value)
  /-- any other thing, by what is true of its one object (a def of one's own: SetO a S n := HO.ext fun h => ..) -/
  | ext (φ : Heap → Prop)

abbrev Hp := Addr → Option HO
def upd (H : Hp) (a : Addr) (o : HO) : Hp := fun b => if b = a then some o else H b
theorem upd_same {H : Hp} {a : Addr} {o : HO} : upd H a o a = some o := by unfold upd; rw [if_pos rfl]
theorem upd_ne {H : Hp} {a b : Addr} {o : HO} (h : b ≠ a) : upd H a o b = H b := by unfold upd; rw [if_neg h]
/-- two objects of different content stand apart -/
theorem ne_of {H : Hp} {a b : Addr} {o u : HO} (h : H a = some o) (h' : H b = some u) (d : o ≠ u) : a ≠ b := by
  intro e; subst e; rw [h] at h'; exact d (Option.some.inj h')
theorem ne_of_none {H : Hp} {a b : Addr} {o : HO} (h : H a = some o) (h' : H b = none) : a ≠ b := by
  intro e; subst e; rw [h] at h'; cases h'

section
variable (P : Program) (w : World)
def ObjOk (H : Hp) (h : Heap) (a : Addr) : HO → Prop
  | .lst xs => xs.length ≤ sizeLine ∧ ∃ (its : List Value) (n : Nat), Vals xs its ∧ h.get? a = some { cls := .type "list", data := .seq its.toArray n }
  | .tup xs => xs.length ≤ sizeLine ∧ ∃ its : List Value, Vals xs its ∧ IsTup h a its.toArray
  | .dK kvs => kvs.length ≤ sizeLine ∧ (a == sysModules) = false ∧ ∃ vs, KV kvs vs ∧ h.DictOf (mixKind P w) a vs
  | .dT kvs => kvs.length ≤ sizeLine ∧ (a == sysModules) = false ∧ ∃ xs : List (List Key × Addr × Value),
      Paired (fun (p : List Key × V) (q : List Key × Addr × Value) => p.1 = q.1 ∧ H q.2.1 = some (.tup (p.1.map kV)) ∧ RelV p.2 q.2.2) kvs xs ∧
      ∃ o es ep, h.get? a = some o ∧ o.ExactDict ∧ o.data = .dict es ep ∧ es.toList = xs.map (entryOfKey (tupleKind (mixKind P w))) ∧ (xs.map (·.1)).Nodup
  | .set S n => h.SetOf (intKind P w) a S n
  | .ins C dx fs => H dx = some (.own a) ∧ fs.length ≤ 1000 ∧ dx ≠ a ∧ h.get? a = some (PySem.W.instObj C dx) ∧
      ∃ mA, h.Ns1 dx mA ∧ (∀ f, RelO (fs.lookup f) (mA f)) ∧ PySem.Within mA (fs.map (·.1))
  | .own _ => ∃ o, h.get? a = some o
  | .xd fs => ∃ mA, h.Ns1 a mA ∧ ∀ f, RelO (fs.lookup f) (mA f)
  | .rng lo hi => ∃ t u v, h.get? a = some { cls := .type "range", data := .fields #[.int lo t, .int hi u, .int 1 v] }
  | .frz o u => h.get? a = some o ∧ ObjOk H h a u
  | .tbl ps => h.get? a = some { cls := .none, data := .fields ps }
  | .met f x => h.get? a = some (PySem.W.methodObj (.ref f) (.ref x))
  | .ext φ => φ h ∧ (∃ o, h.get? a = some o) ∧ ∀ h1 h2 : Heap, φ h1 → (∀ o, h1.get? a = some o → h2.get? a = some o) → φ h2
/-- the abstract heap is held -/
def HOk (H : Hp) (h : Heap) : Prop := ∀ a o, H a = some o → ObjOk P w H h a o
end

section
variable {P : Program} {w : World} {H H' : Hp} {h h' : Heap} {a : Addr} {o : HO}
theorem ObjOk.lt (x : ObjOk P w H h a o) : a < h.objs.size := by
  cases o with
  | lst xs => obtain ⟨_, _, _, _, e⟩ := x; exact Heap.lt_size e
  | tup xs => obtain ⟨_, _, _, p⟩ := x; exact p.lt
  | dK kvs => obtain ⟨_, _, _, _, o, _, _, e, _⟩ := x; exact Heap.lt_size e
  | dT kvs => obtain ⟨_, _, _, _, o, _, _, e, _⟩ := x; exact Heap.lt_size e
  | set S n => obtain ⟨o, _, _, _, e, _⟩ := x; exact Heap.lt_size e
  | ins C dx fs => obtain ⟨_, _, _, e, _⟩ := x; exact Heap.lt_size e
  | own y => obtain ⟨_, e⟩ := x; exact Heap.lt_size e
  | xd fs => obtain ⟨_, ⟨_, _, _, e, _⟩, _⟩ := x; exact Heap.lt_size e
  | rng lo hi => obtain ⟨_, _, _, e⟩ := x; exact Heap.lt_size e
  | frz ob u => obtain ⟨e, _⟩ := x; exact Heap.lt_size e
  | tbl ps => exact Heap.lt_size (show h.get? a = some _ from x)
  | met f y => exact Heap.lt_size (show h.get? a = some _ from x)
  | ext φ => obtain ⟨_, ⟨_, e⟩, _⟩ := x; exact Heap.lt_size e
theorem Paired.mapP {α β : Type} {F G : α → β → Prop} : ∀ {l₁ : List α} {l₂ : List β}, Paired F l₁ l₂ → (∀ a b, F a b → G a b) → Paired G l₁ l₂
  | _, _, .nil, _ => .nil
  | _, _, .cons r t, f => .cons (f _ _ r) (Paired.mapP t f)
/-- what an object's description leans on: its own object, its own dict, the tuples -/
theorem ObjOk.stay (x : ObjOk P w H h a o) (k : ∀ b u, (b = a ∨ H b = some (.own a)) → h.get? b = some u → h'.get? b = some u)
    (ho : ∀ b, H b = some (.own a) → H' b = some (.own a)) (ht : ∀ b xs, H b = some (.tup xs) → H' b = some (.tup xs)) : ObjOk P w H' h' a o := by
  induction o with
  | lst xs => obtain ⟨z, its, n, r, e⟩ := x; exact ⟨z, its, n, r, k _ _ (.inl rfl) e⟩
  | tup xs => obtain ⟨z, its, r, ob, e, c⟩ := x; exact ⟨z, its, r, ob, k _ _ (.inl rfl) e, c⟩
  | dK kvs => obtain ⟨z, y, vs, r, ob, es, ep, e, c⟩ := x; exact ⟨z, y, vs, r, ob, es, ep, k _ _ (.inl rfl) e, c⟩
  | dT kvs =>
    obtain ⟨z, y, xs, r, ob, es, ep, e, c⟩ := x
    exact ⟨z, y, xs, Paired.mapP r fun p q z => ⟨z.1, ht _ _ z.2.1, z.2.2⟩, ob, es, ep, k _ _ (.inl rfl) e, c⟩
  | set S n => obtain ⟨ob, es, ep, t, e, c⟩ := x; exact ⟨ob, es, ep, t, k _ _ (.inl rfl) e, c⟩
  | ins C dx fs =>
    obtain ⟨d, z, ne, e, mA, ⟨od, es, ep, e2, c⟩, r⟩ := x
    exact ⟨ho _ d, z, ne, k _ _ (.inl rfl) e, mA, ⟨od, es, ep, k _ _ (.inr d) e2, c⟩, r⟩
  | own y => obtain ⟨ob, e⟩ := x; exact ⟨ob, k _ _ (.inl rfl) e⟩
  | xd fs => obtain ⟨mA, ⟨od, es, ep, e, c⟩, r⟩ := x; exact ⟨mA, ⟨od, es, ep, k _ _ (.inl rfl) e, c⟩, r⟩
  | rng lo hi => obtain ⟨t, u, v, e⟩ := x; exact ⟨t, u, v, k _ _ (.inl rfl) e⟩
  | frz ob u ih => obtain ⟨e, q⟩ := x; exact ⟨k _ _ (.inl rfl) e, ih q⟩
  | tbl ps =>
    have e : h.get? a = some { cls := .none, data := .fields ps } := x
    show h'.get? a = some { cls := .none, data := .fields ps }
    exact k a _ (.inl rfl) e
  | met f y =>
    have e : h.get? a = some (PySem.W.methodObj (.ref f) (.ref y)) := x
    show h'.get? a = some (PySem.W.methodObj (.ref f) (.ref y))
    exact k a _ (.inl rfl) e
  | ext φ => obtain ⟨p, ⟨o, e⟩, st⟩ := x; exact ⟨st _ _ p fun o q => k _ _ (.inl rfl) q, ⟨o, k _ _ (.inl rfl) e⟩, st⟩
theorem HOk.lt (x : HOk P w H h) (e : H a = some o) : a < h.objs.size := (x a o e).lt
theorem HOk.fresh (x : HOk P w H h) (e : h.objs.size ≤ a) : H a = none := by
  cases q : H a with
  | none => rfl
  | some u => exact absurd (Nat.lt_of_lt_of_le (x.lt q) e) (Nat.lt_irrefl _)
/-- every object of the heap is kept -/
theorem HOk.kept (x : HOk P w H h) (k : ∀ b u, h.get? b = some u → h'.get? b = some u) : HOk P w H h' := fun a o e =>
  (x a o e).stay (fun b u _ q => k b u q) (fun _ q => q) fun _ _ q => q
/-- a new object is laid and tracked -/
theorem HOk.laid (x : HOk P w H h) (k : ∀ b u, h.get? b = some u → h'.get? b = some u) (hp : h.objs.size ≤ a) (new : ObjOk P w (upd H a o) h' a o) : HOk P w (upd H a o) h' := fun b u e => by
  have hn := x.fresh hp
  by_cases hb : b = a
  · subst hb; rw [upd_same] at e; cases e; exact new
  · rw [upd_ne hb] at e
    exact (x b u e).stay (fun c v _ q => k c v q) (fun c q => by rw [upd_ne (ne_of_none q hn)]; exact q) fun c xs q => by rw [upd_ne (ne_of_none q hn)]; exact q
end

/-- what may be read as u: it is u, or a known u -/
def Rd (H : Hp) (a : Addr) (u : HO) : Prop := H a = some u ∨ ∃ o, H a = some (.frz o u)
theorem Rd.ok {P : Program} {w : World} {H : Hp} {h : Heap} {a : Addr} {u : HO} (r : Rd H a u) (x : HOk P w H h) : ObjOk P w H h a u := by
  rcases r with r | ⟨o, r⟩
  · exact x a u r
  · obtain ⟨_, q⟩ := x a _ r
    exact q
/-- what may be written -/
def Mut : Option HO → Prop
  | some (.lst _) => True
  | some (.dK _) => True
  | some (.dT _) => True
  | some (.set _ _) => True
  | some (.ins _ _ _) => True
  | some (.ext _) => True
  | _ => False
section
variable {P : Program} {w : World} {H : Hp} {h h' : Heap} {x e : Addr} {o' : HO}
/-- the object at e is changed: x itself, or the dict of the instance x -/
theorem HOk.write (ok : HOk P w H h) (mu : Mut (H x)) (he : e = x ∨ H e = some (.own x)) (k : ∀ b u, b ≠ e → h.get? b = some u → h'.get? b = some u) (heo : ∃ u, h'.get? e = some u)
    (new : ObjOk P w (upd H x o') h' x o') : HOk P w (upd H x o') h' := fun b u q => by
  have nown : ∀ c y, H c = some (.own y) → c ≠ x := fun c y r z => by subst z; rw [r] at mu; exact mu
  have ntup : ∀ c xs, H c = some (.tup xs) → c ≠ x := fun c xs r z => by subst z; rw [r] at mu; exact mu
  by_cases hb : b = x
  · subst hb; rw [upd_same] at q; cases q; exact new
  · rw [upd_ne hb] at q
    by_cases hbe : b = e
    · have q' : H b = some (.own x) := by
        rcases he with z | z
        · exact absurd (hbe.trans z) hb
        · rw [hbe]; exact z
      rw [q] at q'; cases q'
      obtain ⟨v, hv⟩ := heo
      exact ⟨v, by rw [hbe]; exact hv⟩
    · refine (ok b u q).stay (fun c v hc r => k c v ?_ r) (fun c r => by rw [upd_ne (nown c b r)]; exact r) fun c xs r => by rw [upd_ne (ntup c xs r)]; exact r
      rcases hc with rfl | hc
      · exact hbe
      · rintro rfl
        rcases he with z | z
        · exact nown c b hc z
        · rw [hc] at z; cases z; exact hb rfl
end

/-! ### kept unless tracked; of the frames at fs (the callers') the slots may change (an exception that passes writes there); of the records at ex (iterators) nothing is said -/
structure Un (fs ex : List Addr) (H H' : Hp) (h h' : Heap) : Prop where
  keep : ∀ b o, h.get? b = some o → H b = none → b ∉ fs → b ∉ ex → h'.get? b = some o
  slot : ∀ b o, h.get? b = some o → H b = none → b ∈ fs → b ∉ ex → ∃ sl, h'.get? b = some { o with slots := sl }
  free : ∀ b o, h.get? b = some o → H b = none → b ∉ ex → H' b = none
  there : ∀ b o, h.get? b = some o → b ∉ ex → ∃ o', h'.get? b = some o'
  tups : ∀ b xs, H b = some (.tup xs) → H' b = some (.tup xs)
  frzs : ∀ b o u, H b = some (.frz o u) → H' b = some (.frz o u)
  tbls : ∀ b ps, H b = some (.tbl ps) → ∃ more, H' b = some (.tbl (ps ++ more))
section
variable {fs fs' ex ex' : List Addr} {H H1 H2 : Hp} {h h1 h2 h' : Heap} {a x e : Addr} {o : HO}
theorem Un.any (u : Un fs ex H H1 h h1) {b : Addr} {ob : Obj} (q : h.get? b = some ob) (n : H b = none) (hx : b ∉ ex) : ∃ sl, h1.get? b = some { ob with slots := sl } := by
  by_cases hb : b ∈ fs
  · exact u.slot b ob q n hb hx
  · exact ⟨ob.slots, u.keep b ob q n hb hx⟩
theorem Un.kept (k : ∀ b u, h.get? b = some u → h'.get? b = some u) : Un fs ex H H h h' :=
  ⟨fun b ob q _ _ _ => k b ob q, fun b ob q _ _ _ => ⟨ob.slots, k b ob q⟩, fun _ _ _ n _ => n, fun b ob q _ => ⟨ob, k b ob q⟩, fun _ _ q => q, fun _ _ _ q => q, fun _ ps q => ⟨#[], by rw [q]; simp⟩⟩
theorem Un.refl : Un fs ex H H h h := Un.kept fun _ _ q => q
theorem Un.laid (k : ∀ b u, h.get? b = some u → h'.get? b = some u) (hp : h.objs.size ≤ a) (hn : H a = none) : Un fs ex H (upd H a o) h h' where
  keep := fun b u q _ _ _ => k b u q
  slot := fun b u q _ _ _ => ⟨u.slots, k b u q⟩
  free := fun b u q n _ => by rw [upd_ne (Nat.ne_of_lt (Nat.lt_of_lt_of_le (Heap.lt_size q) hp))]; exact n
  there := fun b u q _ => ⟨u, k b u q⟩
  tups := fun b xs q => by rw [upd_ne (ne_of_none q hn)]; exact q
  frzs := fun b u xs q => by rw [upd_ne (ne_of_none q hn)]; exact q
  tbls := fun b ps q => ⟨#[], by rw [upd_ne (ne_of_none q hn), q]; simp⟩
theorem Un.write (mu : Mut (H x)) (he : e = x ∨ H e = some (.own x)) (k : ∀ b u, b ≠ e → h.get? b = some u → h'.get? b = some u) (heo : ∃ u, h'.get? e = some u) : Un fs ex H (upd H x o) h h' := by
  have hx : ∀ b, H b = none → b ≠ x := fun b n z => by subst z; rw [n] at mu; exact mu
  have hb : ∀ b, H b = none → b ≠ e := fun b n z => by
    subst z
    rcases he with r | r
    · exact hx b n r
    · rw [n] at r; cases r
  have hm : ∀ b u, H b = some u → ¬ Mut (some u) → b ≠ x := fun b u q nm z => by subst z; rw [q] at mu; exact nm mu
  refine ⟨fun b u q n _ _ => k b u (hb b n) q, fun b u q n _ _ => ⟨u.slots, k b u (hb b n) q⟩, fun b u q n _ => by rw [upd_ne (hx b n)]; exact n, fun b u q _ => ?_,
    fun b xs q => by rw [upd_ne (hm b _ q fun z => z)]; exact q, fun b u xs q => by rw [upd_ne (hm b _ q fun z => z)]; exact q, fun b ps q => ⟨#[], by rw [upd_ne (hm b _ q fun z => z), q]; simp⟩⟩
  by_cases hbe : b = e
  · subst hbe; exact heo
  · exact ⟨u, k b u hbe q⟩
end

/-! ### the heap without what is tracked -/
def trk (h : Heap) (H : Hp) : List Addr := (List.range h.objs.size).filter fun a => (H a).isSome
def hidT (h : Heap) (H : Hp) : Heap := PySem.W.hideAll h (trk h H)
theorem hidT_size (h : Heap) (H : Hp) : (hidT h H).objs.size = h.objs.size := PySem.W.hideAll_size _ _
theorem hidT_get {h : Heap} {H : Hp} {b : Addr} {o : Obj} (e : h.get? b = some o) (n : H b = none) : (hidT h H).get? b = some o :=
  PySem.W.hideAll_get _ e fun hm => by
    have q : (H b).isSome = true := (List.mem_filter.mp hm).2
    rw [n] at q; simp at q
theorem of_hidT {h : Heap} {H : Hp} {b : Addr} {o : Obj} (e : (hidT h H).get? b = some o) : h.get? b = some o ∧ H b = none := by
  have e' : h.get? b = some o := PySem.W.of_hideAll (trk h H) e
  refine ⟨e', ?_⟩
  cases q : H b with
  | none => rfl
  | some x =>
    have hm : b ∈ trk h H := List.mem_filter.mpr ⟨List.mem_range.mpr (Heap.lt_size e'), by simp [q]⟩
    have z : (hidT h H).get? b = none := PySem.W.hideAll_none (trk h H) hm
    rw [z] at e; cases e

/-! ### OpenK's ledger, filled with every new object but one -/
end L2

namespace L2
open PySem PySem.Spec PyProof.Rows

/-- the module's facts, over the base: the heap at the law's entry without what is tracked there -/
structure Mod (K : PySem.W.Frag) (mg : Str → Option Value) (base : Heap) : Prop where
  kin : K.In base
  glob : base.Ns mainGlobals mg
  blt : ∃ mb, base.Ns builtinsNs mb ∧ ∀ x : Str, x ≠ "__name__" → mb x = bootBuiltins x
  nolimit : base.NoLimit

/-- the context: a def's body (or a comprehension's block) running. base: fixed through the whole law; s₀, H₀: the entry; outer: the frames whose slots others may change (a def's callers); stack: all frames that run;
   ex: iterators that were made ahead of the entry and are walked here (a comprehension's); fn: the names whose cells were made at the entry (a def: all; a comprehension's block: its own); calm: not within an except suite; pn: pins that every state bears; xe: what is wanted of an exception that leaves the code -/
structure Cx where
  prog : Program
  w : World
  K : PySem.W.Frag
  mg : Str → Option Value
  base : Heap
  A : Around
  N : List Str
  s₀ : Shared
  H₀ : Hp
  env : Env
  outer : List Env
  stack : List Env
  ex : List Addr
  fn : Str → Bool
  calm : Bool
  pn : List (Addr × Obj)
  xe : Value → Shared → Prop
/-- the callers' frames -/
def frs (l : List Env) : List Addr := l.filterMap (·.frame)
abbrev Cx.fs (X : Cx) : List Addr := frs X.outer

def Vis (sc : Scope) (x : Str) : Prop := sc.names.lookup x = some .local ∨ sc.names.lookup x = some .cell ∨ sc.names.lookup x = some .free
def Loc (sc : Scope) (x : Str) : Prop := sc.names.lookup x = some .local ∨ sc.names.lookup x = some .cell
def Look (env : Env) (h : Heap) (m : Str → Option Value) (x : Str) (u : Value) : Prop :=
  (env.kindOf x = some .local ∧ m x = some u) ∨ ((env.kindOf x = some .cell ∨ env.kindOf x = some .free) ∧ ∃ c, env.cells.lookup x = some c ∧ h.IsCell c (some u))

structure Cx.Ok (X : Cx) : Prop where
  mod : Mod X.K X.mg X.base
  kind : X.env.scope.kind = .function
  glob : X.env.globals = mainGlobals
  blt : X.env.builtins = builtinsNs
  above : X.s₀.heap.objs.size ≤ X.env.locals
  inj : ∀ x y c, X.env.cells.lookup x = some c → X.env.cells.lookup y = some c → x = y
  has : ∀ x, (X.env.kindOf x = some .cell ∨ X.env.kindOf x = some .free) → ∃ c, X.env.cells.lookup x = some c
  cab : ∀ x c, X.fn x = true → X.env.cells.lookup x = some c → X.s₀.heap.objs.size ≤ c
  hd : X.calm = true → X.A.handled = none
  frames : X.A.frames = some X.stack
  stk : X.stack = X.outer ∨ (X.stack = X.env :: X.outer ∧ X.env.frame = some X.env.locals)
  exf : ∀ b ∈ X.ex, b ≠ X.env.locals ∧ ∀ x c, X.env.cells.lookup x = some c → c ≠ b
  bs : ∀ b o, X.base.get? b = some o → X.s₀.heap.get? b = some o ∧ X.H₀ b = none
  bsz : X.base.objs.size ≤ X.s₀.heap.objs.size
  noex : ∀ b o, X.base.get? b = some o → b ∉ X.ex
  exfs : ∀ b ∈ X.ex, b ∉ X.fs
  funs : X.s₀.heap.FunFrames X.base X.outer
  frf : ∀ b ∈ X.fs, X.H₀ b = none

structure Inv (X : Cx) (pins : List (Addr × Obj)) (σ : List (Option V)) (H : Hp) (s : Shared) : Prop where
  ok : X.Ok
  os : s.os = X.s₀.os
  bare : AllBare s.gens
  base : Un X.fs X.ex X.H₀ H X.s₀.heap s.heap
  loc : ∃ m, s.heap.Ns X.env.locals m ∧ ∀ (i : Nat) (x : Str) (v : V), X.N[i]? = some x → σ[i]? = some (some v) → Vis X.env.scope x → ∃ u, RelV v u ∧ Look X.env s.heap m x u
  cell : ∀ x c, X.env.cells.lookup x = some c → ∃ v, s.heap.IsCell c v
  free : H X.env.locals = none
  freeC : ∀ x c, X.env.cells.lookup x = some c → H c = none
  pin : ∀ p ∈ X.pn ++ pins, s.heap.get? p.1 = some p.2 ∧ H p.1 = none ∧ p.1 ≠ X.env.locals ∧ p.1 ∉ X.fs ∧ ∀ v, p.2.data ≠ .cell v
  hok : HOk X.prog X.w H s.heap
  len : σ.length = X.N.length

section
variable {X : Cx} {pins : List (Addr × Obj)} {σ : List (Option V)} {H H' : Hp} {s : Shared} {h' : Heap}

theorem Cx.Ok.nofr (ok : X.Ok) {b : Addr} {o : Obj} (e : X.base.get? b = some o) : b ∉ X.fs := fun hb => by
  have := (ok.funs.mem hb).1
  rw [e] at this; cases this
theorem Inv.bs (I : Inv X pins σ H s) : ∀ b o, X.base.get? b = some o → s.heap.get? b = some o ∧ H b = none := fun b o e =>
  ⟨I.base.keep b o (I.ok.bs b o e).1 (I.ok.bs b o e).2 (I.ok.nofr e) (I.ok.noex b o e), I.base.free b o (I.ok.bs b o e).1 (I.ok.bs b o e).2 (I.ok.noex b o e)⟩
theorem Inv.bk (I : Inv X pins σ H s) : ∀ b o, X.base.get? b = some o → s.heap.get? b = some o := fun b o e => (I.bs b o e).1
theorem Inv.mod (I : Inv X pins σ H s) : Mod X.K X.mg X.base := I.ok.mod
theorem Inv.kIn (I : Inv X pins σ H s) : X.K.In s.heap := I.ok.mod.kin.keeps I.bk
theorem Inv.lt (I : Inv X pins σ H s) : X.env.locals < s.heap.objs.size := let ⟨_, hn, _⟩ := I.loc; hn.lt
theorem Inv.sz (I : Inv X pins σ H s) : X.s₀.heap.objs.size ≤ s.heap.objs.size := Nat.le_trans I.ok.above (Nat.le_of_lt I.lt)
theorem Inv.nofs (I : Inv X pins σ H s) {a : Addr} (h : s.heap.objs.size ≤ a) : a ∉ X.fs := fun hb => by
  obtain ⟨_, o, ho, _⟩ := I.ok.funs.mem hb
  exact absurd (Nat.lt_of_lt_of_le (Heap.lt_size ho) (Nat.le_trans I.sz h)) (Nat.lt_irrefl _)
theorem Inv.cne (I : Inv X pins σ H s) : ∀ x c, X.env.cells.lookup x = some c → c ≠ X.env.locals := fun x c e z => by
  obtain ⟨v, o, ho, hd⟩ := I.cell x c e
  obtain ⟨m, ⟨o', es, ep, ho', hd', _⟩, _⟩ := I.loc
  rw [z, ho'] at ho; cases ho; rw [hd'] at hd; cases hd
theorem Inv.funs (I : Inv X pins σ H s) : s.heap.FunFrames X.base X.outer := by
  have all : ∀ (l : List Env), (∀ b ∈ frs l, b ∈ X.fs) → X.s₀.heap.FunFrames X.base l → s.heap.FunFrames X.base l := by
    intro l
    induction l with
    | nil => intro _ _; trivial
    | cons env r ih =>
      intro hs hl
      obtain ⟨hk, ⟨L, o, hf, hn, ho, hd⟩, hr⟩ := hl
      have hL : L ∈ X.fs := hs L (by unfold frs; rw [List.filterMap_cons, hf]; exact List.mem_cons_self)
      obtain ⟨sl, e⟩ := I.base.slot L o ho (I.ok.frf L hL) hL fun z => I.ok.exfs L z hL
      exact ⟨hk, ⟨L, _, hf, hn, e, hd⟩, ih (fun b hb => hs b (by unfold frs; rw [List.filterMap_cons, hf]; exact List.mem_cons_of_mem _ hb)) hr⟩
  exact all X.outer (fun _ hb => hb) I.ok.funs

/-- the frames that run, for a call -/
theorem Inv.stack (I : Inv X pins σ H s) : s.heap.FunFrames X.base X.stack := by
  rcases I.ok.stk with e | ⟨e, hf⟩
  · rw [e]; exact I.funs
  · rw [e]
    obtain ⟨m, hn, _⟩ := I.loc
    refine .cons (by rw [I.ok.kind]; decide) hf hn ?_ I.funs
    exact Heap.get?_none_of_le (Nat.le_trans I.ok.bsz I.ok.above)
theorem Inv.stkSub (I : Inv X pins σ H s) : ∀ b ∈ frs X.stack, b ∈ X.env.locals :: X.fs := fun b hb => by
  rcases I.ok.stk with e | ⟨e, hf⟩
  · rw [e] at hb; exact List.mem_cons_of_mem _ hb
  · rw [e] at hb
    unfold frs at hb
    rw [List.filterMap_cons, hf] at hb
    exact hb
theorem Inv.stkFree (I : Inv X pins σ H s) : ∀ b ∈ frs X.stack, H b = none := fun b hb => by
  rcases List.mem_cons.mp (I.stkSub b hb) with e | hb
  · rw [e]; exact I.free
  · obtain ⟨_, o, ho, _⟩ := I.ok.funs.mem hb
    exact I.base.free b o ho (I.ok.frf b hb) fun z => I.ok.exfs b z hb

/-- THE STEP: the untracked objects but the frame and the records at ch are kept (the callers' frames up to slots), the frame's map is kept, the new abstract heap is held -/
theorem Inv.step {g' : Array GenState} {t' : Nat} {d' : Drawn} {ch : List Addr} (I : Inv X pins σ H s)
    (hch : ∀ b ∈ ch, (b ∈ X.ex ∨ X.s₀.heap.objs.size ≤ b) ∧ b ≠ X.env.locals ∧ (∀ x c, X.env.cells.lookup x = some c → c ≠ b) ∧ ∀ p ∈ X.pn ++ pins, p.1 ≠ b)
    (keep : ∀ b o, b ≠ X.env.locals → b ∉ X.fs → b ∉ ch → s.heap.get? b = some o → H b = none → h'.get? b = some o)
    (slot : ∀ b o, b ≠ X.env.locals → b ∈ X.fs → b ∉ ch → s.heap.get? b = some o → H b = none → ∃ sl, h'.get? b = some { o with slots := sl }) (free : ∀ b o, b ∉ ch → s.heap.get? b = some o → H b = none → H' b = none)
    (there : ∀ b o, b ∉ ch → s.heap.get? b = some o → ∃ o', h'.get? b = some o')
    (tups : ∀ b xs, H b = some (.tup xs) → H' b = some (.tup xs)) (frzs : ∀ b o u, H b = some (.frz o u) → H' b = some (.frz o u)) (tbls : ∀ b ps, H b = some (.tbl ps) → ∃ more, H' b = some (.tbl (ps ++ more)))
    (ns : ∀ m, s.heap.Ns X.env.locals m → h'.Ns X.env.locals m) (hok : HOk X.prog X.w H' h') (hg : AllBare g') :
    Inv X pins σ H' { s with heap := h', gens := g', drawn := d', toks := t' } := by
  have neL : ∀ b o, X.s₀.heap.get? b = some o → b ≠ X.env.locals := fun b o e => Nat.ne_of_lt (Nat.lt_of_lt_of_le (Heap.lt_size e) I.ok.above)
  have neC : ∀ b o, X.s₀.heap.get? b = some o → b ∉ X.ex → b ∉ ch := fun b o e hx hb => by
    rcases (hch b hb).1 with z | z
    · exact hx z
    · exact absurd (Nat.lt_of_lt_of_le (Heap.lt_size e) z) (Nat.lt_irrefl _)
  have cellK : ∀ x c, X.env.cells.lookup x = some c → ∀ v, s.heap.IsCell c v → h'.IsCell c v := fun x c e v ⟨o, ho, hd⟩ => by
    have nch : c ∉ ch := fun z => (hch c z).2.2.1 x c e rfl
    by_cases hc : c ∈ X.fs
    · obtain ⟨sl, q⟩ := slot c o (I.cne x c e) hc nch ho (I.freeC x c e)
      exact ⟨_, q, hd⟩
    · exact ⟨o, keep c o (I.cne x c e) hc nch ho (I.freeC x c e), hd⟩
  refine ⟨I.ok, I.os, hg, ⟨fun b o e n hb hx => ?_, fun b o e n hb hx => ?_, fun b o e n hx => ?_, fun b o e hx => ?_, fun b xs e => tups b xs (I.base.tups b xs e), fun b o xs e => frzs b o xs (I.base.frzs b o xs e), fun b ps e => ?_⟩, ?_, fun x c e => ?_, ?_, fun x c e => ?_, fun p hp => ?_, hok, I.len⟩
  · exact keep b o (neL b o e) hb (neC b o e hx) (I.base.keep b o e n hb hx) (I.base.free b o e n hx)
  · obtain ⟨sl, e1⟩ := I.base.slot b o e n hb hx
    obtain ⟨sl', e2⟩ := slot b _ (neL b o e) hb (neC b o e hx) e1 (I.base.free b o e n hx)
    exact ⟨sl', e2⟩
  · obtain ⟨o', e1⟩ := I.base.there b o e hx
    exact free b o' (neC b o e hx) e1 (I.base.free b o e n hx)
  · obtain ⟨o', e1⟩ := I.base.there b o e hx
    exact there b o' (neC b o e hx) e1
  · obtain ⟨m1, e1⟩ := I.base.tbls b ps e
    obtain ⟨m2, e2⟩ := tbls b _ e1
    exact ⟨m1 ++ m2, by rw [e2, Array.append_assoc]⟩
  · obtain ⟨m, hn, hl⟩ := I.loc
    refine ⟨m, ns m hn, fun i x v e1 e2 e3 => ?_⟩
    obtain ⟨u, r, l⟩ := hl i x v e1 e2 e3
    refine ⟨u, r, ?_⟩
    rcases l with l | ⟨k, c, e, z⟩
    · exact .inl l
    · exact .inr ⟨k, c, e, cellK x c e _ z⟩
  · obtain ⟨v, z⟩ := I.cell x c e
    exact ⟨v, cellK x c e v z⟩
  · obtain ⟨m, ⟨o, _, _, ho, _⟩, _⟩ := I.loc
    exact free _ o (fun z => (hch _ z).2.1 rfl) ho I.free
  · obtain ⟨v, o, ho, hd⟩ := I.cell x c e
    exact free c o (fun z => (hch c z).2.2.1 x c e rfl) ho (I.freeC x c e)
  · obtain ⟨e, n, ne, nf, d⟩ := I.pin p hp
    have nch : p.1 ∉ ch := fun z => (hch p.1 z).2.2.2 p hp rfl
    exact ⟨keep p.1 p.2 ne nf nch e n, free p.1 p.2 nch e n, ne, nf, d⟩
/-- .. where the frame's own object is kept too -/
theorem Inv.un {t' : Nat} (I : Inv X pins σ H s) (u : Un X.fs [] H H' s.heap h') (hok : HOk X.prog X.w H' h') : Inv X pins σ H' { s with heap := h', toks := t' } := by
  obtain ⟨m, ⟨o, es, ep, ho, r⟩, _⟩ := id I.loc
  obtain ⟨sl, hL⟩ := u.any ho I.free (by simp)
  exact I.step (g' := s.gens) (d' := s.drawn) (ch := []) (fun _ z => nomatch z) (fun b o _ hb _ e n => u.keep b o e n hb (by simp)) (fun b o _ hb _ e n => u.slot b o e n hb (by simp)) (fun b o _ e n => u.free b o e n (by simp)) (fun b o _ e => u.there b o e (by simp)) u.tups u.frzs u.tbls (fun m' hm => by
    obtain ⟨o', es', ep', ho', r'⟩ := hm
    rw [ho] at ho'; cases ho'
    exact ⟨_, es', ep', hL, r'⟩) hok I.bare
/-- behind a call (or a comprehension's block): the slots of this frame may have changed too, the records at ch may have turned -/
theorem Inv.call {g' : Array GenState} {t' : Nat} {d' : Drawn} {ch : List Addr} (I : Inv X pins σ H s) (u : Un (frs X.stack) ch H H' s.heap h') (hok : HOk X.prog X.w H' h') (hg : AllBare g')
    (hch : ∀ b ∈ ch, (b ∈ X.ex ∨ X.s₀.heap.objs.size ≤ b) ∧ b ≠ X.env.locals ∧ (∀ x c, X.env.cells.lookup x = some c → c ≠ b) ∧ ∀ p ∈ X.pn ++ pins, p.1 ≠ b) :
    Inv X pins σ H' { s with heap := h', gens := g', drawn := d', toks := t' } := by
  obtain ⟨m, ⟨o, es, ep, ho, r⟩, _⟩ := id I.loc
  obtain ⟨sl, hL⟩ := u.any ho I.free fun z => (hch _ z).2.1 rfl
  exact I.step (ch := ch) hch (fun b o hL hb hc e n => u.keep b o e n (fun z => (List.mem_cons.mp (I.stkSub b z)).elim hL hb) hc) (fun b o _ _ hc e n => u.any e n hc) (fun b o hc e n => u.free b o e n hc) (fun b o hc e => u.there b o e hc) u.tups u.frzs u.tbls (fun m' hm => by
    obtain ⟨o', es', ep', ho', r'⟩ := hm
    rw [ho] at ho'; cases ho'
    exact ⟨_, es', ep', hL, r'⟩) hok hg
/-- an untracked record of ours (an iterator) has turned -/
theorem Inv.turned {t' : Nat} {it : Addr} (I : Inv X pins σ H s) (k : ∀ b o, b ≠ it → s.heap.get? b = some o → h'.get? b = some o) (hn : H it = none) (hL : it ≠ X.env.locals)
    (h1 : it ∈ X.ex ∨ X.s₀.heap.objs.size ≤ it) (h2 : ∀ x c, X.env.cells.lookup x = some c → c ≠ it) (h3 : ∀ p ∈ X.pn ++ pins, p.1 ≠ it) : Inv X pins σ H { s with heap := h', toks := t' } := by
  have nit : ∀ b u, H b = some u → b ≠ it := fun b u e z => by rw [z, hn] at e; cases e
  refine I.step (g' := s.gens) (d' := s.drawn) (ch := [it]) (fun b hb => ?_) (fun b o _ _ hc e _ => k b o (fun z => hc (by simp [z])) e) (fun b o _ _ hc e _ => ⟨o.slots, k b o (fun z => hc (by simp [z])) e⟩) (fun _ _ _ _ n => n)
    (fun b o hc e => ⟨o, k b o (fun z => hc (by simp [z])) e⟩) (fun _ _ e => e) (fun _ _ _ e => e) (fun b ps e => ⟨#[], by rw [e]; simp⟩) (fun m hm => ?_) (fun b u e => ?_) I.bare
  · have e : b = it := by simpa using hb
    subst e
    exact ⟨h1, hL, h2, h3⟩
  · obtain ⟨o, es, ep, ho, r⟩ := hm
    exact ⟨o, es, ep, k _ o (Ne.symm hL) ho, r⟩
  · refine (I.hok b u e).stay (fun c v hc q => k c v ?_ q) (fun _ q => q) fun _ _ q => q
    rcases hc with z | z
    · rw [z]; exact nit b u e
    · exact nit c _ z
theorem Inv.tok (I : Inv X pins σ H s) (t : Nat) : Inv X pins σ H { s with toks := t } := I.un (h' := s.heap) (t' := t) Un.refl I.hok
/-- all objects kept -/
theorem Inv.kept {t' : Nat} (I : Inv X pins σ H s) (k : ∀ b u, s.heap.get? b = some u → h'.get? b = some u) : Inv X pins σ H { s with heap := h', toks := t' } := I.un (Un.kept k) (I.hok.kept k)
/-- a new object laid and tracked -/
theorem Inv.laid {a : Addr} {o : HO} {t' : Nat} (I : Inv X pins σ H s) (k : ∀ b u, s.heap.get? b = some u → h'.get? b = some u) (hp : s.heap.objs.size ≤ a) (new : ObjOk X.prog X.w (upd H a o) h' a o) :
    Inv X pins σ (upd H a o) { s with heap := h', toks := t' } := I.un (Un.laid k hp (I.hok.fresh hp)) (I.hok.laid k hp new)
/-- an object written -/
theorem Inv.write {x e : Addr} {o : HO} {t' : Nat} (I : Inv X pins σ H s) (mu : Mut (H x)) (he : e = x ∨ H e = some (.own x)) (k : ∀ b u, b ≠ e → s.heap.get? b = some u → h'.get? b = some u) (heo : ∃ u, h'.get? e = some u)
    (new : ObjOk X.prog X.w (upd H x o) h' x o) : Inv X pins σ (upd H x o) { s with heap := h', toks := t' } := I.un (Un.write mu he k heo) (I.hok.write mu he k heo new)
theorem Inv.pins_of {pins' : List (Addr × Obj)} (I : Inv X pins σ H s) (h : ∀ p ∈ pins', s.heap.get? p.1 = some p.2 ∧ H p.1 = none ∧ p.1 ≠ X.env.locals ∧ p.1 ∉ X.fs ∧ ∀ v, p.2.data ≠ .cell v) : Inv X pins' σ H s :=
  ⟨I.ok, I.os, I.bare, I.base, I.loc, I.cell, I.free, I.freeC, fun p hp => (List.mem_append.mp hp).elim (fun z => I.pin p (List.mem_append_left _ z)) (h p), I.hok, I.len⟩

theorem nodup_ix {N : List Str} (hN : N.Nodup) {i j : Nat} {x : Str} (a : N[i]? = some x) (b : N[j]? = some x) : i = j := by
  obtain ⟨h1, e1⟩ := List.getElem?_eq_some_iff.mp a
  obtain ⟨h2, e2⟩ := List.getElem?_eq_some_iff.mp b
  exact (List.getElem_inj hN).mp (e1.trans e2.symm)

/-- a name is stored; what changed -/
theorem store_ok2 {M : Model} {A : Around} {E : Value → Shared → Prop} {i : Nat} {x : Str} {v : V} {u : Value} {Q : Unit → Shared → Prop} (I : Inv X pins σ H s) (hN : X.N.Nodup) (hi : X.N[i]? = some x) (hx : Loc X.env.scope x) (r : RelV v u)
    (h : ∀ s', Inv X pins (σ.set i (some v)) H s' → (∃ a, Heap.SameBut a s.heap s'.heap ∧ (a = X.env.locals ∨ X.env.cells.lookup x = some a)) → Q () s') (hf : X.fn x = true ∨ X.env.scope.names.lookup x = some .local := by first | exact .inl rfl | exact .inr rfl | assumption) : wpAny M A (storeName X.env x u) Q E s := by
  obtain ⟨m, hn, hl⟩ := id I.loc
  have hcls : (X.env.scope.kind == .class || (X.env.scope.kind == .module && X.env.locals != X.env.globals)) = false := by rw [I.ok.kind]; rfl
  have hiσ : i < σ.length := by rw [I.len]; exact (List.getElem?_eq_some_iff.mp hi).1
  have cne := I.cne
  have tracked : ∀ {a : Addr} {h' : Heap}, (∃ o, s.heap.get? a = some o ∧ H a = none) → Heap.SameBut a s.heap h' → HOk X.prog X.w H h' := fun {a h'} ha hs b ob e => by
    obtain ⟨_, _, hfree⟩ := ha
    refine (I.hok b ob e).stay (fun c w' hc q => (hs.2 c ?_).trans q) (fun _ q => q) fun _ _ q => q
    rintro rfl
    rcases hc with rfl | hc
    · rw [hfree] at e; cases e
    · rw [hfree] at hc; cases hc
  rcases hx with hk | hk
  · refine wpAny_storeName_local hk hn (fun h' hn' hs => ?_) hcls
    obtain ⟨oL, _, _, hoL, _⟩ := id hn
    refine h _ ⟨I.ok, I.os, I.bare, ⟨fun b o e n hb hx => ?_, fun b o e n hb hx => ?_, I.base.free, fun b o e hx => ?_, I.base.tups, I.base.frzs, I.base.tbls⟩, ⟨_, hn', fun j y v' e1 e2 e3 => ?_⟩, fun y c e => ?_, I.free, I.freeC, fun p hp => ?_, tracked ⟨oL, hoL, I.free⟩ hs, by simpa using I.len⟩ ⟨_, hs, .inl rfl⟩
    · exact (hs.2 b (Nat.ne_of_lt (Nat.lt_of_lt_of_le (Heap.lt_size e) I.ok.above))).trans (I.base.keep b o e n hb hx)
    · obtain ⟨sl, e1⟩ := I.base.slot b o e n hb hx
      exact ⟨sl, (hs.2 b (Nat.ne_of_lt (Nat.lt_of_lt_of_le (Heap.lt_size e) I.ok.above))).trans e1⟩
    · obtain ⟨o', e1⟩ := I.base.there b o e hx
      exact ⟨o', (hs.2 b (Nat.ne_of_lt (Nat.lt_of_lt_of_le (Heap.lt_size e) I.ok.above))).trans e1⟩
    · by_cases hj : j = i
      · subst hj
        rw [hi] at e1; cases e1
        rw [List.getElem?_set_self hiσ] at e2
        cases e2
        exact ⟨u, r, .inl ⟨hk, by simp⟩⟩
      · rw [List.getElem?_set_ne (Ne.symm hj)] at e2
        obtain ⟨u', r', q⟩ := hl j y v' e1 e2 e3
        refine ⟨u', r', ?_⟩
        rcases q with ⟨k, e⟩ | ⟨k, c, e, z⟩
        · refine .inl ⟨k, ?_⟩
          have : y ≠ x := fun e => hj (nodup_ix hN e1 (e ▸ hi))
          simp [this, e]
        · exact .inr ⟨k, c, e, z.sameBut hs (cne y c e)⟩
    · obtain ⟨w', z⟩ := I.cell y c e
      exact ⟨w', z.sameBut hs (cne y c e)⟩
    · obtain ⟨e, n, ne, nf, d⟩ := I.pin p hp
      exact ⟨(hs.2 p.1 ne).trans e, n, ne, nf, d⟩
  · have hfn : X.fn x = true := by
      rcases hf with z | z
      · exact z
      · rw [z] at hk; cases hk
    obtain ⟨c, hc⟩ := I.ok.has x (.inl hk)
    obtain ⟨w', z⟩ := I.cell x c hc
    refine wpAny_storeName_cell I.ok.kind hk hc z (fun h' hc' hs => ?_)
    obtain ⟨oc, hoc, hocd⟩ := id z
    refine h { s with heap := h' } ⟨I.ok, I.os, I.bare, ⟨fun b o e n hb hx => ?_, fun b o e n hb hx => ?_, I.base.free, fun b o e hx => ?_, I.base.tups, I.base.frzs, I.base.tbls⟩, ⟨m, hn.sameBut hs (Ne.symm (cne x c hc)), fun j y v' e1 e2 e3 => ?_⟩, fun y c' e => ?_, I.free, I.freeC, fun p hp => ?_, tracked ⟨oc, hoc, I.freeC x c hc⟩ hs, by simpa using I.len⟩ ⟨c, hs, .inr hc⟩
    · exact (hs.2 b (Nat.ne_of_lt (Nat.lt_of_lt_of_le (Heap.lt_size e) (I.ok.cab x c hfn hc)))).trans (I.base.keep b o e n hb hx)
    · obtain ⟨sl, e1⟩ := I.base.slot b o e n hb hx
      exact ⟨sl, (hs.2 b (Nat.ne_of_lt (Nat.lt_of_lt_of_le (Heap.lt_size e) (I.ok.cab x c hfn hc)))).trans e1⟩
    · obtain ⟨o', e1⟩ := I.base.there b o e hx
      exact ⟨o', (hs.2 b (Nat.ne_of_lt (Nat.lt_of_lt_of_le (Heap.lt_size e) (I.ok.cab x c hfn hc)))).trans e1⟩
    · by_cases hj : j = i
      · subst hj
        rw [hi] at e1; cases e1
        rw [List.getElem?_set_self hiσ] at e2
        cases e2
        exact ⟨u, r, .inr ⟨.inl hk, c, hc, hc'⟩⟩
      · rw [List.getElem?_set_ne (Ne.symm hj)] at e2
        obtain ⟨u', r', q⟩ := hl j y v' e1 e2 e3
        refine ⟨u', r', ?_⟩
        rcases q with q | ⟨k, c', e, z'⟩
        · exact .inl q
        · refine .inr ⟨k, c', e, z'.sameBut hs ?_⟩
          rintro rfl
          exact hj (nodup_ix hN e1 (I.ok.inj _ _ _ e hc ▸ hi))
    · by_cases hcc : c' = c
      · subst hcc; exact ⟨_, hc'⟩
      · obtain ⟨w2, z2⟩ := I.cell y c' e
        exact ⟨w2, z2.sameBut hs hcc⟩
    · obtain ⟨e, n, ne, nf, d⟩ := I.pin p hp
      refine ⟨(hs.2 p.1 ?_).trans e, n, ne, nf, d⟩
      intro q
      rw [q, hoc] at e
      have q' : oc = p.2 := Option.some.inj e
      exact d w' (by rw [← q']; exact hocd)
theorem store_ok {M : Model} {A : Around} {E : Value → Shared → Prop} {i : Nat} {x : Str} {v : V} {u : Value} {Q : Unit → Shared → Prop} (I : Inv X pins σ H s) (hN : X.N.Nodup) (hi : X.N[i]? = some x) (hx : Loc X.env.scope x) (r : RelV v u)
    (h : ∀ s', Inv X pins (σ.set i (some v)) H s' → Q () s') (hf : X.fn x = true ∨ X.env.scope.names.lookup x = some .local := by first | exact .inl rfl | exact .inr rfl | assumption) : wpAny M A (storeName X.env x u) Q E s :=
  store_ok2 I hN hi hx r (fun s' I' _ => h s' I') hf
end

/-! ### the judgements -/
/-- an exception: its class, its own dict's address (where it has one), the abstract heap behind it -/
abbrev XK := Value → Option Addr → Hp → Prop
abbrev St := List (Option V)
abbrev VK := V → Hp → Prop
/-- an expression's reading; a test's; an argument list's -/
abbrev TE := St → Hp → VK → Prop
abbrev TT := St → Hp → (Bool → Hp → Prop) → Prop
abbrev TA := St → Hp → (List V → Hp → Prop) → Prop
/-- what is wanted behind a statement -/
structure Ends where
  nx : St → Hp → Prop
  rt : VK
  bk : St → Hp → Prop := fun _ _ => False
  ct : St → Hp → Prop := fun _ _ => False
abbrev TS := Ends → St → Hp → Prop

def EP (X : Cx) (pins : List (Addr × Obj)) (σ : St) (Q : VK) (u : Value) (s' : Shared) : Prop := ∃ v H', Inv X pins σ H' s' ∧ RelV v u ∧ Q v H'
def TP (X : Cx) (pins : List (Addr × Obj)) (σ : St) (Q : Bool → Hp → Prop) (b : Bool) (s' : Shared) : Prop := ∃ H', Inv X pins σ H' s' ∧ Q b H'
def AP (X : Cx) (pins : List (Addr × Obj)) (σ : St) (Q : List V → Hp → Prop) (us : List Value) (s' : Shared) : Prop := ∃ vs H', Inv X pins σ H' s' ∧ Vals vs us ∧ Q vs H'
def SP (X : Cx) (pins : List (Addr × Obj)) (D : Ends) (f : Flow) (s' : Shared) : Prop :=
  match f with
  | .next => ∃ σ' H', Inv X pins σ' H' s' ∧ D.nx σ' H'
  | .brk => ∃ σ' H', Inv X pins σ' H' s' ∧ D.bk σ' H'
  | .cont => ∃ σ' H', Inv X pins σ' H' s' ∧ D.ct σ' H'
  | .ret u => ∃ v σ' H', Inv X pins σ' H' s' ∧ RelV v u ∧ D.rt v H'

def PE (X : Cx) (e : Expr) (t : TE) : Prop :=
  ∀ (pins : List (Addr × Obj)) (s : Shared) (σ : St) (H : Hp) (Q : VK), Inv X pins σ H s → t σ H Q → wpAny (model X.prog X.w) X.A (eval e X.env) (EP X pins σ Q) X.xe s
def PT (X : Cx) (e : Expr) (t : TT) : Prop :=
  ∀ (pins : List (Addr × Obj)) (s : Shared) (σ : St) (H : Hp) (Q : Bool → Hp → Prop), Inv X pins σ H s → t σ H Q → wpAny (model X.prog X.w) X.A (isTrue e X.env (eval e X.env)) (TP X pins σ Q) X.xe s
/-- a test whatever its 'whole' is (and, or) -/
def PW (X : Cx) (e : Expr) (t : TT) : Prop :=
  ∀ (whole : Sem Value) (pins : List (Addr × Obj)) (s : Shared) (σ : St) (H : Hp) (Q : Bool → Hp → Prop), Inv X pins σ H s → t σ H Q → wpAny (model X.prog X.w) X.A (isTrue e X.env whole) (TP X pins σ Q) X.xe s
theorem PW.pt {X : Cx} {e : Expr} {t : TT} (h : PW X e t) : PT X e t := h _
/-- an argument list (no star), from the left -/
def PA (X : Cx) (es : List Expr) (t : TA) : Prop :=
  ∀ (pos : Pos) (pins : List (Addr × Obj)) (s : Shared) (σ : St) (H : Hp) (Q : List V → Hp → Prop), Inv X pins σ H s → t σ H Q → wpAny (model X.prog X.w) X.A (spliced (backTo pos (starEach es X.env))) (AP X pins σ Q) X.xe s
def PS (X : Cx) (st : Stmt) (t : TS) : Prop :=
  ∀ (pins : List (Addr × Obj)) (s : Shared) (σ : St) (H : Hp) (D : Ends), Inv X pins σ H s → t D σ H → wpAny (model X.prog X.w) X.A (exec st X.env) (SP X pins D) X.xe s
def PSs (X : Cx) (st : List Stmt) (t : TS) : Prop :=
  ∀ (pins : List (Addr × Obj)) (s : Shared) (σ : St) (H : Hp) (D : Ends), Inv X pins σ H s → t D σ H → wpAny (model X.prog X.w) X.A (execs st X.env) (SP X pins D) X.xe s
/-- weaken the end -/
theorem thn {α : Type} {t : Sem α} {Q Q' : α → Shared → Prop} {M : Model} {A : Around} {E : Value → Shared → Prop} {s : Shared} (h : wpAny M A t Q E s) (hQ : ∀ a s, Q a s → Q' a s) : wpAny M A t Q' E s := wpAny_mono h hQ fun _ _ x => x
end L2

namespace L2
open PySem PySem.Spec PyProof.Rows
section
variable {X : Cx}

/-- two expressions in a row -/
theorem bin {a b : Expr} {ta tb : TE} (ha : PE X a ta) (hb : PE X b tb) {pins : List (Addr × Obj)} {s : Shared} {σ : St} {H : Hp} {R : V → V → Hp → Prop} (I : Inv X pins σ H s) (h : ta σ H fun x H1 => tb σ H1 fun y H2 => R x y H2)
    {α : Type} {Q : α → Shared → Prop} {f : Value → Value → Sem α}
    (hf : ∀ v u s2 x y H2, Inv X pins σ H2 s2 → RelV x v → RelV y u → R x y H2 → wpAny (model X.prog X.w) X.A (f v u) Q X.xe s2) :
    wpAny (model X.prog X.w) X.A (eval a X.env) (fun v s₁ => wpAny (model X.prog X.w) X.A (eval b X.env) (fun u s₂ => wpAny (model X.prog X.w) X.A (f v u) Q X.xe s₂) X.xe s₁) X.xe s := by
  refine thn (ha pins s σ H _ I h) fun v s1 ⟨x, H1, I1, r1, q1⟩ => ?_
  refine thn (hb pins s1 σ H1 _ I1 q1) fun u s2 ⟨y, H2, I2, r2, q2⟩ => ?_
  exact hf v u s2 x y H2 I2 r1 r2 q2

/-! ### names and constants -/
def tVar (i : Nat) : TE := fun σ H Q => ∃ v, σ[i]? = some (some v) ∧ Q v H
def tC (v : V) : TE := fun _ H Q => Q v H
theorem pe_var {i : Nat} {x : Str} {pos : Pos} (hN : X.N[i]? = some x) (hv : Vis X.env.scope x) (hd : (x == ("__debug__" : Str)) = false := by decide) (hcd : (x == ("__classdict__" : Str)) = false := by decide) : PE X (.Name x pos) (tVar i) := by
  intro pins s σ H Q I h
  obtain ⟨v, e, h⟩ := h
  obtain ⟨m, hn, hl⟩ := I.loc
  obtain ⟨u, r, l⟩ := hl i x v hN e hv
  have fin : EP X pins σ Q u s := ⟨v, H, I, r, h⟩
  rcases l with ⟨hk, hm⟩ | ⟨hk, c, hc, hcell⟩
  · exact wpAny_Name (wpAny_loadName_local I.ok.kind hk hn hm fin) hd
  · rcases hk with hk | hk
    · exact wpAny_Name (wpAny_loadName_cell I.ok.kind hk hc hcell fin) hd
    · exact wpAny_Name (wpAny_loadName_free I.ok.kind hk hc hcell fin hcd) hd
theorem pe_int {i j pos} : PE X (.Constant (.int i) j pos) (tC (.int i)) := fun _ _ _ H _ I h => wpAny_Constant_int ⟨.int i, H, I.tok _, ⟨_, rfl⟩, h⟩
theorem pe_bl {b j pos} : PE X (.Constant (.bool b) j pos) (tC (.bl b)) := fun _ _ _ H _ I h => Constant_bool ⟨.bl b, H, I, rfl, h⟩
theorem pe_non {j pos} : PE X (.Constant .none j pos) (tC .non) := fun _ _ _ H _ I h => Constant_none ⟨.non, H, I, rfl, h⟩
theorem pe_str {x j pos} : PE X (.Constant (.str x) j pos) (tC (.str x)) := fun _ _ _ H _ I h => Calls.Constant_str ⟨.str x, H, I.tok _, ⟨_, rfl⟩, h⟩

/-- a global name of the def -/
def Gl (X : Cx) (x : Str) : Prop := X.env.kindOf x = some .globalImplicit
theorem ld_glob {E : Value → Shared → Prop} {pins : List (Addr × Obj)} {s : Shared} {σ : St} {H : Hp} {x : Str} {u : Value} {pos : Pos} {Q : Value → Shared → Prop} (I : Inv X pins σ H s) (hg : Gl X x) (hm : X.mg x = some u) (h : Q u s)
    (hd : (x == ("__debug__" : Str)) = false := by decide) : wpAny (model X.prog X.w) X.A (eval (.Name x pos) X.env) Q E s :=
  Calls.Name_function_global I.ok.kind hg (Calls.loadGlobal_global (by rw [I.ok.glob]; exact I.mod.glob.keeps I.bk) hm h) hd
theorem ld_blt {E : Value → Shared → Prop} {pins : List (Addr × Obj)} {s : Shared} {σ : St} {H : Hp} {x : Str} {u : Value} {pos : Pos} {Q : Value → Shared → Prop} (I : Inv X pins σ H s) (hg : Gl X x) (hm : X.mg x = none) (hv : bootBuiltins x = some u) (h : Q u s)
    (hn : x ≠ "__name__" := by decide) (hd : (x == ("__debug__" : Str)) = false := by decide) : wpAny (model X.prog X.w) X.A (eval (.Name x pos) X.env) Q E s := by
  obtain ⟨mb, h1, h2⟩ := I.mod.blt
  exact Calls.Name_function_global I.ok.kind hg (Calls.loadGlobal_builtin (by rw [I.ok.glob]; exact I.mod.glob.keeps I.bk) hm (by rw [I.ok.blt]; exact h1.keeps I.bk) ((h2 x hn).trans hv) h) hd
/-- a module's constant, a class, a function, as a value -/
theorem pe_glob {x : Str} {v : V} {u : Value} {pos : Pos} (hg : Gl X x) (hm : X.mg x = some u) (r : RelV v u) (hd : (x == ("__debug__" : Str)) = false := by decide) : PE X (.Name x pos) (tC v) :=
  fun _ _ _ H _ I h => ld_glob I hg hm ⟨v, H, I, r, h⟩ hd
theorem pe_bltn {x : Str} {v : V} {u : Value} {pos : Pos} (hg : Gl X x) (hm : X.mg x = none) (hv : bootBuiltins x = some u) (r : RelV v u) (hn : x ≠ "__name__" := by decide) (hd : (x == ("__debug__" : Str)) = false := by decide) : PE X (.Name x pos) (tC v) :=
  fun _ _ _ H _ I h => ld_blt I hg hm hv ⟨v, H, I, r, h⟩ hn hd

/-! ### arithmetic -/
variable {a b : Expr} {ta tb : TE} {pos : Pos}

/-! ### comparisons -/
def PC (X : Cx) (op : CmpOp) (a b : Expr) (t : TE) : Prop :=
  ∀ (pins : List (Addr × Obj)) (s : Shared) (σ : St) (H : Hp) (Q : VK), Inv X pins σ H s → t σ H Q →
    wpAny (model X.prog X.w) X.A (eval a X.env) (fun v s₁ => wpAny (model X.prog X.w) X.A (eval b X.env) (fun u s₂ => wpAny (model X.prog X.w) X.A (compareOp op v u) (EP X pins σ Q) X.xe s₂) X.xe s₁) X.xe s
/-- a comparison as a value, as a test -/
def tB (t : TE) : TT := fun σ H Q => t σ H fun x H1 => ∃ c, x = .bl c ∧ Q c H1
theorem pt_cmp {op : CmpOp} {t : TE} (h : PC X op a b t) (h1 : behindInMarks op b = false := by first | exact nobehind _ (by decide) (by decide) | rfl) : PT X (.Compare a [op] [b] pos) (tB t) := by
  intro pins s σ H Q I hw
  refine wpAny_isTrue_Compare1 (thn (h pins s σ H _ I hw) fun v s1 h1 => thn h1 fun u s2 h2 => thn h2 fun c s3 ⟨x, H1, I1, r1, q1⟩ => ?_) h1
  obtain ⟨d, rfl, q⟩ := q1
  cases r1
  exact wpAny_truthy_bool ⟨H1, I1, q⟩
/-- an expression whose value is a bool, as a test -/
theorem pt_val {e : Expr} {t : TE} (h : PE X e t) (he : ∀ whole, isTrue e X.env whole = (do let v ← whole; standAt e.pos; holding [v] (truthy v)) := by intro _; rfl) : PT X e (tB t) := by
  intro pins s σ H Q I hw
  refine isTrue_plain (thn (h pins s σ H _ I hw) fun v s1 ⟨x, H1, I1, r1, q1⟩ => ?_) (he _)
  obtain ⟨d, rfl, q⟩ := q1
  cases r1
  exact wpAny_truthy_bool ⟨H1, I1, q⟩

/-! ### and, or, not -/
variable {tA tB' : TT} {rest : List Expr}
def tAnd (t u : TT) : TT := fun σ H Q => t σ H fun c H1 => if c = true then u σ H1 Q else Q false H1
def tOr (t u : TT) : TT := fun σ H Q => t σ H fun c H1 => if c = true then Q true H1 else u σ H1 Q
def tNot (t : TT) : TT := fun σ H Q => t σ H fun c H1 => Q (!c) H1
theorem pw_and1 (ha : PT X a tA) : PW X (.BoolOp .And [a] pos) tA := by
  intro wh pins s σ H Q I h
  refine isTrue_and (thn (ha pins s σ H Q I h) fun c s1 e => ?_)
  cases c with
  | true => exact isTrue_and_nil e
  | false => exact e
theorem pw_or1 (ha : PT X a tA) : PW X (.BoolOp .Or [a] pos) tA := by
  intro wh pins s σ H Q I h
  refine isTrue_or (thn (ha pins s σ H Q I h) fun c s1 e => ?_)
  cases c with
  | false => exact isTrue_or_nil e
  | true => exact e
theorem pw_and (ha : PT X a tA) (hb : PW X (.BoolOp .And (b :: rest) pos) tB') : PW X (.BoolOp .And (a :: b :: rest) pos) (tAnd tA tB') := by
  intro wh pins s σ H Q I h
  refine isTrue_and (thn (ha pins s σ H _ I h) fun c s1 ⟨H1, I1, q1⟩ => ?_)
  cases c with
  | true => exact hb wh pins s1 σ H1 Q I1 q1
  | false => exact ⟨H1, I1, q1⟩
theorem pw_or (ha : PT X a tA) (hb : PW X (.BoolOp .Or (b :: rest) pos) tB') : PW X (.BoolOp .Or (a :: b :: rest) pos) (tOr tA tB') := by
  intro wh pins s σ H Q I h
  refine isTrue_or (thn (ha pins s σ H _ I h) fun c s1 ⟨H1, I1, q1⟩ => ?_)
  cases c with
  | true => exact ⟨H1, I1, q1⟩
  | false => exact hb wh pins s1 σ H1 Q I1 q1
theorem pt_not (ha : PT X a tA) : PT X (.UnaryOp .Not a pos) (tNot tA) := by
  intro pins s σ H Q I h
  exact isTrue_not (ha pins s σ H (fun c H1 => Q (!c) H1) I h)
/-- .. as values (bools) -/
def tAndV (ta tb : TE) : TE := fun σ H Q => ta σ H fun x H1 => ∃ c, x = .bl c ∧ if c = true then tb σ H1 Q else Q (.bl false) H1
def tNotV (ta : TE) : TE := fun σ H Q => ta σ H fun x H1 => ∃ c, x = .bl c ∧ Q (.bl (!c)) H1
theorem pe_one {op} {t : TE} (h : PE X a t) : PE X (.BoolOp op [a] pos) t := fun pins s σ H Q I hw => BoolOp_one (h pins s σ H Q I hw)
theorem pe_and (ha : PE X a ta) (hb : PE X (.BoolOp .And (b :: rest) pos) tb) : PE X (.BoolOp .And (a :: b :: rest) pos) (tAndV ta tb) := by
  intro pins s σ H Q I h
  refine BoolOp_and (thn (ha pins s σ H _ I h) fun v s1 ⟨x, H1, I1, r1, q1⟩ => ?_)
  obtain ⟨c, rfl, q1⟩ := q1
  cases r1
  refine wpAny_truthy_bool ?_
  cases c with
  | true => exact hb pins s1 σ H1 Q I1 q1
  | false => exact ⟨.bl false, H1, I1, rfl, q1⟩
theorem pe_not (ha : PE X a ta) : PE X (.UnaryOp .Not a pos) (tNotV ta) := by
  intro pins s σ H Q I h
  refine UnaryOp_ (thn (ha pins s σ H _ I h) fun v s1 ⟨x, H1, I1, r1, q1⟩ => ?_)
  obtain ⟨c, rfl, q1⟩ := q1
  cases r1
  exact not_of (wpAny_truthy_bool ⟨.bl (!c), H1, I1, rfl, q1⟩)
/-- a if t else b -/
def tIf (t : TT) (ta tb : TE) : TE := fun σ H Q => t σ H fun c H1 => if c = true then ta σ H1 Q else tb σ H1 Q
theorem pe_ifExp {c : Expr} (hc : PT X c tA) (ha : PE X a ta) (hb : PE X b tb) : PE X (.IfExp c a b pos) (tIf tA ta tb) := by
  intro pins s σ H Q I h
  refine wpAny_IfExp (thn (hc pins s σ H _ I h) fun d s1 ⟨H1, I1, q1⟩ => ?_)
  cases d with
  | true => exact ha pins s1 σ H1 Q I1 q1
  | false => exact hb pins s1 σ H1 Q I1 q1
end
end L2

namespace L2
open PySem PySem.Spec PyProof.Rows

/-! ### a list, a tuple that is read: tracked, frozen, or an object of the module -/
def SqL (K : PySem.W.Frag) (H : Hp) (a : Addr) (xs : List V) : Prop :=
  Rd H a (.lst xs) ∨
    ∃ (o : Obj) (its : Array Value) (n : Nat), K.lookup a = some o ∧ o.cls = .type "list" ∧ o.dict = none ∧ o.data = .seq its n ∧ its.size ≤ sizeLine ∧ Vals xs its.toList
def SqT (K : PySem.W.Frag) (H : Hp) (a : Addr) (xs : List V) : Prop :=
  Rd H a (.tup xs) ∨
    ∃ (o : Obj) (its : Array Value) (n : Nat), K.lookup a = some o ∧ o.cls = .type "tuple" ∧ o.data = .seq its n ∧ its.size ≤ sizeLine ∧ Vals xs its.toList
def absV : Value → Option V
  | .none => some .non
  | .bool b => some (.bl b)
  | .int i _ => some (.int i)
  | .str x _ => some (.str x)
  | .bytes b _ => some (.byt b)
  | .float b _ => some (.flt b)
  | .ref a => some (.ref a)
  | .type n => some (.ty n)
  | _ => none
theorem RelV.abs {x : V} {u : Value} (r : RelV x u) : absV u = some x := by
  cases x with
  | non => cases r; rfl
  | bl _ => cases r; rfl
  | int _ => obtain ⟨t, rfl⟩ := r; rfl
  | str _ => obtain ⟨t, rfl⟩ := r; rfl
  | byt _ => obtain ⟨t, rfl⟩ := r; rfl
  | flt _ => obtain ⟨t, rfl⟩ := r; rfl
  | ref _ => cases r; rfl
  | ty _ => cases r; rfl
theorem RelV.inj {x y : V} {u : Value} (r : RelV x u) (q : RelV y u) : x = y := Option.some.inj (r.abs.symm.trans q.abs)
theorem Vals.inj : ∀ {xs ys : List V} {us : List Value}, Vals xs us → Vals ys us → xs = ys
  | _, _, _, .nil, .nil => rfl
  | _, _, _, .cons r t, .cons r' t' => by rw [r.inj r', Vals.inj t t']
section
variable {X : Cx} {pins : List (Addr × Obj)} {σ : St} {H : Hp} {s : Shared} {a : Addr} {xs ys : List V}
theorem SqL.of {K : PySem.W.Frag} (h : H a = some (.lst xs)) : SqL K H a xs := .inl (.inl h)
theorem SqT.of {K : PySem.W.Frag} (h : H a = some (.tup xs)) : SqT K H a xs := .inl (.inl h)
theorem Inv.list (I : Inv X pins σ H s) (h : SqL X.K H a xs) : ∃ its : List Value, Vals xs its ∧ PlainL s.heap a its.toArray ∧ xs.length ≤ sizeLine := by
  rcases h with h | ⟨o, its, n, hk, hc, hd, hs, hz, r⟩
  · obtain ⟨z, its, n, r, e⟩ := h.ok I.hok
    exact ⟨its, r, ⟨_, n, e, rfl, rfl, rfl⟩, z⟩
  · refine ⟨its.toList, r, ⟨o, n, I.kIn a o hk, hc, hd, by simpa using hs⟩, ?_⟩
    have e := r.length
    simp only [Array.length_toList] at e
    omega
theorem Inv.tuple (I : Inv X pins σ H s) (h : SqT X.K H a xs) : ∃ its : List Value, Vals xs its ∧ IsTup s.heap a its.toArray ∧ xs.length ≤ sizeLine := by
  rcases h with h | ⟨o, its, n, hk, hc, hs, hz, r⟩
  · obtain ⟨z, its, r, p⟩ := h.ok I.hok
    exact ⟨its, r, p, z⟩
  · refine ⟨its.toList, r, ⟨o, I.kIn a o hk, hc, n, by simpa using hs⟩, ?_⟩
    have e := r.length
    simp only [Array.length_toList] at e
    omega
theorem Inv.list_inj (I : Inv X pins σ H s) (h : SqL X.K H a xs) (h' : SqL X.K H a ys) : xs = ys := by
  obtain ⟨its, r, ⟨o, n, e, _, _, d⟩, _⟩ := I.list h
  obtain ⟨its', r', ⟨o', n', e', _, _, d'⟩, _⟩ := I.list h'
  rw [e] at e'; cases e'
  rw [d] at d'
  injection d' with d1 _
  have : its = its' := by simpa using congrArg Array.toList d1
  subst this
  exact r.inj r'
theorem Inv.tuple_inj (I : Inv X pins σ H s) (h : SqT X.K H a xs) (h' : SqT X.K H a ys) : xs = ys := by
  obtain ⟨its, r, ⟨o, e, _, n, d⟩, _⟩ := I.tuple h
  obtain ⟨its', r', ⟨o', e', _, n', d'⟩, _⟩ := I.tuple h'
  rw [e] at e'; cases e'
  rw [d] at d'
  injection d' with d1 _
  have : its = its' := by simpa using congrArg Array.toList d1
  subst this
  exact r.inj r'
end

/-! ### another wish about exceptions -/
abbrev Cx.wish (X : Cx) (E : Value → Shared → Prop) : Cx := { X with xe := E }
/-- no exception leaves -/
abbrev Cx.nox (X : Cx) : Cx := X.wish fun _ _ => False
theorem Cx.Ok.wish {X : Cx} (ok : X.Ok) (E : Value → Shared → Prop) : (X.wish E).Ok :=
  ⟨ok.mod, ok.kind, ok.glob, ok.blt, ok.above, ok.inj, ok.has, ok.cab, ok.hd, ok.frames, ok.stk, ok.exf, ok.bs, ok.bsz, ok.noex, ok.exfs, ok.funs, ok.frf⟩
theorem Cx.Ok.unwish {X : Cx} {E : Value → Shared → Prop} (ok : (X.wish E).Ok) : X.Ok :=
  ⟨ok.mod, ok.kind, ok.glob, ok.blt, ok.above, ok.inj, ok.has, ok.cab, ok.hd, ok.frames, ok.stk, ok.exf, ok.bs, ok.bsz, ok.noex, ok.exfs, ok.funs, ok.frf⟩
section
variable {X : Cx} {pins : List (Addr × Obj)} {σ : St} {H : Hp} {s : Shared} {E : Value → Shared → Prop}
theorem Inv.wish (I : Inv X pins σ H s) (E : Value → Shared → Prop) : Inv (X.wish E) pins σ H s := ⟨I.ok.wish E, I.os, I.bare, I.base, I.loc, I.cell, I.free, I.freeC, I.pin, I.hok, I.len⟩
theorem Inv.unwish (I : Inv (X.wish E) pins σ H s) : Inv X pins σ H s := ⟨I.ok.unwish, I.os, I.bare, I.base, I.loc, I.cell, I.free, I.freeC, I.pin, I.hok, I.len⟩
theorem SP.unwish {D : Ends} {f : Flow} {s' : Shared} (h : SP (X.wish E) pins D f s') : SP X pins D f s' := by
  cases f with
  | next => obtain ⟨σ', H', I, q⟩ := h; exact ⟨σ', H', I.unwish, q⟩
  | brk => obtain ⟨σ', H', I, q⟩ := h; exact ⟨σ', H', I.unwish, q⟩
  | cont => obtain ⟨σ', H', I, q⟩ := h; exact ⟨σ', H', I.unwish, q⟩
  | ret u => obtain ⟨v, σ', H', I, r, q⟩ := h; exact ⟨v, σ', H', I.unwish, r, q⟩
theorem PSs.nox {st : List Stmt} {t : TS} (h : PSs X.nox st t) : PSs X st t := fun pins s σ H D I hw =>
  wpAny_mono (h pins s σ H D (I.wish _) hw) (fun _ _ q => q.unwish) fun _ _ z => False.elim z
end

/-! ### blocks and small statements -/
section
variable {X : Cx} {st : Stmt} {rest : List Stmt} {t u : TS} {e : Expr} {te : TE} {pos : Pos}
def tNext : TS := fun D σ H => D.nx σ H
def tSeq (t u : TS) : TS := fun D σ H => t { D with nx := u D } σ H
theorem pss_nil : PSs X [] tNext := fun _ _ σ H _ I h => wpAny_execs_nil ⟨σ, H, I, h⟩
theorem pss_cons (h1 : PS X st t) (h2 : PSs X rest u) : PSs X (st :: rest) (tSeq t u) := by
  intro pins s σ H D I h
  refine wpAny_execs_cons (thn (h1 pins s σ H { D with nx := u D } I h) fun f s1 q => ?_)
  cases f with
  | next =>
    obtain ⟨σ', H', I', q⟩ := q
    exact h2 pins s1 σ' H' D I' q
  | ret v => exact q
  | brk => exact q
  | cont => exact q
theorem pss_one (h1 : PS X st t) : PSs X [st] t := by
  intro pins s σ H D I h
  refine wpAny_execs_cons (thn (h1 pins s σ H D I h) fun f s1 q => ?_)
  cases f with
  | next => exact wpAny_execs_nil q
  | ret v => exact q
  | brk => exact q
  | cont => exact q
/-- in a def's body nothing is shown -/
theorem Inv.quiet {pins : List (Addr × Obj)} {σ : St} {H : Hp} {s : Shared} (I : Inv X pins σ H s) : interactive X.env = false := by simp [interactive, I.ok.kind]
/-- an expression whose value is dropped -/
def tDrop (te : TE) : TS := fun D σ H => te σ H fun _ H1 => D.nx σ H1
theorem ps_expr (he : PE X e te) (hs : swapsWith e none pos.line X.env = pure false := by rfl) : PS X (.Expr e pos) (tDrop te) := by
  intro pins s σ H D I h
  exact wpAny_Expr_any (thn (he pins s σ H _ I h) fun v s1 ⟨x, H1, I1, r1, q1⟩ => ⟨σ, H1, I1, q1⟩) I.quiet hs
def tRet (te : TE) : TS := fun D σ H => te σ H D.rt
theorem ps_ret (he : PE X e te) : PS X (.Return (some e) pos) (tRet te) := by
  intro pins s σ H D I h
  exact wpAny_Return_some (thn (he pins s σ H _ I h) fun v s1 ⟨x, H1, I1, r1, q1⟩ => ⟨x, σ, H1, I1, r1, q1⟩)
def tIfS (c : TT) (t u : TS) : TS := fun D σ H => c σ H fun b H1 => if b = true then t D σ H1 else u D σ H1
theorem ps_if {c : Expr} {a b : List Stmt} {tc : TT} (hc : PT X c tc) (ha : PSs X a t) (hb : PSs X b u) : PS X (.If c a b pos) (tIfS tc t u) := by
  intro pins s σ H D I h
  refine wpAny_If (thn (hc pins s σ H _ I h) fun d s1 ⟨H1, I1, q1⟩ => ?_)
  cases d with
  | true => exact ha pins s1 σ H1 D I1 q1
  | false => exact hb pins s1 σ H1 D I1 q1
/-- code that the proof never comes to -/
def tNever : TS := fun _ _ _ => False
theorem ps_never : PS X st tNever := fun _ _ _ _ _ _ h => h.elim
end

/-! ### targets -/
abbrev TG := V → St → Hp → (St → Hp → Prop) → Prop
abbrev TGs := List V → St → Hp → (St → Hp → Prop) → Prop
def PG (X : Cx) (target : Expr) (t : TG) : Prop :=
  ∀ (pins : List (Addr × Obj)) (s : Shared) (σ : St) (H : Hp) (v : V) (u : Value) (Q : St → Hp → Prop), Inv X pins σ H s → RelV v u → t v σ H Q →
    wpAny (model X.prog X.w) X.A (assign target X.env u) (fun _ s' => ∃ σ' H', Inv X pins σ' H' s' ∧ Q σ' H') X.xe s
/-- several targets, one after another -/
def PGs (X : Cx) (ts : List Expr) (t : TGs) : Prop :=
  ∀ (pins : List (Addr × Obj)) (s : Shared) (σ : St) (H : Hp) (vs : List V) (us : List Value) (Q : St → Hp → Prop), Inv X pins σ H s → Vals vs us → t vs σ H Q →
    wpAny (model X.prog X.w) X.A (assignInOrder ((assignEach ts X.env).map (·.2)) us) (fun _ s' => ∃ σ' H', Inv X pins σ' H' s' ∧ Q σ' H') X.xe s
/-- o[i] = v, by values -/
abbrev TSet := V → V → V → Hp → (Hp → Prop) → Prop
def PSet (X : Cx) (t : TSet) : Prop :=
  ∀ (pins : List (Addr × Obj)) (s : Shared) (σ : St) (H : Hp) (o i v : V) (ov iv u : Value) (Q : Hp → Prop), Inv X pins σ H s → RelV o ov → RelV i iv → RelV v u → t o i v H Q →
    wpAny (model X.prog X.w) X.A (setItem ov iv u) (fun _ s' => ∃ H', Inv X pins σ H' s' ∧ Q H') X.xe s
section
variable {X : Cx} {pos : Pos}
def gName (i : Nat) : TG := fun v σ H Q => Q (σ.set i (some v)) H
theorem pg_name {i : Nat} {x : Str} (hN : X.N.Nodup) (hi : X.N[i]? = some x) (hx : Loc X.env.scope x) (hf : X.fn x = true ∨ X.env.scope.names.lookup x = some .local := by first | exact .inl rfl | exact .inr rfl | assumption) : PG X (.Name x pos) (gName i) := by
  intro pins s σ H v u Q I r h
  exact wpAny_assign_Name (store_ok I hN hi hx r (fun s' I' => ⟨_, H, I', h⟩) hf)
def gNil : TGs := fun vs σ H Q => vs = [] ∧ Q σ H
def gCons (t : TG) (u : TGs) : TGs := fun vs σ H Q => ∃ v r, vs = v :: r ∧ t v σ H fun σ' H' => u r σ' H' Q
theorem pgs_nil : PGs X [] gNil := by
  intro pins s σ H vs us Q I r h
  obtain ⟨e, h⟩ := h
  subst e
  cases r
  exact assignInOrder_nil ⟨σ, H, I, h⟩
theorem pgs_cons {e : Expr} {es : List Expr} {t : TG} {u : TGs} (h1 : PG X e t) (h2 : PGs X es u)
    (hs : (assignEach (e :: es) X.env).map (·.2) = assign e X.env :: (assignEach es X.env).map (·.2) := by rfl) : PGs X (e :: es) (gCons t u) := by
  intro pins s σ H vs us Q I r h
  obtain ⟨v, vr, e1, h⟩ := h
  subst e1
  cases r with
  | cons r rr =>
    rw [hs]
    refine assignInOrder_cons (thn (h1 pins s σ H _ _ _ I r h) fun _ s1 ⟨σ1, H1, I1, q1⟩ => ?_)
    exact h2 pins s1 σ1 H1 _ _ Q I1 rr q1
/-- (a, b, ..) = a tuple of that length -/
def gTup (K : PySem.W.Frag) (n : Nat) (t : TGs) : TG := fun v σ H Q => ∃ a xs, v = .ref a ∧ SqT K H a xs ∧ xs.length = n ∧ t xs σ H Q
theorem pg_tup {es : List Expr} {k : Nat} {t : TGs} {n : Nat} (hc : X.calm = true) (h : PGs X es t)
    (hn : (assignEach es X.env).length = n := by rfl) (hst : (assignEach es X.env).findIdx? (·.1) = none := by rfl) : PG X (.Tuple es k pos) (gTup X.K n t) := by
  intro pins s σ H v u Q I r hw
  obtain ⟨a, xs, e1, hq, hl, hw⟩ := hw
  subst e1
  cases r
  obtain ⟨its, rv, ht, hz⟩ := I.tuple hq
  refine assign_Tuple_tuple (I.ok.hd hc) ht (by simp [hn, ← hl, rv.length]) hst fun h' hx => ?_
  have I1 : Inv X pins σ H { s with heap := h' } := I.kept (t' := s.toks) fun b o e => hx b o (Nat.ne_of_lt (Heap.lt_size e)) e
  exact h pins _ σ H xs _ Q I1 (by simpa using rv) hw
/-- o[i] = .. -/
def gSub (to ti : TE) (t : TSet) : TG := fun v σ H Q => to σ H fun o H1 => ti σ H1 fun i H2 => t o i v H2 fun H3 => Q σ H3
theorem pg_sub {o i : Expr} {to ti : TE} {t : TSet} (ho : PE X o to) (hi : PE X i ti) (hs : PSet X t)
    (ha : ∀ v, assign (.Subscript o i pos) X.env v = (do
      let ov ← holding [v] (eval o X.env)
      let iv ← holding [v, ov] (eval i X.env)
      standAt pos
      holding [v, ov, iv] (setItem ov iv v)
      release [v, ov, iv] []) := by intro _; rfl) : PG X (.Subscript o i pos) (gSub to ti t) := by
  intro pins s σ H v u Q I r h
  rw [ha]
  refine wpAny_bind (wpAny_holding (thn (ho pins s σ H _ I h) fun ov s1 ⟨x, H1, I1, r1, q1⟩ => ?_))
  refine wpAny_bind (wpAny_holding (thn (hi pins s1 σ H1 _ I1 q1) fun iv s2 ⟨y, H2, I2, r2, q2⟩ => ?_))
  refine wpAny_bind (wpAny_standAt (wpAny_bind (wpAny_holding (thn (hs pins s2 σ H2 x y v ov iv u _ I2 r1 r2 r q2) fun _ s3 ⟨H3, I3, q3⟩ => ?_))))
  exact wpAny_release ⟨σ, H3, I3, q3⟩
/-- target = value -/
def tAsg (te : TE) (g : TG) : TS := fun D σ H => te σ H fun x H1 => g x σ H1 D.nx
theorem ps_asg {tg e : Expr} {te : TE} {g : TG} (he : PE X e te) (hg : PG X tg g) (hs : swapsWithSole [tg] e pos.line X.env = pure false := by rfl) (hw : swappedStores [tg] e X.env = pure none := by rfl)
    (h1 : (assignEach [tg] X.env).map (·.2) = [assign tg X.env] := by rfl) : PS X (.Assign [tg] e pos) (tAsg te g) := by
  intro pins s σ H D I h
  refine wpAny_Assign_stores (thn (he pins s σ H _ I h) fun v s1 ⟨x, H1, I1, r1, q1⟩ => ?_) hs hw
  rw [h1]
  exact thn (hg pins s1 σ H1 x v _ I1 r1 q1) fun _ s2 q => q
/-- name = value -/
theorem ps_set {i : Nat} {x : Str} {e : Expr} {te : TE} {pos' : Pos} (hN : X.N.Nodup) (hi : X.N[i]? = some x) (hx : Loc X.env.scope x) (he : PE X e te) (hs : swapsWith e (some (.Name x pos')) pos.line X.env = pure false := by rfl) (hf : X.fn x = true ∨ X.env.scope.names.lookup x = some .local := by first | exact .inl rfl | exact .inr rfl | assumption) :
    PS X (.Assign [.Name x pos'] e pos) (tAsg te (gName i)) := by
  intro pins s σ H D I h
  refine wpAny_Assign_Name (thn (he pins s σ H _ I h) fun v s1 ⟨y, H1, I1, r1, q1⟩ => ?_) hs
  exact store_ok I1 hN hi hx r1 (fun s2 I2 => ⟨_, H1, I2, q1⟩) hf
end

/-! ### while -/
section
variable {X : Cx} {pos : Pos}
end

/-! ### what a loop or a comprehension walks -/
/-- at turn i: it yields x (the heap may grow), or it stops -/
structure It where
  go : Nat → Hp → Prop
  yld : Nat → Hp → V → Hp → Prop
  stop : Nat → Hp → Prop
/-- the iterator's own objects may turn: they are not the frame's, not pinned, younger than the entry (or a comprehension's own) -/
def FpOk (X : Cx) (pins : List (Addr × Obj)) (H : Hp) (b : Addr) : Prop :=
  H b = none ∧ b ≠ X.env.locals ∧ b ∉ X.fs ∧ (b ∈ X.ex ∨ X.s₀.heap.objs.size ≤ b) ∧ (∀ x c, X.env.cells.lookup x = some c → c ≠ b) ∧ ∀ p ∈ X.pn ++ pins, p.1 ≠ b
theorem Inv.fpOk {X : Cx} {pins : List (Addr × Obj)} {σ : St} {H H' : Hp} {s : Shared} {b : Addr} (I : Inv X pins σ H s) (hb : s.heap.objs.size ≤ b) (hn : H' b = none) : FpOk X pins H' b := by
  refine ⟨hn, Nat.ne_of_gt (Nat.lt_of_lt_of_le I.lt hb), I.nofs hb, .inr (Nat.le_trans I.sz hb), fun x c e z => ?_, fun p hp z => ?_⟩
  · obtain ⟨v, q⟩ := I.cell x c e
    exact absurd (Nat.lt_of_lt_of_le q.lt (by rw [z]; exact hb)) (Nat.lt_irrefl _)
  · exact absurd (Nat.lt_of_lt_of_le (Heap.lt_size (I.pin p hp).1) (by rw [z]; exact hb)) (Nat.lt_irrefl _)
structure Turn (P : Program) (w : World) (K : PySem.W.Frag) (tg : Expr) (J : It) (fp : List Addr) (it : Addr) (tn : Nat → Heap → Prop) : Prop where
  mem : it ∈ fp
  obj : ∀ i h, tn i h → ∀ b ∈ fp, ∃ o, h.get? b = some o ∧ ∀ v, o.data ≠ .cell v
  keep : ∀ i h h', tn i h → (∀ b ∈ fp, ∀ o, h.get? b = some o → h'.get? b = some o) → tn i h'
  item : ∀ (X : Cx), X.prog = P → X.w = w → X.K = K → X.calm = true → ∀ (i : Nat) (pins : List (Addr × Obj)) (s : Shared) (σ : St) (H : Hp) (E : Value → Shared → Prop), Inv X pins σ H s → (∀ b ∈ fp, FpOk X pins H b) → tn i s.heap → J.go i H →
    wpAny (model P w) X.A (pyNext (.ref it)) (fun r s1 => ∃ u, r = some u ∧
      wpAny (model P w) X.A (letOwnedTupleGo tg (.ref it) u) (fun _ s2 => ∃ x H', Inv X pins σ H' s2 ∧ RelV x u ∧ J.yld i H x H' ∧ tn (i + 1) s2.heap ∧ ∀ b ∈ fp, H' b = none) E s1) E s
  done : ∀ (X : Cx), X.prog = P → X.w = w → X.K = K → X.calm = true → ∀ (i : Nat) (pins : List (Addr × Obj)) (s : Shared) (σ : St) (H : Hp) (E : Value → Shared → Prop), Inv X pins σ H s → (∀ b ∈ fp, FpOk X pins H b) → tn i s.heap → J.stop i H →
    wpAny (model P w) X.A (pyNext (.ref it)) (fun r s1 => r = none ∧ Inv X pins σ H s1) E s
  self : ∀ (A : Around) (i : Nat) (s : Shared) (Q : Value → Shared → Prop) (E : Value → Shared → Prop), tn i s.heap → Q (.ref it) s → wpAny (model P w) A (pyIter (.ref it)) Q E s
abbrev TI := St → Hp → (It → Hp → Prop) → Prop
/-- an iterator has come -/
def PIE (X : Cx) (pins : List (Addr × Obj)) (σ : St) (tg : Expr) (R : It → Hp → Prop) (itv : Value) (s2 : Shared) : Prop :=
  ∃ (it : Addr) (fp : List Addr) (tn : Nat → Heap → Prop) (J : It) (H' : Hp), itv = .ref it ∧ Inv X pins σ H' s2 ∧ Turn X.prog X.w X.K tg J fp it tn ∧ tn 0 s2.heap ∧ (∀ b ∈ fp, FpOk X pins H' b) ∧ R J H'
def PI (X : Cx) (tg iter : Expr) (wi : TI) : Prop :=
  ∀ (pins : List (Addr × Obj)) (s : Shared) (σ : St) (H : Hp) (R : It → Hp → Prop), Inv X pins σ H s → wi σ H R →
    wpAny (model X.prog X.w) X.A (eval iter X.env) (fun v s1 => wpAny (model X.prog X.w) X.A (pyIter v) (PIE X pins σ tg R) X.xe s1) X.xe s

/-- the step ahead of the store is nothing for an iterator that keeps no tuple -/
theorem go_of {M : Model} {A : Around} {E : Value → Shared → Prop} {s : Shared} {tg : Expr} {it : Addr} {u : Value} {o : Obj} {n : String} {vs : Array Value} {Q : Unit → Shared → Prop} (ho : s.heap.get? it = some o) (hc : o.cls = .type n) (hd : o.data = .fields vs)
    (hn : ["enumerate", "zip", "dict_itemiterator", "dict_reverseitemiterator", "odict_iterator", "itertools.zip_longest", "itertools.pairwise"].contains n = false) (hQ : Q () s) : wpAny M A (letOwnedTupleGo tg (.ref it) u) Q E s := by
  unfold letOwnedTupleGo
  cases tg <;> first
    | exact wpAny_pure hQ
    | (cases u <;> first
        | exact wpAny_pure hQ
        | (refine wpAny_bind (wpAny_load ho ?_)
           rw [hc, hd]
           show wpAny M A (if (["enumerate", "zip", "dict_itemiterator", "dict_reverseitemiterator", "odict_iterator", "itertools.zip_longest", "itertools.pairwise"].contains n && vs[0]? == some (rawInt _)) = true then _ else _) Q E s
           rw [if_neg (by intro h; rw [hn, Bool.false_and] at h; cases h)]
           exact wpAny_pure hQ))

/-- the list at a, as it stands at each turn (a loop may append to it) -/
def Itl (K : PySem.W.Frag) (a : Addr) : It :=
  ⟨fun i H => ∃ xs x, SqL K H a xs ∧ xs[i]? = some x, fun i H x H' => H' = H ∧ ∀ xs, SqL K H a xs → xs[i]? = some x, fun i H => ∃ xs, SqL K H a xs ∧ xs.length ≤ i⟩
/-- lo, lo + 1, .. (n of them) -/
def Itr (lo : Int) (n : Nat) : It := ⟨fun i _ => i < n, fun i H x H' => H' = H ∧ x = .int (lo + i), fun i _ => n ≤ i⟩
theorem turn_list {P : Program} {w : World} {K : PySem.W.Frag} {tg : Expr} (a it : Addr) : Turn P w K tg (Itl K a) [it] it (fun i h => h.IsListIter it a i) where
  mem := by simp
  obj := fun i h st b hb => by
    have e : b = it := by simpa using hb
    subst e
    obtain ⟨o, e, c, d⟩ := st
    exact ⟨o, e, fun v z => by rw [d] at z; cases z⟩
  keep := fun i h h' st k => st.at fun o e => k it (by simp) o e
  item := by
    intro X hP hw hK hc i pins s σ H E I hf st hg
    subst hP hw hK
    obtain ⟨xs, x, hq, hx⟩ := hg
    obtain ⟨its, rv, p, hz⟩ := I.list hq
    obtain ⟨u, hu, ru⟩ := rv.get hx
    obtain ⟨f0, f1, f2, f3, f4, f5⟩ := hf it (by simp)
    refine wpAny_pyNext_list_item st p.isList (x := u) (by simpa using hu) fun h' st' sb => ?_
    have I1 : Inv X pins σ H { s with heap := h' } := I.turned (t' := s.toks) (fun b o hb e => (sb.2 b hb).trans e) f0 f1 f3 f4 f5
    obtain ⟨o, e, c, d⟩ := id st'
    exact ⟨u, rfl, go_of (s := { s with heap := h' }) e c d (by decide) ⟨x, H, I1, ru, ⟨rfl, fun ys hy => by rw [I.list_inj hy hq]; exact hx⟩, st', fun b hb => (hf b hb).1⟩⟩
  done := by
    intro X hP hw hK hc i pins s σ H E I hf st hg
    subst hP hw hK
    obtain ⟨xs, hq, hx⟩ := hg
    obtain ⟨its, rv, p, hz⟩ := I.list hq
    obtain ⟨f0, f1, f2, f3, f4, f5⟩ := hf it (by simp)
    have hl := rv.length
    exact wpAny_pyNext_list_end (I.ok.hd hc) st p.isList (by simp; omega) fun h' eb => ⟨rfl, I.turned (t' := s.toks) (fun b o hb e => eb b o hb e) f0 f1 f3 f4 f5⟩
  self := fun _ _ _ _ _ st h => wpAny_pyIter_listiter st h
theorem turn_range {P : Program} {w : World} {K : PySem.W.Frag} {tg : Expr} (it : Addr) (lo : Int) (n : Nat) : Turn P w K tg (Itr lo n) [it] it (fun i h => IsRangeIter h it (lo + (i : Nat) * 1) ((n : Int) - (i : Nat)) 1) where
  mem := by simp
  obj := fun i h st b hb => by
    have e : b = it := by simpa using hb
    subst e
    exact ⟨_, st, fun v z => by
      have z' : Data.fields _ = Data.cell v := z
      cases z'⟩
  keep := fun i h h' st k => k it (by simp) _ st
  item := by
    intro X hP hw hK hc i pins s σ H E I hf st hg
    subst hP hw hK
    obtain ⟨f0, f1, f2, f3, f4, f5⟩ := hf it (by simp)
    have W := Walks.range (prog := X.prog) (w := X.w) (I.ok.hd hc) it lo 1 n
    refine W.item i s _ _ hg st fun v h' tk hv st' kk => ?_
    obtain ⟨t, rfl⟩ := hv
    have I1 : Inv X pins σ H { s with heap := h', toks := tk } := I.turned (fun b o hb e => kk b o (by simpa using hb) e) f0 f1 f3 f4 f5
    refine ⟨_, rfl, go_of (s := { s with heap := h', toks := tk }) (n := "range_iterator") st' rfl rfl (by decide) ⟨.int (lo + i), H, I1, ⟨t, ?_⟩, ⟨rfl, rfl⟩, st', fun b hb => (hf b hb).1⟩⟩
    rw [Int.mul_one]
  done := by
    intro X hP hw hK hc i pins s σ H E I hf st hg
    subst hP hw hK
    obtain ⟨f0, f1, f2, f3, f4, f5⟩ := hf it (by simp)
    exact wpAny_pyNext_range_end (I.ok.hd hc) st (by have : n ≤ i := hg; omega) fun h' eb => ⟨rfl, I.turned (t' := s.toks) (fun b o hb e => eb b o hb e) f0 f1 f3 f4 f5⟩
  self := fun _ _ _ _ _ st h => wpAny_pyIter_rangeiter st h
end L2

namespace L2
open PySem PySem.Spec PyProof.Rows
section
variable {X : Cx} {tg : Expr}
def iList (K : PySem.W.Frag) (tl : TE) : TI := fun σ H R => tl σ H fun x H1 => ∃ a, x = .ref a ∧ (∃ xs, SqL K H1 a xs) ∧ R (Itl K a) H1
theorem pi_list {l : Expr} {tl : TE} (hl : PE X l tl) : PI X tg l (iList X.K tl) := by
  intro pins s σ H R I h
  refine thn (hl pins s σ H _ I h) fun v s1 ⟨x, H1, I1, r1, q1⟩ => ?_
  obtain ⟨a, e, ⟨xs, hq⟩, q⟩ := q1
  subst e
  cases r1
  obtain ⟨its, rv, p, hz⟩ := I1.list hq
  refine wpAny_pyIter_list p.isList ?_
  refine ⟨s1.heap.objs.size, [s1.heap.objs.size], _, _, H1, rfl, I1.kept (t' := s1.toks) fun b o e => Heap.get?_push_of_some _ e, turn_list a _, ⟨_, Heap.get?_push_size _ rfl, rfl, rfl⟩, fun b hb => ?_, q⟩
  have e : b = s1.heap.objs.size := by simpa using hb
  subst e
  exact I1.fpOk (Nat.le_refl _) (I1.hok.fresh (Nat.le_refl _))
/-- a range object just made, walked -/
theorem range_it {pins : List (Addr × Obj)} {σ : St} {H : Hp} {s : Shared} {R : It → Hp → Prop} {E : Value → Shared → Prop} {lo hi : Int} {t u v : Tok} {tk : Nat} (I : Inv X pins σ H s) (h1 : -(2 ^ 62) ≤ lo) (h2 : lo < 2 ^ 62) (h3 : -(2 ^ 62) ≤ hi) (h4 : hi < 2 ^ 62)
    (q : R (Itr lo (hi - lo).toNat) H) : wpAny (model X.prog X.w) X.A (pyIter (.ref s.heap.objs.size)) (PIE X pins σ tg R) E { s with heap := s.heap.push { cls := .type "range", data := .fields #[.int lo t, .int hi u, .int 1 v] }, toks := tk } := by
  refine wpAny_pyIter_range (IsRange.new ..) (small_one h1 h2 h3 h4) ?_
  have I1 : Inv X pins σ H { s with heap := s.heap.push { cls := .type "range", data := .fields #[.int lo t, .int hi u, .int 1 v] }, toks := tk } := I.kept fun b o e => Heap.get?_push_of_some _ e
  refine ⟨(s.heap.push { cls := .type "range", data := .fields #[.int lo t, .int hi u, .int 1 v] }).objs.size, [(s.heap.push { cls := .type "range", data := .fields #[.int lo t, .int hi u, .int 1 v] }).objs.size], _, _, H, rfl,
    I1.kept (t' := tk) fun b o e => Heap.get?_push_of_some _ e, turn_range _ lo (hi - lo).toNat, ?_, fun b hb => ?_, q⟩
  · have e1 : lo + ((0 : Nat) : Int) * 1 = lo := by simp
    have e2 : (((hi - lo).toNat : Nat) : Int) - ((0 : Nat) : Int) = Builtin.Range.rangeSize lo hi 1 := by rw [rangeSize_one]; split <;> omega
    show IsRangeIter _ _ (lo + ((0 : Nat) : Int) * 1) ((((hi - lo).toNat : Nat) : Int) - ((0 : Nat) : Int)) 1
    rw [e1, e2]
    exact Heap.get?_push_size _ rfl
  · have e : b = (s.heap.push { cls := .type "range", data := .fields #[.int lo t, .int hi u, .int 1 v] }).objs.size := by simpa using hb
    subst e
    exact I1.fpOk (Nat.le_refl _) (I1.hok.fresh (Nat.le_refl _))
def iRng1 (ta : TA) : TI := fun σ H R => ta σ H fun vs H1 => ∃ j : Int, vs = [.int j] ∧ -(2 ^ 62) ≤ j ∧ j < 2 ^ 62 ∧ R (Itr 0 j.toNat) H1
theorem pi_range1 {a : Expr} {ta : TA} {p pos : Pos} (hg : Gl X "range") (hm : X.mg "range" = none) (ha : PA X [a] ta) (hs : starEach [a] X.env = [(false, eval a X.env)] := by rfl) : PI X tg (.Call (.Name "range" p) [a] [] pos) (iRng1 ta) := by
  intro pins s σ H R I h
  refine Call_ (ld_blt I hg hm boot_range (PyProof.Rows.callWith_type1 (thn (ha pos pins s σ H _ I h) fun us s1 ⟨vs, H1, I1, r1, q1⟩ => ?_) hs rfl))
  obtain ⟨j, e, q1, q2, q⟩ := q1
  subst e
  cases r1 with
  | cons r rr =>
    cases rr
    obtain ⟨t, rfl⟩ := r
    exact call_range_1 (range_it I1 (by omega) (by omega) q1 q2 (by simpa using q))

/-! ### for -/
/-- W: the invariant by the turn and a measure; N: what the body is to reach -/
def tFor (wi : TI) (g : TG) (tb : TS) : TS := fun D σ H => wi σ H fun J H1 => ∃ W : Nat → Nat → St → Hp → Prop, (∃ m, W 0 m σ H1) ∧ ∀ i m σ H, W i m σ H →
  (J.stop i H ∧ D.nx σ H) ∨ (J.go i H ∧ ∃ N : St → Hp → Prop, (∀ σ' H', N σ' H' → ∃ m', m' < m ∧ W (i + 1) m' σ' H') ∧ ∀ x H', J.yld i H x H' → g x σ H' fun σ2 H2 => tb { D with nx := N, ct := N, bk := D.nx } σ2 H2)
/-- the records at fp as they stand -/
def pinsAt (fp : List Addr) (h : Heap) : List (Addr × Obj) := fp.filterMap fun b => (h.get? b).map fun o => (b, o)
theorem mem_pinsAt {fp : List Addr} {h : Heap} {b : Addr} {o : Obj} (hb : b ∈ fp) (e : h.get? b = some o) : (b, o) ∈ pinsAt fp h := List.mem_filterMap.mpr ⟨b, hb, by rw [e]; rfl⟩
theorem of_pinsAt {fp : List Addr} {h : Heap} {p : Addr × Obj} (hp : p ∈ pinsAt fp h) : p.1 ∈ fp ∧ h.get? p.1 = some p.2 := by
  obtain ⟨b, hb, e⟩ := List.mem_filterMap.mp hp
  cases q : h.get? b with
  | none => rw [q] at e; cases e
  | some o =>
    rw [q] at e
    have e' : (b, o) = p := Option.some.inj e
    subst e'
    exact ⟨hb, q⟩
theorem Inv.pinned {pins : List (Addr × Obj)} {σ : St} {H : Hp} {s : Shared} {fp : List Addr} (I : Inv X pins σ H s) (hf : ∀ b ∈ fp, FpOk X pins H b) (ho : ∀ b ∈ fp, ∃ o, s.heap.get? b = some o ∧ ∀ v, o.data ≠ .cell v) : Inv X (pins ++ pinsAt fp s.heap) σ H s :=
  I.pins_of fun p hp => (List.mem_append.mp hp).elim (fun z => I.pin p (List.mem_append_right _ z)) fun z => by
    obtain ⟨hb, e⟩ := of_pinsAt z
    obtain ⟨f0, f1, f2, _⟩ := hf p.1 hb
    obtain ⟨o, e', d⟩ := ho p.1 hb
    rw [e] at e'; cases e'
    exact ⟨e, f0, f1, f2, d⟩
theorem Inv.unpinned {pins pl : List (Addr × Obj)} {σ : St} {H : Hp} {s : Shared} (I : Inv X (pins ++ pl) σ H s) : Inv X pins σ H s := I.pins_of fun p hp => I.pin p (List.mem_append_right _ (List.mem_append_left _ hp))
theorem ps_for {iter : Expr} {body : List Stmt} {wi : TI} {g : TG} {tb : TS} {pos : Pos} (hp : PassesOwn (model X.prog X.w) X.A X.env X.xe) (hc : X.calm = true) (hi : PI X tg iter wi) (hg : PG X tg g) (hb : PSs X body tb)
    (hs : ∀ x, foldedSetIterable iter X.env x = pure x := by intro _; rfl) : PS X (.For tg iter body [] pos) (tFor wi g tb) := by
  intro pins s σ H D I h
  refine wpAny_For (thn (hi pins s σ H _ I h) fun v s1 h1 => thn h1 fun itv s2 h2 => ?_) hs
  obtain ⟨it, fp, tn, J, H2, e, I2, T, st2, f2, W, ⟨m0, w0⟩, turn⟩ := h2
  subst e
  -- what stays true of the iterator's objects through the loop
  have stat : ∀ {H' : Hp}, (∀ b ∈ fp, H' b = none) → ∀ b ∈ fp, FpOk X pins H' b := fun hn b hb => ⟨hn b hb, (f2 b hb).2⟩
  refine codeAny_forLoop_any (fun n s' => ∃ i σ' H', Inv X pins σ' H' s' ∧ tn i s'.heap ∧ (∀ b ∈ fp, H' b = none) ∧ W i n σ' H') ?_ m0 ⟨0, σ, H2, I2, st2, fun b hb => (f2 b hb).1, w0⟩
  rintro n s3 ⟨i, σ3, H3, I3, st3, fr3, w3⟩
  rcases turn i n σ3 H3 w3 with ⟨stop, qn⟩ | ⟨go, N, hN, step⟩
  · refine wpAny_passesOwn hp (thn (T.done X rfl rfl rfl hc i pins s3 σ3 H3 X.xe I3 (stat fr3) st3 stop) fun r s4 ⟨hr, I4⟩ => ?_)
    subst hr
    exact wpAny_execs_nil ⟨σ3, H3, I4, qn⟩
  · refine wpAny_passesOwn hp (thn (T.item X rfl rfl rfl hc i pins s3 σ3 H3 X.xe I3 (stat fr3) st3 go) fun r s4 ⟨u, hr, h4⟩ => ?_)
    subst hr
    refine wpAny_passesOwn hp (thn h4 fun _ s5 ⟨x, H5, I5, r5, y5, st5, fr5⟩ => ?_)
    have I5' := I5.pinned (stat fr5) (T.obj _ _ st5)
    refine wpAny_passesOwn hp (thn (hg _ s5 σ3 H5 x u _ I5' r5 (step x H5 y5)) fun _ s6 ⟨σ6, H6, I6, q6⟩ => ?_)
    refine wpAny_passesOwn hp (thn (hb _ s6 σ6 H6 _ I6 q6) fun f s7 q7 => ?_)
    have again : ∀ {σ7 : St} {H7 : Hp}, Inv X (pins ++ pinsAt fp s5.heap) σ7 H7 s7 → N σ7 H7 → ∃ m, m < n ∧ ∃ i σ' H', Inv X pins σ' H' s7 ∧ tn i s7.heap ∧ (∀ b ∈ fp, H' b = none) ∧ W i m σ' H' := fun {σ7 H7} I7 n7 => by
      obtain ⟨m', hm, w7⟩ := hN σ7 H7 n7
      refine ⟨m', hm, i + 1, σ7, H7, I7.unpinned, T.keep _ _ _ st5 fun b hb o e => (I7.pin (b, o) (List.mem_append_right _ (List.mem_append_right _ (mem_pinsAt hb e)))).1, fun b hb => ?_, w7⟩
      obtain ⟨o, e, d⟩ := T.obj _ _ st5 b hb
      exact (I7.pin (b, o) (List.mem_append_right _ (List.mem_append_right _ (mem_pinsAt hb e)))).2.1
    cases f with
    | next => obtain ⟨σ7, H7, I7, n7⟩ := q7; exact again I7 n7
    | cont => obtain ⟨σ7, H7, I7, n7⟩ := q7; exact again I7 n7
    | brk => obtain ⟨σ7, H7, I7, q7⟩ := q7; exact ⟨σ7, H7, I7.unpinned, q7⟩
    | ret v => obtain ⟨x7, σ7, H7, I7, r7, q7⟩ := q7; exact ⟨x7, σ7, H7, I7.unpinned, r7, q7⟩
end

/-! ### the forms one uses -/
/-- over a list that the body leaves as it is -/
theorem for_list {K : PySem.W.Frag} {a : Addr} {xs : List V} {g : TG} {tb : TS} {D : Ends} {σ : St} {H : Hp} (Pv : Nat → St → Hp → Prop) (h0 : Pv 0 σ H) (hl : ∀ i σ H, i ≤ xs.length → Pv i σ H → SqL K H a xs)
    (hs : ∀ i x σ H, xs[i]? = some x → Pv i σ H → g x σ H fun σ2 H2 => tb { D with nx := Pv (i + 1), ct := Pv (i + 1), bk := D.nx } σ2 H2) (hd : ∀ σ H, Pv xs.length σ H → D.nx σ H) :
    ∃ W : Nat → Nat → St → Hp → Prop, (∃ m, W 0 m σ H) ∧ ∀ i m σ H, W i m σ H →
      ((Itl K a).stop i H ∧ D.nx σ H) ∨ ((Itl K a).go i H ∧ ∃ N : St → Hp → Prop, (∀ σ' H', N σ' H' → ∃ m', m' < m ∧ W (i + 1) m' σ' H') ∧ ∀ x H', (Itl K a).yld i H x H' → g x σ H' fun σ2 H2 => tb { D with nx := N, ct := N, bk := D.nx } σ2 H2) := by
  refine ⟨fun i m σ H => m = xs.length - i ∧ i ≤ xs.length ∧ Pv i σ H, ⟨xs.length, by simp, Nat.zero_le _, h0⟩, ?_⟩
  rintro i m σ H ⟨rfl, hi, p⟩
  have q := hl i σ H hi p
  by_cases hlt : i < xs.length
  · refine .inr ⟨⟨xs, xs[i], q, by simp [hlt]⟩, Pv (i + 1), fun σ' H' p' => ⟨xs.length - (i + 1), by omega, rfl, hlt, p'⟩, fun x H' y => ?_⟩
    obtain ⟨e, y⟩ := y
    subst e
    exact hs i x σ _ (y xs q) p
  · have e : i = xs.length := by omega
    subst e
    exact .inl ⟨⟨xs, q, Nat.le_refl _⟩, hd σ H p⟩
theorem for_range {lo : Int} {n : Nat} {g : TG} {tb : TS} {D : Ends} {σ : St} {H : Hp} (Pv : Nat → St → Hp → Prop) (h0 : Pv 0 σ H)
    (hs : ∀ i σ H, i < n → Pv i σ H → g (.int (lo + i)) σ H fun σ2 H2 => tb { D with nx := Pv (i + 1), ct := Pv (i + 1), bk := D.nx } σ2 H2) (hd : ∀ σ H, Pv n σ H → D.nx σ H) :
    ∃ W : Nat → Nat → St → Hp → Prop, (∃ m, W 0 m σ H) ∧ ∀ i m σ H, W i m σ H →
      ((Itr lo n).stop i H ∧ D.nx σ H) ∨ ((Itr lo n).go i H ∧ ∃ N : St → Hp → Prop, (∀ σ' H', N σ' H' → ∃ m', m' < m ∧ W (i + 1) m' σ' H') ∧ ∀ x H', (Itr lo n).yld i H x H' → g x σ H' fun σ2 H2 => tb { D with nx := N, ct := N, bk := D.nx } σ2 H2) := by
  refine ⟨fun i m σ H => m = n - i ∧ i ≤ n ∧ Pv i σ H, ⟨n, by simp, Nat.zero_le _, h0⟩, ?_⟩
  rintro i m σ H ⟨rfl, hi, p⟩
  by_cases hlt : i < n
  · refine .inr ⟨hlt, Pv (i + 1), fun σ' H' p' => ⟨n - (i + 1), by omega, rfl, hlt, p'⟩, fun x H' y => ?_⟩
    obtain ⟨e, y⟩ := y
    subst e y
    exact hs i σ _ hlt p
  · have e : i = n := by omega
    subst e
    exact .inl ⟨Nat.le_refl _, hd σ H p⟩
end L2

namespace L2
open PySem PySem.Spec PyProof.Rows

abbrev R2 := V → V → Hp → VK → Prop
/-- a two-place operation on values: f is binaryOp op, inplaceOp op or compareOp op -/
def OpR (X : Cx) (f : Value → Value → Sem Value) (r : R2) : Prop :=
  ∀ (pins : List (Addr × Obj)) (s : Shared) (σ : St) (H : Hp) (x y : V) (v u : Value) (Q : VK), Inv X pins σ H s → RelV x v → RelV y u → r x y H Q →
    wpAny (model X.prog X.w) X.A (f v u) (EP X pins σ Q) X.xe s
/-- a call of a value that is known (a builtin, a type) with values -/
def CallR (X : Cx) (f : Value) (r : List V → Hp → VK → Prop) : Prop :=
  ∀ (pins : List (Addr × Obj)) (s : Shared) (σ : St) (H : Hp) (xs : List V) (us : List Value) (Q : VK), Inv X pins σ H s → Vals xs us → r xs H Q →
    wpAny (model X.prog X.w) X.A (call f us) (EP X pins σ Q) X.xe s

def tOp (r : R2) (ta tb : TE) : TE := fun σ H Q => ta σ H fun x H1 => tb σ H1 fun y H2 => r x y H2 Q
/-- ints in, under C, and a value out -/
def rI (C : Int → Int → Prop) (g : Int → Int → V) : R2 := fun x y H Q => ∃ i j, x = .int i ∧ y = .int j ∧ C i j ∧ Q (g i j) H
def rI0 (g : Int → Int → V) : R2 := fun x y H Q => ∃ i j, x = .int i ∧ y = .int j ∧ Q (g i j) H

section
variable {X : Cx} {a b c : Expr} {ta tb tc : TE} {pos : Pos}

theorem binT (ha : PE X a ta) (hb : PE X b tb) {pins : List (Addr × Obj)} {s : Shared} {σ : St} {H : Hp} {R : V → V → Hp → Prop} (I : Inv X pins σ H s)
    (h : ta σ H fun x H1 => tb σ H1 fun y H2 => R x y H2) {Q : Value → Shared → Prop} {f : Value → Value → Sem Value}
    (hf : ∀ v u s2 x y H2, Inv X pins σ H2 s2 → RelV x v → RelV y u → R x y H2 → wpAny (model X.prog X.w) X.A (f v u) Q X.xe s2) :
    wpAny (model X.prog X.w) X.A (eval a X.env) (fun v s₁ => wpAny (model X.prog X.w) X.A (eval b X.env) (fun u s₂ => wpAny (model X.prog X.w) X.A (f v u) Q X.xe s₂) X.xe s₁) X.xe s := by
  refine thn (ha pins s σ H _ I h) fun v s1 ⟨x, H1, I1, r1, q1⟩ => ?_
  refine thn (hb pins s1 σ H1 _ I1 q1) fun u s2 ⟨y, H2, I2, r2, q2⟩ => ?_
  exact hf v u s2 x y H2 I2 r1 r2 q2

theorem pe_op {op : Operator} {r : R2} (ho : OpR X (binaryOp op) r) (ha : PE X a ta) (hb : PE X b tb) : PE X (.BinOp a op b pos) (tOp r ta tb) := by
  intro pins s σ H Q I h
  exact wpAny_BinOp (binT ha hb I h fun v u s2 x y H2 I2 rx ry q => ho pins s2 σ H2 x y v u Q I2 rx ry q)

/-! ### ints -/
theorem opI {f : Value → Value → Sem Value} {C : Int → Int → Prop} {g : Int → Int → Int}
    (rule : ∀ (i j : Int) (t u : Tok) (s : Shared) (Q : Value → Shared → Prop) (E : Value → Shared → Prop), C i j → Q (.int (g i j) s.toks) { s with toks := s.toks + 1 } → wpAny (model X.prog X.w) X.A (f (.int i t) (.int j u)) Q E s) :
    OpR X f (rI C fun i j => .int (g i j)) := by
  intro pins s σ H x y v u Q I rx ry h
  obtain ⟨i, j, rfl, rfl, hc, q⟩ := h
  obtain ⟨t, rfl⟩ := rx
  obtain ⟨t', rfl⟩ := ry
  exact rule i j t t' s _ _ hc ⟨.int (g i j), H, I.tok _, ⟨_, rfl⟩, q⟩
theorem opI0 {f : Value → Value → Sem Value} {g : Int → Int → Int}
    (rule : ∀ (i j : Int) (t u : Tok) (s : Shared) (Q : Value → Shared → Prop) (E : Value → Shared → Prop), Q (.int (g i j) s.toks) { s with toks := s.toks + 1 } → wpAny (model X.prog X.w) X.A (f (.int i t) (.int j u)) Q E s) :
    OpR X f (rI0 fun i j => .int (g i j)) := by
  intro pins s σ H x y v u Q I rx ry h
  obtain ⟨i, j, rfl, rfl, q⟩ := h
  obtain ⟨t, rfl⟩ := rx
  obtain ⟨t', rfl⟩ := ry
  exact rule i j t t' s _ _ ⟨.int (g i j), H, I.tok _, ⟨_, rfl⟩, q⟩
theorem opB0 {f : Value → Value → Sem Value} {g : Int → Int → Bool}
    (rule : ∀ (i j : Int) (t u : Tok) (s : Shared) (Q : Value → Shared → Prop) (E : Value → Shared → Prop), Q (.bool (g i j)) s → wpAny (model X.prog X.w) X.A (f (.int i t) (.int j u)) Q E s) :
    OpR X f (rI0 fun i j => .bl (g i j)) := by
  intro pins s σ H x y v u Q I rx ry h
  obtain ⟨i, j, rfl, rfl, q⟩ := h
  obtain ⟨t, rfl⟩ := rx
  obtain ⟨t', rfl⟩ := ry
  exact rule i j t t' s _ _ ⟨.bl (g i j), H, I, rfl, q⟩

def CDiv (i j : Int) : Prop := 0 < j ∧ j < 1073741824
def CPow (i j : Int) : Prop := 0 ≤ j ∧ j ≤ 1000000 ∧ i.natAbs < 2 ^ 64
def CMul (i j : Int) : Prop := (-(2 ^ 64) < i ∧ i < 2 ^ 64) ∨ (-(2 ^ 64) < j ∧ j < 2 ^ 64)
theorem CMul.ok {i j : Int} (h : CMul i j) : IntMulOk i j := by
  rcases h with ⟨h1, h2⟩ | ⟨h1, h2⟩
  · exact .of_left (intBits_le_64 h1 h2)
  · exact .of_right (intBits_le_64 h1 h2)

theorem op_add : OpR X (binaryOp .Add) (rI0 fun i j => .int (i + j)) := opI0 fun _ _ _ _ _ _ _ q => add_int q
theorem op_sub : OpR X (binaryOp .Sub) (rI0 fun i j => .int (i - j)) := opI0 fun _ _ _ _ _ _ _ q => sub_int q
theorem op_mul : OpR X (binaryOp .Mult) (rI CMul fun i j => .int (i * j)) := opI fun _ _ _ _ _ _ _ hc q => mul_int q hc.ok
/-- // by a positive divisor -/
theorem op_fdiv : OpR X (binaryOp .FloorDiv) (rI CDiv fun i j => .int (i / j)) := opI fun i j _ _ _ _ _ hc q => by
  have h1 : (0 : Int) < j := hc.1
  have h2 : j < 1073741824 := hc.2
  exact floordiv_int (by omega) (by rw [Int.fdiv_eq_ediv_of_nonneg i (by omega)]; exact q) (.inl (PyProof.noPylong_small (by omega)))
/-- % by a positive divisor of any size -/
theorem op_mod : OpR X (binaryOp .Mod) (rI (fun _ j => 0 < j) fun i j => .int (i % j)) := opI fun i j _ _ _ _ _ hc q => by
  have h1 : (0 : Int) < j := hc
  exact mod_int' (by omega) (by rw [Int.fmod_eq_emod_of_nonneg i (by omega)]; exact q)
theorem op_pow : OpR X (binaryOp .Pow) (rI CPow fun i j => .int (i ^ j.toNat)) := opI fun _ _ _ _ _ _ _ hc q => pow_int_small hc.1 hc.2.1 hc.2.2 q



/-! ### bools among ints: n += (a < b) -/
end

/-! ### comparisons -/
/-- the scalars that == tells apart as data does -/
def scal : V → V → Bool
  | .non, .non => true | .non, .int _ => true | .int _, .non => true | .non, .bl _ => true | .bl _, .non => true | .non, .str _ => true | .str _, .non => true
  | .int _, .int _ => true | .bl _, .bl _ => true | .str _, .str _ => true | .byt _, .byt _ => true
  | .int _, .str _ => true | .str _, .int _ => true | .bl _, .str _ => true | .str _, .bl _ => true
  | _, _ => false
def rEq : R2 := fun x y H Q => scal x y = true ∧ Q (.bl (decide (x = y))) H
def rNe : R2 := fun x y H Q => scal x y = true ∧ Q (.bl (!decide (x = y))) H

theorem dec_int {i j : Int} : decide (V.int i = V.int j) = (i == j) := by
  rw [Bool.eq_iff_iff]
  simp
theorem dec_bl {i j : Bool} : decide (V.bl i = V.bl j) = (i == j) := by
  rw [Bool.eq_iff_iff]
  simp
theorem dec_str {i j : Str} : decide (V.str i = V.str j) = (i == j) := by
  rw [Bool.eq_iff_iff]
  simp
theorem dec_byt {i j : Array UInt8} : decide (V.byt i = V.byt j) = (i.toList == j.toList) := by
  rw [Bool.eq_iff_iff]
  cases i
  cases j
  simp

section
variable {X : Cx} {a b c : Expr} {ta tb tc : TE} {pos : Pos}
theorem fin_bl {pins : List (Addr × Obj)} {σ : St} {H : Hp} {s : Shared} {Q : VK} {k k' : Bool} (I : Inv X pins σ H s) (q : Q (.bl k) H) (e : k = k') : EP X pins σ Q (.bool k') s := by
  subst e
  exact ⟨.bl k, H, I, rfl, q⟩
theorem op_eq : OpR X (compareOp .Eq) rEq := by
  intro pins s σ H x y v u Q I rx ry h
  obtain ⟨hs, q⟩ := h
  cases x with
  | non =>
    cases rx
    cases y with
    | non => cases ry; exact PySem.EqNone.eq_none_none (fin_bl I q (by simp))
    | bl j => cases ry; exact PySem.EqNone.eq_none_bool (fin_bl I q (by simp))
    | int j => obtain ⟨t', rfl⟩ := ry; exact PySem.EqNone.eq_none_int (fin_bl I q (by simp))
    | str j => obtain ⟨t', rfl⟩ := ry; exact PySem.EqNone.eq_none_str (fin_bl I q (by simp))
    | _ => exact absurd (show false = true from hs) Bool.false_ne_true
  | bl i =>
    cases rx
    cases y with
    | non => cases ry; exact PySem.EqNone.eq_bool_none (fin_bl I q (by simp))
    | bl j => cases ry; exact eq_bool (fin_bl I q dec_bl)
    | str j => obtain ⟨t', rfl⟩ := ry; exact PySem.EqMixed.eq_bool_str (fin_bl I q (by simp))
    | _ => exact absurd (show false = true from hs) Bool.false_ne_true
  | int i =>
    obtain ⟨t, rfl⟩ := rx
    cases y with
    | non => cases ry; exact PySem.EqNone.eq_int_none (fin_bl I q (by simp))
    | int j => obtain ⟨t', rfl⟩ := ry; exact eq_int (fin_bl I q dec_int)
    | str j => obtain ⟨t', rfl⟩ := ry; exact PySem.EqMixed.eq_int_str (fin_bl I q (by simp))
    | _ => exact absurd (show false = true from hs) Bool.false_ne_true
  | str i =>
    obtain ⟨t, rfl⟩ := rx
    cases y with
    | non => cases ry; exact PySem.EqNone.eq_str_none (fin_bl I q (by simp))
    | bl j => cases ry; exact PySem.EqMixed.eq_str_bool (fin_bl I q (by simp))
    | int j => obtain ⟨t', rfl⟩ := ry; exact PySem.EqMixed.eq_str_int (fin_bl I q (by simp))
    | str j => obtain ⟨t', rfl⟩ := ry; exact eq_str (fin_bl I q dec_str)
    | _ => exact absurd (show false = true from hs) Bool.false_ne_true
  | byt i =>
    obtain ⟨t, rfl⟩ := rx
    cases y with
    | byt j => obtain ⟨t', rfl⟩ := ry; exact PySem.W.eq_bytes (fin_bl I q dec_byt)
    | _ => exact absurd (show false = true from hs) Bool.false_ne_true
  | _ => cases y <;> exact absurd (show false = true from hs) Bool.false_ne_true
theorem op_ne : OpR X (compareOp .NotEq) rNe := by
  intro pins s σ H x y v u Q I rx ry h
  obtain ⟨hs, q⟩ := h
  cases x with
  | non =>
    cases rx
    cases y with
    | non => cases ry; exact PySem.EqNone.ne_none_none (fin_bl I q (by simp))
    | bl j => cases ry; exact PySem.EqNone.ne_none_bool (fin_bl I q (by simp))
    | int j => obtain ⟨t', rfl⟩ := ry; exact PySem.EqNone.ne_none_int (fin_bl I q (by simp))
    | str j => obtain ⟨t', rfl⟩ := ry; exact PySem.EqNone.ne_none_str (fin_bl I q (by simp))
    | _ => exact absurd (show false = true from hs) Bool.false_ne_true
  | bl i =>
    cases rx
    cases y with
    | non => cases ry; exact PySem.EqNone.ne_bool_none (fin_bl I q (by simp))
    | bl j => cases ry; exact ne_bool (fin_bl I q (congrArg not dec_bl))
    | str j => obtain ⟨t', rfl⟩ := ry; exact PySem.EqMixed.ne_bool_str (fin_bl I q (by simp))
    | _ => exact absurd (show false = true from hs) Bool.false_ne_true
  | int i =>
    obtain ⟨t, rfl⟩ := rx
    cases y with
    | non => cases ry; exact PySem.EqNone.ne_int_none (fin_bl I q (by simp))
    | int j => obtain ⟨t', rfl⟩ := ry; exact ne_int (fin_bl I q (congrArg not dec_int))
    | str j => obtain ⟨t', rfl⟩ := ry; exact PySem.EqMixed.ne_int_str (fin_bl I q (by simp))
    | _ => exact absurd (show false = true from hs) Bool.false_ne_true
  | str i =>
    obtain ⟨t, rfl⟩ := rx
    cases y with
    | non => cases ry; exact PySem.EqNone.ne_str_none (fin_bl I q (by simp))
    | bl j => cases ry; exact PySem.EqMixed.ne_str_bool (fin_bl I q (by simp))
    | int j => obtain ⟨t', rfl⟩ := ry; exact PySem.EqMixed.ne_str_int (fin_bl I q (by simp))
    | str j => obtain ⟨t', rfl⟩ := ry; exact ne_str (fin_bl I q (congrArg not dec_str))
    | _ => exact absurd (show false = true from hs) Bool.false_ne_true
  | byt i =>
    obtain ⟨t, rfl⟩ := rx
    cases y with
    | byt j => obtain ⟨t', rfl⟩ := ry; exact PySem.W.ne_bytes (fin_bl I q (congrArg not dec_byt))
    | _ => exact absurd (show false = true from hs) Bool.false_ne_true
  | _ => cases y <;> exact absurd (show false = true from hs) Bool.false_ne_true

theorem op_lt : OpR X (compareOp .Lt) (rI0 fun i j => .bl (decide (i < j))) := opB0 fun _ _ _ _ _ _ _ q => lt_int q
theorem op_le : OpR X (compareOp .LtE) (rI0 fun i j => .bl (decide (i ≤ j))) := opB0 fun _ _ _ _ _ _ _ q => le_int q
theorem op_gt : OpR X (compareOp .Gt) (rI0 fun i j => .bl (decide (j < i))) := opB0 fun _ _ _ _ _ _ _ q => gt_int q

/-- is None, is not None: the right side a value none -/
theorem op_isN : OpR X (compareOp .Is) (fun x y H Q => y = .non ∧ Q (.bl (decide (x = .non))) H) := by
  intro pins s σ H x y v u Q I rx ry h
  obtain ⟨rfl, q⟩ := h
  cases ry
  refine is_none_gen (fin_bl I q ?_)
  cases x <;> first
    | (cases rx; rfl)
    | (obtain ⟨t, rfl⟩ := rx; rfl)



theorem nomark (b : Expr) {op : CmpOp} (h : op ≠ .In := by decide) (h2 : op ≠ .NotIn := by decide) : behindInMarks op b = false := by
  have e1 : (op == CmpOp.In) = false := by cases op <;> first | rfl | exact absurd rfl h
  have e2 : (op == CmpOp.NotIn) = false := by cases op <;> first | rfl | exact absurd rfl h2
  cases b <;> simp [behindInMarks, e1, e2]
/-- a comparison as a value; hm: nomark b, or (for in, not in) by with_unfolding_all rfl -/
theorem pe_cmpR {op : CmpOp} {r : R2} (ho : OpR X (compareOp op) r) (ha : PE X a ta) (hb : PE X b tb) (hm : behindInMarks op b = false) : PE X (.Compare a [op] [b] pos) (tOp r ta tb) := by
  intro pins s σ H Q I h
  exact wpAny_Compare1 (binT ha hb I h fun v u s2 x y H2 I2 rx ry q => ho pins s2 σ H2 x y v u Q I2 rx ry q) hm
/-- a reading of a value as a test -/
def tTest (t : TE) : TT := fun σ H Q => t σ H fun x H' => ∃ k, x = .bl k ∧ Q k H'
theorem pt_cmpR {op : CmpOp} {r : R2} (ho : OpR X (compareOp op) r) (ha : PE X a ta) (hb : PE X b tb) (hm : behindInMarks op b = false) : PT X (.Compare a [op] [b] pos) (tTest (tOp r ta tb)) := by
  intro pins s σ H Q I h
  refine wpAny_isTrue_Compare1 (thn (ha pins s σ H _ I h) fun v s1 ⟨x, H1, I1, r1, q1⟩ => thn (hb pins s1 σ H1 _ I1 q1) fun u s2 ⟨y, H2, I2, r2, q2⟩ =>
    thn (ho pins s2 σ H2 x y v u _ I2 r1 r2 q2) fun c s3 ⟨z, H3, I3, r3, k, e, q3⟩ => ?_) hm
  subst e
  cases r3
  exact wpAny_truthy_bool ⟨H3, I3, q3⟩
/-- a op1 b op2 c -/
def tChain (r r' : R2) (ta tb tc : TE) : TE := fun σ H Q => ta σ H fun x H1 => tb σ H1 fun y H2 => r x y H2 fun z H3 => ∃ k, z = .bl k ∧
  (if k = true then tc σ H3 fun w' H4 => r' y w' H4 Q else Q (.bl false) H3)
theorem pe_chain {op op' : CmpOp} {r r' : R2} (ho : OpR X (compareOp op) r) (ho' : OpR X (compareOp op') r') (ha : PE X a ta) (hb : PE X b tb) (hc : PE X c tc)
    (hm : lastMarks [op, op'] [b, c] = false := by with_unfolding_all rfl) : PE X (.Compare a [op, op'] [b, c] pos) (tChain r r' ta tb tc) := by
  intro pins s σ H Q I h
  refine Compare_chain (thn (ha pins s σ H _ I h) fun v s1 ⟨x, H1, I1, r1, q1⟩ => chain_link (thn (hb pins s1 σ H1 _ I1 q1) fun u s2 ⟨y, H2, I2, r2, q2⟩ =>
    thn (ho pins s2 σ H2 x y v u _ I2 r1 r2 q2) fun d s3 ⟨z, H3, I3, r3, k, e, q3⟩ => ?_)) hm
  subst e
  cases r3
  refine wpAny_truthy_bool ?_
  cases k with
  | false => exact ite_ff ⟨.bl false, H3, I3, rfl, q3⟩
  | true => exact ite_tt (chain_last (thn (hc pins s3 σ H3 _ I3 q3) fun w' s4 ⟨z', H4, I4, r4, q4⟩ => ho' pins s4 σ H4 y z' u w' Q I4 r2 r4 q4))

/-! ### truth -/
theorem line63 : (sizeLine : Nat) < 2 ^ 63 := by rw [sizeLine_eq]; decide

/-! ### strs and bytes -/
theorem op_add_str : OpR X (binaryOp .Add) (fun x y H Q => ∃ i j, x = .str i ∧ y = .str j ∧ i.length + j.length ≤ sizeLine ∧ Q (.str (i ++ j)) H) := by
  intro pins s σ H x y v u Q I rx ry h
  obtain ⟨i, j, rfl, rfl, hz, q⟩ := h
  obtain ⟨t, rfl⟩ := rx
  obtain ⟨t', rfl⟩ := ry
  exact add_str (fun t' tk => ⟨.str (i ++ j), H, I.tok _, ⟨_, rfl⟩, q⟩) hz


/-! ### scalar builtins, by CallR -/
theorem vals1 {x : V} {us : List Value} (r : Vals [x] us) : ∃ u, us = [u] ∧ RelV x u := by
  cases r with
  | cons r1 r2 => cases r2; exact ⟨_, rfl, r1⟩
theorem vals2 {x y : V} {us : List Value} (r : Vals [x, y] us) : ∃ u w', us = [u, w'] ∧ RelV x u ∧ RelV y w' := by
  cases r with
  | cons r1 r2 =>
    cases r2 with
    | cons r3 r4 => cases r4; exact ⟨_, _, rfl, r1, r3⟩
/-- divmod: a new tuple -/
theorem call_divmod : CallR X (.builtin "divmod") (fun xs H Q => ∃ i j, xs = [.int i, .int j] ∧ CDiv i j ∧ ∀ p, H p = none → Q (.ref p) (upd H p (.tup [.int (i / j), .int (i % j)]))) := by
  intro pins s σ H xs us Q I r h
  obtain ⟨i, j, rfl, ⟨h1, h2⟩, q⟩ := h
  obtain ⟨u, w', rfl, ⟨t, rfl⟩, ⟨t', rfl⟩⟩ := vals2 r
  refine divmod_int (by omega) ?_ (.inl (PyProof.noPylong_small (by omega)))
  rw [Int.fdiv_eq_ediv_of_nonneg i (by omega), Int.fmod_eq_emod_of_nonneg i (by omega)]
  have hn : H s.heap.objs.size = none := I.hok.fresh (Nat.le_refl _)
  refine ⟨.ref s.heap.objs.size, _, ?_, rfl, q _ hn⟩
  refine I.laid (fun b o e => Heap.get?_push_of_some _ e) (Nat.le_refl _) ⟨by simp only [List.length_cons, List.length_nil]; rw [sizeLine_eq]; decide, [.int (i / j) s.toks, .int (i % j) (s.toks + 1)], .cons ⟨_, rfl⟩ (.cons ⟨_, rfl⟩ .nil), ?_⟩
  exact ⟨_, Heap.get?_push_size s.heap rfl, rfl, 0, rfl⟩
end
end L2

namespace L2
open PySem PySem.Spec PyProof.Rows

/-! ### an instance, its attributes a map -/
structure ObjM (h : Heap) (x dx C : Addr) (mA : Str → Option Value) : Prop where
  obj : h.get? x = some (PySem.W.instObj C dx)
  ns : h.Ns1 dx mA
  ne : dx ≠ x

theorem lookIn_ns {h : Heap} {dx : Addr} {mA : Str → Option Value} (n : h.Ns1 dx mA) : ∃ od, h.get? dx = some od ∧ ∀ name, PySem.W.lookIn name od = some (mA name) := by
  obtain ⟨o, es, ep, ho, hd, hk, _, hm⟩ := n
  refine ⟨o, ho, fun name => ?_⟩
  have e := hm name
  unfold nsFind findBy at e
  rw [← Array.find?_toList] at e
  unfold PySem.W.lookIn
  rw [hd]
  dsimp only
  split
  · rename_i y q
    rw [q] at e
    exact congrArg some e
  · rename_i q
    rw [q] at e
    have a : es.toList.any (·.refKey) = false := by
      rw [List.any_eq_false]
      intro y hy
      obtain ⟨z, t, hkey⟩ := hk y (Array.mem_toList_iff.mp hy)
      simp [DictEntry.refKey, hkey]
    have a' : ¬ es.toList.any (·.refKey) = true := by rw [a]; exact Bool.false_ne_true
    rw [if_neg a']
    exact congrArg some e

theorem ObjM.look {h : Heap} {x dx C : Addr} {mA : Str → Option Value} (I : ObjM h x dx C mA) : ∃ od, PySem.W.InstAt h x (PySem.W.instObj C dx) C (some od) ∧ ∀ name, PySem.W.lookIn name od = some (mA name) :=
  let ⟨od, ho, hl⟩ := lookIn_ns I.ns
  ⟨od, ⟨I.obj, rfl, rfl, ho⟩, hl⟩

section
variable {prog : Program} {w : World} {A : Around} {E : Value → Shared → Prop} {s : Shared} {K : PySem.W.Frag} {x dx C f : Addr} {mA : Str → Option Value} {name : Str} {v : Value}

theorem get_map {expr : Bool} {Q : Value → Shared → Prop} (X : K.In s.heap) (I : ObjM s.heap x dx C mA) (hg : PySem.W.plainGet K C name = true) (hh : PySem.W.hasDictIn K C = true)
    (ha : PySem.W.findIn K (.ref C) name = some none) (hv : mA name = some v) (hv' : PySem.W.handedIn v = true) (h : Q v { s with toks := s.toks + 1 }) :
    wpAny (model prog w) A (getAttr (.ref x) name expr) Q E s := by
  obtain ⟨od, J, hl⟩ := I.look
  exact PySem.W.get_value X J (PySem.W.plainGet_of hg).1 (PySem.W.findObj_own hh ha rfl (by rw [hl, hv])) hv' h


theorem get_meth {pl : Sem Bool} {Q : Value × List Value → Shared → Prop} (X : K.In s.heap) (I : ObjM s.heap x dx C mA) (hg : PySem.W.plainGet K C name = true)
    (hf : PySem.W.findIn K (.ref C) name = some (some (.ref f))) (ht : PySem.W.isFn K (.ref f) = true) (hv : mA name = none) (h : Q (.ref f, [.ref x]) s) :
    wpAny (model prog w) A (getMethod (.ref x) name pl) Q E s := by
  obtain ⟨od, J, hl⟩ := I.look
  exact PySem.W.method_fn X J (PySem.W.plainGet_of hg).1 (PySem.W.plainGet_of hg).2 hf (beq_iff_eq.mp ht) (by show (PySem.W.lookIn name od).map (·.isSome) = some false; rw [hl, hv]; rfl) h

theorem set_map {ns : List Str} {Q : Unit → Shared → Prop} (X : K.In s.heap) (I : ObjM s.heap x dx C mA)
    (hs : PySem.W.findIn K (.ref C) "__setattr__" = some (some (.builtin "object.__setattr__"))) (hp : PySem.W.plainOver K C = true) (ht : PySem.W.takerIn K C name = some none) (hh : PySem.W.hasDictIn K C = true)
    (hw : PySem.Within mA ns) (hsz : ns.length ≤ sizeLine)
    (h : ∀ h', ObjM h' x dx C (fun y => if y = name then some v else mA y) → Heap.SameBut dx s.heap h' → Q () { s with heap := h', toks := s.toks + 2 }) :
    wpAny (model prog w) A (setAttr (.ref x) name v) Q E s := by
  obtain ⟨od, J, hl⟩ := I.look
  refine PySem.W.set_plain X J hs (PySem.W.osa_open (s := { s with toks := s.toks + 1 }) (r := none) X J hp ht fun b => ?_)
  obtain ⟨cd, hc, hd'⟩ := PySem.W.any_some hh
  have hx : s.heap.get? x = some ⟨.ref C, some dx, .plain, #[]⟩ := I.obj
  refine wpAny_bind (wpAny_pure (wpAny_bind (wpAny_bind (wpAny_loadPart hx (wpAny_bind (PySem.W.Looks.here (s := { s with toks := s.toks + 1 }) (PySem.W.looks_clsIn X hc) ?_))))))
  rw [hd']
  refine wpAny_pure (a := some dx) (wpAny_bind (wpAny_pure (wpAny_bind ?_)))
  refine wpAny_nsSet1 (s := { s with toks := s.toks + 1 }) I.ns fun h' hn2 hs2 => ?_
  obtain ⟨oD, esD, epD, hoD, hdD, hcD⟩ := hn2.count (PySem.Within.cons name v hw)
  refine wpAny_bind (wpAny_lookBehind hoD (by rw [hdD]; exact pastItsLine_dict (Nat.le_trans hcD (by rw [List.length_cons]; omega))) ?_)
  exact wpAny_pure (h _ ⟨(hs2.2 _ (Ne.symm I.ne)).trans I.obj, hn2, I.ne⟩ hs2)

/-- C(..): the dict at the heap's end, the instance behind it; then its __init__ -/
theorem make_map {R : Result → Shared → Prop} {vs : List Value} {kw : List (Str × Value)} (X : K.In s.heap) (hm : PySem.W.makesIn K C = true)
    (hi : PySem.W.findIn K (.ref C) "__init__" = some (some (.ref f))) (hf : PySem.W.typeIn K (.ref f) = some (.type "function"))
    (h : codeAny (model prog w) (A.under (.builtin "type.__call__" ⟨.ref C :: vs, kw⟩)) (.call (.ref f) ⟨.ref (s.heap.objs.size + 1) :: vs, kw⟩) (PySem.W.InitBack (s.heap.objs.size + 1) R)
      { s with heap := (s.heap.push PySem.W.emptyDict).push (PySem.W.instObj C s.heap.objs.size) }) :
    codeAny (model prog w) A (.call (.ref C) ⟨vs, kw⟩) R s := by
  obtain ⟨hh, g, d, t, os⟩ := s
  exact PySem.W.make_core (PySem.W.makes_of X hm) (PySem.W.looks_findIn X hi) (fun self => PySem.W.bind_fn X self hf) (.inl rfl) h
/-- C() where there is no __init__ but object's -/
theorem make_map0 {R : Result → Shared → Prop} (X : K.In s.heap) (hm : PySem.W.makesIn K C = true)
    (hi : PySem.W.findIn K (.ref C) "__init__" = some (some (.builtin "object.__init__")))
    (hb : ∀ self, PySem.W.Looks (model prog w) s.heap (bindSpecial (.builtin "object.__init__") self) (.builtin "object.__init__", [self]))
    (h : codeAny (model prog w) (A.under (.builtin "type.__call__" ⟨[.ref C], []⟩)) (.call (.builtin "object.__init__") ⟨[.ref (s.heap.objs.size + 1)], []⟩) (PySem.W.InitBack (s.heap.objs.size + 1) R)
      { s with heap := (s.heap.push PySem.W.emptyDict).push (PySem.W.instObj C s.heap.objs.size) }) :
    codeAny (model prog w) A (.call (.ref C) ⟨[], []⟩) R s := by
  obtain ⟨hh, g, d, t, os⟩ := s
  exact PySem.W.make_core (PySem.W.makes_of X hm) (PySem.W.looks_findIn X hi) hb (.inr ⟨rfl, rfl⟩) h
end

/-! ### the attributes as a list of pairs -/
def putF (f : Str) (v : V) : List (Str × V) → List (Str × V)
  | [] => [(f, v)]
  | (g, x) :: r => if g = f then (g, v) :: r else (g, x) :: putF f v r
theorem lookup_putF (f g : Str) (v : V) : ∀ fs : List (Str × V), (putF f v fs).lookup g = if g = f then some v else fs.lookup g
  | [] => by
    show List.lookup g [(f, v)] = _
    by_cases h : g = f
    · have hb : (g == f) = true := beq_iff_eq.mpr h
      simp only [List.lookup, hb, if_pos h]
    · have hb : (g == f) = false := beq_eq_false_iff_ne.mpr h
      simp only [List.lookup, hb, if_neg h]
  | (k, x) :: r => by
    have ih := lookup_putF f g v r
    rw [show putF f v ((k, x) :: r) = (if k = f then (k, v) :: r else (k, x) :: putF f v r) from rfl]
    by_cases hk : k = f
    · rw [if_pos hk]
      by_cases h : g = k
      · have hb : (g == k) = true := beq_iff_eq.mpr h
        simp only [List.lookup, hb, if_pos (h.trans hk)]
      · have hb : (g == k) = false := beq_eq_false_iff_ne.mpr h
        simp only [List.lookup, hb, if_neg (fun e : g = f => h (e.trans hk.symm))]
    · rw [if_neg hk]
      by_cases h : g = k
      · have hb : (g == k) = true := beq_iff_eq.mpr h
        simp only [List.lookup, hb, if_neg (fun e : g = f => hk (h.symm.trans e))]
      · have hb : (g == k) = false := beq_eq_false_iff_ne.mpr h
        simp only [List.lookup, hb]
        exact ih
theorem keys_putF (f : Str) (v : V) : ∀ fs : List (Str × V), f ∈ (putF f v fs).map (·.1) ∧ ∀ g, g ∈ fs.map (·.1) → g ∈ (putF f v fs).map (·.1)
  | [] => ⟨by simp [putF], fun g h => by simp at h⟩
  | (k, x) :: r => by
    obtain ⟨i1, i2⟩ := keys_putF f v r
    rw [show putF f v ((k, x) :: r) = (if k = f then (k, v) :: r else (k, x) :: putF f v r) from rfl]
    by_cases hk : k = f
    · rw [if_pos hk]
      subst hk
      exact ⟨by simp, fun g h => by simpa using h⟩
    · rw [if_neg hk]
      refine ⟨?_, fun g h => ?_⟩
      · rw [List.map_cons]
        exact List.mem_cons_of_mem _ i1
      · rw [List.map_cons] at h ⊢
        rcases List.mem_cons.mp h with e | e
        · exact List.mem_cons.mpr (.inl e)
        · exact List.mem_cons_of_mem _ (i2 g e)
theorem length_putF (f : Str) (v : V) : ∀ fs : List (Str × V), (putF f v fs).length ≤ fs.length + 1
  | [] => by simp [putF]
  | (k, x) :: r => by
    have ih := length_putF f v r
    rw [show putF f v ((k, x) :: r) = (if k = f then (k, v) :: r else (k, x) :: putF f v r) from rfl]
    by_cases hk : k = f
    · rw [if_pos hk, List.length_cons, List.length_cons]; omega
    · rw [if_neg hk, List.length_cons, List.length_cons]; omega

theorem RelO.some_of {v : V} {o : Option Value} (r : RelO (some v) o) : ∃ u, o = some u ∧ RelV v u := by
  cases o with
  | none => exact (show False from r).elim
  | some u => exact ⟨u, rfl, r⟩
theorem RelO.none_of {o : Option Value} (r : RelO none o) : o = none := by
  cases o with
  | none => rfl
  | some u => exact (show False from r).elim
theorem handed_of {v : V} {u : Value} (r : RelV v u) : PySem.W.handedIn u = true := by
  cases v with
  | non => cases (show u = Value.none from r); rfl
  | bl b => cases (show u = Value.bool b from r); rfl
  | int i => obtain ⟨t, e⟩ := (show ∃ t, u = Value.int i t from r); cases e; rfl
  | str x => obtain ⟨t, e⟩ := (show ∃ t, u = Value.str x t from r); cases e; rfl
  | byt b => obtain ⟨t, e⟩ := (show ∃ t, u = Value.bytes b t from r); cases e; rfl
  | flt b => obtain ⟨t, e⟩ := (show ∃ t, u = Value.float b t from r); cases e; rfl
  | ref a => cases (show u = Value.ref a from r); rfl
  | ty n => cases (show u = Value.type n from r); rfl

section
variable {P : Program} {w : World} {H H' : Hp} {h h' : Heap} {a C dx : Addr} {fs fs' : List (Str × V)}
theorem ins_get (hok : HOk P w H h) (e : H a = some (.ins C dx fs)) : ∃ mA, ObjM h a dx C mA ∧ (∀ f, RelO (fs.lookup f) (mA f)) ∧ PySem.Within mA (fs.map (·.1)) ∧ fs.length ≤ 1000 ∧ H dx = some (.own a) := by
  obtain ⟨d, z, ne, ob, mA, n, r, q⟩ := (show ObjOk P w H h a (.ins C dx fs) from hok a _ e)
  exact ⟨mA, ⟨ob, n, ne⟩, r, q, z, d⟩
end

/-! ### what of the text a class must have -/
structure Cls (K : PySem.W.Frag) (C : Addr) : Prop where
  pg : PySem.W.plainGet K C Str.empty = true
  hd : PySem.W.hasDictIn K C = true
  po : PySem.W.plainOver K C = true
  sa : PySem.W.findIn K (.ref C) "__setattr__" = some (some (.builtin "object.__setattr__"))
theorem Cls.get {K : PySem.W.Frag} {C : Addr} (c : Cls K C) (f : Str) : PySem.W.plainGet K C f = true := c.pg
/-- no class of it has the name -/
def NoAttr (K : PySem.W.Frag) (C : Addr) (f : Str) : Prop := PySem.W.findIn K (.ref C) f = some none
theorem NoAttr.taker {K : PySem.W.Frag} {C : Addr} {f : Str} (n : NoAttr K C f) : PySem.W.takerIn K C f = some none := by
  unfold PySem.W.takerIn
  rw [show PySem.W.findIn K (.ref C) f = some none from n]
  rfl
/-- a method: a plain def of the class or of one above it -/
structure Meth (K : PySem.W.Frag) (C : Addr) (m : Str) (f : Addr) : Prop where
  at_ : PySem.W.findIn K (.ref C) m = some (some (.ref f))
  fn : PySem.W.isFn K (.ref f) = true
  kp : PySem.W.keepIn K (.ref f) = true

section
variable {X : Cx} {pins : List (Addr × Obj)} {σ : St} {H : Hp} {s : Shared} {a C dx : Addr} {fs : List (Str × V)} {f : Str} {v : V} {A : Around} {E : Value → Shared → Prop}

theorem getattr_ok {b : Bool} {Q : Value → Shared → Prop} (I : Inv X pins σ H s) (e : H a = some (.ins C dx fs)) (c : Cls X.K C) (n : NoAttr X.K C f) (l : fs.lookup f = some v)
    (h : ∀ u s', Inv X pins σ H s' → RelV v u → Q u s') : wpAny (model X.prog X.w) A (getAttr (.ref a) f b) Q E s := by
  obtain ⟨mA, O, r, _, _, _⟩ := ins_get I.hok e
  obtain ⟨u, hu, ru⟩ := RelO.some_of (v := v) (o := mA f) (by rw [← l]; exact r f)
  exact get_map I.kIn O (c.get f) c.hd n hu (handed_of ru) (h u _ (I.tok _) ru)


theorem getmeth_ok {m : Str} {g : Addr} {pl : Sem Bool} {Q : Value × List Value → Shared → Prop} (I : Inv X pins σ H s) (e : H a = some (.ins C dx fs)) (c : Cls X.K C) (k : Meth X.K C m g) (l : fs.lookup m = none)
    (h : Q (.ref g, [.ref a]) s) : wpAny (model X.prog X.w) A (getMethod (.ref a) m pl) Q E s := by
  obtain ⟨mA, O, r, _, _, _⟩ := ins_get I.hok e
  have hn : mA m = none := RelO.none_of (by rw [← l]; exact r m)
  exact get_meth I.kIn O (c.get m) k.at_ k.fn hn h

theorem setattr_ok {y : V} {u : Value} {Q : Unit → Shared → Prop} (I : Inv X pins σ H s) (e : H a = some (.ins C dx fs)) (c : Cls X.K C) (n : NoAttr X.K C f) (hl : fs.length < 1000) (ry : RelV y u)
    (h : ∀ s', Inv X pins σ (upd H a (.ins C dx (putF f y fs))) s' → Q () s') : wpAny (model X.prog X.w) A (setAttr (.ref a) f u) Q E s := by
  obtain ⟨mA, O, r, wi, _, ho⟩ := ins_get I.hok e
  have hz : (fs.map (·.1)).length ≤ sizeLine := by rw [List.length_map, sizeLine_eq]; omega
  refine set_map I.kIn O c.sa c.po n.taker c.hd wi hz fun h' O' sb => h _ ?_
  have hd : ∃ o, h'.get? dx = some o := let ⟨o, _, _, e', _⟩ := O'.ns; ⟨o, e'⟩
  refine I.write (x := a) (e := dx) (by rw [e]; exact True.intro) (.inr ho) (fun b q hb z => (sb.2 b hb).trans z) hd ?_
  refine ⟨by rw [upd_ne O.ne]; exact ho, ?_, O.ne, O'.obj, _, O'.ns, fun g => ?_, fun g hg => ?_⟩
  · have := length_putF f y fs; omega
  · show RelO ((putF f y fs).lookup g) (if g = f then some u else mA g)
    rw [lookup_putF]
    by_cases q : g = f
    · rw [if_pos q, if_pos q]; exact ry
    · rw [if_neg q, if_neg q]; exact r g
  · by_cases q : g = f
    · rw [q]; exact (keys_putF f y fs).1
    · refine (keys_putF f y fs).2 g (wi g fun z => hg ?_)
      show (if g = f then some u else mA g) = none
      rw [if_neg q]; exact z

/-- a new instance, tracked, without attributes -/
theorem Inv.made (I : Inv X pins σ H s) : Inv X pins σ (upd (upd H s.heap.objs.size (.own (s.heap.objs.size + 1))) (s.heap.objs.size + 1) (.ins C s.heap.objs.size []))
    { s with heap := (s.heap.push PySem.W.emptyDict).push (PySem.W.instObj C s.heap.objs.size) } := by
  have e1 : (s.heap.push PySem.W.emptyDict).get? s.heap.objs.size = some PySem.W.emptyDict := Heap.get?_push_size s.heap rfl
  have e2 : ((s.heap.push PySem.W.emptyDict).push (PySem.W.instObj C s.heap.objs.size)).get? (s.heap.objs.size + 1) = some (PySem.W.instObj C s.heap.objs.size) := by
    have := Heap.get?_push_size (s.heap.push PySem.W.emptyDict) (o := PySem.W.instObj C s.heap.objs.size) rfl
    rwa [Heap.size_push] at this
  have e3 : (s.heap.push PySem.W.emptyDict).Ns s.heap.objs.size (fun _ => none) := ⟨PySem.W.emptyDict, #[], _, e1, rfl, (fun e he => absurd he (by simp)), fun _ => rfl⟩
  have I1 := I.laid (a := s.heap.objs.size) (o := .own (s.heap.objs.size + 1)) (h' := s.heap.push PySem.W.emptyDict) (t' := s.toks) (fun b u q => Heap.get?_push_of_some _ q) (Nat.le_refl _) ⟨_, e1⟩
  refine I1.laid (a := s.heap.objs.size + 1) (o := .ins C s.heap.objs.size []) (t' := s.toks) (fun b u q => Heap.get?_push_of_some _ q) (Nat.le_of_eq (Heap.size_push _ _)) ?_
  have ne : s.heap.objs.size ≠ s.heap.objs.size + 1 := Nat.ne_of_lt (Nat.lt_succ_self _)
  refine ⟨by rw [upd_ne ne, upd_same], Nat.zero_le _, ne, e2, fun _ => none, (Heap.Ns1.of_empty e3).at fun o q => Heap.get?_push_of_some _ q, fun _ => True.intro, fun y hy => absurd rfl hy⟩

/-- e.f where nothing but the object is asked: through attributeBase (super) and the last hold -/
theorem attr_of {prog : Program} {w : World} {env : Env} {e : Expr} {f : Str} {pos : Pos} {s : Shared} {Q : Value → Shared → Prop} (hb : attributeBase e f env (eval e env) = eval e env)
    (h : wpAny (model prog w) A (eval e env) (fun o s₁ => wpAny (model prog w) A (getAttr o f true) Q E s₁) E s) : wpAny (model prog w) A (eval (.Attribute e f pos) env) Q E s :=
  Attribute_any_ h (by rw [arm_eval_Attribute, hb])
end

/-! ### readings and rules -/
/-- e.f, an attribute of the instance -/
def tFld (K : PySem.W.Frag) (ta : TE) (f : Str) : TE := fun σ H Q => ta σ H fun x H1 => ∃ a C dx fs v, x = .ref a ∧ H1 a = some (.ins C dx fs) ∧ Cls K C ∧ NoAttr K C f ∧ fs.lookup f = some v ∧ Q v H1
/-- e.f = value -/
def sFld (K : PySem.W.Frag) (ta tv : TE) (f : Str) : TS := fun D σ H => tv σ H fun y H1 => ta σ H1 fun x H2 => ∃ a C dx fs, x = .ref a ∧ H2 a = some (.ins C dx fs) ∧ Cls K C ∧ NoAttr K C f ∧ fs.length < 1000 ∧
  D.nx σ (upd H2 a (.ins C dx (putF f y fs)))

section
variable {X : Cx} {o e value : Expr} {f : Str} {pos pos' tpos : Pos} {ta tv : TE}
theorem pe_fld (he : PE X e ta) (hb : attributeBase e f X.env (eval e X.env) = eval e X.env) : PE X (.Attribute e f pos) (tFld X.K ta f) := by
  intro pins s σ H Q I h
  refine attr_of hb (thn (he pins s σ H _ I h) fun u s1 ⟨x, H1, I1, rx, a, C, dx, fs, v, ex, ea, c, n, l, q⟩ => ?_)
  subst ex
  obtain rfl : u = Value.ref a := rx
  exact getattr_ok I1 ea c n l fun u' s2 I2 ru => ⟨v, H1, I2, ru, q⟩
theorem ps_fld (ha : PE X o ta) (hv : PE X value tv) (hs : swapsWith value (some (.Attribute o f pos')) pos.line X.env = pure false) : PS X (.Assign [.Attribute o f pos'] value pos) (sFld X.K ta tv f) := by
  intro pins s σ H D I h
  refine plainObj_wpAny_Assign_Attribute (thn (hv pins s σ H _ I h) fun u s1 ⟨y, H1, I1, ry, q⟩ => thn (ha pins s1 σ H1 _ I1 q) fun ov s2 ⟨x, H2, I2, rx, a, C, dx, fs, ex, ea, c, n, l, q2⟩ => ?_) hs
  subst ex
  obtain rfl : ov = Value.ref a := rx
  exact setattr_ok I2 ea c n l ry fun s3 I3 => ⟨σ, _, I3, q2⟩

/-- what is between an instance and its method: the tree of a method call -/
theorem methcall_of {pl : Sem Bool} {m : Str} {apos : Pos} {args : List Expr} {pins : List (Addr × Obj)} {s : Shared} {σ : St} {H : Hp} {Q : Value → Shared → Prop} {te : TE} (he : PE X e te) (I : Inv X pins σ H s)
    (h : te σ H fun x H1 => ∃ a C dx fs g, x = .ref a ∧ H1 a = some (.ins C dx fs) ∧ Cls X.K C ∧ Meth X.K C m g ∧ fs.lookup m = none ∧
      ∀ s1, Inv X pins σ H1 s1 → wpAny (model X.prog X.w) X.A (callWith pos (.ref g) [.ref a] (backTo pos (starEach args X.env)) (backToKw pos (keywordEach [] X.env))) Q X.xe s1)
    (ht : eval (.Call (.Attribute e m apos) args [] pos) X.env = (do
      let ov ← eval e X.env
      standAt apos.atName
      let (f, first) ← holding [ov] (getMethod ov m pl)
      callWith pos f first (backTo pos (starEach args X.env)) (backToKw pos (keywordEach [] X.env)))) :
    wpAny (model X.prog X.w) X.A (eval (.Call (.Attribute e m apos) args [] pos) X.env) Q X.xe s := by
  refine PySem.W.methodCall_KW (pl := pl) (thn (he pins s σ H _ I h) fun u s1 ⟨x, H1, I1, rx, a, C, dx, fs, g, ex, ea, c, k, l, q⟩ => ?_) ht
  subst ex
  obtain rfl : u = Value.ref a := rx
  exact getmeth_ok I1 ea c k l (q s1 I1)
end

/-! ### isinstance -/
section
variable {X : Cx} {pins : List (Addr × Obj)} {σ : St} {H : Hp} {s : Shared} {A : Around} {E : Value → Shared → Prop} {Q : Value → Shared → Prop} {c : Value} {b : Bool}
/-- the type of a value, as the fragment's deciders take it; for an instance its class -/
inductive TyOf (K : PySem.W.Frag) (H : Hp) : V → Value → Prop where
  | non : TyOf K H .non (.type "NoneType")
  | bl (x : Bool) : TyOf K H (.bl x) (.type "bool")
  | int (i : Int) : TyOf K H (.int i) (.type "int")
  | str (x : Str) : TyOf K H (.str x) (.type "str")
  | flt (x : UInt64) : TyOf K H (.flt x) (.type "float")
  | lst {a : Addr} {xs : List V} (e : H a = some (.lst xs)) : TyOf K H (.ref a) (.type "list")
  | frz {a : Addr} {o : Obj} {xs : List V} (e : H a = some (.frz o (.lst xs))) : TyOf K H (.ref a) (.type "list")
  | tup {a : Addr} {xs : List V} (e : H a = some (.tup xs)) : TyOf K H (.ref a) (.type "tuple")
  | dK {a : Addr} {kvs : List (Key × V)} (e : H a = some (.dK kvs)) : TyOf K H (.ref a) (.type "dict")
  | dT {a : Addr} {kvs : List (List Key × V)} (e : H a = some (.dT kvs)) : TyOf K H (.ref a) (.type "dict")
  | ins {a C dx : Addr} {fs : List (Str × V)} (e : H a = some (.ins C dx fs)) (cl : Cls K C) (ha : PySem.W.findIn K (.ref C) "__class__" = some (some (.builtin "object.__class__")))
      (hn : PySem.W.specialIn K (.builtin "object.__class__") "__get__" = some (some (.builtin "getset_descriptor.__get__"))) (htk : PySem.W.takesIn K (.builtin "object.__class__") = some true)
      (hm : PySem.W.mroIn K C (.type "object") = some true) : TyOf K H (.ref a) (.ref C)
/-- isinstance(x, c) for one class c, a built-in or an own one: kitOne's answer -/
theorem isinst_ok {x : V} {u t : Value} (I : Inv X pins σ H s) (rx : RelV x u) (ty : TyOf X.K H x t) (e : PySem.W.kitOne X.K t c = some b) (h : ∀ tk, Q (.bool b) { s with toks := tk }) :
    wpAny (model X.prog X.w) A (call (.builtin "isinstance") [u, c]) Q E s := by
  cases ty with
  | non => cases (show u = Value.none from rx); exact PySem.W.kia_one PySem.W.kitx_none I.kIn True.intro e (fun z => nomatch z) h
  | bl y => cases (show u = Value.bool y from rx); exact PySem.W.kia_one PySem.W.kitx_bool I.kIn True.intro e (fun z => nomatch z) h
  | int i => obtain ⟨t, q⟩ := (show ∃ t, u = Value.int i t from rx); cases q; exact PySem.W.kia_one PySem.W.kitx_int I.kIn True.intro e (fun z => nomatch z) h
  | str y => obtain ⟨t, q⟩ := (show ∃ t, u = Value.str y t from rx); cases q; exact PySem.W.kia_one PySem.W.kitx_str I.kIn True.intro e (fun z => nomatch z) h
  | flt y => obtain ⟨t, q⟩ := (show ∃ t, u = Value.float y t from rx); cases q; exact PySem.W.kia_one PySem.W.kitx_float I.kIn True.intro e (fun z => nomatch z) h
  | @lst a xs ea =>
    cases (show u = Value.ref a from rx)
    obtain ⟨_, _, n, _, h1⟩ := (show ObjOk X.prog X.w H s.heap a (.lst xs) from I.hok a _ ea)
    exact PySem.W.kia_one PySem.W.kitx_list I.kIn ⟨_, h1, rfl⟩ e (fun z => nomatch z) h
  | @frz a ob xs ea =>
    cases (show u = Value.ref a from rx)
    obtain ⟨_, _, _, n, _, h1⟩ := (show ObjOk X.prog X.w H s.heap a (.frz ob (.lst xs)) from I.hok a _ ea)
    exact PySem.W.kia_one PySem.W.kitx_list I.kIn ⟨_, h1, rfl⟩ e (fun z => nomatch z) h
  | @tup a xs ea =>
    cases (show u = Value.ref a from rx)
    obtain ⟨_, _, _, p⟩ := (show ObjOk X.prog X.w H s.heap a (.tup xs) from I.hok a _ ea)
    obtain ⟨o, h1, h2, _⟩ := p
    exact PySem.W.kia_one PySem.W.kitx_tuple I.kIn ⟨o, h1, h2⟩ e (fun z => nomatch z) h
  | @dK a kvs ea =>
    cases (show u = Value.ref a from rx)
    obtain ⟨_, _, vs, _, p⟩ := (show ObjOk X.prog X.w H s.heap a (.dK kvs) from I.hok a _ ea)
    obtain ⟨o, es, ep, h1, h2, _⟩ := p
    exact PySem.W.kia_one PySem.W.kitx_dict I.kIn ⟨o, h1, h2.1⟩ e (fun z => nomatch z) h
  | @dT a kvs ea =>
    cases (show u = Value.ref a from rx)
    obtain ⟨_, _, xs, _, o, es, ep, h1, h2, _⟩ := (show ObjOk X.prog X.w H s.heap a (.dT kvs) from I.hok a _ ea)
    exact PySem.W.kia_one PySem.W.kitx_dict I.kIn ⟨o, h1, h2.1⟩ e (fun z => nomatch z) h
  | @ins a C dx fs ea cl ha hn htk hm =>
    cases (show u = Value.ref a from rx)
    obtain ⟨mA, O, _⟩ := ins_get I.hok ea
    obtain ⟨od, J, _⟩ := O.look
    exact PySem.W.kia_one (PySem.W.kitx_own (cl.get _) cl.hd ha hn htk hm) I.kIn J e (fun z => nomatch z) h
end
end L2

namespace L2
open PySem PySem.Spec PyProof.Rows

/-! ### room -/
structure Room (k : Nat) (A : Around) : Prop where
  hd : A.handled = none
  dp : A.depth + 3 * k + 5 < recursionLimit
  un : A.units + 16 * k + 200 < cLine
theorem Room.mono {j k : Nat} {A : Around} (r : Room k A) (h : j ≤ k) : Room j A := ⟨r.hd, by have := r.dp; omega, by have := r.un; omega⟩
theorem Room.deeper {k : Nat} {A : Around} (r : Room (k + 1) A) (env : Env) : Room k (A.deeper env) :=
  ⟨r.hd, by have := r.dp; show A.depth + 1 + 3 * k + 5 < _; omega, by have := r.un; show A.units + 3 + 16 * k + 200 < _; omega⟩
theorem make_depth {A : Around} {C : Addr} {us : List Value} {kw : List (Str × Value)} : (A.under (.builtin "type.__call__" ⟨.ref C :: us, kw⟩)).depth = A.depth + 1 := by
  first | rfl | simp [Around.under, Code.weight, Code.isCreation, Code.isGuard, Code.isCaller, Code.frames, Code.isFrame, guardIds]
theorem make_units {A : Around} {C : Addr} {us : List Value} {kw : List (Str × Value)} : (A.under (.builtin "type.__call__" ⟨.ref C :: us, kw⟩)).units = A.units + 1 := by
  first | rfl | simp [Around.under, Code.cUnits, Code.frames, Code.isFrame]
theorem Room.make {k : Nat} {A : Around} (r : Room (k + 1) A) (C : Addr) (us : List Value) (kw : List (Str × Value)) : Room k (A.under (.builtin "type.__call__" ⟨.ref C :: us, kw⟩)) :=
  ⟨r.hd, by have := r.dp; rw [make_depth]; omega, by have := r.un; rw [make_units]; omega⟩
theorem Room.depth {k : Nat} {A : Around} (r : Room k A) : A.depth < recursionLimit := by have := r.dp; omega
theorem Room.units {k : Nat} {A : Around} (r : Room k A) : A.units + 64 < cLine := by have := r.un; omega
theorem Room.units0 {k : Nat} {A : Around} (r : Room k A) : A.units < cLine := by have := r.un; omega

/-! ### argument lists and displays -/
def tNil : TA := fun _ H Q => Q [] H
def tCons (ta : TE) (tr : TA) : TA := fun σ H Q => ta σ H fun x H1 => tr σ H1 fun xs H2 => Q (x :: xs) H2
section
variable {X : Cx} {e : Expr} {es : List Expr} {te : TE} {t : TA} {pos : Pos}
theorem pa_nil : PA X [] tNil := fun _ _ _ _ H Q I h => Calls.spliced_nil ⟨[], H, I, .nil, h⟩
theorem pa_cons (ha : PE X e te) (hr : PA X es t) (hs : starEach (e :: es) X.env = (false, eval e X.env) :: starEach es X.env := by rfl) : PA X (e :: es) (tCons te t) := by
  intro pos pins s σ H Q I h
  rw [hs]
  show wpAny _ _ (spliced ((false, eval e X.env) :: backTo pos (starEach es X.env))) _ _ s
  refine Calls.spliced_cons (thn (ha pins s σ H _ I h) fun u s1 ⟨x, H1, I1, r1, q1⟩ => ?_)
  exact thn (hr pos pins s1 σ H1 _ I1 q1) fun us s2 ⟨xs, H2, I2, r2, q2⟩ => ⟨x :: xs, H2, I2, .cons r1 r2, q2⟩

/-- a tuple, a list of written items -/
def tTup (t : TA) : TE := fun σ H Q => t σ H fun xs H1 => xs.length ≤ sizeLine ∧ ∀ p, H1 p = none → Q (.ref p) (upd H1 p (.tup xs))
def tLst (t : TA) : TE := fun σ H Q => t σ H fun xs H1 => xs.length ≤ sizeLine ∧ ∀ p, H1 p = none → Q (.ref p) (upd H1 p (.lst xs))
theorem pe_tup {x1} (h : PA X es t) : PE X (.Tuple es x1 pos) (tTup t) := by
  intro pins s σ H Q I hq
  refine wpAny_Tuple_spliced (thn (h pos pins s σ H _ I hq) fun us s1 ⟨xs, H1, I1, r, z, q⟩ => ⟨by rw [← r.length]; exact z, ?_⟩)
  have hf : H1 s1.heap.objs.size = none := I1.hok.fresh (Nat.le_refl _)
  refine ⟨.ref s1.heap.objs.size, upd H1 s1.heap.objs.size (.tup xs), I1.laid (t' := s1.toks) (fun b u e => Heap.get?_push_of_some _ e) (Nat.le_refl _) ?_, rfl, q _ hf⟩
  exact ⟨z, us, r, ⟨_, Heap.get?_push_size _ rfl, rfl, _, rfl⟩⟩
theorem pe_lst (h : PA X es t) : PE X (.List es pos) (tLst t) := by
  intro pins s σ H Q I hq
  refine wpAny_List_spliced (thn (h pos pins s σ H _ I hq) fun us s1 ⟨xs, H1, I1, r, z, q⟩ => ⟨by rw [← r.length]; exact z, ?_⟩)
  have hf : H1 s1.heap.objs.size = none := I1.hok.fresh (Nat.le_refl _)
  refine ⟨.ref s1.heap.objs.size, upd H1 s1.heap.objs.size (.lst xs), I1.laid (t' := s1.toks) (fun b u e => Heap.get?_push_of_some _ e) (Nat.le_refl _) ?_, rfl, q _ hf⟩
  exact ⟨z, us, 0, r, Heap.get?_push_size _ rfl⟩
end

/-! ### what a def promises -/
/-- a def's promise: the bound arguments in the parameters' order, the heap, the wanted end, the wanted exception -/
abbrev Sp := List V → Hp → VK → XK → Prop
/-- how an exception lies behind a call (file 08 gives it): the callers' frames, abstract heap and state ahead of the call, the wish, the exception, the state -/
abbrev CXT := List Env → Hp → Shared → XK → Value → Shared → Prop

/-- the state at a call -/
structure Env0 (P : Program) (w : World) (K : PySem.W.Frag) (mg : Str → Option Value) (base : Heap) (A : Around) (outer : List Env) (s : Shared) (H : Hp) : Prop where
  frames : A.frames = some outer
  mod : Mod K mg base
  bs : ∀ b o, base.get? b = some o → s.heap.get? b = some o ∧ H b = none
  bsz : base.objs.size ≤ s.heap.objs.size
  funs : s.heap.FunFrames base outer
  frf : ∀ b ∈ frs outer, H b = none
  hok : HOk P w H s.heap
  bare : AllBare s.gens
/-- a call's end -/
def CE (outer : List Env) (P : Program) (w : World) (H : Hp) (s : Shared) (Q : VK) (u : Value) (s' : Shared) : Prop :=
  ∃ v H', s'.os = s.os ∧ AllBare s'.gens ∧ Un (frs outer) [] H H' s.heap s'.heap ∧ HOk P w H' s'.heap ∧ RelV v u ∧ Q v H'
def CR (CX : CXT) (outer : List Env) (P : Program) (w : World) (H : Hp) (s : Shared) (Q : VK) (E : XK) (r : Result) (s' : Shared) : Prop :=
  match r with
  | .ok (.ret u) => CE outer P w H s Q u s'
  | .ok _ => False
  | .error e => CX outer H s E e s'
structure FnOk (P : Program) (w : World) (K : PySem.W.Frag) (mg : Str → Option Value) (base : Heap) (CX : CXT) (k : Nat) (f : Addr) (fd : FuncData) (ps : List Str) (sp : Sp) : Prop where
  len : ∀ vs H Q E, sp vs H Q E → vs.length = ps.length
  run : ∀ (A : Around) (outer : List Env) (s : Shared) (H : Hp) (args : Args) (us : List Value) (vs : List V) (Q : VK) (E : XK), Room k A → Env0 P w K mg base A outer s H → BindsTo s fd args (ps.zip us) → Vals vs us → sp vs H Q E →
    codeAny (model P w) A (.call (.ref f) args) (CR CX outer P w H s Q E) s

theorem Env0.make {P : Program} {w : World} {K : PySem.W.Frag} {mg : Str → Option Value} {base : Heap} {A : Around} {outer : List Env} {s : Shared} {H : Hp} (e : Env0 P w K mg base A outer s H) (C : Addr) (us : List Value) (kw : List (Str × Value)) :
    Env0 P w K mg base (A.under (.builtin "type.__call__" ⟨.ref C :: us, kw⟩)) outer s H := ⟨by first | exact e.frames | (simpa [Around.under, Code.envs, Code.isFrame, pushEnvs] using e.frames), e.mod, e.bs, e.bsz, e.funs, e.frf, e.hok, e.bare⟩

section
variable {X : Cx} {pins : List (Addr × Obj)} {σ : St} {H : Hp} {s s' : Shared}
/-- from a body: what a callee wants -/
theorem Inv.env0 (I : Inv X pins σ H s) : Env0 X.prog X.w X.K X.mg X.base X.A X.stack s H :=
  ⟨I.ok.frames, I.ok.mod, I.bs, Nat.le_trans I.ok.bsz I.sz, I.stack, I.stkFree, I.hok, I.bare⟩
/-- behind a call -/
theorem Inv.after {Q : VK} {u : Value} (I : Inv X pins σ H s) (h : CE X.stack X.prog X.w H s Q u s') : EP X pins σ Q u s' := by
  obtain ⟨v, H', os, bare, un, hok, r, q⟩ := h
  obtain ⟨hh, g, d, t, os'⟩ := s'
  obtain rfl : os' = s.os := os
  exact ⟨v, H', I.call (h' := hh) (g' := g) (d' := d) (t' := t) (ch := []) un hok bare (fun b z => absurd z (by simp)), r, q⟩
end

/-! ### calls -/
/-- f(..): the written arguments, then the defaults dvs; E: what is wanted of an exception -/
def tCall (sp : Sp) (dvs : List V) (E : XK) (t : TA) : TE := fun σ H Q => t σ H fun vs H1 => sp (vs ++ dvs) H1 Q E
/-- o.m(..) of an instance of the class at C -/
def tMeth (C : Addr) (m : Str) (sp : Sp) (dvs : List V) (E : XK) (ta : TE) (t : TA) : TE := fun σ H Q => ta σ H fun x H1 => ∃ a dx fs, x = .ref a ∧ H1 a = some (.ins C dx fs) ∧ fs.lookup m = none ∧
  t σ H1 fun vs H2 => sp (x :: (vs ++ dvs)) H2 Q E
/-- C(..): a new instance and its dict, then __init__ -/
def tMake (C : Addr) (sp : Sp) (dvs : List V) (E : XK) (t : TA) : TE := fun σ H Q => t σ H fun vs H1 => ∀ x dx, H1 x = none → H1 dx = none → dx ≠ x →
  sp (.ref x :: (vs ++ dvs)) (upd (upd H1 dx (.own x)) x (.ins C dx [])) (fun v H2 => v = .non ∧ Q (.ref x) H2) E

/-- how the parameters are bound: us the positional arguments, kw the keywords' values by name, ds the defaults that fill up -/
def Binds (K : PySem.W.Frag) (fd : FuncData) (ps : List Str) (ds : List Value) : Prop :=
  ∀ (s : Shared) (us : List Value), K.In s.heap → (us ++ ds).length = ps.length → BindsTo s fd ⟨us, []⟩ (ps.zip (us ++ ds))
/-- every parameter is given -/
theorem Binds.all {K : PySem.W.Frag} {fd : FuncData} {ps : List Str} (h : ∀ us : List Value, us.length = ps.length → bindArgs fd ⟨us, []⟩ = pure (ps.zip us)) : Binds K fd ps [] := fun s us _ hl => by
  rw [List.append_nil] at hl ⊢
  exact .of_eq (h us hl)

/-- an exception of a callee reaches what this body wants of exceptions -/
def Passes (CX : CXT) (X : Cx) (E : XK) : Prop := ∀ (pins : List (Addr × Obj)) (σ : St) (H : Hp) (s : Shared) (e : Value) (s' : Shared), Inv X pins σ H s → CX X.stack H s E e s' → X.xe e s'

section
variable {X : Cx} {CX : CXT} {k : Nat} {f C : Addr} {fd : FuncData} {ps : List Str} {sp : Sp} {dvs : List V} {ds : List Value} {E : XK} {x m : Str} {p pos apos : Pos} {e o : Expr} {es : List Expr} {ta : TE} {t : TA}

/-- the callee runs -/
theorem run_fn {pins : List (Addr × Obj)} {σ : St} {H : Hp} {s : Shared} {Q : VK} {us : List Value} {vs : List V} (F : FnOk X.prog X.w X.K X.mg X.base CX k f fd ps sp) (hr : Room k X.A) (hb : Binds X.K fd ps ds) (hd : Vals dvs ds) (hx : Passes CX X E)
    (I : Inv X pins σ H s) (r : Vals vs us) (h : sp (vs ++ dvs) H Q E) : wpAny (model X.prog X.w) X.A (call (.ref f) us) (EP X pins σ Q) X.xe s := by
  have r2 : Vals (vs ++ dvs) (us ++ ds) := r.append hd
  have hl : (us ++ ds).length = ps.length := by rw [← r2.length]; exact F.len _ _ _ _ h
  refine wpAny_call (codeAny_mono (F.run X.A X.stack s H ⟨us, []⟩ (us ++ ds) (vs ++ dvs) Q E hr I.env0 (hb s us I.kIn hl) r2 h) fun r s' hq => ?_)
  cases r with
  | error e => exact hx pins σ H s e s' I hq
  | ok fl =>
    cases fl with
    | ret u => exact I.after hq
    | next => exact False.elim hq
    | brk => exact False.elim hq
    | cont => exact False.elim hq

theorem pe_call (F : FnOk X.prog X.w X.K X.mg X.base CX k f fd ps sp) (hr : Room k X.A) (hg : Gl X x) (hm : X.mg x = some (.ref f)) (hk : PySem.W.keepIn X.K (.ref f) = true) (hb : Binds X.K fd ps ds) (hd : Vals dvs ds) (hx : Passes CX X E)
    (ha : PA X (e :: es) t) (hdb : (x == ("__debug__" : Str)) = false := by decide) (he : starEach (e :: es) X.env = (false, eval e X.env) :: starEach es X.env := by rfl) (hpl : (backTo pos (starEach es X.env)).any (·.1) = false := by rfl) :
    PE X (.Call (.Name x p) (e :: es) [] pos) (tCall sp dvs E t) := by
  intro pins s σ H Q I h
  refine wpAny_Call_Name_kw (ld_glob I hg hm ?_ hdb)
  refine PySem.W.callWith_K (h₀ := X.base) I.ok.mod.kin hk (thn (ha pos pins s σ H _ I h) fun us s1 ⟨vs, H1, I1, r, q⟩ => ⟨I1.kIn, ?_⟩) he hpl
  exact run_fn F hr hb hd hx I1 r q

/-- o.m(e, ..) -/
theorem pe_meth {pl : Sem Bool} (he : PE X o ta) (c : Cls X.K C) (hm : Meth X.K C m f) (F : FnOk X.prog X.w X.K X.mg X.base CX k f fd ps sp) (hr : Room k X.A) (hb : Binds X.K fd ps ds) (hd : Vals dvs ds) (hx : Passes CX X E) (ha : PA X (e :: es) t)
    (hst : starEach (e :: es) X.env = (false, eval e X.env) :: starEach es X.env := by rfl) (hpl : (backTo pos (starEach es X.env)).any (·.1) = false := by rfl)
    (ht : eval (.Call (.Attribute o m apos) (e :: es) [] pos) X.env = (do
      let ov ← eval o X.env
      standAt apos.atName
      let (f, first) ← holding [ov] (getMethod ov m pl)
      callWith pos f first (backTo pos (starEach (e :: es) X.env)) (backToKw pos (keywordEach [] X.env))) := by rfl) :
    PE X (.Call (.Attribute o m apos) (e :: es) [] pos) (tMeth C m sp dvs E ta t) := by
  intro pins s σ H Q I h
  refine PySem.W.methodCall_KW (pl := pl) (thn (he pins s σ H _ I h) fun u s1 ⟨x, H1, I1, rx, a, dx, fs, ex, ea, l, q⟩ => ?_) ht
  subst ex
  obtain rfl : u = Value.ref a := rx
  refine getmeth_ok I1 ea c hm l ?_
  refine PySem.W.callWith_K (first := [.ref a]) (h₀ := X.base) I.ok.mod.kin hm.kp (thn (ha pos pins s1 σ H1 _ I1 q) fun us s2 ⟨vs, H2, I2, r, q2⟩ => ⟨I2.kIn, ?_⟩) hst hpl
  exact run_fn (us := .ref a :: us) (vs := .ref a :: vs) F hr hb hd hx I2 (.cons rfl r) q2

/-- what a class must have to be made -/
structure Mk (K : PySem.W.Frag) (C f : Addr) : Prop where
  makes : PySem.W.makesIn K C = true
  init : PySem.W.findIn K (.ref C) "__init__" = some (some (.ref f))
  fn : PySem.W.isFn K (.ref f) = true
  kp : PySem.W.keepIn K (.ref C) = true

theorem run_make {pins : List (Addr × Obj)} {σ : St} {H : Hp} {s : Shared} {Q : VK} {us : List Value} {vs : List V} (M : Mk X.K C f) (F : FnOk X.prog X.w X.K X.mg X.base CX k f fd ps sp) (hr : Room (k + 1) X.A) (hb : Binds X.K fd ps ds) (hd : Vals dvs ds)
    (hx : Passes CX X E) (I : Inv X pins σ H s) (r : Vals vs us)
    (h : ∀ x dx, H x = none → H dx = none → dx ≠ x → sp (.ref x :: (vs ++ dvs)) (upd (upd H dx (.own x)) x (.ins C dx [])) (fun v H2 => v = .non ∧ Q (.ref x) H2) E) :
    wpAny (model X.prog X.w) X.A (call (.ref C) us) (EP X pins σ Q) X.xe s := by
  have hq := h (s.heap.objs.size + 1) s.heap.objs.size (I.hok.fresh (Nat.le_succ _)) (I.hok.fresh (Nat.le_refl _)) (Nat.ne_of_lt (Nat.lt_succ_self _))
  have I2 := Inv.made (C := C) I
  have r2 : Vals (V.ref (s.heap.objs.size + 1) :: (vs ++ dvs)) (Value.ref (s.heap.objs.size + 1) :: (us ++ ds)) := .cons rfl (r.append hd)
  have hl : (Value.ref (s.heap.objs.size + 1) :: us ++ ds).length = ps.length := by
    have e := r2.length
    rw [F.len _ _ _ _ hq] at e
    exact e.symm
  refine wpAny_call (make_map (f := f) I.kIn M.makes M.init (beq_iff_eq.mp M.fn) (codeAny_mono (F.run _ X.stack _ _ ⟨Value.ref (s.heap.objs.size + 1) :: us, []⟩ (Value.ref (s.heap.objs.size + 1) :: (us ++ ds)) _ _ E (hr.make C us [])
    (I2.env0.make C us []) (hb _ (Value.ref (s.heap.objs.size + 1) :: us) I2.kIn hl) r2 hq) fun r s' hq' => ?_))
  cases r with
  | error e => exact hx pins σ _ _ e s' I2 hq'
  | ok fl =>
    cases fl with
    | ret u =>
      obtain ⟨v, H', I3, rv, ev, q3⟩ := I2.after hq'
      subst ev
      exact ⟨rv, ⟨V.ref (s.heap.objs.size + 1), H', I3, rfl, q3⟩⟩
    | next => exact False.elim hq'
    | brk => exact False.elim hq'
    | cont => exact False.elim hq'
theorem pe_make (M : Mk X.K C f) (F : FnOk X.prog X.w X.K X.mg X.base CX k f fd ps sp) (hr : Room (k + 1) X.A) (hg : Gl X x) (hm : X.mg x = some (.ref C)) (hb : Binds X.K fd ps ds) (hd : Vals dvs ds) (hx : Passes CX X E)
    (ha : PA X (e :: es) t) (hdb : (x == ("__debug__" : Str)) = false := by decide) (he : starEach (e :: es) X.env = (false, eval e X.env) :: starEach es X.env := by rfl) (hpl : (backTo pos (starEach es X.env)).any (·.1) = false := by rfl) :
    PE X (.Call (.Name x p) (e :: es) [] pos) (tMake C sp dvs E t) := by
  intro pins s σ H Q I h
  refine wpAny_Call_Name_kw (ld_glob I hg hm ?_ hdb)
  refine PySem.W.callWith_K (h₀ := X.base) I.ok.mod.kin M.kp (thn (ha pos pins s σ H _ I h) fun us s1 ⟨vs, H1, I1, r, q⟩ => ⟨I1.kIn, ?_⟩) he hpl
  exact run_make M F hr hb hd hx I1 r q
end

/-! ### keywords -/
section
variable {X : Cx} {CX : CXT} {k : Nat} {f C : Addr} {fd : FuncData} {ps ks : List Str} {sp : Sp} {E : XK} {x m : Str} {p pos apos kpos : Pos} {e o : Expr} {es : List Expr} {kws : List Keyword} {te ta : TE} {t tk : TA} {nm : Option Str}

variable {g : List Value → List Value → List Value} {gV : List V → List V → List V}
end

/-! ### a def's body keeps its promise -/
/-- names: the parameters first -/
structure FnScope (N P : List Str) (sc : Scope) : Prop where
  kind : sc.kind = .function
  co : sc.isCoroutine = false
  gen : sc.isGenerator = false
  nd : N.Nodup
  pre : N.take P.length = P
  par : ∀ x ∈ P, sc.names.lookup x = some .local ∨ sc.names.lookup x = some .cell
  nofree : ∀ y ∈ sc.names, y.2 ≠ .free

theorem bindL_out {kindOf : Str → Option NameKind} {x : Str} : ∀ {binds : List (Str × Value)} {m : Str → Option Value}, (∀ v, (x, v) ∉ binds) → bindL kindOf binds m x = m x
  | [], _, _ => rfl
  | (n, v) :: r, m, h => by
    unfold bindL
    rw [bindL_out fun w hw => h w (List.mem_cons_of_mem _ hw)]
    split
    · have : x ≠ n := by rintro rfl; exact h v List.mem_cons_self
      simp [this]
    · rfl
theorem bindC_out {kindOf : Str → Option NameKind} {x : Str} : ∀ {binds : List (Str × Value)} {m : Str → Option Value}, (∀ v, (x, v) ∉ binds) → bindC kindOf binds m x = m x
  | [], _, _ => rfl
  | (n, v) :: r, m, h => by
    unfold bindC
    rw [bindC_out fun w hw => h w (List.mem_cons_of_mem _ hw)]
    split
    · rfl
    · have : x ≠ n := by rintro rfl; exact h v List.mem_cons_self
      simp [this]
theorem bindL_get {kindOf : Str → Option NameKind} {x : Str} {v : Value} : ∀ {P : List Str} {vs : List Value} {i : Nat} {m : Str → Option Value}, P.Nodup → P[i]? = some x → vs[i]? = some v → kindOf x = some .local →
    bindL kindOf (P.zip vs) m x = some v
  | [], _, _, _, _, h, _, _ => by simp at h
  | _ :: _, [], _, _, _, _, h, _ => by simp at h
  | p :: P, w :: vs, 0, m, nd, h1, h2, hk => by
    simp at h1 h2; subst h1; subst h2
    show bindL kindOf ((p, w) :: P.zip vs) m p = _
    unfold bindL
    rw [bindL_out fun v hv => (List.nodup_cons.mp nd).1 (List.of_mem_zip hv).1, if_pos hk]
    simp
  | p :: P, w :: vs, i + 1, m, nd, h1, h2, hk => by
    show bindL kindOf ((p, w) :: P.zip vs) m x = _
    unfold bindL
    exact bindL_get (i := i) (List.nodup_cons.mp nd).2 (by simpa using h1) (by simpa using h2) hk
theorem bindC_get {kindOf : Str → Option NameKind} {x : Str} {v : Value} : ∀ {P : List Str} {vs : List Value} {i : Nat} {m : Str → Option Value}, P.Nodup → P[i]? = some x → vs[i]? = some v → kindOf x ≠ some .local →
    bindC kindOf (P.zip vs) m x = some v
  | [], _, _, _, _, h, _, _ => by simp at h
  | _ :: _, [], _, _, _, _, h, _ => by simp at h
  | p :: P, w :: vs, 0, m, nd, h1, h2, hk => by
    simp at h1 h2; subst h1; subst h2
    show bindC kindOf ((p, w) :: P.zip vs) m p = _
    unfold bindC
    rw [bindC_out fun v hv => (List.nodup_cons.mp nd).1 (List.of_mem_zip hv).1, if_neg hk]
    simp
  | p :: P, w :: vs, i + 1, m, nd, h1, h2, hk => by
    show bindC kindOf ((p, w) :: P.zip vs) m x = _
    unfold bindC
    exact bindC_get (i := i) (List.nodup_cons.mp nd).2 (by simpa using h1) (by simpa using h2) hk

/-- the names' values at the entry -/
def start (N : List Str) (vs : List V) : St := vs.map some ++ List.replicate (N.length - vs.length) none

/-- the context of a def's body, at its entry; an exception leaves the frame, then lies as CX says -/
def cxOf (CX : CXT) (P : Program) (w : World) (K : PySem.W.Frag) (mg : Str → Option Value) (base : Heap) (N : List Str) (qual : Str) (scope : Scope) (f : Addr) (cd : Value) (A : Around) (outer : List Env) (s : Shared) (H : Hp) (E : XK) : Cx where
  prog := P
  w := w
  K := K
  mg := mg
  base := base
  A := A.deeper (envOfC qual scope s.heap.objs.size f cd)
  N := N
  s₀ := s
  H₀ := H
  env := envOfC qual scope s.heap.objs.size f cd
  outer := outer
  stack := envOfC qual scope s.heap.objs.size f cd :: outer
  ex := []
  calm := true
  fn := fun _ => true
  pn := []
  xe := fun e s' => wpAny (model P w) (A.deeper (envOfC qual scope s.heap.objs.size f cd)) (leaving (envOfC qual scope s.heap.objs.size f cd) e) (fun _ s'' => CX outer H s E e s'') (fun e' s'' => CX outer H s E e' s'') s'

theorem cell_has {sc : Scope} {n : Nat} {x : Str} (h : sc.names.lookup x = some .cell) : ∃ c, (cellsFrom n sc.names []).lookup x = some c := by
  have q := PySem.W.cellsFrom_some sc.names n [] (.inl h)
  exact Option.isSome_iff_exists.mp q

theorem inv_start {CX : CXT} {P : Program} {w : World} {K : PySem.W.Frag} {mg : Str → Option Value} {base : Heap} {N ps : List Str} {qual : Str} {scope : Scope} {f : Addr} {cd : Value} {A : Around} {outer : List Env} {s s1 : Shared} {H : Hp} {E : XK} {us : List Value} {vs : List V}
    (S : FnScope N ps scope) (hd : A.handled = none) (e0 : Env0 P w K mg base A outer s H) (hl : vs.length = ps.length) (r : Vals vs us)
    (x : InCallC s s.heap.objs.size (bindL (envOfC qual scope s.heap.objs.size f cd).kindOf (ps.zip us) fun _ => none) (cellsFrom (s.heap.objs.size + 1) scope.names []) (bindC (envOfC qual scope s.heap.objs.size f cd).kindOf (ps.zip us) fun _ => none) s1) :
    Inv (cxOf CX P w K mg base N qual scope f cd A outer s H E) [] (start N vs) H s1 := by
  have hpl : ps.length ≤ N.length := by have := congrArg List.length S.pre; rw [List.length_take] at this; omega
  obtain ⟨h1, tk, rfl, hk⟩ := x.done
  have noA : ∀ b : Addr, b ∉ (cxOf CX P w K mg base N qual scope f cd A outer s H E).ex := fun b z => absurd (show b ∈ ([] : List Addr) from z) (by simp)
  refine ⟨⟨e0.mod, S.kind, rfl, rfl, Nat.le_refl _, fun y z c h1 h2 => ?_, fun y hy => ?_, fun y c _ h => ?_, fun _ => hd, Around.frames_deeper e0.frames, .inr ⟨rfl, rfl⟩, fun b z => absurd z (noA b), e0.bs, e0.bsz, fun b _ _ => noA b, fun b z => absurd z (noA b), e0.funs, e0.frf⟩,
    rfl, e0.bare, Un.kept hk, ⟨_, x.toInCall.ns, fun i y v h1 h2 h3 => ?_⟩, fun y c h => ⟨_, x.cell y c h⟩, e0.hok.fresh (Nat.le_refl _), fun y c h => ?_, fun p hp => absurd (show p ∈ ([] : List (Addr × Obj)) from hp) (by simp), e0.hok.kept hk, ?_⟩
  · exact name_of_addr x.apart (PySem.mem_of_lookup h1) (PySem.mem_of_lookup h2)
  · have hy : scope.names.lookup y = some .cell ∨ scope.names.lookup y = some .free := hy
    rcases hy with hy | hy
    · exact cell_has hy
    · exact absurd rfl (S.nofree _ (PySem.mem_of_lookup hy))
  · exact Nat.le_of_lt (x.above y c (PySem.mem_of_lookup h))
  · have hi : i < vs.length := by
      unfold start at h2
      by_cases hi : i < vs.length
      · exact hi
      · rw [List.getElem?_append_right (by simpa using hi)] at h2
        rw [List.getElem?_replicate] at h2
        split at h2 <;> cases h2
    have ha : vs[i]? = some v := by
      unfold start at h2
      rw [List.getElem?_append_left (by simpa using hi), List.getElem?_map] at h2
      cases e : vs[i]? with
      | none => rw [e] at h2; cases h2
      | some a => rw [e] at h2; cases h2; rfl
    obtain ⟨u, hu, rv⟩ := r.get ha
    have hp : ps[i]? = some y := by
      rw [← S.pre, List.getElem?_take_of_lt (by omega)]; exact h1
    have ndP : ps.Nodup := by rw [← S.pre]; exact S.nd.sublist (List.take_sublist _ _)
    refine ⟨u, rv, ?_⟩
    rcases S.par y (List.mem_of_getElem? hp) with k | k
    · exact .inl ⟨k, bindL_get ndP hp hu k⟩
    · obtain ⟨c, e⟩ := cell_has (n := s.heap.objs.size + 1) k
      refine .inr ⟨.inl k, c, e, ?_⟩
      have q := x.cell y c e
      rw [bindC_get ndP hp hu (by show scope.names.lookup y ≠ _; rw [k]; decide)] at q
      exact q
  · exact e0.hok.fresh (Nat.le_of_lt (x.above y c (PySem.mem_of_lookup h)))
  · unfold start
    show _ = N.length
    rw [List.length_append, List.length_map, List.length_replicate]
    omega

/-- THE RULE: a def (or a method) of the text, by its body. The body's reading t is chosen for each entry; it is run at the parameters' values -/
theorem fn_of {CX : CXT} {P : Program} {w : World} {K : PySem.W.Frag} {mg : Str → Option Value} {base : Heap} {k : Nat} {f : Addr} {name qual : Str} {params : Arguments} {body : List Stmt} {scope : Scope} {dV kV doc pm cdv ct oc : Value} {an od : Option Addr}
    {osl : Array (Option Value)} {N ps : List Str} {sp : Sp} (lk : K.lookup f = some ⟨oc, od, .func (PySem.W.fnOf name qual params body scope dV kV doc pm an cdv ct), osl⟩) (hcd : PySem.W.codeIn K cdv qual = true) (S : FnScope N ps scope)
    (len : ∀ vs H Q E, sp vs H Q E → vs.length = ps.length)
    (hbody : ∀ (A : Around) (outer : List Env) (s : Shared) (H : Hp) (vs : List V) (Q : VK) (E : XK), Room k (A.deeper (envOfC qual scope s.heap.objs.size f cdv)) → sp vs H Q E →
      ∃ t, PSs (cxOf CX P w K mg base N qual scope f cdv A outer s H E) body t ∧ t { nx := fun _ H' => Q .non H', rt := Q } (start N vs) H) :
    FnOk P w K mg base CX (k + 1) f (PySem.W.fnOf name qual params body scope dV kV doc pm an cdv ct) ps sp := by
  refine ⟨len, fun A outer s H args us vs Q E hr e0 hb r hsp => ?_⟩
  have hl := len _ _ _ _ hsp
  have KX : K.In s.heap := e0.mod.kin.keeps fun b o e => (e0.bs b o e).1
  have lim : s.heap.NoLimit := e0.mod.nolimit.keeps fun b o e => (e0.bs b o e).1
  have hkind : ∀ y ∈ ps.zip us, scope.names.lookup y.1 = some .local ∨ (scope.names.lookup y.1 = some .cell ∧ ((cellsFrom (s.heap.objs.size + 1) scope.names []).lookup y.1).isSome = true) := fun ⟨n, v⟩ hy => by
    rcases S.par n (List.of_mem_zip hy).1 with q | q
    · exact .inl q
    · exact .inr ⟨q, PySem.W.cellsFrom_some _ _ _ (.inl q)⟩
  refine codeAny_call_function hr.depth (KX _ _ lk) rfl S.co S.gen rfl (PySem.W.codeRec_of KX hcd) (hb _ _ _ _ ?_)
  refine wpAny_newFunctionEnv_cells S.kind hkind fun env he s1 x => ?_
  subst he
  refine ⟨lim.keeps x.toInCall.keep, codeAny_func ?_⟩
  obtain ⟨t, ht, hq⟩ := hbody A outer s H vs Q E (hr.deeper _) hsp
  have I : Inv (cxOf CX P w K mg base N qual scope f cdv A outer s H E) [] (start N vs) H s1 := inv_start S hr.hd e0 hl r x
  refine wpAny_mono (ht [] s1 (start N vs) H _ I hq) (fun fl s' hs => ?_) fun e s' hs => hs
  have fin : ∀ {σ' : St} {H' : Hp} {v : V} {u : Value}, Inv (cxOf CX P w K mg base N qual scope f cdv A outer s H E) [] σ' H' s' → RelV v u → Q v H' → CE outer P w H s Q u s' :=
    fun {σ' H' v u} J rv q => ⟨v, H', J.os, J.bare, J.base, J.hok, rv, q⟩
  cases fl with
  | ret u =>
    obtain ⟨v, σ', H', J, rv, q⟩ := hs
    exact fin J rv q
  | next =>
    obtain ⟨σ', H', J, q⟩ := hs
    exact fin (v := V.non) (u := Value.none) J rfl q
  | brk =>
    obtain ⟨_, _, _, q⟩ := hs
    exact False.elim q
  | cont =>
    obtain ⟨_, _, _, q⟩ := hs
    exact False.elim q
end L2

namespace L2
open PySem PySem.Spec PyProof.Rows
section
variable {X : Cx} {x : Str} {p pos : Pos} {e : Expr} {es : List Expr} {t : TA} {id T : String} {r : List V → Hp → VK → Prop}

def tCB (r : List V → Hp → VK → Prop) (t : TA) : TE := fun σ H Q => t σ H fun vs H1 => r vs H1 Q
/-- f(e, ..), f a built-in function -/
theorem pe_callB (hc : CallR X (.builtin id) r) (hg : Gl X x) (hm : X.mg x = none) (hv : bootBuiltins x = some (.builtin id)) (ha : PA X (e :: es) t) (hn : x ≠ "__name__" := by decide) (hdb : (x == ("__debug__" : Str)) = false := by decide)
    (he : starEach (e :: es) X.env = (false, eval e X.env) :: starEach es X.env := by rfl) (hpl : (backTo pos (starEach es X.env)).any (·.1) = false := by rfl) : PE X (.Call (.Name x p) (e :: es) [] pos) (tCB r t) := by
  intro pins s σ H Q I h
  refine wpAny_Call_Name_kw (ld_blt I hg hm hv ?_ hn hdb)
  exact PyProof.Rows.callWith_builtin1 (thn (ha pos pins s σ H _ I h) fun us s1 ⟨vs, H1, I1, r1, q1⟩ => hc pins s1 σ H1 vs us Q I1 r1 q1) he hpl
/-- T(e, ..), T a built-in type -/
theorem pe_callTy (hc : CallR X (.type T) r) (hg : Gl X x) (hm : X.mg x = none) (hv : bootBuiltins x = some (.type T)) (ha : PA X (e :: es) t) (hn : x ≠ "__name__" := by decide) (hdb : (x == ("__debug__" : Str)) = false := by decide)
    (he : starEach (e :: es) X.env = (false, eval e X.env) :: starEach es X.env := by rfl) (hpl : (backTo pos (starEach es X.env)).any (·.1) = false := by rfl) : PE X (.Call (.Name x p) (e :: es) [] pos) (tCB r t) := by
  intro pins s σ H Q I h
  refine wpAny_Call_Name_kw (ld_blt I hg hm hv ?_ hn hdb)
  exact PyProof.Rows.callWith_type1 (thn (ha pos pins s σ H _ I h) fun us s1 ⟨vs, H1, I1, r1, q1⟩ => hc pins s1 σ H1 vs us Q I1 r1 q1) he hpl
end
end L2

namespace HT
open PySem PyProof.Rows



section
open PySem.SeqAt
open PySem.AutoSeq1 (wpAny_loadPart')
open PySem.MeetsSeq PySem.MeetsSeq2 PySem.MeetsSeq3

end

section
variable {prog : Program} {w : World} {A : Around} {E : Value → Shared → Prop} {s : Shared}



/-! ### t[a:b], not the whole -/
/-- a slice's bound as a place among n (d where it is left out) -/
def sIx (n d : Nat) : Option Int → Nat
  | none => d
  | some v => if v < 0 then (v + (n : Int)).toNat else min v.toNat n
theorem sIx_none (n d : Nat) : sIx n d none = d := rfl
theorem sIx_nat (n d k : Nat) : sIx n d (some (k : Int)) = min k n := by
  show (if (k : Int) < 0 then ((k : Int) + (n : Int)).toNat else min (k : Int).toNat n) = min k n
  rw [if_neg (by omega), Int.toNat_natCast]

end
end HT

namespace L2
open PySem PySem.Spec PyProof.Rows

/-! ### the parts of a slice -/
abbrev TO := St → Hp → (Option Int → Hp → Prop) → Prop
/-- a slice's part (left out, or an int) -/
def PO (X : Cx) (e : Option Expr) (t : TO) : Prop :=
  ∀ (pins : List (Addr × Obj)) (s : Shared) (σ : St) (H : Hp) (Q : Option Int → Hp → Prop), Inv X pins σ H s → t σ H Q →
    wpAny (model X.prog X.w) X.A (evalPart e X.env) (fun u s' => ∃ o H', Inv X pins σ H' s' ∧ IsPart u o ∧ Q o H') X.xe s
def tNoPart : TO := fun _ H Q => Q none H
def tPart (t : TE) : TO := fun σ H Q => t σ H fun x H1 => ∃ i, x = .int i ∧ Q (some i) H1

theorem intsAre_of {ns : List Int} : ∀ {us : List Value}, Vals (ns.map V.int) us → IntsAre us ns := by
  induction ns with
  | nil => intro us r; rw [List.map_nil] at r; cases r; exact .nil
  | cons n ns ih =>
    intro us r
    rw [List.map_cons] at r
    cases r with
    | cons r1 r2 =>
      obtain ⟨t, e⟩ := r1
      subst e
      exact .cons n t (ih r2)

section
variable {X : Cx} {e : Expr} {te : TE} {lo hi : Option Expr} {tl th : TO} {pos p2 : Pos}

theorem po_none : PO X none tNoPart := by
  intro pins s σ H Q I h
  rw [evalPart_none]
  exact wpAny_pure ⟨none, H, I, .none, h⟩
theorem po_some (h : PE X e te) : PO X (some e) (tPart te) := by
  intro pins s σ H Q I hw
  rw [evalPart_some]
  refine thn (h pins s σ H _ I hw) fun u s1 ⟨x, H1, I1, r1, q1⟩ => ?_
  obtain ⟨i, rfl, q⟩ := q1
  obtain ⟨t, rfl⟩ := r1
  exact ⟨some i, H1, I1, .int i t, q⟩

/-- what a slice of a value is, by values: the slice object stands at sl -/
def SlR (X : Cx) (r : V → Option Int → Option Int → Hp → VK → Prop) : Prop :=
  ∀ (pins : List (Addr × Obj)) (s : Shared) (σ : St) (H : Hp) (x : V) (v vl vu : Value) (lo hi : Option Int) (sl : Addr) (Q : VK), Inv X pins σ H s → RelV x v → s.heap.IsSliceOf sl vl vu .none → IsPart vl lo → IsPart vu hi → r x lo hi H Q →
    ∃ T id, typeLookup (.type T) "__getitem__" = pure (some (.builtin id)) ∧ s.TypeIs v T ∧ wpAny (model X.prog X.w) X.A (getItem v (.ref sl)) (EP X pins σ Q) X.xe s
def tSl (r : V → Option Int → Option Int → Hp → VK → Prop) (te : TE) (tl th : TO) : TE := fun σ H Q => te σ H fun x H1 => tl σ H1 fun l H2 => th σ H2 fun u H3 => r x l u H3 Q
/-- a[lo:hi], any a -/
theorem pe_slice {r : V → Option Int → Option Int → Hp → VK → Prop} (hr : SlR X r) (he : PE X e te) (hl : PO X lo tl) (hu : PO X hi th) : PE X (.Subscript e (.Slice lo hi none p2) pos) (tSl r te tl th) := by
  intro pins s σ H Q I h
  refine Subscript_ (thn (he pins s σ H _ I h) fun v s1 ⟨x, H1, I1, r1, q1⟩ => ?_)
  refine wpAny_Slice (thn (hl pins s1 σ H1 _ I1 q1) fun vl s2 ⟨l, H2, I2, pl, q2⟩ => thn (hu pins s2 σ H2 _ I2 q2) fun vu s3 ⟨u, H3, I3, pu, q3⟩ => ?_)
  rw [evalPart_none]
  refine wpAny_pure ?_
  have I4 : Inv X pins σ H3 { s3 with heap := s3.heap.push { cls := .type "slice", data := .fields #[vl, vu, .none] } } := I3.kept (t' := s3.toks) fun b ob q => Heap.get?_push_of_some _ q
  obtain ⟨T, id, hT, ht, hg⟩ := hr pins { s3 with heap := s3.heap.push { cls := .type "slice", data := .fields #[vl, vu, .none] } } σ H3 x v vl vu l u s3.heap.objs.size Q I4 r1 (Heap.IsSliceOf.new ..) pl pu q3
  show wpAny (model X.prog X.w) X.A (subscriptTail e (.Slice lo hi none p2) v (.ref s3.heap.objs.size)) (EP X pins σ Q) X.xe { s3 with heap := s3.heap.push { cls := .type "slice", data := .fields #[vl, vu, .none] } }
  exact tail_any (ops := [.ref s3.heap.objs.size, v]) ht hT hg (by with_unfolding_all rfl)

/-- the items of xs[lo:hi] -/
def cutV (xs : List V) (lo hi : Option Int) : List V := (xs.drop (HT.sIx xs.length 0 lo)).take (HT.sIx xs.length xs.length hi - HT.sIx xs.length 0 lo)
theorem cutV_length (xs : List V) (lo hi : Option Int) : (cutV xs lo hi).length ≤ xs.length := by
  unfold cutV
  rw [List.length_take, List.length_drop]
  omega

/-! ### t < u, t + u -/
end
end L2

namespace L2
open PySem PySem.Spec PyProof.Rows

/-! ### places -/
/-- the place that an index of any sign means -/
def ixN (n : Nat) (i : Int) : Option Nat := if 0 ≤ i then (if i < n then some i.toNat else none) else if -(n : Int) ≤ i then some (i + n).toNat else none
def atI {α : Type} (xs : List α) (i : Int) : Option α := (ixN xs.length i).bind fun j => xs[j]?
theorem ixN_seq {n : Nat} {i : Int} {j : Nat} (h : ixN n i = some j) : seqIndex? i n = some j ∧ j < n ∧ -(n : Int) ≤ i ∧ i < n := by
  unfold ixN at h
  by_cases h0 : 0 ≤ i
  · rw [if_pos h0] at h
    by_cases h1 : i < n
    · rw [if_pos h1] at h
      have e : i.toNat = j := Option.some.inj h
      exact ⟨by rw [seqIndex_of h0 h1, e], by omega, by omega, h1⟩
    · rw [if_neg h1] at h; cases h
  · rw [if_neg h0] at h
    by_cases h1 : -(n : Int) ≤ i
    · rw [if_pos h1] at h
      have e : (i + n).toNat = j := Option.some.inj h
      exact ⟨by rw [seqIndex_neg (by omega) h1, e], by omega, h1, by omega⟩
    · rw [if_neg h1] at h; cases h
theorem atI_get {α : Type} {xs : List α} {i : Int} {v : α} (h : atI xs i = some v) : ∃ j, seqIndex? i xs.length = some j ∧ xs[j]? = some v ∧ j < xs.length ∧ -(xs.length : Int) ≤ i ∧ i < xs.length := by
  unfold atI at h
  cases e : ixN xs.length i with
  | none => rw [e] at h; cases h
  | some j =>
    rw [e] at h
    obtain ⟨h1, h2, h3, h4⟩ := ixN_seq e
    exact ⟨j, h1, h, h2, h3, h4⟩
theorem atI_nat {α : Type} {xs : List α} {j : Nat} {v : α} (h : xs[j]? = some v) : atI xs (j : Int) = some v := by
  have hj : j < xs.length := (List.getElem?_eq_some_iff.mp h).1
  have e : ixN xs.length (j : Int) = some j := by
    unfold ixN
    rw [if_pos (by omega), if_pos (by omega)]; simp
  unfold atI; rw [e]; exact h

/-! ### what may be subscripted -/
/-- what stands as an index of a plain subscript -/
def PlainIx (b : Expr) : Prop := ∀ o i, subscripted b false o i = operate [o, i] (getItem o i)
/-- a subscript by values -/
def IxR (X : Cx) (r : R2) : Prop :=
  ∀ (value slice : Expr) (pins : List (Addr × Obj)) (s : Shared) (σ : St) (H : Hp) (x y : V) (v u : Value) (Q : VK), Inv X pins σ H s → RelV x v → RelV y u → r x y H Q →
    subscripted slice false v u = operate [v, u] (getItem v u) → wpAny (model X.prog X.w) X.A (subscriptTail value slice v u) (EP X pins σ Q) X.xe s
/-- a call of a builtin's method by values: the receiver, the arguments -/
def MtR (X : Cx) (id : String) (r : V → List V → Hp → VK → Prop) : Prop :=
  ∀ (pins : List (Addr × Obj)) (s : Shared) (σ : St) (H : Hp) (x : V) (xs : List V) (v : Value) (us : List Value) (Q : VK), Inv X pins σ H s → RelV x v → Vals xs us → r x xs H Q →
    wpAny (model X.prog X.w) X.A (call (.builtin id) (v :: us)) (EP X pins σ Q) X.xe s
section
variable {X : Cx} {a b : Expr} {ta tb : TE} {pos : Pos}
/-- a[b] -/
theorem pe_ix {r : R2} (hr : IxR X r) (ha : PE X a ta) (hb : PE X b tb) (hs : PlainIx b) : PE X (.Subscript a b pos) (tOp r ta tb) := by
  intro pins s σ H Q I h
  exact Subscript_ (binT ha hb I h fun v u s2 x y H2 I2 rx ry q => hr a b pins s2 σ H2 x y v u Q I2 rx ry q (hs _ _))

def rIxL (K : PySem.W.Frag) : R2 := fun x y H Q => ∃ p xs i v, x = .ref p ∧ y = .int i ∧ SqL K H p xs ∧ atI xs i = some v ∧ Q v H
def rIxT (K : PySem.W.Frag) : R2 := fun x y H Q => ∃ p xs i v, x = .ref p ∧ y = .int i ∧ SqT K H p xs ∧ atI xs i = some v ∧ Q v H
def rIxS : R2 := fun x y H Q => ∃ z i c, x = .str z ∧ y = .int i ∧ z.length ≤ sizeLine ∧ atI z.cps.toList i = some c ∧ Q (.str ⟨#[c]⟩) H
theorem ix_list : IxR X (rIxL X.K) := by
  intro value slice pins s σ H x y v u Q I rx ry h hs
  obtain ⟨p, xs, i, z, rfl, rfl, hq, he, q⟩ := h
  cases rx
  obtain ⟨t, rfl⟩ := ry
  obtain ⟨its, r, pl, hz⟩ := I.list hq
  obtain ⟨j, h1, h2, h3, h4, h5⟩ := atI_get he
  obtain ⟨w, ew, rw'⟩ := r.get h2
  have hl := r.length
  have hn := line63
  have fin : EP X pins σ Q w s := ⟨z, H, I, rw', q⟩
  by_cases h0 : 0 ≤ i
  · have hj : i.toNat = j := by
      rw [seqIndex_of h0 h5] at h1
      exact Option.some.inj h1
    exact item_listR pl.isList h0 (by omega) (by rw [hj]; simpa using ew) fin hs
  · have hj : (i + (its.toArray.size : Int)).toNat = j := by
      rw [seqIndex_neg (by omega) h4] at h1
      rw [List.size_toArray, ← hl]
      exact Option.some.inj h1
    exact subscriptTail_builtinR (x := w) pl.isList.typeIs slot_list_getitem.lookup
      (wpAny_getItem_list_neg (Q := fun r s' => r = w ∧ EP X pins σ Q r s') pl.isList (by omega) (by rw [List.size_toArray] <;> omega) (by omega) (by rw [hj]; simpa using ew) ⟨rfl, fin⟩) hs
theorem ix_tup : IxR X (rIxT X.K) := by
  intro value slice pins s σ H x y v u Q I rx ry h hs
  obtain ⟨p, xs, i, z, rfl, rfl, hq, he, q⟩ := h
  cases rx
  obtain ⟨t, rfl⟩ := ry
  obtain ⟨its, r, pl, hz⟩ := I.tuple hq
  obtain ⟨j, h1, h2, h3, h4, h5⟩ := atI_get he
  obtain ⟨w, ew, rw'⟩ := r.get h2
  have hl := r.length
  have hn := line63
  have fin : EP X pins σ Q w s := ⟨z, H, I, rw', q⟩
  exact subscriptTail_builtinR (x := w) pl.typeIs slot_tuple_getitem.lookup
    (getItem_tuple (j := j) (Q := fun r s' => r = w ∧ EP X pins σ Q r s') pl (by omega) (by omega) (by rw [List.size_toArray, ← hl]; exact h1) (by simpa using ew) ⟨rfl, fin⟩) hs
theorem ix_str : IxR X rIxS := by
  intro value slice pins s σ H x y v u Q I rx ry h hs
  obtain ⟨z, i, c, rfl, rfl, hz, he, q⟩ := h
  obtain ⟨t, rfl⟩ := rx
  obtain ⟨t', rfl⟩ := ry
  obtain ⟨j, h1, h2, h3, h4, h5⟩ := atI_get he
  have hl : z.cps.toList.length = z.length := by simp [Str.length]
  rw [hl] at h1 h4 h5
  have hn := line63
  exact tail_any (typeIs_str s z t) slot_str_getitem.lookup (getItem_str (c := c) (by
    have e1 : decide (i < -(2 ^ 63 : Int)) = false := decide_eq_false (by omega)
    have e2 : decide (i ≥ 2 ^ 63) = false := decide_eq_false (by omega)
    rw [e1, e2, Bool.or_false]) (by rw [h1]; simpa using h2) ⟨.str ⟨#[c]⟩, H, I.tok _, ⟨_, rfl⟩, q⟩) hs

/-! ### xs[i] = v, any sign -/
/-- the list's object behind a store -/
theorem mapSeq_set (its : List Value) (n j : Nat) (u : Value) : Obj.mapSeq (·.setIfInBounds j u) { cls := .type "list", data := .seq its.toArray n } = { cls := .type "list", data := .seq (its.set j u).toArray n } := by
  simp [Obj.mapSeq]
theorem Inv.lst {pins : List (Addr × Obj)} {σ : St} {H : Hp} {s : Shared} {p : Addr} {xs : List V} (I : Inv X pins σ H s) (h : H p = some (.lst xs)) :
    ∃ (its : List Value) (n : Nat), Vals xs its ∧ s.heap.get? p = some { cls := .type "list", data := .seq its.toArray n } ∧ xs.length ≤ sizeLine := by
  obtain ⟨z, its, n, r, e⟩ := I.hok p _ h
  exact ⟨its, n, r, e, z⟩
/-- the list at p is written by an update of its object -/
theorem Inv.lstUpd {pins : List (Addr × Obj)} {σ : St} {H : Hp} {s : Shared} {p : Addr} {xs ys : List V} {its its' : List Value} {n n' : Nat} {f : Obj → Obj} (I : Inv X pins σ H s) (h : H p = some (.lst xs))
    (ho : s.heap.get? p = some { cls := .type "list", data := .seq its.toArray n }) (hf : f { cls := .type "list", data := .seq its.toArray n } = { cls := .type "list", data := .seq its'.toArray n' }) (r : Vals ys its') (hz : ys.length ≤ sizeLine) (t : Nat) :
    Inv X pins σ (upd H p (.lst ys)) { s with heap := s.heap.update p f, toks := t } := by
  have e : (s.heap.update p f).get? p = some { cls := .type "list", data := .seq its'.toArray n' } := by
    rw [Heap.get?_update_self f ho (by rw [hf] <;> rfl), hf]
  refine I.write (x := p) (e := p) (by rw [h]; trivial) (.inl rfl) (fun b u hb q => (Heap.get?_update_other _ _ (Ne.symm hb)).trans q) ⟨_, e⟩ ?_
  exact ⟨hz, its', n', r, e⟩
def rSetL : V → V → V → Hp → (Hp → Prop) → Prop := fun o i v H Q => ∃ p xs k j, o = .ref p ∧ i = .int k ∧ H p = some (.lst xs) ∧ ixN xs.length k = some j ∧ Q (upd H p (.lst (xs.set j v)))
theorem set_list : PSet X rSetL := by
  intro pins s σ H o i v ov iv u Q I ro ri rv h
  obtain ⟨p, xs, k, j, rfl, rfl, hp, hj, q⟩ := h
  cases ro
  obtain ⟨t, rfl⟩ := ri
  obtain ⟨its, n, r, ho, hz⟩ := I.lst hp
  obtain ⟨h1, h2, h3, h4⟩ := ixN_seq hj
  have hl := r.length
  have hn := line63
  have I' : Inv X pins σ (upd H p (.lst (xs.set j v))) { s with heap := s.heap.update p (Obj.mapSeq (·.setIfInBounds j u)) } :=
    I.lstUpd hp ho (mapSeq_set its n j u) (r.set rv j) (by rw [List.length_set]; exact hz) s.toks
  by_cases h0 : 0 ≤ k
  · have hk : k.toNat = j := by
      rw [seqIndex_of h0 h4] at h1
      exact Option.some.inj h1
    exact PySem.W.ki_setAt ho h0 (by omega) (by rw [List.size_toArray, ← hl]; exact h4) (by rw [hk]; exact ⟨_, I', q⟩)
  · have hk : (k + (its.toArray.size : Int)).toNat = j := by
      rw [seqIndex_neg (by omega) h3] at h1
      rw [List.size_toArray, ← hl]
      exact Option.some.inj h1
    exact PySem.W.ki_setBack ho (by omega) (by rw [List.size_toArray, ← hl]; exact h3) (by omega) (by rw [hk]; exact ⟨_, I', q⟩)

/-! ### slices -/
theorem slice_bounds (lo hi : Option Int) (n : Nat) : (sliceBounds lo hi none n).1 = ((HT.sIx n 0 lo : Nat) : Int) ∧ (sliceBounds lo hi none n).2.1 = ((HT.sIx n n hi : Nat) : Int) ∧ (sliceBounds lo hi none n).2.2 = 1 := by
  refine ⟨?_, ?_, rfl⟩
  · cases lo with
    | none => simp [sliceBounds, HT.sIx]
    | some i =>
      simp only [sliceBounds, HT.sIx, Option.getD_none, show (1 : Int) > 0 by decide, if_true]
      by_cases h : i < 0
      · simp only [h, if_true] <;> omega
      · simp only [h, if_false] <;> omega
  · cases hi with
    | none => simp [sliceBounds, HT.sIx]
    | some i =>
      simp only [sliceBounds, HT.sIx, Option.getD_none, show (1 : Int) > 0 by decide, if_true]
      by_cases h : i < 0
      · simp only [h, if_true] <;> omega
      · simp only [h, if_false] <;> omega
theorem slicePick_cut (its : List Value) (lo hi : Option Int) : slicePick its.toArray lo hi none = ((its.drop (HT.sIx its.length 0 lo)).take (HT.sIx its.length its.length hi - HT.sIx its.length 0 lo)).toArray := by
  obtain ⟨h1, h2, h3⟩ := slice_bounds lo hi its.toArray.size
  unfold slicePick
  rw [h1, h2, h3]
  simp only [sliceRange_one, pick_run, List.size_toArray] <;> rfl
/-- xs[lo:hi] of a list: a new list -/
def rSlL (K : PySem.W.Frag) : V → Option Int → Option Int → Hp → VK → Prop := fun x lo hi H Q => ∃ a xs, x = .ref a ∧ SqL K H a xs ∧ ∀ p, H p = none → Q (.ref p) (upd H p (.lst (cutV xs lo hi)))
theorem sl_list : SlR X (rSlL X.K) := by
  intro pins s σ H x v vl vu lo hi sl Q I rx hs pl pu h
  obtain ⟨a, xs, rfl, hx, q⟩ := h
  cases rx
  obtain ⟨its, r, ht, hz⟩ := I.list hx
  have hlen := r.length
  refine ⟨"list", _, slot_list_getitem.lookup, ht.isList.typeIs, ?_⟩
  refine wpAny_getItem_list_slice ht.isList hs pl pu .none (by simp) ?_ (by rw [List.size_toArray] <;> omega)
  rw [slicePick_cut, ← hlen]
  refine ⟨.ref s.heap.objs.size, _, I.laid (t' := s.toks) (o := .lst (cutV xs lo hi)) (fun b ob q => Heap.get?_push_of_some _ q) (Nat.le_refl _) ?_, rfl, q _ (I.hok.fresh (Nat.le_refl _))⟩
  exact ⟨Nat.le_trans (cutV_length xs lo hi) hz, _, 0, (r.drop (HT.sIx xs.length 0 lo)).take (HT.sIx xs.length xs.length hi - HT.sIx xs.length 0 lo), Heap.get?_push_size _ rfl⟩

/-! ### in, not in: flat items -/
def flatV : V → Bool
  | .non => true
  | .bl _ => true
  | .int _ => true
  | .str _ => true
  | _ => false
/-- == of flat values -/
def eqV : V → V → Bool
  | .non, .non => true
  | .bl a, .bl b => a == b
  | .bl a, .int b => (if a then 1 else 0) == b
  | .int a, .bl b => a == (if b then 1 else 0)
  | .int a, .int b => a == b
  | .str a, .str b => a == b
  | _, _ => false
theorem eqAt_V {A : Around} {s : Shared} {y x : V} {u v : Value} (ry : RelV y u) (rx : RelV x v) (fy : flatV y = true) (fx : flatV x = true) : SeqAt.EqAt A s u v (eqV y x) := by
  cases y with
  | non =>
    cases ry
    cases x with
    | non => cases rx; exact SeqAt.EqAt.same _
    | bl b => cases rx; exact SeqAt.EqAt.none_bool b
    | int b => obtain ⟨t, rfl⟩ := rx; exact SeqAt.EqAt.none_int b t
    | str b => obtain ⟨t, rfl⟩ := rx; exact SeqAt.EqAt.none_str b t
    | _ => exact absurd (show false = true from fx) Bool.false_ne_true
  | bl a =>
    cases ry
    cases x with
    | non => cases rx; exact SeqAt.EqAt.bool_none a
    | bl b => cases rx; exact SeqAt.EqAt.bool_bool a b
    | int b => obtain ⟨t, rfl⟩ := rx; exact SeqAt.EqAt.bool_int a b t
    | str b => obtain ⟨t, rfl⟩ := rx; exact SeqAt.EqAt.bool_str a b t
    | _ => exact absurd (show false = true from fx) Bool.false_ne_true
  | int a =>
    obtain ⟨t', rfl⟩ := ry
    cases x with
    | non => cases rx; exact SeqAt.EqAt.int_none a t'
    | bl b => cases rx; exact SeqAt.EqAt.int_bool a t' b
    | int b => obtain ⟨t, rfl⟩ := rx; exact SeqAt.EqAt.int_int a t' b t
    | str b => obtain ⟨t, rfl⟩ := rx; exact SeqAt.EqAt.int_str a t' b t
    | _ => exact absurd (show false = true from fx) Bool.false_ne_true
  | str a =>
    obtain ⟨t', rfl⟩ := ry
    cases x with
    | non => cases rx; exact SeqAt.EqAt.str_none a t'
    | bl b => cases rx; exact SeqAt.EqAt.str_bool a t' b
    | int b => obtain ⟨t, rfl⟩ := rx; exact SeqAt.EqAt.str_int a t' b t
    | str b => obtain ⟨t, rfl⟩ := rx; exact SeqAt.EqAt.str_str a t' b t
    | _ => exact absurd (show false = true from fx) Bool.false_ne_true
  | _ => exact absurd (show false = true from fy) Bool.false_ne_true
/-- the items' answers, read off the values (a value's own answer does not lean on its token) -/
def eqU (x : V) (u : Value) : Bool := match u with
  | .none => eqV .non x
  | .bool b => eqV (.bl b) x
  | .int i _ => eqV (.int i) x
  | .str z _ => eqV (.str z) x
  | _ => false
theorem eqU_of {x y : V} {u : Value} (r : RelV y u) (f : flatV y = true) : eqU x u = eqV y x := by
  cases y with
  | non => cases r; rfl
  | bl b => cases r; rfl
  | int i => obtain ⟨t, rfl⟩ := r; rfl
  | str z => obtain ⟨t, rfl⟩ := r; rfl
  | _ => exact absurd (show false = true from f) Bool.false_ne_true
theorem any_eqU {x : V} : ∀ {xs : List V} {us : List Value}, Vals xs us → xs.all flatV = true → us.any (eqU x) = xs.any fun y => eqV y x
  | _, _, .nil, _ => rfl
  | y :: xs, u :: us, .cons r t, f => by
    rw [List.all_cons, Bool.and_eq_true] at f
    rw [List.any_cons, List.any_cons, eqU_of r f.1, any_eqU t f.2]
theorem mem_eqAt {A : Around} {s : Shared} {x : V} {v : Value} (rx : RelV x v) (fx : flatV x = true) : ∀ {xs : List V} {us : List Value}, Vals xs us → xs.all flatV = true → ∀ u ∈ us, SeqAt.EqAt A s u v (eqU x u)
  | _, _, .nil, _ => fun u hu => by cases hu
  | y :: xs, u :: us, .cons r t, f => fun u' hu => by
    rw [List.all_cons, Bool.and_eq_true] at f
    rcases List.mem_cons.mp hu with rfl | hu
    · rw [eqU_of r f.1]; exact eqAt_V r rx f.1 fx
    · exact mem_eqAt rx fx t f.2 u' hu
def inV (x : V) (xs : List V) : Bool := xs.any fun y => eqV y x
/-- x in a list or tuple of flat items -/
def rIn (K : PySem.W.Frag) (neg : Bool) : R2 := fun x y H Q => ∃ p xs, y = .ref p ∧ (SqL K H p xs ∨ SqT K H p xs) ∧ flatV x = true ∧ xs.all flatV = true ∧ Q (.bl (if neg then !inV x xs else inV x xs)) H
theorem op_in_seq : OpR X (compareOp .In) (rIn X.K false) := by
  intro pins s σ H x y v u Q I rx ry h
  obtain ⟨p, xs, rfl, hq, fx, fs, q⟩ := h
  cases ry
  rcases hq with hq | hq
  · obtain ⟨its, r, pl, hz⟩ := I.list hq
    refine SeqAt.in_listAt (eqU x) pl.isList (fun w hw => mem_eqAt rx fx r fs w (by simpa using hw)) ⟨.bl _, H, I, rfl, ?_⟩
    rw [show its.toArray.any (eqU x) = its.any (eqU x) by simp, any_eqU r fs]
    exact q
  · obtain ⟨its, r, pl, hz⟩ := I.tuple hq
    refine SeqAt.in_tupleAt (eqU x) pl (fun w hw => mem_eqAt rx fx r fs w (by simpa using hw)) ⟨.bl _, H, I, rfl, ?_⟩
    rw [show its.toArray.any (eqU x) = its.any (eqU x) by simp, any_eqU r fs]
    exact q
theorem op_notIn_str : OpR X (compareOp .NotIn) (fun x y H Q => ∃ i j, x = .str i ∧ y = .str j ∧ Q (.bl (!(!(Builtin.Str.occurrences j i 0 j.length 1).isEmpty))) H) := by
  intro pins s σ H x y v u Q I rx ry h
  obtain ⟨i, j, rfl, rfl, q⟩ := h
  obtain ⟨t, rfl⟩ := rx
  obtain ⟨t', rfl⟩ := ry
  exact notIn_str ⟨.bl _, H, I, rfl, q⟩

/-! ### len, list(x), tuple(x) of any list or tuple that is read -/
theorem call_len_seq : CallR X (.builtin "len") (fun xs H Q => ∃ p ys, xs = [.ref p] ∧ (SqL X.K H p ys ∨ SqT X.K H p ys) ∧ Q (.int ys.length) H) := by
  intro pins s σ H xs us Q I r h
  obtain ⟨p, ys, rfl, hq, q⟩ := h
  obtain ⟨u, rfl, rx⟩ := vals1 r
  cases rx
  have hn := line63
  rcases hq with hq | hq
  · obtain ⟨its, r', pl, hz⟩ := I.list hq
    have hlen := r'.length
    exact Calls.call_len_list pl.isList (by simp only [List.size_toArray] <;> omega) ⟨.int ys.length, H, I.tok _, ⟨s.toks + 1, by rw [List.size_toArray, hlen]⟩, q⟩
  · obtain ⟨its, r', pl, hz⟩ := I.tuple hq
    have hlen := r'.length
    exact len_tuple pl (by simp only [List.size_toArray] <;> omega) ⟨.int ys.length, H, I.tok _, ⟨s.toks + 1, by rw [List.size_toArray, hlen]⟩, q⟩
theorem call_len_str : CallR X (.builtin "len") (fun xs H Q => ∃ z, xs = [.str z] ∧ z.length ≤ sizeLine ∧ Q (.int z.length) H) := by
  intro pins s σ H xs us Q I r h
  obtain ⟨z, rfl, hz, q⟩ := h
  obtain ⟨u, rfl, t, rfl⟩ := vals1 r
  have hn := line63
  exact len_str (by omega) ⟨.int z.length, H, I.tok _, ⟨_, rfl⟩, q⟩
theorem call_list_of : CallR X (.type "list") (fun xs H Q => ∃ p ys, xs = [.ref p] ∧ (SqL X.K H p ys ∨ SqT X.K H p ys) ∧ ∀ l, H l = none → Q (.ref l) (upd H l (.lst ys))) := by
  intro pins s σ H xs us Q I r h
  obtain ⟨p, ys, rfl, hq, q⟩ := h
  obtain ⟨u, rfl, rx⟩ := vals1 r
  cases rx
  have fin : ∀ (its : List Value), Vals ys its → ys.length ≤ sizeLine → ∀ (h' : Heap) (c' : Nat), (∀ b o', s.heap.get? b = some o' → h'.get? b = some o') →
      h'.get? s.heap.objs.size = some { cls := .type "list", dict := none, data := .seq its.toArray c', slots := #[] } → EP X pins σ Q (.ref s.heap.objs.size) { s with heap := h' } := fun its r' hz h' c' kp e =>
    ⟨.ref s.heap.objs.size, _, I.laid (t' := s.toks) kp (Nat.le_refl _) (show ObjOk X.prog X.w _ h' _ (.lst ys) from ⟨hz, its, c', r', e⟩), rfl, q _ (I.hok.fresh (Nat.le_refl _))⟩
  rcases hq with hq | hq
  · obtain ⟨its, r', pl, hz⟩ := I.list hq
    have hlen := r'.length
    obtain ⟨o, ho, hc, n, hd⟩ := pl.isList
    exact call_list_seq p (.inl rfl) ho hc hd (fun h' c' kp e => fin its r' hz h' c' kp e) (by simp only [List.size_toArray] <;> omega)
  · obtain ⟨its, r', pl, hz⟩ := I.tuple hq
    have hlen := r'.length
    obtain ⟨o, ho, hc, n, hd⟩ := pl
    exact call_list_seq p (.inr rfl) ho hc hd (fun h' c' kp e => fin its r' hz h' c' kp e) (by simp only [List.size_toArray] <;> omega)

/-! ### the call of a builtin's method: o.m(..) -/
/-- the value is of that builtin type -/
def tyV (K : PySem.W.Frag) (T : String) (x : V) (H : Hp) : Prop := match x with
  | .str _ => T = "str"
  | .int _ => T = "int"
  | .ref p => (T = "list" ∧ ∃ xs, SqL K H p xs) ∨ (T = "tuple" ∧ ∃ o, K.lookup p = some o ∧ o.cls = .type "tuple" ∧ o.dict = none) ∨
      (T = "dict" ∧ ((∃ kvs, H p = some (.dK kvs)) ∨ ∃ kvs, H p = some (.dT kvs))) ∨ (T = "set" ∧ ∃ S n, H p = some (.set S n))
  | _ => False
theorem tyV_is {pins : List (Addr × Obj)} {σ : St} {H : Hp} {s : Shared} {T : String} {x : V} {v : Value} (I : Inv X pins σ H s) (r : RelV x v) (ty : tyV X.K T x H) :
    s.TypeIs v T ∧ ∀ a, v = .ref a → ∃ ob, s.heap.get? a = some ob ∧ ob.dict = none := by
  cases x with
  | str z =>
    obtain ⟨t, rfl⟩ := r
    cases (show T = "str" from ty)
    exact ⟨typeIs_str s z t, fun _ e => nomatch e⟩
  | int i =>
    obtain ⟨t, rfl⟩ := r
    cases (show T = "int" from ty)
    exact ⟨typeIs_int s i t, fun _ e => nomatch e⟩
  | ref p =>
    cases r
    rcases ty with ⟨rfl, xs, hq⟩ | ⟨rfl, o, hk, hc, hd⟩ | ⟨rfl, hk⟩ | ⟨rfl, S, n, hk⟩
    · obtain ⟨its, _, pl, _⟩ := I.list hq
      refine ⟨pl.isList.typeIs, fun a e => ?_⟩
      cases e
      obtain ⟨o, n, e, c, hd, _⟩ := pl
      exact ⟨o, e, hd⟩
    · refine ⟨⟨o, I.kIn p o hk, hc⟩, fun a e => ?_⟩
      cases e
      exact ⟨o, I.kIn _ o hk, hd⟩
    · have z : ∃ o, s.heap.get? p = some o ∧ o.ExactDict := by
        rcases hk with ⟨kvs, hk⟩ | ⟨kvs, hk⟩
        · obtain ⟨_, _, _, _, o, _, _, e, ex, _⟩ := I.hok p _ hk
          exact ⟨o, e, ex⟩
        · obtain ⟨_, _, _, _, o, _, _, e, ex, _⟩ := I.hok p _ hk
          exact ⟨o, e, ex⟩
      obtain ⟨o, e, ex⟩ := z
      refine ⟨⟨o, e, ex.1⟩, fun a e2 => ?_⟩
      cases e2
      exact ⟨o, e, ex.2.1⟩
    · obtain ⟨o, _, _, _, e, ex, _⟩ := I.hok p _ hk
      refine ⟨⟨o, e, ex.1⟩, fun a e2 => ?_⟩
      cases e2
      exact ⟨o, e, ex.2.1⟩
  | _ => exact False.elim ty
def tBM0 (K : PySem.W.Frag) (T : String) (r : V → List V → Hp → VK → Prop) (to : TE) : TE := fun σ H Q => to σ H fun x H1 => tyV K T x H1 ∧ r x [] H1 Q
def tBM (K : PySem.W.Frag) (T : String) (r : V → List V → Hp → VK → Prop) (to : TE) (t : TA) : TE := fun σ H Q => to σ H fun x H1 => tyV K T x H1 ∧ t σ H1 fun xs H2 => r x xs H2 Q
variable {o e : Expr} {es : List Expr} {to : TE} {t : TA} {name : Str} {apos cpos : Pos} {T id : String} {r : V → List V → Hp → VK → Prop}
theorem pe_bm0 (pa : PlainAttrs T) (slot : Slot T name id) (hty : typeOf (.builtin id) = pure (.type "method_descriptor")) (hm : MtR X id r) (ho : PE X o to)
    (hbase : attributeBase o name X.env (eval o X.env) = eval o X.env := by rfl) (hline : (apos.endLine == cpos.line) = true := by rfl) : PE X (.Call (.Attribute o name apos) [] [] cpos) (tBM0 X.K T r to) := by
  intro pins s σ H Q I h
  refine wpAny_Call_method0_late hbase hline (thn (ho pins s σ H _ I h) fun v s1 ⟨x, H1, I1, r1, ty, q1⟩ => ?_)
  obtain ⟨h1, h2⟩ := tyV_is I1 r1 ty
  exact ⟨T, id, pa, slot, hty, h1, h2, Calls.callWith_builtin rfl (PySem.evalArgs_none (hm pins s1 σ H1 x [] v [] Q I1 r1 .nil q1))⟩
theorem pe_bm (pa : PlainAttrs T) (slot : Slot T name id) (hty : typeOf (.builtin id) = pure (.type "method_descriptor")) (hm : MtR X id r) (ho : PE X o to) (ha : PA X (e :: es) t)
    (hbase : attributeBase o name X.env (eval o X.env) = eval o X.env := by rfl)
    (hfew : ((backTo cpos (starEach (e :: es) X.env)).all (fun x => !x.1) && (backToKw cpos (keywordEach [] X.env)).all (fun x => x.1.isSome)
      && decide ((e :: es).length + ([] : List Keyword).length + (if ([] : List Keyword).isEmpty then 0 else 1) < 30)) = true := by rfl)
    (hline : (apos.endLine == cpos.line) = true := by rfl) (hs : starEach (e :: es) X.env = (false, eval e X.env) :: starEach es X.env := by rfl) (hplain : (backTo cpos (starEach es X.env)).any (·.1) = false := by rfl) :
    PE X (.Call (.Attribute o name apos) (e :: es) [] cpos) (tBM X.K T r to t) := by
  intro pins s σ H Q I h
  refine wpAny_Call_method_late hbase hfew hline rfl (thn (ho pins s σ H _ I h) fun v s1 ⟨x, H1, I1, r1, ty, q1⟩ => ?_)
  obtain ⟨h1, h2⟩ := tyV_is I1 r1 ty
  refine ⟨T, id, pa, slot, hty, h1, h2, ?_⟩
  have hA := ha cpos pins s1 σ H1 _ I1 q1
  rw [hs] at hA ⊢
  refine Calls.callWith_builtin (by show (false || (backTo cpos (starEach es X.env)).any (·.1)) = false; rw [hplain] <;> rfl) (Calls.evalArgs_plain ?_)
  exact thn hA fun us s2 ⟨vs, H2, I2, r2, q2⟩ => hm pins s2 σ H2 x vs v us Q I2 r1 r2 q2
/- xs.append(e), list.index on a module's tuple .. are MtR facts of 06m -/
end
end L2

namespace L2
open PySem PySem.Spec PyProof.Rows

def MtM (X : Cx) (id : String) (r : V → List V → Hp → VK → Prop) : Prop :=
  ∀ (pins : List (Addr × Obj)) (s : Shared) (σ : St) (H : Hp) (x : V) (xs : List V) (v : Value) (us : List Value) (Q : VK), Inv X pins σ H s → RelV x v → Vals xs us → r x xs H Q →
    wpAny (model X.prog X.w) X.A (call (.builtin id) (v :: us)) (EP X pins σ Q) X.xe s

/-! ### lists of values -/
theorem Vals.one : ∀ {x : V} {us : List Value}, Vals [x] us → ∃ u, us = [u] ∧ RelV x u
  | _, _, .cons r .nil => ⟨_, rfl, r⟩
theorem Vals.zero : ∀ {us : List Value}, Vals [] us → us = []
  | _, .nil => rfl
theorem Vals.dropLast {xs : List V} {us : List Value} (h : Vals xs us) : Vals xs.dropLast us.dropLast := by
  induction h with
  | nil => exact .nil
  | cons r t ih =>
    cases t with
    | nil => exact .nil
    | cons q t' => exact .cons r ih
theorem Vals.rep {xs : List V} {us : List Value} (h : Vals xs us) : ∀ k : Nat, Vals (List.replicate k xs).flatten (List.replicate k us).flatten
  | 0 => .nil
  | k + 1 => by
    rw [List.replicate_succ, List.replicate_succ, List.flatten_cons, List.flatten_cons]
    exact Vals.append h (Vals.rep h k)
theorem erase_last {α : Type} (l : List α) : l.eraseIdx (l.length - 1) = l.dropLast := by
  induction l with
  | nil => rfl
  | cons a r ih =>
    cases r with
    | nil => rfl
    | cons b r =>
      have e : (a :: b :: r).length - 1 = ((b :: r).length - 1) + 1 := by
        have h1 : (a :: b :: r).length = r.length + 2 := rfl
        have h2 : (b :: r).length = r.length + 1 := rfl
        omega
      rw [e, List.eraseIdx_cons_succ, ih]
      all_goals rfl
theorem foldl_rep (its : List Value) : ∀ (k : Nat) (acc : List Value),
    List.foldl (fun x1 x2 => x1 ++ x2) acc.toArray (List.replicate k its.toArray) = (acc ++ (List.replicate k its).flatten).toArray
  | 0, acc => by simp
  | k + 1, acc => by
    have e : acc.toArray ++ its.toArray = (acc ++ its).toArray := by simp
    have e2 : (acc ++ its) ++ (List.replicate k its).flatten = acc ++ (List.replicate (k + 1) its).flatten := by
      rw [List.replicate_succ, List.flatten_cons, List.append_assoc]
    rw [← e2, ← foldl_rep its k (acc ++ its), ← e, List.replicate_succ, List.foldl_cons]

section
variable {X : Cx} {pins : List (Addr × Obj)} {σ : St} {H : Hp} {s : Shared} {l b : Addr} {xs ys zs : List V}

/-! ### the two steps: a tracked list is rewritten, a new list is laid -/
theorem Inv.lset {its its' : List Value} {n : Nat} {f : Array Value → Array Value} {t' : Nat} (I : Inv X pins σ H s) (hH : H l = some (.lst xs))
    (e : s.heap.get? l = some { cls := .type "list", data := .seq its.toArray n }) (hf : f its.toArray = its'.toArray) (hv : Vals ys its') (hz : ys.length ≤ sizeLine) :
    Inv X pins σ (upd H l (.lst ys)) { s with heap := s.heap.update l (Obj.mapSeq f), toks := t' } := by
  have q := PySem.IsL.update e f
  rw [hf] at q
  refine I.write (x := l) (e := l) (by rw [hH]; exact trivial) (.inl rfl) (fun b' u hb hu => (Heap.get?_update_other s.heap (Obj.mapSeq f) (Ne.symm hb)).trans hu) ⟨_, q⟩ ?_
  exact ⟨hz, its', _, hv, q⟩
theorem Inv.lnew {its : List Value} {t' : Nat} (I : Inv X pins σ H s) (hv : Vals ys its) (hz : ys.length ≤ sizeLine) :
    Inv X pins σ (upd H s.heap.objs.size (.lst ys)) { s with heap := s.heap.push { cls := .type "list", data := .seq its.toArray }, toks := t' } :=
  I.laid (fun _ _ q => Heap.get?_push_of_some _ q) (Nat.le_refl _) ⟨hz, its, 0, hv, Heap.get?_push_size _ rfl⟩
theorem Inv.fresh (I : Inv X pins σ H s) : H s.heap.objs.size = none := I.hok.fresh (Nat.le_refl _)
theorem Inv.lstM (I : Inv X pins σ H s) (hH : H l = some (.lst xs)) : xs.length ≤ sizeLine ∧ ∃ (its : List Value) (n : Nat), Vals xs its ∧ xs.length = its.length ∧ s.heap.get? l = some { cls := .type "list", data := .seq its.toArray n } := by
  obtain ⟨z, its, n, r, e⟩ := I.hok l _ hH
  exact ⟨z, its, n, r, r.length, e⟩

theorem notLongL {n : Nat} (h : n ≤ sizeLine) : Builtin.List.listTooLong n = false := by
  unfold Builtin.List.listTooLong
  exact decide_eq_false (by omega)
end

section
variable {X : Cx}

/-! ### methods -/
def rAppend : V → List V → Hp → VK → Prop := fun x vs H Q => ∃ l xs y, x = .ref l ∧ vs = [y] ∧ H l = some (.lst xs) ∧ xs.length < sizeLine ∧ Q .non (upd H l (.lst (xs ++ [y])))
theorem mt_append : MtM X "list.append" rAppend := by
  intro pins s σ H x vs v us Q I rx rv h
  obtain ⟨l, xs, y, rfl, rfl, hH, hz, q⟩ := h
  cases rx
  obtain ⟨u, rfl, ru⟩ := rv.one
  obtain ⟨z, its, n, r, hl, e⟩ := I.lstM hH
  refine call_meets F.slot_list_append ⟨_, e, rfl⟩ F.entry_list_append (F.args_list_append_2 _ _) (PySem.list_append l its.toArray n u (by rw [List.size_toArray]; omega)) ⟨e, ?_⟩
  refine ⟨.non, _, I.lset (its' := its ++ [u]) hH e (by simp) (r.append (.cons ru .nil)) ?_, rfl, q⟩
  rw [List.length_append, List.length_singleton]
  omega


def rPop : V → List V → Hp → VK → Prop := fun x vs H Q => ∃ l xs y, x = .ref l ∧ vs = [] ∧ H l = some (.lst xs) ∧ xs[xs.length - 1]? = some y ∧ Q y (upd H l (.lst xs.dropLast))
theorem mt_pop : MtM X "list.pop" rPop := by
  intro pins s σ H x vs v us Q I rx rv h
  obtain ⟨l, xs, y, rfl, rfl, hH, hy, q⟩ := h
  cases rx
  have hus := rv.zero
  subst hus
  obtain ⟨z, its, n, r, hl, e⟩ := I.lstM hH
  obtain ⟨u, hu, ru⟩ := r.get hy
  have hy' : its.toArray[its.toArray.size - 1]? = some u := by
    show its.toArray[its.length - 1]? = some u
    rw [← Array.getElem?_toList, ← hl]
    exact hu
  refine call_meets F.slot_list_pop ⟨_, e, rfl⟩ F.entry_list_pop (F.args_list_pop_1 _) (MeetsSeq.list_pop_last l its.toArray n u hy' (by rw [List.size_toArray]; omega)) ⟨e, ?_⟩
  refine ⟨y, _, I.lset (its' := its.dropLast) hH e ?_ r.dropLast ?_, ru, q⟩
  · show its.toArray.eraseIdxIfInBounds (its.toArray.size - 1) = its.dropLast.toArray
    rw [List.size_toArray, List.eraseIdxIfInBounds_toArray, erase_last]
  · rw [List.length_dropLast]
    omega



def rClear : V → List V → Hp → VK → Prop := fun x vs H Q => ∃ l xs, x = .ref l ∧ vs = [] ∧ H l = some (.lst xs) ∧ Q .non (upd H l (.lst []))
theorem mt_clear : MtM X "list.clear" rClear := by
  intro pins s σ H x vs v us Q I rx rv h
  obtain ⟨l, xs, rfl, rfl, hH, q⟩ := h
  cases rx
  have hus := rv.zero
  subst hus
  obtain ⟨z, its, n, r, hl, e⟩ := I.lstM hH
  refine call_meets F.slot_list_clear ⟨_, e, rfl⟩ F.entry_list_clear (F.args_list_clear_1 _) (AutoSeq1.list_clear_list_0 l its.toArray n (by rw [List.size_toArray]; omega)) ⟨e, ?_⟩
  exact ⟨.non, _, I.lset (its' := []) (ys := []) hH e rfl .nil (Nat.zero_le _), rfl, q⟩

/-! ### list + list, list += list, list * int -/
/-- a list times an int (a negative one is nothing) -/
def rRep : R2 := fun x y H Q => ∃ l k xs, x = .ref l ∧ y = .int k ∧ H l = some (.lst xs) ∧ -(2 ^ 63) ≤ k ∧ k < 2 ^ 63 ∧ xs.length * k.toNat ≤ sizeLine ∧
  ∀ p, H p = none → Q (.ref p) (upd H p (.lst (List.replicate k.toNat xs).flatten))
theorem len_rep {α : Type} (xs : List α) (k : Nat) : (List.replicate k xs).flatten.length = k * xs.length := by
  induction k with
  | zero => simp
  | succ k ih => rw [List.replicate_succ, List.flatten_cons, List.length_append, ih, Nat.succ_mul, Nat.add_comm]
theorem op_rep : OpR X (binaryOp .Mult) rRep := by
  intro pins s σ H x y v u Q I rx ry h
  obtain ⟨l, k, xs, rfl, rfl, hH, h1, h2, hz, q⟩ := h
  cases rx
  obtain ⟨t, rfl⟩ := ry
  obtain ⟨z, its, n, r, hl, e⟩ := I.lstM hH
  have hlen : its.toArray.size * k.toNat ≤ sizeLine := by rw [List.size_toArray, ← hl]; exact hz
  have hcap : ¬ its.toArray.size * k.toNat > (2 ^ 63 - 1) / 8 := by
    have : (sizeLine : Nat) ≤ (2 ^ 63 - 1) / 8 := by decide
    omega
  have hfit : ¬ (!Builtin.List.listFitsIndex k) = true := by
    rw [fitsIndex_both h1 h2]
    exact Bool.false_ne_true
  have hlong : ¬ Builtin.List.listTooLong (its.toArray.size * k.toNat) = true := by
    rw [notLongL hlen]
    exact Bool.false_ne_true
  have hnew : List.foldl (fun x1 x2 => x1 ++ x2) #[] (List.replicate (if its.toArray.isEmpty = true then 0 else k.toNat) its.toArray) = (List.replicate k.toNat its).flatten.toArray := by
    have f0 : ∀ m : Nat, List.foldl (fun x1 x2 => x1 ++ x2) #[] (List.replicate m its.toArray) = (List.replicate m its).flatten.toArray := fun m => by
      have := foldl_rep its m []
      rw [List.nil_append] at this
      exact this
    rw [f0]
    cases its with
    | nil => simp
    | cons a r' => rw [if_neg (by simp)]
  refine wpAny_binaryOp_repeat_ref (T := "list") (U := "int") (by decide) ⟨_, e, rfl⟩ (fun s' => typeIs_int s' k t) noFill_list_mul F.fills_int_mul F.slot_int_rmul repeat_list F.slot_int_index.lookup
    (call_meets F.slot_int_rmul (typeIs_int s k t) F.entry_int_rmul (F.args_int_rmul_2 _ _) (int___rmul___int_list k t l its.toArray n)
      ⟨e, rfl, ⟨_, e, rfl⟩, call_meets F.slot_list_mul ⟨_, e, rfl⟩ F.entry_list_mul (F.args_list_mul_2 _ _) (AutoListH.list___mul___list_int_3 l its.toArray n k t hfit hcap hlong) ⟨e, ?_⟩⟩)
  rw [hnew]
  exact ⟨.ref _, _, I.lnew (t' := s.toks) (r.rep k.toNat) (by rw [len_rep, Nat.mul_comm]; exact hz), rfl, q _ I.fresh⟩

/-! ### del xs[i] -/
end

/-! ### xs[a:b] = ys -/
section
variable {prog : Program} {w : World} {A : Around} {E : Value → Shared → Prop} {s : Shared}
end

section
variable {X : Cx}
end
end L2

namespace Att
open PySem PySem.W PySem.Calls PyProof.Rows

/-! ### the script -/
theorem ints_of_wellAll {P : Params} {h : Heap} : ∀ (ns : List Int) (vs : List Value), WellAll P h vs (ns.map WData.int) → IntsAre vs ns := by
  intro ns
  induction ns with
  | nil =>
    intro vs w
    rw [List.map_nil] at w
    cases w
    exact .nil
  | cons n ns ih =>
    intro vs w
    rw [List.map_cons] at w
    cases w with
    | cons a b =>
      cases a
      exact .cons _ _ (ih _ b)

theorem script_of {l : OpenLaw} {n : Nat} (hn : l.most = some n) {P : Params} {h : Heap} {args : List WData} {vals : List Value}
    (hpre : l.row.toRowW.claim.pre args = true) (hwl : WellAll P h vals args) :
    ∃ a vs ns, vals = [Value.ref a] ∧ args = [WData.list (ns.map WData.int)] ∧ h.get? a = some { cls := .type "list", data := .seq vs.toArray } ∧ IntsAre vs ns ∧ ns.length ≤ n := by
  have hsh : WShape.hasAll [] args [.list .int] = true := (pre_splitW hpre).1
  have hc : l.pre.holds [] { args := args } = true := (pre_splitW hpre).2
  obtain ⟨d, r, rfl, h1, h2⟩ := hasAllW_cons hsh
  obtain rfl := hasAllW_nil h2
  obtain ⟨xs, rfl, h3⟩ := hasW_list h1
  obtain ⟨ns, rfl⟩ := items_int h3
  have hlen : ns.length ≤ n := by
    unfold OpenLaw.pre at hc
    have h4 : (WTm.not (.lt (.lit (.int (n : Int))) (.len (.arg 0)))).holds [] { args := [.list (ns.map .int)] } = true := by
      have h4 := (holds_andW hc).1
      rw [hn] at h4
      exact h4
    have h5 := condW_of h4 (w_not (w_lt w_lit (w_len_list (w_arg rfl))))
    rw [List.length_map] at h5
    refine Nat.le_of_not_lt fun q => ?_
    have q' : (n : Int) < ((ns.length : Nat) : Int) := by omega
    first
      | (rw [decide_eq_true q'] at h5; exact absurd h5 (by decide))
      | (simp at h5; omega)
  cases hwl with
  | cons w1 w2 =>
    cases w2
    cases w1 with
    | list ho hall => exact ⟨_, _, ns, rfl, rfl, ho, ints_of_wellAll ns _ hall, hlen⟩

theorem post_true (l : OpenLaw) (args : List WData) : l.row.toRowW.claim.post args (.bool true) args = true :=
  postW_of (r := l.row.toRowW) (X := (true == true))
    (show WShape.has [] (.bool true) .bool = true by first | rfl | decide | simp [WShape.has, WShape.arms, WShape.armsAll])
    (show (WTm.eq .res (.lit (.bool true))).value [] { args := args, res := some (.bool true), after := args } = some (.bool (true == true)) from w_eq_bool (w_res rfl) w_lit) rfl

/-! ### the attachment: holds_open's last premise (the goal 'hc' behind k_head) from a wpAny of the law's body -/

/-- the same from a codeAny of the CALL (for a layer whose function contracts speak of calls) -/
theorem attach_call {l : OpenLaw} {n : Nat} {q : Program} {loose : List Str} {XP : (Str → Option Value) → Heap → Prop} {YP : World → Heap → Prop} {d : DefRec}
    (hn : l.most = some n) (hdf : d.params.defaults = [])
    (call : ∀ (w : World) (s₀ s₁ : Shared) (mg mb : Str → Option Value) (fa : Addr) (o : Obj) (pm cd doc : Value) (a : Addr) (vs : List Value) (ns : List Int),
      Ground q loose [] XP w s₀ mg mb s₁.heap → YP w s₁.heap →
      s₁.heap.get? fa = some o → o.data = .func (docDef d.name d.params d.body d.scope pm cd doc) → s₁.heap.CodeRec cd d.name → mg d.name = some (.ref fa) →
      s₁.heap.get? a = some { cls := .type "list", data := .seq vs.toArray } → IntsAre vs ns → ns.length ≤ n → s₁.gens = #[] →
      codeAny (model l.prog w) callerA (.call (.ref fa) ⟨[.ref a], []⟩) (fun r s' => r = .ok (.ret (.bool true)) ∧ OldK s₁.heap s'.heap ∧ s'.os = s₁.os ∧ AllBare s'.gens) s₁) :
    WalkO q loose XP YP l.row.toRowW d [] (fun f vs => PySem.call f vs) := by
  intro w s₀ s₁ mg mb G Y fa o pm cd doc dV kV ho hd hcd hD hmg hg args vals as hpre hlay hrd hwl hlo
  obtain rfl : dV = .none := Dflts.none hD hdf
  obtain rfl : kV = .none := Dflts.noKw hD
  obtain ⟨a, vs, ns, rfl, rfl, hobj, hints, hlen⟩ := script_of hn hpre hwl
  refine enter_call (codeAny_mono (call w s₀ s₁ mg mb fa o pm cd doc a vs ns G Y ho (fd_plain hd) hcd hmg hobj hints hlen hg) fun r s' hq => ?_)
  obtain ⟨rfl, h2, h3, h4⟩ := hq
  exact ⟨.inl ⟨.bool true, .bool true, [], rfl, fun _ => rfl, .bool true, post_true l _, fun _ => ⟨List.Pairwise.nil, fun _ hm => (nomatch hm)⟩⟩, h2, h3, h4⟩


/-! ### rules over ANY heap (no ledger) from facts about the written part K: the library's own take a ledger (News) for what they write -/
section
variable {prog : Program} {w : World} {A : Around} {E : Value → Shared → Prop} {s : Shared} {K : Frag}





/-! the whole heap as the ledger: makes every rule that writes through a ledger a rule over any heap -/

end
end Att

namespace L2
open PySem PySem.Spec PyProof.Rows

theorem vals_ints : ∀ {vs : List Value} {ns : List Int}, IntsAre vs ns → Vals (ns.map V.int) vs
  | _, _, .nil => .nil
  | _, _, .cons n t h => .cons ⟨t, rfl⟩ (vals_ints h)

/-- nothing is tracked but the script, known to the object (or it is an object of the module) -/
def Only (H : Hp) : Prop := ∀ b, H b = none ∨ ∃ o xs, H b = some (.frz o (.lst xs))

/-- THE HEAD: the law's promise, at the heap behind the top. F, the promise of the law's def, may use that base is part of the heap (so K.In base, base.Ns mainGlobals mg stand in Mod) -/
theorem law_call {P : Program} {w : World} {K : PySem.W.Frag} {mg mb : Str → Option Value} {CX : CXT} {k : Nat} {fa a : Addr} {fd : FuncData} {x : Str} {sp : Sp} {s₁ : Shared} {vs : List Value} {ns : List Int}
    (KX : K.In s₁.heap) (hns : s₁.heap.Ns mainGlobals mg) (hb : s₁.heap.Ns builtinsNs mb) (hbb : ∀ x : Str, x ≠ "__name__" → mb x = bootBuiltins x) (hlim : s₁.heap.NoLimit) (hg : s₁.gens = #[])
    (ha : s₁.heap.get? a = some { cls := .type "list", data := .seq vs.toArray }) (hi : IntsAre vs ns) (hl : ns.length ≤ sizeLine) (hr : Room k callerA)
    (F : ∀ base : Heap, K.In base → base.Ns mainGlobals mg → FnOk P w K mg base CX k fa fd [x] sp) (hbind : ∀ (s : Shared) (u : Value), BindsTo s fd ⟨[u], []⟩ [(x, u)])
    (hsp : ∀ H : Hp, Only H → SqL K H a (ns.map V.int) → sp [.ref a] H (fun v _ => v = .bl true) fun _ _ _ => False)
    (hCX : ∀ H e s', CX [] H s₁ (fun _ _ _ => False) e s' → False) :
    codeAny (model P w) callerA (.call (.ref fa) ⟨[.ref a], []⟩) (fun r s' => r = .ok (.ret (.bool true)) ∧ OldK s₁.heap s'.heap ∧ s'.os = s₁.os ∧ AllBare s'.gens) s₁ := by
  have rv := vals_ints hi
  have lenV := hi.length
  -- from an abstract heap in which nothing but the script may be tracked
  have core : ∀ H : Hp, Only H → SqL K H a (ns.map V.int) → HOk P w H s₁.heap → (∀ b, H b ≠ none → b = a) → (H a ≠ none → K.lookup a = none) →
      codeAny (model P w) callerA (.call (.ref fa) ⟨[.ref a], []⟩) (fun r s' => r = .ok (.ret (.bool true)) ∧ OldK s₁.heap s'.heap ∧ s'.os = s₁.os ∧ AllBare s'.gens) s₁ := by
    intro H hO hS hok hA hK
    have base_of : ∀ {b : Addr} {o : Obj}, s₁.heap.get? b = some o → H b = none → (hidT s₁.heap H).get? b = some o := fun e n => hidT_get e n
    have noA : ∀ {b : Addr} {o : Obj} {es : Array DictEntry} {ep : Nat}, s₁.heap.get? b = some o → o.data = .dict es ep → H b = none := fun {b o es ep} e d => by
      cases q : H b with
      | none => rfl
      | some u =>
        have e' : b = a := hA b (by rw [q]; simp)
        subst e'
        rw [ha] at e; cases e
        have d' : Data.seq vs.toArray _ = Data.dict es ep := d
        cases d'
    have nsK : ∀ {b : Addr} {m : Str → Option Value}, s₁.heap.Ns b m → (hidT s₁.heap H).Ns b m := fun {b m} ⟨o, es, ep, e, d, r⟩ => ⟨o, es, ep, base_of e (noA e d), d, r⟩
    have hKb : K.In (hidT s₁.heap H) := fun b o e => base_of (KX b o e) (by
      cases q : H b with
      | none => rfl
      | some u =>
        have e' : b = a := hA b (by rw [q]; simp)
        subst e'
        rw [hK (by rw [q]; simp)] at e; cases e)
    have hM : Mod K mg (hidT s₁.heap H) := ⟨hKb, nsK hns, ⟨mb, nsK hb, hbb⟩, let ⟨mc, h1, h2⟩ := hlim; ⟨mc, nsK h1, h2⟩⟩
    have e0 : Env0 P w K mg (hidT s₁.heap H) callerA [] s₁ H := ⟨rfl, hM, fun b o e => of_hidT e, Nat.le_of_eq (hidT_size _ _), trivial, fun b hb => absurd (show b ∈ ([] : List Addr) from hb) (by simp), hok, .of_eq hg⟩
    refine codeAny_mono ((F _ hKb (nsK hns)).run callerA [] s₁ H ⟨[.ref a], []⟩ [.ref a] [.ref a] _ _ hr e0 (hbind s₁ (.ref a)) (.cons rfl .nil) (hsp H hO hS)) fun r s' h => ?_
    cases r with
    | error e => exact (hCX H e s' h).elim
    | ok fl =>
      cases fl with
      | next => exact False.elim h
      | brk => exact False.elim h
      | cont => exact False.elim h
      | ret u =>
        obtain ⟨v, H', os, bare, un, hok', r', q⟩ := h
        have q' : v = .bl true := q
        subst q'
        obtain rfl : u = Value.bool true := r'
        refine ⟨rfl, OldK.of_keep fun b o e => ?_, os, bare⟩
        cases q : H b with
        | none => exact un.keep b o e q (by intro z; exact absurd (show b ∈ ([] : List Addr) from z) (by simp)) (by simp)
        | some u =>
          rcases hO b with z | ⟨ob, xs, z⟩
          · rw [q] at z; cases z
          · have z2 := un.frzs b ob _ z
            obtain ⟨e1, _⟩ := hok b _ z
            obtain ⟨e2, _⟩ := hok' b _ z2
            rw [e] at e1; cases e1
            exact e2
  cases hk : K.lookup a with
  | some o =>
    -- the script is one of the module's own objects
    have e := KX a o hk
    rw [ha] at e
    cases e
    refine core (fun _ => none) (fun _ => .inl rfl) (.inr ⟨_, vs.toArray, _, hk, rfl, rfl, rfl, by rw [List.size_toArray, lenV]; exact hl, by simpa using rv⟩) (fun b u z => by have z' : (none : Option HO) = some u := z; cases z') (fun b z => absurd rfl z) fun z => absurd rfl z
  | none =>
    refine core (fun b => if b = a then some (.frz { cls := .type "list", data := .seq vs.toArray } (.lst (ns.map V.int))) else none) (fun b => ?_) (.inl (.inr ⟨{ cls := .type "list", data := .seq vs.toArray }, if_pos rfl⟩)) (fun b u z => ?_) (fun b z => ?_) fun _ => hk
    · by_cases hb : b = a
      · exact .inr ⟨_, _, if_pos hb⟩
      · exact .inl (if_neg hb)
    · by_cases hb : b = a
      · have z' := (if_pos hb).symm.trans z
        cases z'
        subst hb
        exact ⟨ha, by rw [List.length_map]; exact hl, vs, _, rv, ha⟩
      · have z' := (if_neg hb).symm.trans z
        cases z'
    · by_cases hb : b = a
      · exact hb
      · exact absurd (if_neg hb) z
end L2

namespace L2
open PySem PySem.Spec PyProof.Rows


/-- the goal that k_head leaves (case hc), from the law's promise. F gives the function object fd (K's own) once, then the promise over every base -/
theorem walk_of {l : PySem.W.OpenLaw} {n k : Nat} {q : Program} {loose : List Str} {XP : (Str → Option Value) → Heap → Prop} {YP : World → Heap → Prop} {d : DefRec} {K : Params → PySem.W.Frag} {CX : World → CXT} {sp : World → Sp} {x : Str}
    (hn : l.most = some n) (hn2 : n ≤ sizeLine) (hdf : d.params.defaults = []) (hr : Room k callerA)
    (hY : ∀ (w : World) (h : Heap), YP w h → (K w.params).In h)
    (F : ∀ (w : World) (mg : Str → Option Value) (fa : Addr) (h : Heap), (K w.params).In h → h.Ns mainGlobals mg → mg d.name = some (.ref fa) →
      ∃ fd : FuncData, (∀ (s : Shared) (u : Value), BindsTo s fd ⟨[u], []⟩ [(x, u)]) ∧
        ∀ base : Heap, (K w.params).In base → base.Ns mainGlobals mg → FnOk l.prog w (K w.params) mg base (CX w) k fa fd [x] (sp w))
    (hsp : ∀ (w : World) (H : Hp) (a : Addr) (ns : List Int), ns.length ≤ n → Only H → SqL (K w.params) H a (ns.map V.int) → sp w [.ref a] H (fun v _ => v = .bl true) fun _ _ _ => False)
    (hCX : ∀ (w : World) (H : Hp) (s : Shared) (e : Value) (s' : Shared), CX w [] H s (fun _ _ _ => False) e s' → False) :
    PySem.W.WalkO q loose XP YP l.row.toRowW d [] (fun f vs => PySem.call f vs) := by
  refine Att.attach_call hn hdf fun w s₀ s₁ mg mb fa o pm cd doc a vs ns G Y ho hd hcd hmg hobj hints hlen hg => ?_
  have KX := hY w _ Y
  obtain ⟨fd, hb, hF⟩ := F w mg fa _ KX G.T.g hmg
  exact law_call KX G.T.g G.T.b G.T.builtins G.T.nolimit hg hobj hints (Nat.le_trans hlen hn2) hr hF hb (fun H hO hS => hsp w H a ns hlen hO hS) fun H e s' => hCX w H s₁ e s'
end L2

/- THE LAST THEOREM (shape; LID, My.* are yours):
   My.Adr: a structure of the addresses that your layer names (classes, functions); My.Txt K t: a structure (Prop) of the equations over K;
   My.txt_mk : {K} {implicit addresses ..} (e1 : nsIn K mainGlobals "law" = some (some (.ref f))) (e2 : K.lookup f = some ⟨oc, od, .func (fnOf "law" "law" params body scope dV kV doc pm an cdv ct), sl⟩) (e3 : codeIn K cdv "law" = true) .. : ∃ t, My.Txt K t

theorem PySem.Challenge.cw_LID_holds : PySem.Challenge.rw_LID.Holds := by
  w_on; o_law; k_head; (case hw => w_witness2)
  k_fill
  refine L2.walk_of (l := PySem.Challenge.rw_LID) (n := 63) (k := 40) (x := "script") (CX := fun w => ..) (sp := fun _ => My.sp_law) rfl (by decide) rfl ⟨rfl, by decide, by decide⟩ (fun w h Y => PySem.W.kIn_of Y) ?F ?S ?C
  case F =>
    intro w mg fa h KX G hmg
    have T : ∃ t, My.Txt (L2.KOf KX) t := by
      dsimp only [L2.KOf]                          -- K must stand as «<heap const> w.params» for k_is
      refine' My.txt_mk ?e1 ?e2 ?e3 ..
      (case e1 => PySem.W.k_is)                    -- in the order: a name -> its address -> its object -> its parts
      (case e2 => PySem.W.k_is)
      ..
    obtain ⟨t, T⟩ := T
    have e0 := hmg.symm.trans (PySem.W.mg_of KX G T.law)
    cases e0                                       -- fa is the law's own address
    exact ⟨_, fun s u => .of_eq rfl, fun base kb nb => My.law_fn T kb nb⟩     -- if «.of_eq rfl» comes too early: refine' ⟨_, ?b, fun base kb nb => My.law_fn T kb nb⟩; exact fun s u => .of_eq rfl
  case S => exact fun w H a ns hl hO hS => ..
  case C => exact ..
(the tactic k_is has no namespace: write k_is) -/

/-! SHORT WORDS over the layer: a def of the text, its body, what a loop and a test want. -/
namespace L2
open PySem PySem.Spec PyProof.Rows

/-! ### the text by places -/
/-- the j-th statement of a class's body -/
def inClass (s : Stmt) (j : Nat) : Stmt := match s with
  | .ClassDef _ _ _ body _ _ _ _ _ _ _ => body.getD j (.Pass ⟨0, 0, 0, 0⟩)
  | _ => .Pass ⟨0, 0, 0, 0⟩
def defArgs (s : Stmt) : Arguments := match s with
  | .FunctionDef _ a _ _ _ _ _ _ _ _ => a
  | _ => { posonlyargs := [], args := [], vararg := none, kwonlyargs := [], kw_defaults := [], kwarg := none, defaults := [] }
def defBody (s : Stmt) : List Stmt := match s with
  | .FunctionDef _ _ b _ _ _ _ _ _ _ => b
  | _ => []
def defScope (s : Stmt) : Scope := match s with
  | .FunctionDef _ _ _ _ _ _ sc _ _ _ => sc
  | _ => { kind := .function, names := [], isGenerator := false, isCoroutine := false }

/-! ### no exception leaves a def -/
abbrev CX0 : CXT := fun _ _ _ _ _ _ => False
abbrev E0 : XK := fun _ _ _ => False
theorem pass0 {X : Cx} : Passes CX0 X E0 := fun _ _ _ _ _ _ _ h => h.elim

/-! ### a def (or method) of the text as it stands behind the top -/
structure Fun (K : PySem.W.Frag) (x qual : Str) (st : Stmt) (f : Addr) (fd : FuncData) : Prop where
  ex : ∃ (oc : Value) (od : Option Addr) (kV doc pm : Value) (an : Option Addr) (cdv ct : Value) (osl : Array (Option Value)),
    fd = PySem.W.fnOf x qual (defArgs st) (defBody st) (defScope st) .none kV doc pm an cdv ct ∧ K.lookup f = some ⟨oc, od, .func fd, osl⟩ ∧ PySem.W.codeIn K cdv qual = true
  kp : PySem.W.keepIn K (.ref f) = true
section
variable {P : Program} {w : World} {K : PySem.W.Frag} {mg : Str → Option Value} {base : Heap}
/-- THE RULE for a def: its body as a term of rules, and the reading of that term -/
theorem Fun.ok {x qual : Str} {st : Stmt} {f : Addr} {fd : FuncData} {N ps : List Str} {k : Nat} {sp : Sp} (F : Fun K x qual st f fd) (S : FnScope N ps (defScope st)) (len : ∀ vs H Q E, sp vs H Q E → vs.length = ps.length)
    (hbody : ∀ (cdv : Value) (A : Around) (outer : List Env) (s : Shared) (H : Hp) (vs : List V) (Q : VK) (E : XK), Room k (A.deeper (envOfC qual (defScope st) s.heap.objs.size f cdv)) → sp vs H Q E →
      ∃ t, PSs (cxOf CX0 P w K mg base N qual (defScope st) f cdv A outer s H E).nox (defBody st) t ∧ t { nx := fun _ H' => Q .non H', rt := Q } (start N vs) H) : FnOk P w K mg base CX0 (k + 1) f fd ps sp := by
  obtain ⟨oc, od, kV, doc, pm, an, cdv, ct, osl, rfl, lk, hcd⟩ := F.ex
  refine fn_of lk hcd S len fun A outer s H vs Q E hr hsp => ?_
  obtain ⟨t, h, q⟩ := hbody cdv A outer s H vs Q E hr hsp
  exact ⟨t, h.nox, q⟩
/-- how its arguments bind (no defaults): h is «fun _ _ _ _ _ _ us hl => match us, hl with | [_, _], _ => rfl», one _ a parameter -/
theorem Fun.binds {x qual : Str} {st : Stmt} {f : Addr} {fd : FuncData} {ps : List Str} (F : Fun K x qual st f fd)
    (h : ∀ (kV doc pm : Value) (an : Option Addr) (cdv ct : Value) (us : List Value), us.length = ps.length → bindArgs (PySem.W.fnOf x qual (defArgs st) (defBody st) (defScope st) .none kV doc pm an cdv ct) ⟨us, []⟩ = pure (ps.zip us)) : Binds K fd ps [] := by
  obtain ⟨oc, od, kV, doc, pm, an, cdv, ct, osl, rfl, lk, hcd⟩ := F.ex
  exact .all (h kV doc pm an cdv ct)
theorem fun_mk {x qual : Str} {st : Stmt} {f : Addr} {oc : Value} {od an : Option Addr} {osl : Array (Option Value)} {kV doc pm cdv ct : Value} (l : K.lookup f = some ⟨oc, od, .func (PySem.W.fnOf x qual (defArgs st) (defBody st) (defScope st) .none kV doc pm an cdv ct), osl⟩)
    (c : PySem.W.codeIn K cdv qual = true) (k : PySem.W.keepIn K (.ref f) = true) : Fun K x qual st f (PySem.W.fnOf x qual (defArgs st) (defBody st) (defScope st) .none kV doc pm an cdv ct) := ⟨⟨oc, od, kV, doc, pm, an, cdv, ct, osl, rfl, l, c⟩, k⟩
end
theorem small1000 {n : Nat} (h : n ≤ 1000) : n < sizeLine := Nat.lt_of_le_of_lt h (by decide)

/-! ### expressions in short: the name that stands in the i-th slot -/
section
variable {X : Cx}
theorem pv (i : Nat) {x : Str} {pos : Pos} (hN : X.N[i]? = some x := by rfl) (hv : Vis X.env.scope x := by first | exact Or.inl rfl | exact Or.inr (Or.inl rfl) | exact Or.inr (Or.inr rfl)) (hd : (x == ("__debug__" : Str)) = false := by decide)
    (hcd : (x == ("__classdict__" : Str)) = false := by decide) : PE X (.Name x pos) (tVar i) := pe_var hN hv hd hcd
end

/-! ### tests -/
theorem iteF {A B : Prop} (h : B) : if false = true then A else B := by
  rw [if_neg Bool.false_ne_true]
  exact h
theorem iteT {A B : Prop} (h : A) : if true = true then A else B := by
  rw [if_pos rfl]
  exact h
theorem ite2 {c A B : Prop} [Decidable c] (h1 : c → A) (h2 : ¬ c → B) : if c then A else B := by
  by_cases h : c
  · rw [if_pos h]
    exact h1 h
  · rw [if_neg h]
    exact h2 h

/-! ### heaps -/
/-- all that was tracked is as it was -/
def Same (H H' : Hp) : Prop := ∀ b o, H b = some o → H' b = some o
theorem Same.refl (H : Hp) : Same H H := fun _ _ h => h
theorem Same.trans {H H1 H2 : Hp} (a : Same H H1) (b : Same H1 H2) : Same H H2 := fun c o h => b c o (a c o h)
theorem Same.free {H H' : Hp} (e : Same H H') {l : Addr} (h : H' l = Option.none) : H l = Option.none := by
  cases q : H l with
  | none => rfl
  | some o =>
    rw [e l o q] at h
    cases h
theorem Same.seq {K : PySem.W.Frag} {H H' : Hp} {a : Addr} {xs : List V} (e : Same H H') (h : SqL K H a xs) : SqL K H' a xs := by
  rcases h with (h | ⟨o, h⟩) | h
  · exact .inl (.inl (e _ _ h))
  · exact .inl (.inr ⟨o, e _ _ h⟩)
  · exact .inr h

end L2

namespace L2
open PySem PySem.Spec PyProof.Rows
/-! ### lists of pairs as tables -/
section
variable {κ : Type} [DecidableEq κ]



end


/-! ### a tracked dict, its keys ints and texts or tuples of these -/


section
variable {P : Program} {w : World} {H : Hp} {h : Heap} {a : Addr}
end



section
variable {X : Cx} {pins : List (Addr × Obj)} {σ : St} {H : Hp} {s : Shared} {a : Addr} {y v : V} {u r : Value} {o : Option V} {A : Around} {E : Value → Shared → Prop}


end

section
variable {X : Cx} {pins : List (Addr × Obj)} {σ : St} {H : Hp} {s : Shared} {a : Addr} {kvs : List (Key × V)} {k : Key} {u : Value} {A : Around} {E : Value → Shared → Prop}
end


/-! ### readings and rules -/



section
variable {X : Cx} {o i e value : Expr} {pos pos' tpos : Pos} {td ty tv : TE}
end


/-! ### displays -/
section
variable {X : Cx} {pos : Pos}
end




/-! ### methods -/


section
variable {X : Cx} {pins : List (Addr × Obj)} {σ : St} {H : Hp} {s : Shared} {a : Addr} {y d : V} {u r : Value} {o : Option V} {A : Around} {E : Value → Shared → Prop}
end

section
variable {X : Cx} {o e f : Expr} {apos cpos : Pos} {td ty tx : TE}
end

/-! ### dict(d): a copy -/
section
variable {X : Cx} {pins : List (Addr × Obj)} {σ : St} {H : Hp} {s : Shared} {a : Addr} {kvs : List (Key × V)} {A : Around} {E : Value → Shared → Prop}
end


section
variable {X : Cx} {pins : List (Addr × Obj)} {σ : St} {H : Hp} {s : Shared} {a : Addr} {y : V} {u : Value} {A : Around} {E : Value → Shared → Prop}
end
end L2

namespace L2
open PySem PySem.Spec PyProof.Rows
section
variable {X : Cx}
end

/-! ### a dict's pairs: keys that differ -/
section
variable {κ : Type} [DecidableEq κ]
end
end L2


namespace L2
open PySem PySem.Spec PyProof.Rows

/-! ### list comprehensions: one clause, tests, any target -/
/-- the cells that a block takes from the frame around it -/
def clo (cells : List (Str × Addr)) : List (Str × NameKind) → List (Str × Addr) → List (Str × Addr)
  | [], cs => cs
  | (n, k) :: r, cs => clo cells r (if k == NameKind.free then (match cells.lookup n with | some a => (n, a) :: cs | none => cs) else cs)
theorem clo_loop {env : Env} : ∀ (names : List (Str × NameKind)) (cs : List (Str × Addr)), (∀ y ∈ names, y.2 = .free → ∃ c, env.cells.lookup y.1 = some c) →
    (forIn names cs fun (x : Str × NameKind) (r : List (Str × Addr)) => if (x.2 == NameKind.free) = true then (do let a ← cellOf env x.1; pure (ForInStep.yield ((x.1, a) :: r))) else (pure (ForInStep.yield r) : Sem (ForInStep (List (Str × Addr)))))
      = (pure (clo env.cells names cs) : Sem (List (Str × Addr)))
  | [], cs, _ => rfl
  | (n, k) :: r, cs, h => by
    have ih := clo_loop (env := env) r
    rw [List.forIn_cons]
    unfold clo
    cases hk : (k == NameKind.free) with
    | false =>
      simp only [Bool.false_eq_true, if_false]
      show (forIn r cs _ : Sem _) = _
      exact ih cs fun y hy => h y (List.mem_cons_of_mem _ hy)
    | true =>
      obtain ⟨c, hc⟩ := h (n, k) List.mem_cons_self (by simpa using hk)
      have hc' : env.cells.lookup n = some c := hc
      have e : cellOf env n = pure c := by unfold cellOf; rw [hc']
      simp only [if_true, e, hc']
      show (forIn r ((n, c) :: cs) _ : Sem _) = _
      exact ih _ fun y hy => h y (List.mem_cons_of_mem _ hy)
theorem clo_is {scope : Scope} {env : Env} (h : ∀ y ∈ scope.names, y.2 = .free → ∃ c, env.cells.lookup y.1 = some c) : closureFor scope env = pure (clo env.cells scope.names []) := by
  unfold closureFor
  have q := clo_loop (env := env) scope.names [] h
  refine Eq.trans ?_ (congrArg (fun z : Sem (List (Str × Addr)) => z >>= fun cs => pure cs) q)
  rfl
theorem clo_mem {cells : List (Str × Addr)} : ∀ (names : List (Str × NameKind)) (cs : List (Str × Addr)), (∀ p ∈ cs, cells.lookup p.1 = some p.2) → ∀ p ∈ clo cells names cs, cells.lookup p.1 = some p.2
  | [], cs, h, p, hp => h p hp
  | (n, k) :: r, cs, h, p, hp => by
    unfold clo at hp
    refine clo_mem r _ (fun q hq => ?_) p hp
    split at hq
    · split at hq
      · rename_i a e
        rcases List.mem_cons.mp hq with rfl | hq
        · exact e
        · exact h q hq
      · exact h q hq
    · exact h q hq
theorem clo_sub {cells : List (Str × Addr)} {names : List (Str × NameKind)} {x : Str} {c : Addr} (e : (clo cells names []).lookup x = some c) : cells.lookup x = some c :=
  clo_mem names [] (fun _ z => nomatch z) (x, c) (PySem.mem_of_lookup e)
theorem clo_keeps {cells : List (Str × Addr)} : ∀ (names : List (Str × NameKind)) (cs : List (Str × Addr)) (p : Str × Addr), p ∈ cs → p ∈ clo cells names cs
  | [], cs, p, hp => hp
  | (n, k) :: r, cs, p, hp => by
    unfold clo
    refine clo_keeps r _ p ?_
    split
    · split
      · exact List.mem_cons_of_mem _ hp
      · exact hp
    · exact hp
theorem clo_has {cells : List (Str × Addr)} {x : Str} {c : Addr} (hc : cells.lookup x = some c) : ∀ (names : List (Str × NameKind)) (cs : List (Str × Addr)), (x, NameKind.free) ∈ names → (x, c) ∈ clo cells names cs
  | [], _, h => nomatch h
  | (n, k) :: r, cs, h => by
    unfold clo
    rcases List.mem_cons.mp h with e | h
    · cases e
      refine clo_keeps r _ _ ?_
      rw [hc]
      simp
    · exact clo_has hc r _ h
theorem lookup_some_of_mem {x : Str} {c : Addr} : ∀ {l : List (Str × Addr)}, (x, c) ∈ l → ∃ d, l.lookup x = some d
  | [], h => nomatch h
  | (y, d) :: r, h => by
    rw [List.lookup_cons]
    cases e : (x == y) with
    | true => exact ⟨d, rfl⟩
    | false =>
      rcases List.mem_cons.mp h with z | z
      · cases z
        simp at e
      · exact lookup_some_of_mem z
theorem relabel_look {env : Env} : ∀ {names : List (Str × NameKind)} {x : Str} {k : NameKind},
    (names.map fun (n, k) => if (k == NameKind.free && env.scope.kind == .function && env.kindOf n == some .cell) then (n, NameKind.cell) else (n, k)).lookup x = some k →
      names.lookup x = some k ∨ (k = .cell ∧ names.lookup x = some .free)
  | [], _, _, h => by simp at h
  | (n, k0) :: r, x, k, h => by
    have ih := @relabel_look env r x k
    rw [List.map_cons] at h
    rw [List.lookup_cons]
    by_cases c : (k0 == NameKind.free && env.scope.kind == .function && env.kindOf n == some .cell) = true
    · have h' := h
      simp only [c, if_true] at h'
      rw [List.lookup_cons] at h'
      cases e : (x == n) with
      | true =>
        rw [e] at h'
        have c1 : k0 = .free := by
          simp only [Bool.and_eq_true] at c
          simpa using c.1.1
        refine .inr ⟨(Option.some.inj h').symm, ?_⟩
        rw [c1]
      | false =>
        rw [e] at h'
        exact ih h'
    · have h' := h
      simp only [c, Bool.false_eq_true, if_false] at h'
      rw [List.lookup_cons] at h'
      cases e : (x == n) with
      | true =>
        rw [e] at h'
        exact .inl h'
      | false =>
        rw [e] at h'
        exact ih h'
theorem relabel_free {env : Env} : ∀ {names : List (Str × NameKind)} {x : Str}, names.lookup x = some .free →
    (names.map fun (n, k) => if (k == NameKind.free && env.scope.kind == .function && env.kindOf n == some .cell) then (n, NameKind.cell) else (n, k)).lookup x = some .cell ∨
    (names.map fun (n, k) => if (k == NameKind.free && env.scope.kind == .function && env.kindOf n == some .cell) then (n, NameKind.cell) else (n, k)).lookup x = some .free
  | [], _, h => by simp at h
  | (n, k0) :: r, x, h => by
    have ih := @relabel_free env r x
    rw [List.map_cons]
    rw [List.lookup_cons] at h
    by_cases c : (k0 == NameKind.free && env.scope.kind == .function && env.kindOf n == some .cell) = true
    · simp only [c, if_true, List.lookup_cons]
      cases e : (x == n) with
      | true => exact .inl rfl
      | false =>
        rw [e] at h
        exact ih h
    · simp only [c, Bool.false_eq_true, if_false, List.lookup_cons]
      cases e : (x == n) with
      | true =>
        rw [e] at h
        exact .inr h
      | false =>
        rw [e] at h
        exact ih h

/-- what a block's scope must be like: sc the frame's scope around it -/
def compOk (sc scope : Scope) : Bool :=
  scope.kind == .function && scope.names.all fun y => y.2 != .cell && (y.2 != .local || scope.names.lookup y.1 == some .local) && (y.2 != .free || (sc.names.lookup y.1 == some .cell || sc.names.lookup y.1 == some .free))
structure CompScope (sc scope : Scope) : Prop where
  kind : scope.kind = .function
  cell : ∀ y ∈ scope.names, y.2 ≠ .cell
  own : ∀ y ∈ scope.names, y.2 = .local → scope.names.lookup y.1 = some .local
  free : ∀ y ∈ scope.names, y.2 = .free → sc.names.lookup y.1 = some .cell ∨ sc.names.lookup y.1 = some .free
theorem CompScope.of {sc scope : Scope} (h : compOk sc scope = true) : CompScope sc scope := by
  unfold compOk at h
  rw [Bool.and_eq_true, List.all_eq_true] at h
  obtain ⟨h1, h2⟩ := h
  have h3 : ∀ y ∈ scope.names, (y.2 ≠ .cell ∧ (y.2 ≠ .local ∨ scope.names.lookup y.1 = some .local)) ∧ (y.2 ≠ .free ∨ (sc.names.lookup y.1 = some .cell ∨ sc.names.lookup y.1 = some .free)) := fun y hy => by
    have q := h2 y hy
    simpa [Bool.and_eq_true, Bool.or_eq_true] using q
  refine ⟨by simpa using h1, fun y hy => (h3 y hy).1.1, fun y hy e => ?_, fun y hy e => ?_⟩
  · exact (h3 y hy).1.2.resolve_left fun n => n e
  · exact (h3 y hy).2.resolve_left fun n => n e

/-- the context of a block -/
def cxB (X : Cx) (NC : List Str) (scope : Scope) (s3 : Shared) (H3 : Hp) (fp : List Addr) : Cx :=
  { X with N := NC, s₀ := s3, H₀ := H3, env := compEnvC scope (clo X.env.cells scope.names []) s3.heap.objs.size X.env, outer := X.stack, ex := fp, fn := fun _ => false, pn := [], xe := fun _ _ => False }
/-- the names at a block's entry: its own (none yet), then those of the frame, by their places there -/
def capt (own : Nat) (ix : List Nat) (σ : St) : St := List.replicate own none ++ ix.map fun j => (σ[j]?).getD none
/-- the caught names cs stand at the places ix of the frame -/
def Caps (X : Cx) (scope : Scope) : List Str → List Nat → Prop
  | [], [] => True
  | x :: cs, j :: js => (X.N[j]? = some x ∧ (X.env.kindOf x = some .cell ∨ X.env.kindOf x = some .free) ∧ scope.names.lookup x = some .free) ∧ Caps X scope cs js
  | _, _ => False
theorem Caps.len {X : Cx} {scope : Scope} : ∀ {cs : List Str} {js : List Nat}, Caps X scope cs js → cs.length = js.length
  | [], [], _ => rfl
  | _ :: _, _ :: _, h => by rw [List.length_cons, List.length_cons, Caps.len h.2]
  | [], _ :: _, h => h.elim
  | _ :: _, [], h => h.elim
theorem Caps.at {X : Cx} {scope : Scope} : ∀ {cs : List Str} {js : List Nat} {i : Nat} {x : Str}, Caps X scope cs js → cs[i]? = some x →
    ∃ j, js[i]? = some j ∧ X.N[j]? = some x ∧ (X.env.kindOf x = some .cell ∨ X.env.kindOf x = some .free) ∧ scope.names.lookup x = some .free
  | [], [], _, _, _, e => by simp at e
  | x :: _, j :: _, 0, _, h, e => by simp at e; subst e; exact ⟨j, rfl, h.1⟩
  | _ :: _, _ :: _, i + 1, _, h, e => by
    obtain ⟨j, e1, r⟩ := Caps.at (i := i) h.2 (by simpa using e)
    exact ⟨j, by simpa using e1, r⟩
  | [], _ :: _, _, _, h, _ => h.elim
  | _ :: _, [], _, _, h, _ => h.elim

/-- the tests of a clause -/
def tTrue : TT := fun _ H Q => Q true H
def PTs (Y : Cx) (ifs : List Expr) (t : TT) : Prop :=
  ∀ (pins : List (Addr × Obj)) (s : Shared) (σ : St) (H : Hp) (Q : Bool → Hp → Prop), Inv Y pins σ H s → t σ H Q →
    wpAny (model Y.prog Y.w) Y.A (forIn ifs true fun c r => if r = true then do let ok ← isTrue c Y.env (eval c Y.env); pure (ForInStep.yield ok) else pure (ForInStep.yield r)) (TP Y pins σ Q) Y.xe s
theorem pts_nil {Y : Cx} : PTs Y [] tTrue := fun _ _ _ H _ I h => wpAny_tests_nil ⟨H, I, h⟩
theorem pts_one {Y : Cx} {c : Expr} {t : TT} (h : PT Y c t) : PTs Y [c] t := fun pins s σ H Q I q => wpAny_tests_one (h pins s σ H Q I q)

/-- what is asked of a comprehension whose iterator has come and whose list stands at p: W the word by the turn, a measure, the list so far, the block's names, the heap; N what a turn is to reach -/
def CompW (g : TG) (tc : TT) (te : TE) (own : Nat) (ix : List Nat) (σ : St) (J : It) (p : Addr) (H1 : Hp) (QQ : Hp → Prop) : Prop :=
  ∃ W : Nat → Nat → List V → St → Hp → Prop, (∃ m, W 0 m [] (capt own ix σ) (upd H1 p (.lst []))) ∧ ∀ i m ys σ2 H2, W i m ys σ2 H2 → H2 p = some (.lst ys) ∧
    ((J.stop i H2 ∧ QQ H2) ∨ (J.go i H2 ∧ ys.length < sizeLine ∧ ∀ x H3, J.yld i H2 x H3 → ∃ N : List V → St → Hp → Prop, (∀ ys' σ' H', N ys' σ' H' → ∃ m', m' < m ∧ W (i + 1) m' ys' σ' H') ∧
      g x σ2 H3 fun σ4 H4 => tc σ4 H4 fun b H5 => if b = true then te σ4 H5 fun y H6 => H6 p = some (.lst ys) ∧ N (ys ++ [y]) σ4 (upd H6 p (.lst (ys ++ [y]))) else N ys σ4 H5))
/-- a list comprehension's reading -/
def tComp (wi : TI) (g : TG) (tc : TT) (te : TE) (own : Nat) (ix : List Nat) : TE := fun σ H Q => wi σ H fun J H1 => ∀ p, H1 p = none → CompW g tc te own ix σ J p H1 (Q (.ref p))

/-- a turn of the loop, the store of the target among it -/
theorem comp_loop {prog : Program} {w : World} {A : Around} {R : Result → Shared → Prop} {s : Shared} {elt target iter : Expr} {ifs : List Expr} {scope : Scope} {pos : Pos} {it acc : Value} {env : Env} (I : Nat → Shared → Prop)
    (turn : ∀ n s, I n s → wpAny (model prog w) A (pyNext it) (fun r s₁ => (r = none ∧ R (.ok .next) s₁) ∨ ∃ v, r = some v ∧
      wpAny (model prog w) A (letOwnedTupleGo target it v) (fun _ s₂ => wpAny (model prog w) A (assign target env v) (fun _ s₃ =>
        wpAny (model prog w) A (forIn ifs true fun c r => if r = true then do let ok ← isTrue c env (eval c env); pure (ForInStep.yield ok) else pure (ForInStep.yield r)) (fun ok s₄ =>
          (ok = true ∧ wpAny (model prog w) A (eval elt env) (fun x s₅ => wpAny (model prog w) A (call (.builtin "list.append") [acc, x]) (fun _ s₆ => ∃ m, m < n ∧ I m s₆) (fun _ _ => False) s₅) (fun _ _ => False) s₄) ∨
          (ok = false ∧ ∃ m, m < n ∧ I m s₄)) (fun _ _ => False) s₃) (fun _ _ => False) s₂) (fun _ _ => False) s₁) (fun _ _ => False) s)
    (n : Nat) (h : I n s) : codeAny (model prog w) A (.compLoop (.ListComp elt [⟨target, iter, ifs, 0⟩] scope pos) 0 it acc env) R s := by
  refine codeAny_loop rfl I (fun n s hI => ?_) n h
  show wpAny _ A ((compTurn (.ListComp elt [⟨target, iter, ifs, 0⟩] scope pos) 0 it acc env).onRaise (fun x => do noteFrame x env; theTreesLotGoes x)) _ _ s
  refine wpAny_noted ?_
  rw [compTurn_list]
  have no : ∀ (e : Value) (s' : Shared), False → notedBy (model prog w) A env (fun e s' => R (.error e) s') e s' := fun _ _ f => f.elim
  refine wpAny_bind (wpAny_standAt (wpAny_bind (wpAny_mono (turn n s hI) (fun r s₁ h₁ => ?_) no)))
  rcases h₁ with ⟨rfl, h₁⟩ | ⟨v, rfl, h₁⟩
  · exact wpAny_pure h₁
  refine wpAny_bind (wpAny_mono h₁ (fun _ s₂ h₂ => ?_) no)
  refine wpAny_bind (wpAny_mono h₂ (fun _ s₃ h₃ => ?_) no)
  refine wpAny_bind (wpAny_mono h₃ (fun ok s₄ h₄ => ?_) no)
  rcases h₄ with ⟨rfl, h₄⟩ | ⟨rfl, h₄⟩
  · refine wpAny_bind (wpAny_bind (wpAny_mono h₄ (fun x s₅ h₅ => ?_) no))
    exact wpAny_bind (wpAny_mono h₅ (fun _ s₆ h₆ => wpAny_pure (wpAny_pure ⟨rfl, h₆⟩)) no)
  · exact wpAny_pure ⟨rfl, h₄⟩

section
variable {X : Cx} {pins : List (Addr × Obj)} {σ : St} {H H' : Hp} {s s' : Shared}
/-- a block's entry: s3 the state with the new list laid, h4 the heap with the block's own names laid behind it -/
theorem block_start {NC own cs : List Str} {ix : List Nat} {scope : Scope} {fp : List Addr} {h4 : Heap} {t4 : Nat} (I : Inv X pins σ H s) (S : CompScope X.env.scope scope) (hN : NC = own ++ cs) (hc : Caps X scope cs ix)
    (hf : ∀ b ∈ fp, FpOk X pins H b) (hl : ∀ b ∈ fp, b < s.heap.objs.size) (hns : h4.Ns s.heap.objs.size fun _ => none) (hk : ∀ b o, s.heap.get? b = some o → h4.get? b = some o) :
    Inv (cxB X NC scope s H fp) [] (capt own.length ix σ) H { s with heap := h4, toks := t4 } := by
  have cs_has : ∀ y ∈ scope.names, y.2 = .free → ∃ c, X.env.cells.lookup y.1 = some c := fun y hy e => I.ok.has y.1 (S.free y hy e)
  have len := hc.len
  refine ⟨⟨I.ok.mod, S.kind, I.ok.glob, I.ok.blt, Nat.le_refl _, fun x y c e1 e2 => I.ok.inj x y c (clo_sub e1) (clo_sub e2), fun x hx => ?_, fun _ _ z => (nomatch z), I.ok.hd, I.ok.frames, .inl rfl, fun b hb => ⟨Nat.ne_of_lt (hl b hb), fun x c e => (hf b hb).2.2.2.2.1 x c (clo_sub e)⟩,
      I.bs, Nat.le_trans I.ok.bsz I.sz, fun b o e hb => ?_, fun b hb z => ?_, I.stack, I.stkFree⟩, rfl, I.bare, Un.kept hk, ⟨_, hns, fun i x v e1 e2 e3 => ?_⟩, fun x c e => ?_, I.hok.fresh (Nat.le_refl _), fun x c e => I.freeC x c (clo_sub e), fun p hp => ?_, I.hok.kept hk, ?_⟩
  · -- a cell for each caught name
    have hx' : (relabel scope X.env).names.lookup x = some .cell ∨ (relabel scope X.env).names.lookup x = some .free := hx
    have q : scope.names.lookup x = some .free := by
      rcases hx' with h | h
      · rcases relabel_look h with h | ⟨_, h⟩
        · exact absurd rfl (S.cell _ (PySem.mem_of_lookup h))
        · exact h
      · rcases relabel_look h with h | ⟨z, _⟩
        · exact h
        · cases z
    obtain ⟨c, hc'⟩ := cs_has (x, .free) (PySem.mem_of_lookup q) rfl
    exact lookup_some_of_mem (clo_has hc' scope.names [] (PySem.mem_of_lookup q))
  · rcases (hf b hb).2.2.2.1 with z | z
    · exact I.ok.noex b o e z
    · exact absurd (Nat.lt_of_lt_of_le (Heap.lt_size e) (Nat.le_trans I.ok.bsz z)) (Nat.lt_irrefl _)
  · rcases List.mem_cons.mp (I.stkSub b z) with z | z
    · exact (hf b hb).2.1 z
    · exact (hf b hb).2.2.1 z
  · -- the caught names' values
    have e1' : (own ++ cs)[i]? = some x := hN ▸ e1
    have hi : own.length ≤ i := by
      by_cases hi : own.length ≤ i
      · exact hi
      · unfold capt at e2
        rw [List.getElem?_append_left (by rw [List.length_replicate]; omega), List.getElem?_replicate, if_pos (by omega)] at e2
        cases e2
    rw [List.getElem?_append_right hi] at e1'
    obtain ⟨j, ej, en, kx, fx⟩ := hc.at e1'
    have e2' : (σ[j]?).getD none = some v := by
      unfold capt at e2
      rw [List.getElem?_append_right (by rw [List.length_replicate]; omega), List.length_replicate, List.getElem?_map, ej] at e2
      exact Option.some.inj e2
    have e2'' : σ[j]? = some (some v) := by
      cases z : σ[j]? with
      | none => rw [z] at e2'; cases e2'
      | some o => rw [z] at e2'; exact congrArg some e2'
    obtain ⟨m, _, hl'⟩ := I.loc
    obtain ⟨u, ru, l⟩ := hl' j x v en e2'' (kx.elim (fun z => .inr (.inl z)) fun z => .inr (.inr z))
    refine ⟨u, ru, .inr ⟨relabel_free fx, ?_⟩⟩
    rcases l with ⟨k, _⟩ | ⟨_, c, e, z⟩
    · rcases kx with k' | k' <;> rw [k] at k' <;> cases k'
    · obtain ⟨d, hd⟩ := lookup_some_of_mem (clo_has e scope.names [] (PySem.mem_of_lookup fx))
      have e' := clo_sub hd
      rw [e] at e'
      cases e'
      obtain ⟨o, ho, dd⟩ := z
      exact ⟨c, hd, o, hk c o ho, dd⟩
  · obtain ⟨v, o, ho, dd⟩ := I.cell x c (clo_sub e)
    exact ⟨v, o, hk c o ho, dd⟩
  · exact absurd (show p ∈ ([] : List (Addr × Obj)) from hp) (by simp)
  · show (capt own.length ix σ).length = NC.length
    rw [hN]
    unfold capt
    rw [List.length_append, List.length_append, List.length_replicate, List.length_map, len]
/-- .. and its end: the frame around it goes on -/
theorem block_end {NC : List Str} {scope : Scope} {fp : List Addr} {σ' : St} {h' : Heap} (I : Inv X pins σ H s) (hf : ∀ b ∈ fp, FpOk X pins H b) (J : Inv (cxB X NC scope s H fp) [] σ' H' s') (hs : Heap.SameBut s.heap.objs.size s'.heap h') : Inv X pins σ H' { s' with heap := h' } := by
  obtain ⟨hh, g, d, t, os⟩ := s'
  have hos : os = s.os := J.os
  subst hos
  have nC : H' s.heap.objs.size = none := J.free
  have un : Un (frs X.stack) fp H H' s.heap hh := J.base
  have out : ∀ b o, s.heap.get? b = some o → b ≠ s.heap.objs.size := fun b o e => Nat.ne_of_lt (Heap.lt_size e)
  have un' : Un (frs X.stack) fp H H' s.heap h' := ⟨fun b o e n hb hx => (hs.2 b (out b o e)).trans (un.keep b o e n hb hx), fun b o e n hb hx => let ⟨sl, q⟩ := un.slot b o e n hb hx; ⟨sl, (hs.2 b (out b o e)).trans q⟩, un.free,
    fun b o e hx => let ⟨o', q⟩ := un.there b o e hx; ⟨o', (hs.2 b (out b o e)).trans q⟩, un.tups, un.frzs, un.tbls⟩
  have hok : HOk X.prog X.w H' h' := fun b u e => by
    refine (J.hok b u e).stay (fun c v hc q => (hs.2 c ?_).trans q) (fun _ q => q) fun _ _ q => q
    rintro rfl
    rcases hc with rfl | hc
    · rw [nC] at e; cases e
    · rw [nC] at hc; cases hc
  have q := Inv.call (s := s) (h' := h') (g' := g) (d' := d) (t' := t) (ch := fp) I un' hok J.bare fun b hb => ⟨(hf b hb).2.2.2.1, (hf b hb).2.1, (hf b hb).2.2.2.2.1, (hf b hb).2.2.2.2.2⟩
  exact q
end
/-- the block from the new list on: what is wanted behind its last turn is told by fin -/
theorem comp_core {X : Cx} {elt tg iter : Expr} {ifs : List Expr} {scope : Scope} {pos : Pos} {NC own cs : List Str} {ix : List Nat} {g : TG} {tc : TT} {te : TE} (hc : X.calm = true) (S : CompScope X.env.scope scope) (hN : NC = own ++ cs) (hcap : Caps X scope cs ix)
    (hg : ∀ s3 H3 fp, PG (cxB X NC scope s3 H3 fp) tg g) (ht : ∀ s3 H3 fp, PTs (cxB X NC scope s3 H3 fp) ifs tc) (he : ∀ s3 H3 fp, PE (cxB X NC scope s3 H3 fp) elt te)
    {pins : List (Addr × Obj)} {σ : St} {H2 : Hp} {s2 : Shared} {it : Addr} {fp : List Addr} {tn : Nat → Heap → Prop} {J : It} (I2 : Inv X pins σ H2 s2) (T : Turn X.prog X.w X.K tg J fp it tn) (st2 : tn 0 s2.heap) (f2 : ∀ b ∈ fp, FpOk X pins H2 b) {QQ : Addr → Hp → Prop} {E : Value → Shared → Prop}
    {RR : Value → Addr → Result → Shared → Prop}
    (h2 : ∀ p, H2 p = none → CompW g tc te own.length ix σ J p H2 (QQ p))
    (fin : ∀ s3 H3 σ5 H5 s6, Inv X pins σ H3 s3 → (∀ b ∈ fp, FpOk X pins H3 b) → Inv (cxB X NC scope s3 H3 fp) [] σ5 H5 s6 → QQ s2.heap.objs.size H5 → RR (.ref s2.heap.objs.size) s3.heap.objs.size (.ok .next) s6) :
    wpAny (model X.prog X.w) X.A (newList []) (fun acc s3 => wpAny (model X.prog X.w) X.A (newFunctionEnv scope X.env.globals (clo X.env.cells scope.names []) [] X.env.qual none .none (some X.env)) (fun cenv s4 =>
      codeAny (model X.prog X.w) X.A (.compStart (.ListComp elt [⟨tg, iter, ifs, 0⟩] scope pos) 0 (.ref it) acc { cenv with scope := relabel scope X.env }) (RR acc cenv.locals) s4) E s3) E s2 := by
  have lt2 : ∀ b ∈ fp, b < s2.heap.objs.size := fun b hb => let ⟨_, e, _⟩ := T.obj _ _ st2 b hb; Heap.lt_size e
  obtain ⟨W, ⟨m0, w0⟩, turn⟩ := h2 _ I2.fresh
  refine wpAny_newObj_type ?_
  have I3 : Inv X pins σ (upd H2 s2.heap.objs.size (.lst [])) { s2 with heap := s2.heap.push { cls := .type "list", dict := none, data := .seq ([] : List Value).toArray } } := I2.lnew (t' := s2.toks) .nil (Nat.zero_le _)
  have f3 : ∀ b ∈ fp, FpOk X pins (upd H2 s2.heap.objs.size (.lst [])) b := fun b hb => ⟨by rw [upd_ne (Nat.ne_of_lt (lt2 b hb))]; exact (f2 b hb).1, (f2 b hb).2⟩
  have st3 : tn 0 (s2.heap.push { cls := .type "list", dict := none, data := .seq ([] : List Value).toArray }) := T.keep _ _ _ st2 fun b hb o e => Heap.get?_push_of_some _ e
  have lt3 : ∀ b ∈ fp, b < (s2.heap.push { cls := .type "list", dict := none, data := .seq ([] : List Value).toArray }).objs.size := fun b hb => by rw [Heap.size_push]; exact Nat.lt_succ_of_lt (lt2 b hb)
  refine wpAny_newFunctionEnv S.cell (fun _ z => nomatch z) (fun h4 hns hsb => ?_) S.kind
  dsimp only at hns hsb ⊢
  have hk4 : ∀ b o, (s2.heap.push { cls := .type "list", dict := none, data := .seq ([] : List Value).toArray }).get? b = some o → h4.get? b = some o := fun b o e =>
    hsb.extBut b o (Nat.ne_of_lt (Heap.lt_size e)) (Heap.get?_push_of_some _ e)
  have J0 := block_start (t4 := s2.toks + ([] : List (Str × Value)).length) I3 S hN hcap f3 lt3 hns hk4
  have st4 : tn 0 h4 := T.keep _ _ _ st3 fun b hb o e => hk4 b o e
  have fB : ∀ {H' : Hp}, (∀ b ∈ fp, H' b = none) → ∀ b ∈ fp, FpOk (cxB X NC scope { s2 with heap := s2.heap.push { cls := .type "list", dict := none, data := .seq ([] : List Value).toArray } } (upd H2 s2.heap.objs.size (.lst [])) fp) [] H' b := fun hn b hb => by
    refine ⟨hn b hb, Nat.ne_of_lt (lt3 b hb), fun z => ?_, .inl hb, fun x c e => (f3 b hb).2.2.2.2.1 x c (clo_sub e), fun p hp => absurd (show p ∈ ([] : List (Addr × Obj)) from hp) (by simp)⟩
    rcases List.mem_cons.mp (I3.stkSub b z) with z | z
    · exact (f3 b hb).2.1 z
    · exact (f3 b hb).2.2.1 z
  have loop : ∀ s4 : Shared, s4 = { s2 with heap := h4, toks := s2.toks + ([] : List (Str × Value)).length } →
      codeAny (model X.prog X.w) X.A (.compLoop (.ListComp elt [⟨tg, iter, ifs, 0⟩] scope pos) 0 (.ref it) (.ref s2.heap.objs.size) (compEnvC scope (clo X.env.cells scope.names []) (s2.heap.push { cls := .type "list", dict := none, data := .seq ([] : List Value).toArray }).objs.size X.env))
        (RR (.ref s2.heap.objs.size) (s2.heap.push { cls := .type "list", dict := none, data := .seq ([] : List Value).toArray }).objs.size) s4 := by
    rintro s4 rfl
    refine comp_loop (fun n s' => ∃ i ys σ' H', Inv (cxB X NC scope { s2 with heap := s2.heap.push { cls := .type "list", dict := none, data := .seq ([] : List Value).toArray } } (upd H2 s2.heap.objs.size (.lst [])) fp) [] σ' H' s' ∧ tn i s'.heap ∧ (∀ b ∈ fp, H' b = none) ∧ W i n ys σ' H') ?_ m0
      ⟨0, [], _, _, J0, st4, fun b hb => (f3 b hb).1, w0⟩
    rintro n s5 ⟨i, ys, σ5, H5, J5, st5, fr5, w5⟩
    obtain ⟨hp5, alt⟩ := turn i n ys σ5 H5 w5
    rcases alt with ⟨stop, qn⟩ | ⟨go, hz, step⟩
    · refine thn (T.done (cxB X NC scope _ _ fp) rfl rfl rfl hc i [] s5 σ5 H5 _ J5 (fB fr5) st5 stop) fun r s6 ⟨hr, J6⟩ => .inl ⟨hr, ?_⟩
      exact fin _ _ _ _ _ I3 f3 J6 qn
    · refine thn (T.item (cxB X NC scope _ _ fp) rfl rfl rfl hc i [] s5 σ5 H5 _ J5 (fB fr5) st5 go) fun r s6 ⟨u, hr, h6⟩ => .inr ⟨u, hr, ?_⟩
      refine thn h6 fun _ s7 ⟨x, H7, J7, r7, y7, st7, fr7⟩ => ?_
      have J7' := J7.pinned (fB fr7) (T.obj _ _ st7)
      obtain ⟨N, hN', q7⟩ := step x H7 y7
      refine thn (hg _ _ fp _ s7 σ5 H7 x u _ J7' r7 q7) fun _ s8 ⟨σ8, H8, J8, q8⟩ => ?_
      refine thn (ht _ _ fp _ s8 σ8 H8 _ J8 q8) fun ok s9 ⟨H9, J9, q9⟩ => ?_
      have again : ∀ {σa : St} {Ha : Hp} {sa : Shared} {ya : List V} {ma : Nat}, Inv (cxB X NC scope { s2 with heap := s2.heap.push { cls := .type "list", dict := none, data := .seq ([] : List Value).toArray } } (upd H2 s2.heap.objs.size (.lst [])) fp) ([] ++ pinsAt fp s7.heap) σa Ha sa → ma < n → W (i + 1) ma ya σa Ha →
          ∃ m, m < n ∧ ∃ i ys σ' H', Inv (cxB X NC scope { s2 with heap := s2.heap.push { cls := .type "list", dict := none, data := .seq ([] : List Value).toArray } } (upd H2 s2.heap.objs.size (.lst [])) fp) [] σ' H' sa ∧ tn i sa.heap ∧ (∀ b ∈ fp, H' b = none) ∧ W i m ys σ' H' := fun {σa Ha sa ya ma} Ja hm wa => by
        refine ⟨ma, hm, i + 1, ya, σa, Ha, Ja.unpinned, T.keep _ _ _ st7 fun b hb o e => (Ja.pin (b, o) (List.mem_append_right _ (List.mem_append_right _ (mem_pinsAt hb e)))).1, fun b hb => ?_, wa⟩
        obtain ⟨o, e, d⟩ := T.obj _ _ st7 b hb
        exact (Ja.pin (b, o) (List.mem_append_right _ (List.mem_append_right _ (mem_pinsAt hb e)))).2.1
      cases ok with
      | false =>
        obtain ⟨m', hm, w'⟩ := hN' _ _ _ (show N ys σ8 H9 from q9)
        exact .inr ⟨rfl, again J9 hm w'⟩
      | true =>
        refine .inl ⟨rfl, thn (he _ _ fp _ s9 σ8 H9 _ J9 q9) fun yv s10 ⟨y, H10, J10, r10, hp10, n10⟩ => ?_⟩
        obtain ⟨m', hm, w'⟩ := hN' _ _ _ n10
        refine thn (mt_append _ s10 σ8 H10 (.ref s2.heap.objs.size) [y] (.ref s2.heap.objs.size) [yv] (fun _ Hz => Hz = upd H10 s2.heap.objs.size (.lst (ys ++ [y]))) J10 rfl (.cons r10 .nil) ⟨_, ys, y, rfl, rfl, hp10, hz, rfl⟩) fun _ s11 ⟨_, H11, J11, _, e11⟩ => ?_
        subst e11
        exact again J11 hm w'
  exact codeAny_compStart_list (loop _ rfl) (T.self X.A 0 _ _ _ st4 (loop _ rfl))
/-- [elt for tg in iter if ..] -/
theorem pe_comp {X : Cx} {elt tg iter : Expr} {ifs : List Expr} {scope : Scope} {pos : Pos} {NC own cs : List Str} {ix : List Nat} {wi : TI} {g : TG} {tc : TT} {te : TE} (hc : X.calm = true) (S : CompScope X.env.scope scope) (hN : NC = own ++ cs) (hcap : Caps X scope cs ix)
    (hi : PI X tg iter wi) (hg : ∀ s3 H3 fp, PG (cxB X NC scope s3 H3 fp) tg g) (ht : ∀ s3 H3 fp, PTs (cxB X NC scope s3 H3 fp) ifs tc) (he : ∀ s3 H3 fp, PE (cxB X NC scope s3 H3 fp) elt te)
    (hs : ∀ x, foldedSetIterable iter X.env x = pure x := by intro _; rfl) : PE X (.ListComp elt [⟨tg, iter, ifs, 0⟩] scope pos) (tComp wi g tc te own.length ix) := by
  intro pins s σ H Q I h
  rw [eval_ListComp]
  have has : ∀ y ∈ scope.names, y.2 = .free → ∃ c, X.env.cells.lookup y.1 = some c := fun y hy e => I.ok.has y.1 (S.free y hy e)
  refine wpAny_comprehension_free (use := none) rfl hs (clo_is has) S.kind S.own (thn (hi pins s σ H _ I h) fun v s1 h1 => thn h1 fun itv s2 h2 => ?_)
  obtain ⟨it, fp, tn, J, H2, e, I2, T, st2, f2, h2⟩ := h2
  subst e
  refine comp_core hc S hN hcap hg ht he I2 T st2 f2 (QQ := fun p => Q (.ref p)) (RR := fun acc C => compPost (model X.prog X.w) X.A X.xe none (EP X pins σ Q) acc C) h2 fun s3 H3 σ5 H5 s6 I3 f3 J6 qn => ?_
  obtain ⟨m6, hn6, _⟩ := J6.loc
  exact ⟨m6, hn6, fun h7 hs7 => ⟨.ref s2.heap.objs.size, H5, block_end I3 f3 J6 hs7, rfl, qn⟩⟩
/-- x = [elt for ..]: the value is stored before the block's names are let go -/
theorem ps_comp {X : Cx} {elt tg iter : Expr} {ifs : List Expr} {scope : Scope} {pos py spos : Pos} {NC own cs : List Str} {ix : List Nat} {wi : TI} {g : TG} {tc : TT} {te : TE} {y : Str} {j : Nat} (hnd : X.N.Nodup) (hj : X.N[j]? = some y) (hy : X.env.scope.names.lookup y = some .local) (hc : X.calm = true) (S : CompScope X.env.scope scope) (hN : NC = own ++ cs) (hcap : Caps X scope cs ix)
    (hi : PI X tg iter wi) (hg : ∀ s3 H3 fp, PG (cxB X NC scope s3 H3 fp) tg g) (ht : ∀ s3 H3 fp, PTs (cxB X NC scope s3 H3 fp) ifs tc) (he : ∀ s3 H3 fp, PE (cxB X NC scope s3 H3 fp) elt te)
    (hsw : swapsWith (.ListComp elt [⟨tg, iter, ifs, 0⟩] scope pos) (some (.Name y py)) spos.line X.env = pure true := by rfl) (hs : ∀ x, foldedSetIterable iter X.env x = pure x := by intro _; rfl) :
    PS X (.Assign [.Name y py] (.ListComp elt [⟨tg, iter, ifs, 0⟩] scope pos) spos) (tAsg (tComp wi g tc te own.length ix) (gName j)) := by
  intro pins s σ H D I h
  rw [exec_Assign_Name_used _ _ _ _ hsw]
  refine wpAny_bind (wpAny_standAt (wpAny_bind ?_))
  show wpAny _ X.A (comprehension (.ListComp elt [⟨tg, iter, ifs, 0⟩] scope pos) scope X.env _ (newList []) false (eval iter X.env) (some (assign (.Name y py) X.env)) >>= fun _ => _) _ _ s
  have has : ∀ y ∈ scope.names, y.2 = .free → ∃ c, X.env.cells.lookup y.1 = some c := fun y hy e => I.ok.has y.1 (S.free y hy e)
  refine wpAny_bind (thn (wpAny_comprehension_free (use := some (assign (.Name y py) X.env)) (Q := fun _ s' => SP X pins D .next s') rfl hs (clo_is has) S.kind S.own (thn (hi pins s σ H _ I h) fun v s1 h1 => thn h1 fun itv s2 h2 => ?_)) fun _ s' hq => wpAny_pure (wpAny_pure hq))
  obtain ⟨it, fp, tn, J, H2, e, I2, T, st2, f2, h2⟩ := h2
  subst e
  refine comp_core hc S hN hcap hg ht he I2 T st2 f2 (QQ := fun p H' => D.nx (σ.set j (some (.ref p))) H') (RR := fun acc C => compPost (model X.prog X.w) X.A X.xe (some (assign (.Name y py) X.env)) (fun _ s' => SP X pins D .next s') acc C) h2 fun s3 H3 σ5 H5 s6 I3 f3 J6 qn => ?_
  obtain ⟨m6, hn6, _⟩ := J6.loc
  have I6 := block_end I3 f3 J6 (Heap.SameBut.refl ..)
  show wpAny _ X.A (assign (.Name y py) X.env (.ref s2.heap.objs.size)) _ _ s6
  refine wpAny_assign_Name (store_ok2 (v := .ref s2.heap.objs.size) I6 hnd hj (.inl hy) rfl (fun s7 I7 ⟨a, hs7, ha⟩ => ?_) (.inr hy))
  have hCa : s3.heap.objs.size ≠ a := by
    rcases ha with ha | ha
    · rw [ha]; exact Ne.symm (Nat.ne_of_lt I3.lt)
    · obtain ⟨v, q⟩ := I3.cell y a ha
      exact Ne.symm (Nat.ne_of_lt q.lt)
  refine ⟨m6, hn6.sameBut hs7 hCa, fun h8 hs8 => ?_⟩
  have nC : H5 s3.heap.objs.size = none := J6.free
  have I8 : Inv X pins (σ.set j (some (.ref s2.heap.objs.size))) H5 { s7 with heap := h8, toks := s7.toks } := by
    refine I7.turned (it := s3.heap.objs.size) (fun b o hb e => (hs8.2 b hb).trans e) nC (Ne.symm (Nat.ne_of_lt I3.lt)) (.inr I3.sz) (fun x c e z => ?_) (fun p hp z => ?_)
    · obtain ⟨v, q⟩ := I3.cell x c e
      exact absurd (z ▸ q.lt) (Nat.lt_irrefl _)
    · exact absurd (z ▸ Heap.lt_size (I3.pin p hp).1) (Nat.lt_irrefl _)
  exact ⟨_, H5, I8, qn⟩
end L2

namespace L2
open PySem PySem.Spec PyProof.Rows

/-! ### isinstance -/
theorem call_isinst {X : Cx} : CallR X (.builtin "isinstance") (fun xs H Q => ∃ x c cv t b, xs = [x, c] ∧ (∀ u, RelV c u → u = cv) ∧ TyOf X.K H x t ∧ PySem.W.kitOne X.K t cv = some b ∧ Q (.bl b) H) := by
  intro pins s σ H xs us Q I r h
  obtain ⟨x, c, cv, t, b, rfl, hc, ty, e, q⟩ := h
  obtain ⟨u, z, rfl, rx, rc⟩ := vals2 r
  cases hc z rc
  exact isinst_ok I rx ty e fun tk => ⟨.bl b, H, I.tok tk, rfl, q⟩
theorem ty_is {n : String} : ∀ u, RelV (.ty n) u → u = .type n := fun _ h => h

/-! ### sum -/
theorem call_sum {X : Cx} (hc : X.calm = true) : CallR X (.builtin "sum") (fun xs H Q => ∃ p, ∃ ns : List Int, xs = [.ref p] ∧ SqL X.K H p (ns.map V.int) ∧ Q (.int ns.sum) H) := by
  intro pins s σ H xs us Q I r h
  obtain ⟨p, ns, rfl, hq, q⟩ := h
  obtain ⟨u, rfl, rx⟩ := vals1 r
  cases rx
  obtain ⟨its, rv, pl, hz⟩ := I.list hq
  have hi : IntsAre its ns := intsAre_of rv
  obtain ⟨ys, ey⟩ := hi.allInts.items
  have hl : s.heap.IsList p (intItems ys) := ey ▸ pl.isList
  have es : preSum (numAt ys) ys.size = ns.sum := by
    have e1 := hi.numsOf
    have e2 : numsOf (intItems ys).toList = ns := by rw [← ey]; exact e1
    rw [nums_intItems] at e2
    rw [preSum_eq, List.take_of_length_le (by simp), e2]
  refine sum_intListG (I.ok.hd hc) hl fun h' tk t' hk => ?_
  exact ⟨.int ns.sum, H, I.kept hk, ⟨t', by rw [es]⟩, q⟩

/-! ### == and != of lists of flat items -/
def eqL : List V → List V → Bool
  | [], [] => true
  | x :: xs, y :: ys => eqV x y && eqL xs ys
  | _, _ => false
theorem eqL_len : ∀ {xs ys : List V}, xs.length ≠ ys.length → eqL xs ys = false
  | [], [], h => absurd rfl h
  | [], _ :: _, _ => rfl
  | _ :: _, [], _ => rfl
  | x :: xs, y :: ys, h => by
    unfold eqL
    rw [eqL_len (xs := xs) (ys := ys) fun e => h (by rw [List.length_cons, List.length_cons, e]), Bool.and_false]
theorem eqL_all : ∀ {xs ys : List V}, xs.length = ys.length → ∀ e : Nat → Bool, (∀ j x y, xs[j]? = some x → ys[j]? = some y → e j = eqV x y) → (List.range xs.length).all e = eqL xs ys
  | [], [], _, _, _ => rfl
  | [], _ :: _, h, _, _ => by simp at h
  | _ :: _, [], h, _, _ => by simp at h
  | x :: xs, y :: ys, h, e, he => by
    have ih := eqL_all (xs := xs) (ys := ys) (by simpa using h) (fun j => e (j + 1)) fun j a b ha hb => he (j + 1) a b (by simpa using ha) (by simpa using hb)
    unfold eqL
    rw [List.length_cons, List.range_succ_eq_map, List.all_cons, List.all_map, he 0 x y rfl rfl, ← ih]
    rfl
def eqAtJ (its js : List Value) (xs ys : List V) (j : Nat) : Bool := match xs[j]?, ys[j]? with
  | some x, some y => eqV x y
  | _, _ => true
theorem lists_at {X : Cx} {pins : List (Addr × Obj)} {s : Shared} {σ : St} {H : Hp} {A : Around} {xs ys : List V} {its js : List Value} (r1 : Vals xs its) (r2 : Vals ys js) (f1 : xs.all flatV = true) (f2 : ys.all flatV = true) (hl : xs.length = ys.length) :
    ∀ j (h1 : j < its.toArray.size) (h2 : j < js.toArray.size), SeqAt.EqAt A s its.toArray[j] js.toArray[j] (eqAtJ its js xs ys j) := fun j h1 h2 => by
  have l1 := r1.length
  have l2 := r2.length
  rw [List.size_toArray] at h1 h2
  have e1 : xs[j]? = some xs[j] := List.getElem?_eq_getElem (by omega)
  have e2 : ys[j]? = some ys[j] := List.getElem?_eq_getElem (by omega)
  obtain ⟨u, hu, ru⟩ := r1.get e1
  obtain ⟨v, hv, rv⟩ := r2.get e2
  have eu : its.toArray[j] = u := by rw [List.getElem_toArray]; exact (List.getElem?_eq_some_iff.mp hu).2
  have ev : js.toArray[j] = v := by rw [List.getElem_toArray]; exact (List.getElem?_eq_some_iff.mp hv).2
  rw [eu, ev]
  unfold eqAtJ
  rw [e1, e2]
  exact eqAt_V ru rv (List.all_eq_true.mp f1 _ (List.getElem_mem _)) (List.all_eq_true.mp f2 _ (List.getElem_mem _))
def rEqL (K : PySem.W.Frag) (neg : Bool) : R2 := fun x y H Q => ∃ a b xs ys, x = .ref a ∧ y = .ref b ∧ SqL K H a xs ∧ SqL K H b ys ∧ xs.all flatV = true ∧ ys.all flatV = true ∧ Q (.bl (if neg then !eqL xs ys else eqL xs ys)) H
theorem op_eqL {X : Cx} (hu : X.A.units < cLine) : OpR X (compareOp .Eq) (rEqL X.K false) := by
  intro pins s σ H x y v u Q I rx ry h
  obtain ⟨a, b, xs, ys, rfl, rfl, h1, h2, f1, f2, q⟩ := h
  cases rx
  cases ry
  obtain ⟨its, r1, p1, z1⟩ := I.list h1
  obtain ⟨js, r2, p2, z2⟩ := I.list h2
  have l1 := r1.length
  have l2 := r2.length
  by_cases hl : xs.length = ys.length
  · refine SeqAt.eq_listAt p1.isList p2.isList (by rw [List.size_toArray, List.size_toArray]; omega) hu (lists_at (X := X) (pins := pins) (σ := σ) (H := H) r1 r2 f1 f2 hl) ?_
    refine ⟨.bl (eqL xs ys), H, I, ?_, q⟩
    show Value.bool _ = Value.bool _
    rw [List.size_toArray, ← l1, eqL_all hl]
    intro j x y e1 e2
    unfold eqAtJ
    rw [e1, e2]
  · refine SeqAt.eq_list_lengthsAt p1.isList p2.isList (by simp only [List.size_toArray, bne_iff_ne, ne_eq]; omega) hu ?_
    exact ⟨.bl (eqL xs ys), H, I, by rw [eqL_len hl]; rfl, q⟩

/-! ### xs[::-1] -/

/-! ### xs.count(x) -/
def rCount (K : PySem.W.Frag) : V → List V → Hp → VK → Prop := fun x vs H Q => ∃ l xs y, x = .ref l ∧ vs = [y] ∧ SqL K H l xs ∧ flatV y = true ∧ xs.all flatV = true ∧ Q (.int ((xs.countP fun z => eqV z y : Nat) : Int)) H
theorem count_eqU {x : V} : ∀ {xs : List V} {us : List Value}, Vals xs us → xs.all flatV = true → us.countP (eqU x) = xs.countP fun y => eqV y x
  | _, _, .nil, _ => rfl
  | y :: xs, u :: us, .cons r t, f => by
    rw [List.all_cons, Bool.and_eq_true] at f
    rw [List.countP_cons, List.countP_cons, eqU_of r f.1, count_eqU t f.2]
theorem mt_count {X : Cx} : MtM X "list.count" (rCount X.K) := by
  intro pins s σ H x vs v us Q I rx rv h
  obtain ⟨l, xs, y, rfl, rfl, hH, fy, fx, q⟩ := h
  cases rx
  obtain ⟨u, rfl, ru⟩ := rv.one
  obtain ⟨its, r, p, hz⟩ := I.list hH
  obtain ⟨⟨cls, dd, data, sl⟩, ho, hc, n, hd⟩ := p.isList
  simp only at hc hd
  subst hc hd
  refine call_meets F.slot_list_count ⟨_, ho, rfl⟩ F.entry_list_count (F.args_list_count_2 _ _) (SeqAt.list_countAt l its.toArray n dd sl u (eqU y)) ⟨ho, ?_, ?_⟩
  · intro z hz'
    exact mem_eqAt ru fy r fx z (by simpa using hz')
  · refine ⟨.int _, H, I.tok _, ⟨s.toks, ?_⟩, q⟩
    show Value.int ((its.toArray.toList.countP (eqU y) : Nat) : Int) s.toks = _
    rw [show its.toArray.toList = its from rfl, count_eqU r fx]
theorem countP_int (ns : List Int) (k : Int) : (ns.map V.int).countP (fun z => eqV z (.int k)) = ns.count k := by
  rw [List.countP_map]
  rfl

/-! ### comprehensions over ranges and lists, by a word over the turn, the list so far, the heap -/
abbrev caps (ix : List Nat) (σ : St) : St := ix.map fun j => (σ[j]?).getD none
theorem comp_range {lo : Int} {n : Nat} {tc : TT} {te : TE} {σ : St} {ix : List Nat} {QQ : Hp → Prop} {H1 : Hp} {p : Addr} (Pv : Nat → List V → Hp → Prop) (h0 : Pv 0 [] (upd H1 p (.lst [])))
    (hp : ∀ i ys H, i ≤ n → Pv i ys H → H p = some (.lst ys) ∧ ys.length ≤ i) (hn : n ≤ sizeLine)
    (hs : ∀ i ys H, i < n → Pv i ys H → tc (some (.int (lo + i)) :: caps ix σ) H fun b H5 => if b = true then te (some (.int (lo + i)) :: caps ix σ) H5 fun y H6 => H6 p = some (.lst ys) ∧
      (some (.int (lo + i)) :: caps ix σ) = (some (.int (lo + i)) :: caps ix σ) ∧ Pv (i + 1) (ys ++ [y]) (upd H6 p (.lst (ys ++ [y]))) else (some (.int (lo + i)) :: caps ix σ) = (some (.int (lo + i)) :: caps ix σ) ∧ Pv (i + 1) ys H5)
    (hd : ∀ ys H, Pv n ys H → QQ H) :
    CompW (gName 0) tc te 1 ix σ (Itr lo n) p H1 QQ := by
  refine ⟨fun i m ys σ2 H2 => m = n - i ∧ i ≤ n ∧ (∃ o, σ2 = o :: caps ix σ) ∧ Pv i ys H2, ⟨n, by simp, Nat.zero_le _, ⟨none, rfl⟩, h0⟩, ?_⟩
  rintro i m ys σ2 H2 ⟨rfl, hi, ⟨o, rfl⟩, pv⟩
  obtain ⟨hp2, hl2⟩ := hp i ys H2 hi pv
  refine ⟨hp2, ?_⟩
  by_cases hlt : i < n
  · refine .inr ⟨hlt, by omega, fun x H3 y => ?_⟩
    obtain ⟨e, y⟩ := y
    subst e y
    exact ⟨fun ys' σ' H' => σ' = (some (.int (lo + i)) :: caps ix σ) ∧ Pv (i + 1) ys' H', fun ys' σ' H' ⟨e, q⟩ => ⟨n - (i + 1), by omega, rfl, hlt, ⟨_, e⟩, q⟩, hs i ys _ hlt pv⟩
  · have e : i = n := by omega
    subst e
    exact .inl ⟨Nat.le_refl _, hd ys H2 pv⟩
theorem comp_list {K : PySem.W.Frag} {a : Addr} {xs : List V} {tc : TT} {te : TE} {σ : St} {ix : List Nat} {QQ : Hp → Prop} {H1 : Hp} {p : Addr} (Pv : Nat → List V → Hp → Prop) (h0 : Pv 0 [] (upd H1 p (.lst [])))
    (hp : ∀ i ys H, i ≤ xs.length → Pv i ys H → H p = some (.lst ys) ∧ ys.length ≤ i ∧ SqL K H a xs) (hn : xs.length ≤ sizeLine)
    (hs : ∀ i x ys H, xs[i]? = some x → Pv i ys H → tc (some x :: caps ix σ) H fun b H5 => if b = true then te (some x :: caps ix σ) H5 fun y H6 => H6 p = some (.lst ys) ∧
      (some x :: caps ix σ) = (some x :: caps ix σ) ∧ Pv (i + 1) (ys ++ [y]) (upd H6 p (.lst (ys ++ [y]))) else (some x :: caps ix σ) = (some x :: caps ix σ) ∧ Pv (i + 1) ys H5)
    (hd : ∀ ys H, Pv xs.length ys H → QQ H) :
    CompW (gName 0) tc te 1 ix σ (Itl K a) p H1 QQ := by
  refine ⟨fun i m ys σ2 H2 => m = xs.length - i ∧ i ≤ xs.length ∧ (∃ o, σ2 = o :: caps ix σ) ∧ Pv i ys H2, ⟨xs.length, by simp, Nat.zero_le _, ⟨none, rfl⟩, h0⟩, ?_⟩
  rintro i m ys σ2 H2 ⟨rfl, hi, ⟨o, rfl⟩, pv⟩
  obtain ⟨hp2, hl2, hq2⟩ := hp i ys H2 hi pv
  refine ⟨hp2, ?_⟩
  by_cases hlt : i < xs.length
  · refine .inr ⟨⟨xs, xs[i], hq2, by simp [hlt]⟩, by omega, fun x H3 y => ?_⟩
    obtain ⟨e, y⟩ := y
    subst e
    exact ⟨fun ys' σ' H' => σ' = (some x :: caps ix σ) ∧ Pv (i + 1) ys' H', fun ys' σ' H' ⟨e, q⟩ => ⟨xs.length - (i + 1), by omega, rfl, hlt, ⟨_, e⟩, q⟩, hs i x ys _ (y xs hq2) pv⟩
  · have e : i = xs.length := by omega
    subst e
    exact .inl ⟨⟨xs, hq2, Nat.le_refl _⟩, hd ys H2 pv⟩
end L2

namespace L2
open PySem PySem.Spec PyProof.Rows

/-! ### a def of the text with its promise, in one -/
structure Cal (P : Program) (w : World) (K : PySem.W.Frag) (mg : Str → Option Value) (base : Heap) (k : Nat) (x : Str) (ps : List Str) (sp : Sp) : Prop where
  ex : ∃ f fd, FnOk P w K mg base CX0 k f fd ps sp ∧ Binds K fd ps [] ∧ PySem.W.keepIn K (.ref f) = true ∧ mg x = some (.ref f)
theorem pe_callC {X : Cx} {k : Nat} {x : Str} {ps : List Str} {sp : Sp} {e : Expr} {es : List Expr} {p pos : Pos} {t : TA} (C : Cal X.prog X.w X.K X.mg X.base k x ps sp) (hr : Room k X.A) (hg : Gl X x) (ha : PA X (e :: es) t)
    (hdb : (x == ("__debug__" : Str)) = false := by decide) (he : starEach (e :: es) X.env = (false, eval e X.env) :: starEach es X.env := by rfl) (hpl : (backTo pos (starEach es X.env)).any (·.1) = false := by rfl) :
    PE X (.Call (.Name x p) (e :: es) [] pos) (tCall sp [] E0 t) := by
  obtain ⟨f, fd, F, b, kp, hm⟩ := C.ex
  exact pe_call F hr hg hm kp b .nil pass0 ha hdb he hpl
/-- a def as it stands behind the top: how it binds, its name -/
structure Def (K : PySem.W.Frag) (mg : Str → Option Value) (x : Str) (st : Stmt) (ps : List Str) : Prop where
  ex : ∃ f fd, Fun K x x st f fd ∧ Binds K fd ps [] ∧ mg x = some (.ref f)
theorem Def.cal {P : Program} {w : World} {K : PySem.W.Frag} {mg : Str → Option Value} {base : Heap} {k : Nat} {x : Str} {st : Stmt} {ps : List Str} {sp : Sp} (D : Def K mg x st ps) (h : ∀ f fd, Fun K x x st f fd → FnOk P w K mg base CX0 k f fd ps sp) : Cal P w K mg base k x ps sp := by
  obtain ⟨f, fd, F, b, m⟩ := D.ex
  exact ⟨f, fd, h f fd F, b, F.kp, m⟩
/-- a module's constant -/
def GInt (mg : Str → Option Value) (x : Str) (i : Int) : Prop := ∃ t, mg x = some (.int i t)
def GStr (mg : Str → Option Value) (x : Str) (z : Str) : Prop := ∃ t, mg x = some (.str z t)
theorem pe_gint {X : Cx} {x : Str} {i : Int} {pos : Pos} (h : GInt X.mg x i) (hg : Gl X x) (hd : (x == ("__debug__" : Str)) = false := by decide) : PE X (.Name x pos) (tC (.int i)) := by
  obtain ⟨t, e⟩ := h
  exact pe_glob hg e ⟨t, rfl⟩ hd
theorem pe_gstr {X : Cx} {x : Str} {i : Str} {pos : Pos} (h : GStr X.mg x i) (hg : Gl X x) (hd : (x == ("__debug__" : Str)) = false := by decide) : PE X (.Name x pos) (tC (.str i)) := by
  obtain ⟨t, e⟩ := h
  exact pe_glob hg e ⟨t, rfl⟩ hd
/-- a built-in type's name -/
theorem pe_ty {X : Cx} {x : Str} {pos : Pos} (T : String) (hg : Gl X x) (hm : X.mg x = none) (hv : bootBuiltins x = some (.type T)) (hn : x ≠ "__name__" := by decide) (hd : (x == ("__debug__" : Str)) = false := by decide) : PE X (.Name x pos) (tC (.ty T)) :=
  pe_bltn (v := .ty T) hg hm hv rfl hn hd
/-- the rules that name the fragment, with it told (a block's reading may not name the block's context) -/
theorem ix_listK {X : Cx} {K : PySem.W.Frag} (h : X.K = K) : IxR X (rIxL K) := h ▸ ix_list
theorem mt_countK {X : Cx} {K : PySem.W.Frag} (h : X.K = K) : MtM X "list.count" (rCount K) := h ▸ mt_count
theorem same_new {H : Hp} {p : Addr} (h : H p = none) (o : HO) : Same H (upd H p o) := fun b u q => by rw [upd_ne (ne_of_none q h)]; exact q
theorem le_line {n : Nat} (h : n ≤ 1000) : n ≤ sizeLine := Nat.le_of_lt (small1000 h)
/-- an item of a list of ints -/
theorem at_int {ns : List Int} {i : Nat} {n : Int} (h : ns[i]? = some n) : atI (ns.map V.int) (i : Int) = some (.int n) := atI_nat (by rw [List.getElem?_map, h]; rfl)
theorem at_intI {ns : List Int} {i : Int} (h0 : 0 ≤ i) (h : i < ns.length) : atI (ns.map V.int) i = some (.int (ns.getD i.toNat 0)) := by
  have e : ((i.toNat : Nat) : Int) = i := by omega
  have q := at_int (ns := ns) (i := i.toNat) (n := ns.getD i.toNat 0) (by rw [List.getElem?_eq_getElem (by omega), List.getD_eq_getElem?_getD, List.getElem?_eq_getElem (by omega)]; rfl)
  rw [e] at q
  exact q
theorem item_int {ns : List Int} {i : Nat} {y : V} (h : (ns.map V.int)[i]? = some y) : ∃ n, ns[i]? = some n ∧ y = .int n := by
  rw [List.getElem?_map] at h
  cases e : ns[i]? with
  | none => rw [e] at h; cases h
  | some n => rw [e] at h; exact ⟨n, rfl, (Option.some.inj h).symm⟩
theorem flat_ints (ns : List Int) : (ns.map V.int).all flatV = true := by
  rw [List.all_eq_true]
  intro x hx
  obtain ⟨n, _, rfl⟩ := List.mem_map.mp hx
  rfl
theorem ix_of {n : Nat} {k : Int} (h0 : 0 ≤ k) (h : k < n) : ixN n k = some k.toNat := by
  unfold ixN
  first
    | (rw [if_pos h0, if_pos h]; done)
    | (simp [h0, h]; done)
    | (simp [h0, h]; omega)
theorem room_u {k : Nat} {A : Around} (hr : Room k A) : A.units < cLine := hr.units0
example : bootBuiltins "int" = some (.type "int") := by rfl
end L2

namespace L2
open PySem PySem.Spec PyProof.Rows

/-! ### enumerate(xs), its pairs unpacked by the target -/
def Ite (K : PySem.W.Frag) (a : Addr) : It :=
  ⟨fun i H => ∃ xs x, SqL K H a xs ∧ xs[i]? = some x,
   fun i H x H' => ∃ t y, x = .ref t ∧ H t = none ∧ (∀ xs, SqL K H a xs → xs[i]? = some y) ∧ H' = upd H t (.tup [.int i, y]),
   fun i H => ∃ xs, SqL K H a xs ∧ xs.length ≤ i⟩
theorem turn_enum {P : Program} {w : World} {K : PySem.W.Frag} {elts : List Expr} {k : Nat} {tp : Pos} (a e it : Addr) (hei : e ≠ it) :
    Turn P w K (.Tuple elts k tp) (Ite K a) [e, it] e (fun i h => (∃ old, IsEnum h e it i old) ∧ h.IsListIter it a i) where
  mem := by simp
  obj := fun i h st b hb => by
    obtain ⟨⟨old, he⟩, o, ho, c, d⟩ := st
    rcases List.mem_cons.mp hb with rfl | hb
    · exact ⟨_, he, fun v z => by
        have z' : Data.fields _ = Data.cell v := z
        cases z'⟩
    · have eb : b = it := by simpa using hb
      subst eb
      exact ⟨o, ho, fun v z => by rw [d] at z; cases z⟩
  keep := fun i h h' st kk => by
    obtain ⟨⟨old, he⟩, hit⟩ := st
    exact ⟨⟨old, kk e (by simp) _ he⟩, hit.at fun o x => kk it (by simp) o x⟩
  item := by
    intro X hP hw hK hc i pins s σ H E I hf st hg
    subst hP hw hK
    obtain ⟨⟨old, he⟩, hit⟩ := st
    obtain ⟨xs, x, hq, hx⟩ := hg
    obtain ⟨its, rv, p, hz⟩ := I.list hq
    obtain ⟨u, hu, ru⟩ := rv.get hx
    obtain ⟨e0, e1, e2, e3, e4, e5⟩ := hf e (by simp)
    obtain ⟨i0, i1, i2, i3, i4, i5⟩ := hf it (by simp)
    refine wpAny_pyNext_enum_item he hit p.isList (x := u) (by simpa using hu) hei fun h1 ho hit1 hT hsz hk => ⟨_, rfl, ?_⟩
    refine wpAny_letOwnedTupleGo_enum ho fun h2 he2 hs2 => ?_
    have hs2' : Heap.SameBut e h1 h2 := hs2
    have helt : e < s.heap.objs.size := Heap.lt_size he
    have hnT : H s.heap.objs.size = none := I.hok.fresh (Nat.le_refl _)
    have up : ∀ b o, b ≠ e → b ≠ it → s.heap.get? b = some o → h2.get? b = some o := fun b o h3 h4 q => (hs2'.2 b h3).trans (hk b o h3 h4 q)
    have nch : ∀ b, b ∉ [e, it] → b ≠ e ∧ b ≠ it := fun b hb => ⟨fun z => hb (by simp [z]), fun z => hb (by simp [z])⟩
    have ntr : ∀ b o, H b = some o → b ≠ e ∧ b ≠ it := fun b o q => ⟨fun z => by (rw [z, e0] at q; cases q), fun z => by (rw [z, i0] at q; cases q)⟩
    have htup : h2.get? s.heap.objs.size = some { cls := .type "tuple", data := .seq #[.int i s.toks, u] } := (hs2'.2 _ (Nat.ne_of_gt helt)).trans hT
    have I1 : Inv X pins σ (upd H s.heap.objs.size (.tup [.int i, x])) { s with heap := h2, gens := s.gens, drawn := s.drawn, toks := s.toks + 1 } := by
      refine I.step (ch := [e, it]) (fun b hb => ?_) (fun b o _ _ hb q _ => up b o (nch b hb).1 (nch b hb).2 q) (fun b o _ _ hb q _ => ⟨o.slots, up b o (nch b hb).1 (nch b hb).2 q⟩) (fun b o _ q n => by rw [upd_ne (Nat.ne_of_lt (Heap.lt_size q))]; exact n)
        (fun b o hb q => ⟨o, up b o (nch b hb).1 (nch b hb).2 q⟩) (fun b xs q => by rw [upd_ne (ne_of_none q hnT)]; exact q) (fun b o u q => by rw [upd_ne (ne_of_none q hnT)]; exact q) (fun b ps q => ⟨#[], by rw [upd_ne (ne_of_none q hnT), q]; simp⟩)
        (fun m hm => ?_) (fun b o q => ?_) I.bare
      · rcases List.mem_cons.mp hb with rfl | hb
        · exact ⟨e3, e1, e4, e5⟩
        · have eb : b = it := by simpa using hb
          subst eb
          exact ⟨i3, i1, i4, i5⟩
      · obtain ⟨o, es, ep, hoL, r⟩ := hm
        exact ⟨o, es, ep, up _ o (Ne.symm e1) (Ne.symm i1) hoL, r⟩
      · by_cases hb : b = s.heap.objs.size
        · subst hb
          rw [upd_same] at q
          cases q
          exact ⟨le_line (by show 2 ≤ 1000; decide), [.int i s.toks, u], .cons ⟨_, rfl⟩ (.cons ru .nil), _, htup, rfl, _, rfl⟩
        · rw [upd_ne hb] at q
          refine (I.hok b o q).stay (fun c v hc2 q2 => ?_) (fun c q2 => by rw [upd_ne (ne_of_none q2 hnT)]; exact q2) (fun c xs q2 => by rw [upd_ne (ne_of_none q2 hnT)]; exact q2)
          rcases hc2 with rfl | hc2
          · exact up _ v (ntr _ _ q).1 (ntr _ _ q).2 q2
          · exact up _ v (ntr _ _ hc2).1 (ntr _ _ hc2).2 q2
    refine ⟨.ref s.heap.objs.size, _, I1, rfl, ⟨_, x, rfl, hnT, fun ys hy => by rw [I.list_inj hy hq]; exact hx, rfl⟩, ⟨⟨u, ?_⟩, ?_⟩, fun b hb => ?_⟩
    · have ei : ((i + 1 : Nat) : Int) = (i : Int) + 1 := by omega
      rw [ei]
      exact he2
    · exact hit1.at fun o q => (hs2'.2 it hei.symm).trans q
    · have hbl : b < s.heap.objs.size := by
        rcases List.mem_cons.mp hb with rfl | hb
        · exact helt
        · have eb : b = it := by simpa using hb
          subst eb
          obtain ⟨o, q, _⟩ := hit
          exact Heap.lt_size q
      rw [upd_ne (Nat.ne_of_lt hbl)]
      exact (hf b hb).1
  done := by
    intro X hP hw hK hc i pins s σ H E I hf st hg
    subst hP hw hK
    obtain ⟨⟨old, he⟩, hit⟩ := st
    obtain ⟨xs, hq, hx⟩ := hg
    obtain ⟨its, rv, p, hz⟩ := I.list hq
    obtain ⟨i0, i1, i2, i3, i4, i5⟩ := hf it (by simp)
    have hl := rv.length
    exact wpAny_pyNext_enum_end (I.ok.hd hc) he hit p.isList (by simp; omega) fun h' eb => ⟨rfl, I.turned (t' := s.toks) (fun b o hb q => eb b o hb q) i0 i1 i3 i4 i5⟩
  self := fun _ _ _ _ _ st h => by
    obtain ⟨⟨old, he⟩, _⟩ := st
    exact wpAny_pyIter_enum he h
def iEnum (K : PySem.W.Frag) (ta : TA) : TI := fun σ H R => ta σ H fun vs H1 => ∃ a, vs = [.ref a] ∧ (∃ xs, SqL K H1 a xs) ∧ R (Ite K a) H1
theorem pi_enum {X : Cx} {a : Expr} {ta : TA} {p pos tp : Pos} {elts : List Expr} {k : Nat} (hg : Gl X "enumerate") (hm : X.mg "enumerate" = none) (ha : PA X [a] ta) (hs : starEach [a] X.env = [(false, eval a X.env)] := by rfl) :
    PI X (.Tuple elts k tp) (.Call (.Name "enumerate" p) [a] [] pos) (iEnum X.K ta) := by
  intro pins s σ H R I h
  refine Call_ (ld_blt I hg hm (show bootBuiltins "enumerate" = some (.type "enumerate") from rfl) (PyProof.Rows.callWith_type1 (thn (ha pos pins s σ H _ I h) fun us s1 ⟨vs, H1, I1, r1, q1⟩ => ?_) hs rfl))
  obtain ⟨a, ev, ⟨xs, hq⟩, q⟩ := q1
  subst ev
  obtain ⟨u, rfl, rx⟩ := vals1 r1
  cases rx
  obtain ⟨its, rv, pl, hz⟩ := I1.list hq
  refine call_enumerate_list pl.isList fun h' he hit hsz hk => ?_
  refine wpAny_pyIter_enum he ?_
  have I2 : Inv X pins σ H1 { s1 with heap := h' } := I1.kept (t' := s1.toks) hk
  refine ⟨_, [s1.heap.objs.size + 1, s1.heap.objs.size], _, _, H1, rfl, I2, turn_enum a _ _ (Nat.succ_ne_self _), ⟨⟨_, he⟩, hit⟩, fun b hb => ?_, q⟩
  rcases List.mem_cons.mp hb with rfl | hb
  · exact I1.fpOk (Nat.le_succ _) (I1.hok.fresh (Nat.le_succ _))
  · have eb : b = s1.heap.objs.size := by simpa using hb
    subst eb
    exact I1.fpOk (Nat.le_refl _) (I1.hok.fresh (Nat.le_refl _))
theorem pg_tupK {X : Cx} {K : PySem.W.Frag} {es : List Expr} {k : Nat} {t : TGs} {n : Nat} {pos : Pos} (hK : X.K = K) (hc : X.calm = true) (h : PGs X es t)
    (hn : (assignEach es X.env).length = n := by rfl) (hst : (assignEach es X.env).findIdx? (·.1) = none := by rfl) : PG X (.Tuple es k pos) (gTup K n t) := hK ▸ pg_tup hc h hn hst
theorem comp_enum {K K' : PySem.W.Frag} {a : Addr} {xs : List V} {tc : TT} {te : TE} {σ : St} {ix : List Nat} {QQ : Hp → Prop} {H1 : Hp} {p : Addr} (Pv : Nat → List V → Hp → Prop) (h0 : Pv 0 [] (upd H1 p (.lst [])))
    (hp : ∀ i ys H, i ≤ xs.length → Pv i ys H → H p = some (.lst ys) ∧ ys.length ≤ i ∧ SqL K H a xs) (hn : xs.length ≤ sizeLine)
    (hs : ∀ i x ys H t, xs[i]? = some x → Pv i ys H → H t = none → tc (some (.int i) :: some x :: caps ix σ) (upd H t (.tup [.int i, x])) fun b H5 => if b = true then te (some (.int i) :: some x :: caps ix σ) H5 fun y H6 => H6 p = some (.lst ys) ∧
      (some (.int i) :: some x :: caps ix σ) = (some (.int i) :: some x :: caps ix σ) ∧ Pv (i + 1) (ys ++ [y]) (upd H6 p (.lst (ys ++ [y]))) else (some (.int i) :: some x :: caps ix σ) = (some (.int i) :: some x :: caps ix σ) ∧ Pv (i + 1) ys H5)
    (hd : ∀ ys H, Pv xs.length ys H → QQ H) :
    CompW (gTup K' 2 (gCons (gName 0) (gCons (gName 1) gNil))) tc te 2 ix σ (Ite K a) p H1 QQ := by
  refine ⟨fun i m ys σ2 H2 => m = xs.length - i ∧ i ≤ xs.length ∧ (∃ o o', σ2 = o :: o' :: caps ix σ) ∧ Pv i ys H2, ⟨xs.length, by simp, Nat.zero_le _, ⟨none, none, rfl⟩, h0⟩, ?_⟩
  rintro i m ys σ2 H2 ⟨rfl, hi, ⟨o, o', rfl⟩, pv⟩
  obtain ⟨hp2, hl2, hq2⟩ := hp i ys H2 hi pv
  refine ⟨hp2, ?_⟩
  by_cases hlt : i < xs.length
  · refine .inr ⟨⟨xs, xs[i], hq2, by simp [hlt]⟩, by omega, fun x H3 y => ?_⟩
    obtain ⟨t, z, ex, ht, hz, e3⟩ := y
    subst ex e3
    refine ⟨fun ys' σ' H' => σ' = (some (.int i) :: some z :: caps ix σ) ∧ Pv (i + 1) ys' H', fun ys' σ' H' ⟨e, q⟩ => ⟨xs.length - (i + 1), by omega, rfl, hlt, ⟨_, _, e⟩, q⟩, ?_⟩
    exact ⟨t, _, rfl, SqT.of upd_same, rfl, _, _, rfl, _, _, rfl, rfl, hs i z ys H2 t (hz xs hq2) pv ht⟩
  · have e : i = xs.length := by omega
    subst e
    exact .inl ⟨⟨xs, hq2, Nat.le_refl _⟩, hd ys H2 pv⟩
end L2

namespace L2
open PySem PySem.Spec PyProof.Rows
/-! ### a method, a class of the text with their promises, in one -/
structure MCal (P : Program) (w : World) (K : PySem.W.Frag) (mg : Str → Option Value) (base : Heap) (k : Nat) (C : Addr) (m : Str) (ps : List Str) (sp : Sp) : Prop where
  ex : ∃ f fd, FnOk P w K mg base CX0 k f fd ps sp ∧ Binds K fd ps [] ∧ Meth K C m f
  cl : Cls K C
theorem pe_methC {X : Cx} {k : Nat} {C : Addr} {m : Str} {ps : List Str} {sp : Sp} {e o : Expr} {es : List Expr} {apos pos : Pos} {ta : TE} {t : TA} {pl : Sem Bool} (M : MCal X.prog X.w X.K X.mg X.base k C m ps sp) (hr : Room k X.A) (he : PE X o ta) (ha : PA X (e :: es) t)
    (hst : starEach (e :: es) X.env = (false, eval e X.env) :: starEach es X.env := by rfl) (hpl : (backTo pos (starEach es X.env)).any (·.1) = false := by rfl)
    (ht : eval (.Call (.Attribute o m apos) (e :: es) [] pos) X.env = (do
      let ov ← eval o X.env
      standAt apos.atName
      let (f, first) ← holding [ov] (getMethod ov m pl)
      callWith pos f first (backTo pos (starEach (e :: es) X.env)) (backToKw pos (keywordEach [] X.env))) := by rfl) :
    PE X (.Call (.Attribute o m apos) (e :: es) [] pos) (tMeth C m sp [] E0 ta t) := by
  obtain ⟨f, fd, F, b, hm⟩ := M.ex
  exact pe_meth he M.cl hm F hr b .nil pass0 ha hst hpl ht
structure KCal (P : Program) (w : World) (K : PySem.W.Frag) (mg : Str → Option Value) (base : Heap) (k : Nat) (x : Str) (C : Addr) (ps : List Str) (sp : Sp) : Prop where
  ex : ∃ f fd, Mk K C f ∧ FnOk P w K mg base CX0 k f fd ps sp ∧ Binds K fd ps [] ∧ mg x = some (.ref C)
theorem pe_makeC {X : Cx} {k : Nat} {x : Str} {C : Addr} {ps : List Str} {sp : Sp} {e : Expr} {es : List Expr} {p pos : Pos} {t : TA} (M : KCal X.prog X.w X.K X.mg X.base k x C ps sp) (hr : Room (k + 1) X.A) (hg : Gl X x) (ha : PA X (e :: es) t)
    (hdb : (x == ("__debug__" : Str)) = false := by decide) (he : starEach (e :: es) X.env = (false, eval e X.env) :: starEach es X.env := by rfl) (hpl : (backTo pos (starEach es X.env)).any (·.1) = false := by rfl) :
    PE X (.Call (.Name x p) (e :: es) [] pos) (tMake C sp [] E0 t) := by
  obtain ⟨f, fd, mk, F, b, hm⟩ := M.ex
  exact pe_make mk F hr hg hm b .nil pass0 ha hdb he hpl
theorem pe_bmK {X : Cx} {K : PySem.W.Frag} {o e : Expr} {es : List Expr} {to : TE} {t : TA} {name : Str} {apos cpos : Pos} {T id : String} {r : V → List V → Hp → VK → Prop} (hK : X.K = K) (pa : PlainAttrs T) (slot : Slot T name id) (hty : typeOf (.builtin id) = pure (.type "method_descriptor")) (hm : MtR X id r) (ho : PE X o to) (ha : PA X (e :: es) t)
    (hbase : attributeBase o name X.env (eval o X.env) = eval o X.env := by rfl)
    (hfew : ((backTo cpos (starEach (e :: es) X.env)).all (fun x => !x.1) && (backToKw cpos (keywordEach [] X.env)).all (fun x => x.1.isSome)
      && decide ((e :: es).length + ([] : List Keyword).length + (if ([] : List Keyword).isEmpty then 0 else 1) < 30)) = true := by rfl)
    (hline : (apos.endLine == cpos.line) = true := by rfl) (hs : starEach (e :: es) X.env = (false, eval e X.env) :: starEach es X.env := by rfl) (hplain : (backTo cpos (starEach es X.env)).any (·.1) = false := by rfl) :
    PE X (.Call (.Attribute o name apos) (e :: es) [] cpos) (tBM K T r to t) := hK ▸ pe_bm pa slot hty hm ho ha hbase hfew hline hs hplain
end L2

namespace L2
open PySem PySem.Spec PyProof.Rows
/-! ### range(lo, hi) of any ints -/
/-! ### min(xs) of ints: one of them -/
end L2

namespace L2
open PySem PySem.Spec PyProof.Rows

/-! ### exceptions of own classes: how one lies, flies, is caught -/
section
variable {X : Cx} {pins : List (Addr × Obj)} {σ : St} {H H' : Hp} {s : Shared} {h' : Heap}


end

/-! ### behind a call that raised -/
section
variable {X : Cx} {k : Nat} {f : Addr} {fd : FuncData} {ps : List Str} {sp : Sp} {x : Str} {p pos : Pos} {e : Expr} {es : List Expr} {t : TA} {W : St → XK}
end

/-! ### raise C(..) -/

/-! ### try: one clause, an own class -/
section
variable {X : Cx} {pins pins' pn : List (Addr × Obj)} {σ : St} {H : Hp} {s : Shared} {E : Value → Shared → Prop} {e : Addr}

end

section
variable {X : Cx} {x n : Str} {Ch : Addr} {i : Nat} {body suite : List Stmt} {b₀ : Stmt} {tb : (St → XK) → TS} {ts : TS} {np hpos pos : Pos}
end
end L2

namespace L2
open PySem PySem.Spec PyProof.Rows
/-! ### defs that may be called while an exception is handled (nothing in them walks or raises) -/
section
variable {X : Cx} {k : Nat} {f : Addr} {fd : FuncData} {ps : List Str} {sp : Sp} {x : Str} {p pos : Pos} {e : Expr} {es : List Expr} {t : TA}
end
end L2

namespace L2
open PySem PySem.Spec PyProof.Rows

/-! ### texts by their codes -/
def tx (l : List Nat) : Str := ⟨l.toArray⟩
theorem tx_len (l : List Nat) : (tx l).length = l.length := by simp [tx, Str.length]
theorem tx_of (x : Str) : tx x.cps.toList = x := by cases x; rfl
theorem tx_inj {l m : List Nat} (h : tx l = tx m) : l = m := by
  have e := congrArg (fun z : Str => z.cps.toList) h
  exact e
theorem tx_app (l m : List Nat) : tx l ++ tx m = tx (l ++ m) := by
  show (⟨l.toArray ++ m.toArray⟩ : Str) = ⟨(l ++ m).toArray⟩
  rw [List.append_toArray]

/-! ### pieces at a sign -/

/-! ### methods of texts -/
section
variable {X : Cx}
/-- c in z, of one sign c -/
theorem op_notIn1 : OpR X (compareOp .NotIn) (fun x y H Q => ∃ c z, x = .str (tx [c]) ∧ y = .str z ∧ Q (.bl (!decide (c ∈ z.cps.toList))) H) := by
  intro pins s σ H x y v u Q I rx ry h
  obtain ⟨c, z, rfl, rfl, q⟩ := h
  refine op_notIn_str pins s σ H _ _ v u Q I rx ry ⟨tx [c], z, rfl, rfl, ?_⟩
  rw [show (!(Builtin.Str.occurrences z (tx [c]) 0 z.length 1).isEmpty) = decide (c ∈ z.cps.toList) from StrLaws.found_one z c]
  exact q

/-! ### for sign in text -/
def Its (x : Str) : It := ⟨fun i _ => i < x.cps.size, fun i H v H' => H' = H ∧ ∃ c, x.cps[i]? = some c ∧ v = .str (tx [c]), fun i _ => x.cps.size ≤ i⟩
theorem turn_strA {P : Program} {w : World} {K : PySem.W.Frag} {tg : Expr} (x : Str) (t : Tok) (it : Addr) : Turn P w K tg (Its x) [it] it (fun i h => h.IsStrIter it "str_ascii_iterator" x t i) where
  mem := by simp
  obj := fun i h st b hb => by
    have e : b = it := by simpa using hb
    subst e
    obtain ⟨o, e, c, d⟩ := st
    exact ⟨o, e, fun v z => by rw [d] at z; cases z⟩
  keep := fun i h h' st k => by
    obtain ⟨o, e, c, d⟩ := st
    exact ⟨o, k it (by simp) o e, c, d⟩
  item := by
    intro X hP hw hK hc i pins s σ H E I hf st hg
    subst hP hw hK
    obtain ⟨f0, f1, f2, f3, f4, f5⟩ := hf it (by simp)
    have hi : i < x.cps.size := hg
    refine wpAny_pyNext_ascii_item st (c := x.cps[i]) (by simp [hi]) fun h' st' sb => ?_
    have I1 : Inv X pins σ H { s with heap := h', toks := s.toks + 1 } := I.turned (fun b o hb e => (sb.2 b hb).trans e) f0 f1 f3 f4 f5
    obtain ⟨o, e, c, d⟩ := id st'
    exact ⟨_, rfl, go_of (s := { s with heap := h', toks := s.toks + 1 }) e c d (by decide) ⟨.str (tx [x.cps[i]]), H, I1, ⟨_, rfl⟩, ⟨rfl, _, by simp [hi], rfl⟩, st', fun b hb => (hf b hb).1⟩⟩
  done := by
    intro X hP hw hK hc i pins s σ H E I hf st hg
    subst hP hw hK
    obtain ⟨f0, f1, f2, f3, f4, f5⟩ := hf it (by simp)
    have hi : x.cps.size ≤ i := hg
    exact wpAny_pyNext_ascii_end (I.ok.hd hc) st (by simp; omega) fun h' eb => ⟨rfl, I.turned (t' := s.toks) (fun b o hb e => eb b o hb e) f0 f1 f3 f4 f5⟩
  self := fun _ _ _ _ _ st h => wpAny_pyIter_striter_ascii st h
theorem turn_strW {P : Program} {w : World} {K : PySem.W.Frag} {tg : Expr} (x : Str) (t : Tok) (it : Addr) : Turn P w K tg (Its x) [it] it (fun i h => h.IsStrIter it "str_iterator" x t i) where
  mem := by simp
  obj := fun i h st b hb => by
    have e : b = it := by simpa using hb
    subst e
    obtain ⟨o, e, c, d⟩ := st
    exact ⟨o, e, fun v z => by rw [d] at z; cases z⟩
  keep := fun i h h' st k => by
    obtain ⟨o, e, c, d⟩ := st
    exact ⟨o, k it (by simp) o e, c, d⟩
  item := by
    intro X hP hw hK hc i pins s σ H E I hf st hg
    subst hP hw hK
    obtain ⟨f0, f1, f2, f3, f4, f5⟩ := hf it (by simp)
    have hi : i < x.cps.size := hg
    refine wpAny_pyNext_wide_item st (c := x.cps[i]) (by simp [hi]) fun h' st' sb => ?_
    have I1 : Inv X pins σ H { s with heap := h', toks := s.toks + 1 } := I.turned (fun b o hb e => (sb.2 b hb).trans e) f0 f1 f3 f4 f5
    obtain ⟨o, e, c, d⟩ := id st'
    exact ⟨_, rfl, go_of (s := { s with heap := h', toks := s.toks + 1 }) e c d (by decide) ⟨.str (tx [x.cps[i]]), H, I1, ⟨_, rfl⟩, ⟨rfl, _, by simp [hi], rfl⟩, st', fun b hb => (hf b hb).1⟩⟩
  done := by
    intro X hP hw hK hc i pins s σ H E I hf st hg
    subst hP hw hK
    obtain ⟨f0, f1, f2, f3, f4, f5⟩ := hf it (by simp)
    have hi : x.cps.size ≤ i := hg
    exact wpAny_pyNext_wide_end (I.ok.hd hc) st (by simp; omega) fun h' eb => ⟨rfl, I.turned (t' := s.toks) (fun b o hb e => eb b o hb e) f0 f1 f3 f4 f5⟩
  self := fun _ _ _ _ _ st h => wpAny_pyIter_striter_wide st h
def iStr (tl : TE) : TI := fun σ H R => tl σ H fun x H1 => ∃ z, x = .str z ∧ R (Its z) H1
theorem pi_str {tg l : Expr} {tl : TE} (hl : PE X l tl) : PI X tg l (iStr tl) := by
  intro pins s σ H R I h
  refine thn (hl pins s σ H _ I h) fun v s1 ⟨x, H1, I1, r1, q1⟩ => ?_
  obtain ⟨z, e, q⟩ := q1
  subst e
  obtain ⟨t, rfl⟩ := r1
  have fp : ∀ b ∈ [s1.heap.objs.size], FpOk X pins H1 b := fun b hb => by
    have e : b = s1.heap.objs.size := by simpa using hb
    subst e
    exact I1.fpOk (Nat.le_refl _) (I1.hok.fresh (Nat.le_refl _))
  cases ha : z.cps.all (· < 128) with
  | true => exact wpAny_pyIter_ascii ha ⟨s1.heap.objs.size, [s1.heap.objs.size], _, _, H1, rfl, I1.kept (t' := s1.toks) fun b o e => Heap.get?_push_of_some _ e, turn_strA z t _, ⟨_, Heap.get?_push_size _ rfl, rfl, rfl⟩, fp, q⟩
  | false => exact wpAny_pyIter_wide ha ⟨s1.heap.objs.size, [s1.heap.objs.size], _, _, H1, rfl, I1.kept (t' := s1.toks) fun b o e => Heap.get?_push_of_some _ e, turn_strW z t _, ⟨_, Heap.get?_push_size _ rfl, rfl, rfl⟩, fp, q⟩
theorem for_str {l : List Nat} {g : TG} {tb : TS} {D : Ends} {σ : St} {H : Hp} (Pv : Nat → St → Hp → Prop) (h0 : Pv 0 σ H)
    (hs : ∀ i c σ H, l[i]? = some c → Pv i σ H → g (.str (tx [c])) σ H fun σ2 H2 => tb { D with nx := Pv (i + 1), ct := Pv (i + 1), bk := D.nx } σ2 H2) (hd : ∀ σ H, Pv l.length σ H → D.nx σ H) :
    ∃ W : Nat → Nat → St → Hp → Prop, (∃ m, W 0 m σ H) ∧ ∀ i m σ H, W i m σ H →
      ((Its (tx l)).stop i H ∧ D.nx σ H) ∨ ((Its (tx l)).go i H ∧ ∃ N : St → Hp → Prop, (∀ σ' H', N σ' H' → ∃ m', m' < m ∧ W (i + 1) m' σ' H') ∧ ∀ x H', (Its (tx l)).yld i H x H' → g x σ H' fun σ2 H2 => tb { D with nx := N, ct := N, bk := D.nx } σ2 H2) := by
  have hz : (tx l).cps.size = l.length := by simp [tx]
  refine ⟨fun i m σ H => m = l.length - i ∧ i ≤ l.length ∧ Pv i σ H, ⟨l.length, by simp, Nat.zero_le _, h0⟩, ?_⟩
  rintro i m σ H ⟨rfl, hi, p⟩
  by_cases hlt : i < l.length
  · refine .inr ⟨by show i < (tx l).cps.size; omega, Pv (i + 1), fun σ' H' p' => ⟨l.length - (i + 1), by omega, rfl, hlt, p'⟩, fun x H' y => ?_⟩
    obtain ⟨e, c, hc, y⟩ := y
    subst e y
    exact hs i c σ _ (by simpa [tx] using hc) p
  · have e : i = l.length := by omega
    subst e
    exact .inl ⟨by show (tx l).cps.size ≤ l.length; omega, hd σ H p⟩

/-! ### f-strings of plain fields -/
/-- text[lo:hi] -/
def rSlS : V → Option Int → Option Int → Hp → VK → Prop := fun x lo hi H Q => ∃ z, x = .str z ∧ z.length ≤ sizeLine ∧ Q (.str (Txt.slice z lo hi)) H
theorem sl_str : SlR X rSlS := by
  intro pins s σ H x v vl vu lo hi sl Q I rx hs pl pu h
  obtain ⟨z, rfl, hz, q⟩ := h
  obtain ⟨t, rfl⟩ := rx
  refine ⟨"str", _, F.slot_str_getitem.lookup, typeIs_str _ _ _, ?_⟩
  have fin : ∀ t' k, EP X pins σ Q (.str (Txt.slice z lo hi) t') { s with toks := k } := fun t' k => ⟨.str _, H, I.tok k, ⟨t', rfl⟩, q⟩
  cases pl with
  | none =>
    cases pu with
    | none => exact wpAny_getItem_str_slice (l := none) (u := none) (st := none) hs rfl (post_val_or_str ⟨Nat.le_trans (Txt.slice_le z _ _) hz, fin⟩)
    | int j tj => exact wpAny_getItem_str_slice (l := none) (u := some (j, tj)) (st := none) hs rfl (post_val_or_str ⟨Nat.le_trans (Txt.slice_le z _ _) hz, fin⟩)
  | int i ti =>
    cases pu with
    | none => exact wpAny_getItem_str_slice (l := some (i, ti)) (u := none) (st := none) hs rfl (post_val_or_str ⟨Nat.le_trans (Txt.slice_le z _ _) hz, fin⟩)
    | int j tj => exact wpAny_getItem_str_slice (l := some (i, ti)) (u := some (j, tj)) (st := none) hs rfl (post_val_or_str ⟨Nat.le_trans (Txt.slice_le z _ _) hz, fin⟩)
end
end L2

namespace L2
open PySem PySem.Spec PyProof.Rows
/-! ### isinstance of an exception of an own class -/
section
variable {prog : Program} {w : World} {A : Around} {E : Value → Shared → Prop} {K : PySem.W.Frag} {x D : Addr} {ox : Obj} {od : Option Obj}
end
/-! ### a class whose __init__ may raise -/
section
variable {X : Cx} {k : Nat} {f C : Addr} {fd : FuncData} {ps : List Str} {sp : Sp} {x : Str} {p pos : Pos} {e : Expr} {es : List Expr} {t : TA} {W : St → XK}
end
/-! ### == of two lists with the very same items -/
end L2

namespace L2
open PySem PySem.Spec PyProof.Rows
/-! ### exceptions of own classes as values: made by hand, kept, asked for what they keep -/
section
variable {X : Cx} {x : Str} {C f : Addr} {p pos : Pos} {e : Expr} {es : List Expr} {t : TA}
end
/-! ### a class of the text whose __init__ is a def of its own -/
section
variable {prog : Program} {w : World} {A : Around} {Ex : Value → Shared → Prop} {hp : Heap} {gs : Array GenState} {dr : Drawn} {tk : Nat} {os : OsState}
variable {nm q : Str} {C N fI : Addr} {bs bm bmB : List Value} {hdct : Bool} {sn : List Str} {sub : List Value} {ab : Bool} {col : Option Bool} {dd : Option Addr} {k0 k1 k2 k3 k5 : Option Value} {B newId initId : String} {mN : Str → Option Value} {us : List Value} {oI : Obj}
end
section
variable {prog : Program} {w : World} {A : Around} {E : Value → Shared → Prop} {K : PySem.W.Frag} {x D : Addr} {ox : Obj} {od : Option Obj}
end
end L2

namespace L2
open PySem PySem.Spec PyProof.Rows
/-! ### exceptions that keep values: the rules -/
section
variable {X : Cx} {pins : List (Addr × Obj)} {σ : St} {H : Hp} {s : Shared} {e : Addr}
end
section
variable {X : Cx} {x f : Str} {C g : Addr} {p pos apos : Pos} {e o value : Expr} {es : List Expr} {t : TA} {ta tv : TE}
end
end L2

namespace L2
open PySem PySem.Spec PyProof.Rows
/-! ### more on texts and tuples -/
theorem slice_to {l : List Nat} {i : Int} (h0 : 0 ≤ i) (h1 : i ≤ l.length) : Txt.slice (tx l) none (some i) = tx (l.take i.toNat) := by
  show StrLaws.sliceText (tx l) none (some i) = _
  rw [StrLaws.sliceText_to ⟨h0, h1⟩]
  show tx ((l.drop 0).take (i - 0).toNat) = _
  rw [List.drop_zero, Int.sub_zero]
theorem slice_from {l : List Nat} {i : Int} (h0 : 0 ≤ i) (h1 : i ≤ l.length) : Txt.slice (tx l) (some i) none = tx (l.drop i.toNat) := by
  show StrLaws.sliceText (tx l) (some i) none = _
  rw [StrLaws.sliceText_from ⟨h0, h1⟩]
  show tx ((l.drop i.toNat).take ((l.length : Int) - i).toNat) = _
  rw [List.take_of_length_le (by rw [List.length_drop]; omega)]
section
variable {X : Cx}
end
end L2

namespace L2
open PySem PySem.Spec PyProof.Rows
/-! ### things of things: == and != over lists and tuples of lists and tuples -/
inductive D where
  | at (v : V)
  | seq (t : Bool) (ds : List D)
mutual
def Rep (K : PySem.W.Frag) (H : Hp) : D → V → Prop
  | .at v, x => x = v ∧ flatV v = true
  | .seq t ds, x => ∃ a xs, x = .ref a ∧ (t = true → SqT K H a xs) ∧ (t = false → SqL K H a xs) ∧ Reps K H ds xs
def Reps (K : PySem.W.Frag) (H : Hp) : List D → List V → Prop
  | [], xs => xs = []
  | d :: ds, xs => ∃ y ys, xs = y :: ys ∧ Rep K H d y ∧ Reps K H ds ys
end
mutual
def eqD : D → D → Bool
  | .at v, .at u => eqV v u
  | .seq t ds, .seq u es => t == u && eqDs ds es
  | _, _ => false
def eqDs : List D → List D → Bool
  | [], [] => true
  | d :: ds, e :: es => eqD d e && eqDs ds es
  | _, _ => false
end
mutual
def dep : D → Nat
  | .at _ => 0
  | .seq _ ds => deps ds + 1
def deps : List D → Nat
  | [] => 0
  | d :: ds => max (dep d) (deps ds)
end
theorem Reps.len {K : PySem.W.Frag} {H : Hp} : ∀ {ds : List D} {xs : List V}, Reps K H ds xs → ds.length = xs.length
  | [], xs, h => by unfold Reps at h; subst h; rfl
  | d :: ds, xs, h => by
    unfold Reps at h
    obtain ⟨y, ys, rfl, _, h⟩ := h
    rw [List.length_cons, List.length_cons, Reps.len h]
def eAt (ds es : List D) (j : Nat) : Bool := match ds[j]?, es[j]? with
  | some d, some e => eqD d e
  | _, _ => true
theorem eqDs_len : ∀ {ds es : List D}, ds.length ≠ es.length → eqDs ds es = false
  | [], [], h => absurd rfl h
  | [], _ :: _, _ => by unfold eqDs; rfl
  | _ :: _, [], _ => by unfold eqDs; rfl
  | d :: ds, e :: es, h => by
    unfold eqDs
    rw [eqDs_len (ds := ds) (es := es) fun q => h (by rw [List.length_cons, List.length_cons, q]), Bool.and_false]
theorem eqDs_all : ∀ {ds es : List D}, ds.length = es.length → (List.range ds.length).all (eAt ds es) = eqDs ds es
  | [], [], _ => by unfold eqDs; rfl
  | [], _ :: _, h => by simp at h
  | _ :: _, [], h => by simp at h
  | d :: ds, e :: es, h => by
    have ih := eqDs_all (ds := ds) (es := es) (by simpa using h)
    unfold eqDs
    rw [List.length_cons, List.range_succ_eq_map, List.all_cons, List.all_map, ← ih]
    rfl
theorem eqV_refl {v : V} (h : flatV v = true) : eqV v v = true := by
  cases v <;> first | exact absurd (show false = true from h) Bool.false_ne_true | rfl | simp [eqV]
section
variable {X : Cx} {pins : List (Addr × Obj)} {σ : St} {H : Hp} {s : Shared}
theorem not_both {a : Addr} {xs ys : List V} (I : Inv X pins σ H s) (h1 : SqL X.K H a xs) (h2 : SqT X.K H a ys) : False := by
  obtain ⟨its, _, p, _⟩ := I.list h1
  obtain ⟨js, _, q, _⟩ := I.tuple h2
  exact SeqAt.ne_of_list_tuple p.isList q rfl
mutual
/-- the same thing told twice -/
theorem rep_same (I : Inv X pins σ H s) : ∀ (d e : D) (x : V), Rep X.K H d x → Rep X.K H e x → eqD d e = true
  | .at v, .at u, x, h1, h2 => by
    unfold Rep at h1 h2
    obtain ⟨rfl, f⟩ := h1
    obtain ⟨rfl, _⟩ := h2
    unfold eqD
    exact eqV_refl f
  | .at v, .seq t ds, x, h1, h2 => by
    unfold Rep at h1 h2
    obtain ⟨rfl, f⟩ := h1
    obtain ⟨a, xs, rfl, _⟩ := h2
    exact absurd (show false = true from f) Bool.false_ne_true
  | .seq t ds, .at u, x, h1, h2 => by
    unfold Rep at h1 h2
    obtain ⟨rfl, f⟩ := h2
    obtain ⟨a, xs, rfl, _⟩ := h1
    exact absurd (show false = true from f) Bool.false_ne_true
  | .seq t ds, .seq u es, x, h1, h2 => by
    unfold Rep at h1 h2
    obtain ⟨a, xs, rfl, t1, l1, r1⟩ := h1
    obtain ⟨b, ys, e, t2, l2, r2⟩ := h2
    cases e
    unfold eqD
    cases t with
    | true =>
      cases u with
      | true =>
        have e := I.tuple_inj (t1 rfl) (t2 rfl)
        subst e
        rw [reps_same I ds es xs r1 r2]
        rfl
      | false => exact (not_both I (l2 rfl) (t1 rfl)).elim
    | false =>
      cases u with
      | true => exact (not_both I (l1 rfl) (t2 rfl)).elim
      | false =>
        have e := I.list_inj (l1 rfl) (l2 rfl)
        subst e
        rw [reps_same I ds es xs r1 r2]
        rfl
theorem reps_same (I : Inv X pins σ H s) : ∀ (ds es : List D) (xs : List V), Reps X.K H ds xs → Reps X.K H es xs → eqDs ds es = true
  | [], [], _, _, _ => by unfold eqDs; rfl
  | [], e :: es, xs, h1, h2 => by
    unfold Reps at h1 h2
    subst h1
    obtain ⟨_, _, e, _⟩ := h2
    cases e
  | d :: ds, [], xs, h1, h2 => by
    unfold Reps at h1 h2
    subst h2
    obtain ⟨_, _, e, _⟩ := h1
    cases e
  | d :: ds, e :: es, xs, h1, h2 => by
    unfold Reps at h1 h2
    obtain ⟨y, ys, rfl, h1, r1⟩ := h1
    obtain ⟨z, zs, e, h2, r2⟩ := h2
    cases e
    unfold eqDs
    rw [rep_same I d _ y h1 h2, reps_same I ds es ys r1 r2]
    rfl
end
theorem flat_list {A : Around} {v : V} {u : Value} {a : Addr} {its : Array Value} (f : flatV v = true) (r : RelV v u) (p : s.heap.IsList a its) (hu : A.units < cLine) : SeqAt.EqAt A s u (.ref a) false := by
  cases v with
  | non => cases r; exact .none_list p hu
  | bl b => cases r; exact .bool_list b p hu
  | int i => obtain ⟨t, rfl⟩ := r; exact .int_list i t p hu
  | str i => obtain ⟨t, rfl⟩ := r; exact .str_list i t p hu
  | _ => exact absurd (show false = true from f) Bool.false_ne_true
theorem flat_tup {A : Around} {v : V} {u : Value} {a : Addr} {its : Array Value} (f : flatV v = true) (r : RelV v u) (p : s.heap.IsTuple a its) (hu : A.units < cLine) : SeqAt.EqAt A s u (.ref a) false := by
  cases v with
  | non => cases r; exact .none_tuple p hu
  | bl b => cases r; exact .bool_tuple b p hu
  | int i => obtain ⟨t, rfl⟩ := r; exact .int_tuple i t p hu
  | str i => obtain ⟨t, rfl⟩ := r; exact .str_tuple i t p hu
  | _ => exact absurd (show false = true from f) Bool.false_ne_true
theorem list_flat {A : Around} {v : V} {u : Value} {a : Addr} {its : Array Value} (f : flatV v = true) (r : RelV v u) (p : s.heap.IsList a its) (hu : A.units < cLine) : SeqAt.EqAt A s (.ref a) u false := by
  cases v with
  | non => cases r; exact .list_none p hu
  | bl b => cases r; exact .list_bool b p hu
  | int i => obtain ⟨t, rfl⟩ := r; exact .list_int i t p hu
  | str i => obtain ⟨t, rfl⟩ := r; exact .list_str i t p hu
  | _ => exact absurd (show false = true from f) Bool.false_ne_true
theorem tup_flat {A : Around} {v : V} {u : Value} {a : Addr} {its : Array Value} (f : flatV v = true) (r : RelV v u) (p : s.heap.IsTuple a its) (hu : A.units < cLine) : SeqAt.EqAt A s (.ref a) u false := by
  cases v with
  | non => cases r; exact .tuple_none p hu
  | bl b => cases r; exact .tuple_bool b p hu
  | int i => obtain ⟨t, rfl⟩ := r; exact .tuple_int i t p hu
  | str i => obtain ⟨t, rfl⟩ := r; exact .tuple_str i t p hu
  | _ => exact absurd (show false = true from f) Bool.false_ne_true
theorem at_of {A : Around} {its js : List Value} {e : Nat → Bool} (h : ∀ j u v, its[j]? = some u → js[j]? = some v → SeqAt.EqAt A s u v (e j)) : ∀ j (h1 : j < its.toArray.size) (h2 : j < js.toArray.size), SeqAt.EqAt A s its.toArray[j] js.toArray[j] (e j) := fun j h1 h2 => by
  rw [List.size_toArray] at h1 h2
  rw [List.getElem_toArray, List.getElem_toArray]
  exact h j _ _ (List.getElem?_eq_getElem h1) (List.getElem?_eq_getElem h2)
/-- two lists, two tuples, by their items -/
theorem rc_lists {A : Around} {a b : Addr} {xs ys : List V} {ds es : List D} (I : Inv X pins σ H s) (hu : A.units < cLine) (h1 : SqL X.K H a xs) (h2 : SqL X.K H b ys) (r1 : Reps X.K H ds xs) (r2 : Reps X.K H es ys)
    (h : ∀ its js, Vals xs its → Vals ys js → ∀ j u v, its[j]? = some u → js[j]? = some v → SeqAt.EqAt A.in1 s u v (eAt ds es j)) : SeqAt.RcAt A s (.ref a) (.ref b) (eqDs ds es) ∧ SeqAt.RcNeAt A s (.ref a) (.ref b) (!eqDs ds es) := by
  obtain ⟨its, q1, p1, z1⟩ := I.list h1
  obtain ⟨js, q2, p2, z2⟩ := I.list h2
  have l1 := q1.length
  have l2 := q2.length
  have m1 := r1.len
  have m2 := r2.len
  by_cases hl : ds.length = es.length
  · rw [← eqDs_all hl, show ds.length = its.toArray.size by rw [List.size_toArray]; omega]
    have hz : its.toArray.size = js.toArray.size := by rw [List.size_toArray, List.size_toArray]; omega
    exact ⟨SeqAt.RcAt.lists p1.isList p2.isList hz hu (at_of (h its js q1 q2)), SeqAt.RcNeAt.lists p1.isList p2.isList hz hu (at_of (h its js q1 q2))⟩
  · rw [eqDs_len hl]
    have hz : (its.toArray.size != js.toArray.size) = true := by simp only [List.size_toArray, bne_iff_ne, ne_eq]; omega
    exact ⟨SeqAt.RcAt.lists_lengths p1.isList p2.isList hz hu, SeqAt.RcNeAt.lists_lengths p1.isList p2.isList hz hu⟩
theorem rc_tups {A : Around} {a b : Addr} {xs ys : List V} {ds es : List D} (I : Inv X pins σ H s) (hu : A.units < cLine) (h1 : SqT X.K H a xs) (h2 : SqT X.K H b ys) (r1 : Reps X.K H ds xs) (r2 : Reps X.K H es ys)
    (h : ∀ its js, Vals xs its → Vals ys js → ∀ j u v, its[j]? = some u → js[j]? = some v → SeqAt.EqAt A.in1 s u v (eAt ds es j)) : SeqAt.RcAt A s (.ref a) (.ref b) (eqDs ds es) ∧ SeqAt.RcNeAt A s (.ref a) (.ref b) (!eqDs ds es) := by
  obtain ⟨its, q1, p1, z1⟩ := I.tuple h1
  obtain ⟨js, q2, p2, z2⟩ := I.tuple h2
  have l1 := q1.length
  have l2 := q2.length
  have m1 := r1.len
  have m2 := r2.len
  have e : ((List.range (min its.toArray.size js.toArray.size)).all (eAt ds es) && its.toArray.size == js.toArray.size) = eqDs ds es := by
    rw [List.size_toArray, List.size_toArray]
    by_cases hl : ds.length = es.length
    · rw [← eqDs_all hl, show min its.length js.length = ds.length by omega, show its.length = js.length by omega]
      simp
    · rw [eqDs_len hl]
      have : (its.length == js.length) = false := by simp; omega
      rw [this, Bool.and_false]
  rw [← e]
  exact ⟨SeqAt.RcAt.tuples p1 p2 hu (at_of (h its js q1 q2)), SeqAt.RcNeAt.tuples p1 p2 hu (at_of (h its js q1 q2))⟩
mutual
theorem rep_at (I : Inv X pins σ H s) : ∀ (d e : D) (A : Around) (x y : V) (u v : Value), A.units + dep d + dep e < cLine → Rep X.K H d x → Rep X.K H e y → RelV x u → RelV y v → SeqAt.EqAt A s u v (eqD d e)
  | .at a, .at b, A, x, y, u, v, hu, h1, h2, ru, rv => by
    unfold Rep at h1 h2
    obtain ⟨rfl, f⟩ := h1
    obtain ⟨rfl, g⟩ := h2
    unfold eqD
    exact eqAt_V ru rv f g
  | .at a, .seq t es, A, x, y, u, v, hu, h1, h2, ru, rv => by
    unfold Rep at h1 h2
    obtain ⟨rfl, f⟩ := h1
    obtain ⟨b, ys, rfl, t2, l2, _⟩ := h2
    cases rv
    unfold eqD
    cases t with
    | true => obtain ⟨_, _, p, _⟩ := I.tuple (t2 rfl); exact flat_tup f ru p (by omega)
    | false => obtain ⟨_, _, p, _⟩ := I.list (l2 rfl); exact flat_list f ru p.isList (by omega)
  | .seq t ds, .at b, A, x, y, u, v, hu, h1, h2, ru, rv => by
    unfold Rep at h1 h2
    obtain ⟨rfl, f⟩ := h2
    obtain ⟨a, xs, rfl, t1, l1, _⟩ := h1
    cases ru
    unfold eqD
    cases t with
    | true => obtain ⟨_, _, p, _⟩ := I.tuple (t1 rfl); exact tup_flat f rv p (by omega)
    | false => obtain ⟨_, _, p, _⟩ := I.list (l1 rfl); exact list_flat f rv p.isList (by omega)
  | .seq t ds, .seq t' es, A, x, y, u, v, hu, h1, h2, ru, rv => by
    have k1 := h1
    have k2 := h2
    unfold Rep at h1 h2
    obtain ⟨a, xs, rfl, t1, l1, r1⟩ := h1
    obtain ⟨b, ys, rfl, t2, l2, r2⟩ := h2
    cases ru
    cases rv
    unfold dep at hu
    have hu' : A.in1.units + deps ds + deps es < cLine := by rw [Around.in1_units]; omega
    have hu0 : A.units < cLine := by omega
    by_cases hab : a = b
    · subst hab
      rw [rep_same I _ _ _ k1 k2]
      exact .same _
    · unfold eqD
      cases t with
      | true =>
        cases t' with
        | true => exact .of_refs hab (rc_tups I hu0 (t1 rfl) (t2 rfl) r1 r2 (reps_at I ds es A.in1 xs ys hu' r1 r2)).1
        | false =>
          obtain ⟨_, _, p, _⟩ := I.tuple (t1 rfl)
          obtain ⟨_, _, q, _⟩ := I.list (l2 rfl)
          exact .tuple_list p q.isList hu0
      | false =>
        cases t' with
        | true =>
          obtain ⟨_, _, p, _⟩ := I.list (l1 rfl)
          obtain ⟨_, _, q, _⟩ := I.tuple (t2 rfl)
          exact .list_tuple p.isList q hu0
        | false => exact .of_refs hab (rc_lists I hu0 (l1 rfl) (l2 rfl) r1 r2 (reps_at I ds es A.in1 xs ys hu' r1 r2)).1
theorem reps_at (I : Inv X pins σ H s) : ∀ (ds es : List D) (A : Around) (xs ys : List V), A.units + deps ds + deps es < cLine → Reps X.K H ds xs → Reps X.K H es ys →
    ∀ its js, Vals xs its → Vals ys js → ∀ j u v, its[j]? = some u → js[j]? = some v → SeqAt.EqAt A s u v (eAt ds es j)
  | [], es, A, xs, ys, hu, h1, h2, its, js, q1, q2, j, u, v, e1, e2 => by
    unfold Reps at h1
    subst h1
    cases q1
    simp at e1
  | d :: ds, [], A, xs, ys, hu, h1, h2, its, js, q1, q2, j, u, v, e1, e2 => by
    unfold Reps at h2
    subst h2
    cases q2
    simp at e2
  | d :: ds, e :: es, A, xs, ys, hu, h1, h2, its, js, q1, q2, j, u, v, e1, e2 => by
    unfold Reps at h1 h2
    obtain ⟨y, ys', rfl, k1, r1⟩ := h1
    obtain ⟨z, zs', rfl, k2, r2⟩ := h2
    unfold deps at hu
    cases q1 with
    | cons ru t1 =>
      cases q2 with
      | cons rv t2 =>
        cases j with
        | zero =>
          simp only [List.getElem?_cons_zero, Option.some.injEq] at e1 e2
          subst e1 e2
          exact rep_at I d e A y z _ _ (by omega) k1 k2 ru rv
        | succ j =>
          simp only [List.getElem?_cons_succ] at e1 e2
          exact reps_at I ds es A ys' zs' (by omega) r1 r2 _ _ t1 t2 j u v e1 e2
end
end
section
variable {X : Cx}
/-- == and != of two lists or two tuples -/
def rEqD (K : PySem.W.Frag) (neg : Bool) : R2 := fun x y H Q => ∃ t ds es, Rep K H (.seq t ds) x ∧ Rep K H (.seq t es) y ∧ deps ds + deps es ≤ 40 ∧ Q (.bl (if neg then !eqDs ds es else eqDs ds es)) H
theorem op_D {X : Cx} (neg : Bool) (hu : X.A.units + 64 < cLine) : OpR X (compareOp (if neg then .NotEq else .Eq)) (rEqD X.K neg) := by
  intro pins s σ H x y v u Q I rx ry h
  obtain ⟨t, ds, es, h1, h2, hd, q⟩ := h
  unfold Rep at h1 h2
  obtain ⟨a, xs, rfl, t1, l1, r1⟩ := h1
  obtain ⟨b, ys, rfl, t2, l2, r2⟩ := h2
  cases rx
  cases ry
  have hu' : X.A.in1.units + deps ds + deps es < cLine := by rw [Around.in1_units]; omega
  have hu0 : X.A.units < cLine := by omega
  have z : SeqAt.RcAt X.A s (.ref a) (.ref b) (eqDs ds es) ∧ SeqAt.RcNeAt X.A s (.ref a) (.ref b) (!eqDs ds es) := by
    cases t with
    | true => exact rc_tups I hu0 (t1 rfl) (t2 rfl) r1 r2 (reps_at I ds es X.A.in1 xs ys hu' r1 r2)
    | false => exact rc_lists I hu0 (l1 rfl) (l2 rfl) r1 r2 (reps_at I ds es X.A.in1 xs ys hu' r1 r2)
  cases neg with
  | true => exact z.2 X.prog X.w _ _ ⟨.bl (!eqDs ds es), H, I, rfl, q⟩
  | false => exact z.1 X.prog X.w _ _ ⟨.bl (eqDs ds es), H, I, rfl, q⟩
theorem op_eqD {K : PySem.W.Frag} (hu : X.A.units + 64 < cLine) (hK : X.K = K := by rfl) : OpR X (compareOp .Eq) (rEqD K false) := hK ▸ op_D false hu
theorem room_64 {k : Nat} {A : Around} (hr : Room k A) : A.units + 64 < cLine := hr.units
/-! ### xs[lo::k]: some items of the list -/
/-- index of a tuple, K told -/
theorem ix_tupK {K : PySem.W.Frag} (h : X.K = K) : IxR X (rIxT K) := h ▸ ix_tup
/-- [.. for y, z in xs] over a list of pairs -/
theorem comp_pairs {K K' : PySem.W.Frag} {a : Addr} {xs : List V} {tc : TT} {te : TE} {σ : St} {ix : List Nat} {QQ : Hp → Prop} {H1 : Hp} {p : Addr} (Pv : Nat → List V → Hp → Prop) (h0 : Pv 0 [] (upd H1 p (.lst [])))
    (hp : ∀ i ys H, i ≤ xs.length → Pv i ys H → H p = some (.lst ys) ∧ ys.length ≤ i ∧ SqL K H a xs) (hn : xs.length ≤ sizeLine)
    (hs : ∀ i x ys H, xs[i]? = some x → Pv i ys H → ∃ t y z, x = .ref t ∧ SqT K' H t [y, z] ∧ tc (some y :: some z :: caps ix σ) H fun b H5 => if b = true then te (some y :: some z :: caps ix σ) H5 fun v H6 => H6 p = some (.lst ys) ∧
      (some y :: some z :: caps ix σ) = (some y :: some z :: caps ix σ) ∧ Pv (i + 1) (ys ++ [v]) (upd H6 p (.lst (ys ++ [v]))) else (some y :: some z :: caps ix σ) = (some y :: some z :: caps ix σ) ∧ Pv (i + 1) ys H5)
    (hd : ∀ ys H, Pv xs.length ys H → QQ H) :
    CompW (gTup K' 2 (gCons (gName 0) (gCons (gName 1) gNil))) tc te 2 ix σ (Itl K a) p H1 QQ := by
  refine ⟨fun i m ys σ2 H2 => m = xs.length - i ∧ i ≤ xs.length ∧ (∃ o o', σ2 = o :: o' :: caps ix σ) ∧ Pv i ys H2, ⟨xs.length, by simp, Nat.zero_le _, ⟨none, none, rfl⟩, h0⟩, ?_⟩
  rintro i m ys σ2 H2 ⟨rfl, hi, ⟨o, o', rfl⟩, pv⟩
  obtain ⟨hp2, hl2, hq2⟩ := hp i ys H2 hi pv
  refine ⟨hp2, ?_⟩
  by_cases hlt : i < xs.length
  · refine .inr ⟨⟨xs, xs[i], hq2, by simp [hlt]⟩, by omega, fun x H3 yy => ?_⟩
    obtain ⟨e, yy⟩ := yy
    subst e
    obtain ⟨t, y, z, ex, ht, q⟩ := hs i x ys _ (yy xs hq2) pv
    subst ex
    refine ⟨fun ys' σ' H' => σ' = (some y :: some z :: caps ix σ) ∧ Pv (i + 1) ys' H', fun ys' σ' H' ⟨e, q⟩ => ⟨xs.length - (i + 1), by omega, rfl, hlt, ⟨_, _, e⟩, q⟩, ?_⟩
    exact ⟨t, _, rfl, ht, rfl, _, _, rfl, _, _, rfl, rfl, q⟩
  · have e : i = xs.length := by omega
    subst e
    exact .inl ⟨⟨xs, hq2, Nat.le_refl _⟩, hd ys H2 pv⟩
end
end L2

namespace L2
open PySem PySem.Spec PyProof.Rows
/-! ### B.m(self, ..): a method called by its class; methods of objects of several classes -/
section
variable {X : Cx} {k : Nat} {m x : Str} {ps : List Str} {sp : Sp} {e : Expr} {es : List Expr} {p apos pos : Pos} {t : TA} {W : St → XK}
end
/-! ### a tuple of the module -/
/-! ### range(a, b, c), c above nought -/
/-! ### a op1 b op2 c op3 d -/
end L2

namespace L2
open PySem PySem.Spec PyProof.Rows
section
variable {X : Cx}
end
end L2

namespace L2
open PySem PySem.Spec PyProof.Rows
/-! ### C() where there is no __init__ but object's -/
structure Mk0 (K : PySem.W.Frag) (mg : Str → Option Value) (x : Str) (C : Addr) : Prop where
  makes : PySem.W.makesIn K C = true
  init : PySem.W.findIn K (.ref C) "__init__" = some (some (.builtin "object.__init__"))
  kp : PySem.W.keepIn K (.ref C) = true
  at_ : mg x = some (.ref C)
def tNew (C : Addr) : TE := fun _ H Q => ∀ y dx, H y = none → H dx = none → dx ≠ y → Q (.ref y) (upd (upd H dx (.own y)) y (.ins C dx []))
theorem pe_new0 {X : Cx} {x : Str} {C : Addr} {p pos : Pos} (M : Mk0 X.K X.mg x C) (hg : Gl X x) (hdb : (x == ("__debug__" : Str)) = false := by decide) : PE X (.Call (.Name x p) [] [] pos) (tNew C) := by
  intro pins s σ H Q I h
  refine wpAny_Call_Name_kw (ld_glob I hg M.at_ ?_ hdb)
  refine PySem.W.callWith_K0 I.kIn M.kp (wpAny_call (make_map0 I.kIn M.makes M.init (fun self => PySem.W.Looks.of_pure (PySem.W.oi_bind self)) ?_))
  have hq := h (s.heap.objs.size + 1) s.heap.objs.size (I.hok.fresh (Nat.le_succ _)) (I.hok.fresh (Nat.le_refl _)) (Nat.ne_of_lt (Nat.lt_succ_self _))
  have I2 := Inv.made (C := C) I
  have Y := PySem.W.makes_of (M := model X.prog X.w) I.kIn M.makes
  have ob : ((s.heap.push PySem.W.emptyDict).push (PySem.W.instObj C s.heap.objs.size)).get? (s.heap.objs.size + 1) = some (PySem.W.instObj C s.heap.objs.size) := by
    have e : (s.heap.push PySem.W.emptyDict).objs.size = s.heap.objs.size + 1 := by rw [Heap.size_push]
    rw [← e]
    exact Heap.get?_push_size _ rfl
  have t1 : PySem.W.Looks (model X.prog X.w) ((s.heap.push PySem.W.emptyDict).push (PySem.W.instObj C s.heap.objs.size)) (typeOf (.ref (s.heap.objs.size + 1))) (.ref C) := (PySem.W.Looks.ld ob).andThen .now
  have t2 : PySem.W.Looks (model X.prog X.w) ((s.heap.push PySem.W.emptyDict).push (PySem.W.instObj C s.heap.objs.size)) (isInstance (.ref (s.heap.objs.size + 1)) (.type "object")) true := t1.andThen (Y.top.keeps fun b o e => Heap.get?_push_of_some _ (Heap.get?_push_of_some _ e))
  obtain ⟨hh, g, d, t, os⟩ := s
  refine codeAny_call_builtin PySem.W.oi_plain PySem.W.entry_oi (@PySem.W.check_slot (model X.prog X.w) _ _ _ "object.__init__" "object" "__init__" (.ref (hh.objs.size + 1)) [] [] _ PySem.W.oi_kind PySem.W.oi_split t2 (PySem.W.oi_args (.ref (hh.objs.size + 1))) ?_)
  rw [PySem.W.oi_run]
  exact wpAny_pure (And.intro rfl ⟨V.ref (hh.objs.size + 1), _, I2, rfl, hq⟩)
end L2

namespace L2
open PySem PySem.Spec PyProof.Rows
/-! ### x (not) in a tuple of texts, for x of any kind; z.upper() -/
end L2

namespace L2
open PySem PySem.Spec PyProof.Rows

/-! ### for .. in reversed(xs), a list that stays -/
end L2

namespace L2
open PySem PySem.Spec PyProof.Rows
/-! ### a def with default arguments, all of its arguments given -/
structure FunD (K : PySem.W.Frag) (x qual : Str) (st : Stmt) (f : Addr) (fd : FuncData) : Prop where
  ex : ∃ (oc : Value) (od : Option Addr) (dV kV doc pm : Value) (an : Option Addr) (cdv ct : Value) (osl : Array (Option Value)),
    fd = PySem.W.fnOf x qual (defArgs st) (defBody st) (defScope st) dV kV doc pm an cdv ct ∧ K.lookup f = some ⟨oc, od, .func fd, osl⟩ ∧ PySem.W.codeIn K cdv qual = true
  kp : PySem.W.keepIn K (.ref f) = true
section
variable {P : Program} {w : World} {K : PySem.W.Frag} {mg : Str → Option Value} {base : Heap}
theorem FunD.ok {x qual : Str} {st : Stmt} {f : Addr} {fd : FuncData} {N ps : List Str} {k : Nat} {sp : Sp} (F : FunD K x qual st f fd) (S : FnScope N ps (defScope st)) (len : ∀ vs H Q E, sp vs H Q E → vs.length = ps.length)
    (hbody : ∀ (cdv : Value) (A : Around) (outer : List Env) (s : Shared) (H : Hp) (vs : List V) (Q : VK) (E : XK), Room k (A.deeper (envOfC qual (defScope st) s.heap.objs.size f cdv)) → sp vs H Q E →
      ∃ t, PSs (cxOf CX0 P w K mg base N qual (defScope st) f cdv A outer s H E).nox (defBody st) t ∧ t { nx := fun _ H' => Q .non H', rt := Q } (start N vs) H) : FnOk P w K mg base CX0 (k + 1) f fd ps sp := by
  obtain ⟨oc, od, dV, kV, doc, pm, an, cdv, ct, osl, e, lk, hcd⟩ := F.ex
  subst e
  refine fn_of lk hcd S len fun A outer s H vs Q E hr hsp => ?_
  obtain ⟨t, h, q⟩ := hbody cdv A outer s H vs Q E hr hsp
  exact ⟨t, h.nox, q⟩
theorem funD_mk {x qual : Str} {st : Stmt} {f : Addr} {oc : Value} {od an : Option Addr} {osl : Array (Option Value)} {dV kV doc pm cdv ct : Value} (l : K.lookup f = some ⟨oc, od, .func (PySem.W.fnOf x qual (defArgs st) (defBody st) (defScope st) dV kV doc pm an cdv ct), osl⟩)
    (c : PySem.W.codeIn K cdv qual = true) (k : PySem.W.keepIn K (.ref f) = true) : FunD K x qual st f (PySem.W.fnOf x qual (defArgs st) (defBody st) (defScope st) dV kV doc pm an cdv ct) := ⟨⟨oc, od, dV, kV, doc, pm, an, cdv, ct, osl, rfl, l, c⟩, k⟩
end
end L2
namespace L2
open PySem PySem.Spec PyProof.Rows
/-- for i, x in enumerate(xs), a list that the body leaves as it is -/
theorem for_enum {K K' : PySem.W.Frag} {a : Addr} {xs : List V} {i1 i2 : Nat} {tb : TS} {D : Ends} {σ : St} {H : Hp} (Pv : Nat → St → Hp → Prop) (h0 : Pv 0 σ H) (hl : ∀ i σ H, i ≤ xs.length → Pv i σ H → SqL K H a xs)
    (hs : ∀ i x σ H t, xs[i]? = some x → Pv i σ H → H t = none → tb { D with nx := Pv (i + 1), ct := Pv (i + 1), bk := D.nx } ((σ.set i1 (some (.int i))).set i2 (some x)) (upd H t (.tup [.int i, x]))) (hd : ∀ σ H, Pv xs.length σ H → D.nx σ H) :
    ∃ W : Nat → Nat → St → Hp → Prop, (∃ m, W 0 m σ H) ∧ ∀ i m σ H, W i m σ H →
      ((Ite K a).stop i H ∧ D.nx σ H) ∨ ((Ite K a).go i H ∧ ∃ N : St → Hp → Prop, (∀ σ' H', N σ' H' → ∃ m', m' < m ∧ W (i + 1) m' σ' H') ∧ ∀ x H', (Ite K a).yld i H x H' → gTup K' 2 (gCons (gName i1) (gCons (gName i2) gNil)) x σ H' fun σ2 H2 => tb { D with nx := N, ct := N, bk := D.nx } σ2 H2) := by
  refine ⟨fun i m σ H => m = xs.length - i ∧ i ≤ xs.length ∧ Pv i σ H, ⟨xs.length, by simp, Nat.zero_le _, h0⟩, ?_⟩
  rintro i m σ H ⟨rfl, hi, p⟩
  have q := hl i σ H hi p
  by_cases hlt : i < xs.length
  · refine .inr ⟨⟨xs, xs[i], q, by simp [hlt]⟩, Pv (i + 1), fun σ' H' p' => ⟨xs.length - (i + 1), by omega, rfl, hlt, p'⟩, fun x H' y => ?_⟩
    obtain ⟨t, z, ex, ht, hz, e3⟩ := y
    subst ex e3
    exact ⟨t, _, rfl, SqT.of upd_same, rfl, _, _, rfl, _, _, rfl, rfl, hs i z σ H t (hz xs q) p ht⟩
  · obtain rfl : i = xs.length := by omega
    exact .inl ⟨⟨xs, q, Nat.le_refl _⟩, hd σ H p⟩
end L2

namespace L2
open PySem PySem.Spec PyProof.Rows

/-! ### zip(xs, ys), its pairs unpacked by the target -/
def Itz (K : PySem.W.Frag) (a b : Addr) : It :=
  ⟨fun i H => ∃ xs ys x y, SqL K H a xs ∧ SqL K H b ys ∧ xs[i]? = some x ∧ ys[i]? = some y,
   fun i H v H' => ∃ t x y, v = .ref t ∧ H t = none ∧ (∀ xs, SqL K H a xs → xs[i]? = some x) ∧ (∀ ys, SqL K H b ys → ys[i]? = some y) ∧ H' = upd H t (.tup [x, y]),
   fun i H => ∃ xs ys, SqL K H a xs ∧ SqL K H b ys ∧ (xs.length ≤ i ∨ ys.length ≤ i)⟩
/-- the objects of a zip lie apart -/
structure Zp (z u o i j : Addr) : Prop where
  uz : u ≠ z
  oz : o ≠ z
  iz : i ≠ z
  jz : j ≠ z
  uo : u ≠ o
  ui : u ≠ i
  uj : u ≠ j
  oi : o ≠ i
  oj : o ≠ j
  ij : i ≠ j
theorem zp_new (n : Nat) : Zp (n + 4) (n + 2) (n + 3) n (n + 1) :=
  ⟨Nat.ne_of_lt (by omega), Nat.ne_of_lt (by omega), Nat.ne_of_lt (by omega), Nat.ne_of_lt (by omega), Nat.ne_of_lt (by omega), Nat.ne_of_gt (by omega), Nat.ne_of_gt (by omega), Nat.ne_of_gt (by omega), Nat.ne_of_gt (by omega), Nat.ne_of_lt (by omega)⟩
def ZipSt (a b z u o i j : Addr) (k : Nat) (h : Heap) : Prop := IsZip h z u o .none ∧ IsPair h u (.ref i) (.ref j) ∧ (∃ x y, IsPair h o x y) ∧ h.IsListIter i a k ∧ h.IsListIter j b k
theorem zip_apart {a b z u o i j : Addr} {k : Nat} {h : Heap} {xs ys : Array Value} (D : Zp z u o i j) (st : ZipSt a b z u o i j k h) (ha : h.IsList a xs) (hb : h.IsList b ys) : ZipApart z u o i j a b := by
  obtain ⟨hz, hu, ⟨x, y, ho⟩, ⟨oi, ei, ci, _⟩, ⟨oj, ej, cj, _⟩⟩ := st
  have ne : ∀ {c d : Addr} {p q : Obj} {zs : Array Value}, h.IsList c zs → h.get? d = some q → q.cls ≠ .type "list" → c ≠ d := fun {c d p q zs} hl hd hn e => by
    obtain ⟨p', hp, hc, _⟩ := hl
    rw [e, hd] at hp
    cases hp
    exact hn hc
  have nz : (Value.type "zip") ≠ .type "list" := by decide +kernel
  have nt : (Value.type "tuple") ≠ .type "list" := by decide +kernel
  have ni : (Value.type "list_iterator") ≠ .type "list" := by decide +kernel
  have hci : oi.cls ≠ .type "list" := by rw [ci]; exact ni
  have hcj : oj.cls ≠ .type "list" := by rw [cj]; exact ni
  constructor <;> first
    | exact D.uz | exact D.oz | exact D.iz | exact D.jz | exact D.uo | exact D.ui | exact D.uj | exact D.oi | exact D.oj | exact D.ij
    | exact ne (p := oi) ha hz nz | exact ne (p := oi) hb hz nz | exact ne (p := oi) ha ho nt | exact ne (p := oi) hb ho nt | exact ne (p := oi) ha hu nt | exact ne (p := oi) hb hu nt
    | exact ne (p := oi) ha ei hci | exact ne (p := oi) hb ei hci | exact ne (p := oi) ha ej hcj | exact ne (p := oi) hb ej hcj
theorem turn_zip {P : Program} {w : World} {K : PySem.W.Frag} {elts : List Expr} {n : Nat} {tp : Pos} (a b z u o i j : Addr) (D : Zp z u o i j) :
    Turn P w K (.Tuple elts n tp) (Itz K a b) [z, u, o, i, j] z (ZipSt a b z u o i j) where
  mem := by simp
  obj := fun k h st c hc => by
    obtain ⟨hz, hu, ⟨x, y, ho⟩, ⟨oi, ei, ci, di⟩, ⟨oj, ej, cj, dj⟩⟩ := st
    simp only [List.mem_cons, List.not_mem_nil, or_false] at hc
    rcases hc with rfl | rfl | rfl | rfl | rfl
    · exact ⟨_, hz, fun v q => by
        have q' : Data.fields _ = Data.cell v := q
        cases q'⟩
    · exact ⟨_, hu, fun v q => by
        have q' : Data.seq _ _ = Data.cell v := q
        cases q'⟩
    · exact ⟨_, ho, fun v q => by
        have q' : Data.seq _ _ = Data.cell v := q
        cases q'⟩
    · exact ⟨oi, ei, fun v q => by rw [di] at q; cases q⟩
    · exact ⟨oj, ej, fun v q => by rw [dj] at q; cases q⟩
  keep := fun k h h' st kk => by
    obtain ⟨hz, hu, ⟨x, y, ho⟩, h1, h2⟩ := st
    exact ⟨kk z (by simp) _ hz, kk u (by simp) _ hu, ⟨x, y, kk o (by simp) _ ho⟩, h1.at fun ob e => kk i (by simp) ob e, h2.at fun ob e => kk j (by simp) ob e⟩
  item := by
    intro X hP hw hK hc k pins s σ H E I hf st hg
    subst hP hw hK
    obtain ⟨xs, ys, x, y, hq1, hq2, hx, hy⟩ := hg
    obtain ⟨its, rv, p, hz⟩ := I.list hq1
    obtain ⟨jts, rv', p', hz'⟩ := I.list hq2
    obtain ⟨v, hv, ru⟩ := rv.get hx
    obtain ⟨v', hv', ru'⟩ := rv'.get hy
    have DD := zip_apart D st p.isList p'.isList
    obtain ⟨sz, su, ⟨x0, y0, so⟩, s1, s2⟩ := id st
    have fz := hf z (by simp)
    have fu := hf u (by simp)
    have fo := hf o (by simp)
    have fi := hf i (by simp)
    have fj := hf j (by simp)
    refine wpAny_pyNext_zip_item DD sz su so s1 s2 p.isList p'.isList (x := v) (y := v') (by simpa using hv) (by simpa using hv') fun h1 a1 a2 a3 a4 a5 a6 hk => ⟨_, rfl, ?_⟩
    refine wpAny_letOwnedTupleGo_zip a1 fun h2 hz2 hs2 => ?_
    have hs2' : Heap.SameBut z h1 h2 := hs2
    have hzlt : z < s.heap.objs.size := Heap.lt_size sz
    have hnT : H s.heap.objs.size = none := I.hok.fresh (Nat.le_refl _)
    have up : ∀ c ob, c ≠ z → c ≠ o → c ≠ i → c ≠ j → s.heap.get? c = some ob → h2.get? c = some ob := fun c ob c1 c2 c3 c4 q => (hs2'.2 c c1).trans (hk c ob c1 c2 c3 c4 q)
    have nch : ∀ c, c ∉ [z, o, i, j] → c ≠ z ∧ c ≠ o ∧ c ≠ i ∧ c ≠ j := fun c hc => by
      simp only [List.mem_cons, List.not_mem_nil, or_false, not_or] at hc
      exact hc
    have ntr : ∀ c ob, H c = some ob → c ≠ z ∧ c ≠ o ∧ c ≠ i ∧ c ≠ j := fun c ob q =>
      ⟨fun e => by (rw [e, fz.1] at q; cases q), fun e => by (rw [e, fo.1] at q; cases q), fun e => by (rw [e, fi.1] at q; cases q), fun e => by (rw [e, fj.1] at q; cases q)⟩
    have up2 : ∀ c ob, c ∉ [z, o, i, j] → s.heap.get? c = some ob → h2.get? c = some ob := fun c ob hc q => up c ob (nch c hc).1 (nch c hc).2.1 (nch c hc).2.2.1 (nch c hc).2.2.2 q
    have up3 : ∀ c ob ob', H c = some ob' → s.heap.get? c = some ob → h2.get? c = some ob := fun c ob ob' hc q => up c ob (ntr c ob' hc).1 (ntr c ob' hc).2.1 (ntr c ob' hc).2.2.1 (ntr c ob' hc).2.2.2 q
    have htup : h2.get? s.heap.objs.size = some { cls := .type "tuple", data := .seq #[v, v'] } := (hs2'.2 _ (Nat.ne_of_gt hzlt)).trans a5
    have I1 : Inv X pins σ (upd H s.heap.objs.size (.tup [x, y])) { s with heap := h2, gens := s.gens, drawn := s.drawn, toks := s.toks } := by
      refine I.step (ch := [z, o, i, j]) (fun c hc => ?_) (fun c ob _ _ hc q _ => up2 c ob hc q) (fun c ob _ _ hc q _ => ⟨ob.slots, up2 c ob hc q⟩) (fun c ob _ q n => by rw [upd_ne (Nat.ne_of_lt (Heap.lt_size q))]; exact n)
        (fun c ob hc q => ⟨ob, up2 c ob hc q⟩) (fun c xs q => by rw [upd_ne (ne_of_none q hnT)]; exact q) (fun c ob u q => by rw [upd_ne (ne_of_none q hnT)]; exact q) (fun c ps q => ⟨#[], by rw [upd_ne (ne_of_none q hnT), q]; simp⟩)
        (fun m hm => ?_) (fun c ob q => ?_) I.bare
      · simp only [List.mem_cons, List.not_mem_nil, or_false] at hc
        rcases hc with rfl | rfl | rfl | rfl
        · exact ⟨fz.2.2.2.1, fz.2.1, fz.2.2.2.2.1, fz.2.2.2.2.2⟩
        · exact ⟨fo.2.2.2.1, fo.2.1, fo.2.2.2.2.1, fo.2.2.2.2.2⟩
        · exact ⟨fi.2.2.2.1, fi.2.1, fi.2.2.2.2.1, fi.2.2.2.2.2⟩
        · exact ⟨fj.2.2.2.1, fj.2.1, fj.2.2.2.2.1, fj.2.2.2.2.2⟩
      · obtain ⟨ob, es, ep, hoL, r⟩ := hm
        exact ⟨ob, es, ep, up _ ob (Ne.symm fz.2.1) (Ne.symm fo.2.1) (Ne.symm fi.2.1) (Ne.symm fj.2.1) hoL, r⟩
      · by_cases hb : c = s.heap.objs.size
        · subst hb
          rw [upd_same] at q
          cases q
          exact ⟨le_line (by show 2 ≤ 1000; decide), [v, v'], .cons ru (.cons ru' .nil), _, htup, rfl, _, rfl⟩
        · rw [upd_ne hb] at q
          refine (I.hok c ob q).stay (fun d w' hd q2 => ?_) (fun d q2 => by rw [upd_ne (ne_of_none q2 hnT)]; exact q2) (fun d zs q2 => by rw [upd_ne (ne_of_none q2 hnT)]; exact q2)
          rcases hd with rfl | hd
          · exact up3 _ w' _ q q2
          · exact up3 _ w' _ hd q2
    refine ⟨.ref s.heap.objs.size, _, I1, rfl, ⟨_, x, y, rfl, hnT, fun zs hy' => by rw [I.list_inj hy' hq1]; exact hx, fun zs hy' => by rw [I.list_inj hy' hq2]; exact hy, rfl⟩, ⟨hz2, ?_, ⟨v, v', ?_⟩, ?_, ?_⟩, fun c hc => ?_⟩
    · exact (hs2'.2 u D.uz).trans (hk u _ D.uz D.uo D.ui D.uj su)
    · exact (hs2'.2 o D.oz).trans a2
    · exact a3.at fun ob q => (hs2'.2 i D.iz).trans q
    · exact a4.at fun ob q => (hs2'.2 j D.jz).trans q
    · have hl : c < s.heap.objs.size := by
        simp only [List.mem_cons, List.not_mem_nil, or_false] at hc
        rcases hc with rfl | rfl | rfl | rfl | rfl
        · exact Heap.lt_size sz
        · exact Heap.lt_size su
        · exact Heap.lt_size so
        · obtain ⟨_, q, _⟩ := s1; exact Heap.lt_size q
        · obtain ⟨_, q, _⟩ := s2; exact Heap.lt_size q
      rw [upd_ne (Nat.ne_of_lt hl)]
      exact (hf c hc).1
  done := by
    intro X hP hw hK hc k pins s σ H E I hf st hg
    subst hP hw hK
    obtain ⟨xs, ys, hq1, hq2, hle⟩ := hg
    obtain ⟨its, rv, p, hz⟩ := I.list hq1
    obtain ⟨jts, rv', p', hz'⟩ := I.list hq2
    have DD := zip_apart D st p.isList p'.isList
    obtain ⟨sz, su, ⟨x0, y0, so⟩, s1, s2⟩ := id st
    have fz := hf z (by simp)
    have fo := hf o (by simp)
    have fi := hf i (by simp)
    have fj := hf j (by simp)
    have hl := rv.length
    have hl' := rv'.length
    refine wpAny_pyNext_zip_end (I.ok.hd hc) DD sz su so s1 s2 p.isList p'.isList ?_ fun h' hk => ⟨rfl, ?_⟩
    · rcases hle with e | e
      · exact .inl (by simp; omega)
      · exact .inr (by simp; omega)
    · have nch : ∀ c, c ∉ [z, o, i, j] → c ≠ z ∧ c ≠ o ∧ c ≠ i ∧ c ≠ j := fun c hc => by
        simp only [List.mem_cons, List.not_mem_nil, or_false, not_or] at hc
        exact hc
      have ntr : ∀ c ob, H c = some ob → c ≠ z ∧ c ≠ o ∧ c ≠ i ∧ c ≠ j := fun c ob q =>
        ⟨fun e => by (rw [e, fz.1] at q; cases q), fun e => by (rw [e, fo.1] at q; cases q), fun e => by (rw [e, fi.1] at q; cases q), fun e => by (rw [e, fj.1] at q; cases q)⟩
      have up2 : ∀ c ob, c ∉ [z, o, i, j] → s.heap.get? c = some ob → h'.get? c = some ob := fun c ob hc q => hk c ob (nch c hc).1 (nch c hc).2.1 (nch c hc).2.2.1 (nch c hc).2.2.2 q
      have up3 : ∀ c ob ob', H c = some ob' → s.heap.get? c = some ob → h'.get? c = some ob := fun c ob ob' hc q => hk c ob (ntr c ob' hc).1 (ntr c ob' hc).2.1 (ntr c ob' hc).2.2.1 (ntr c ob' hc).2.2.2 q
      refine I.step (H' := H) (ch := [z, o, i, j]) (fun c hc => ?_) (fun c ob _ _ hc q _ => up2 c ob hc q) (fun c ob _ _ hc q _ => ⟨ob.slots, up2 c ob hc q⟩) (fun c ob _ q n => n)
        (fun c ob hc q => ⟨ob, up2 c ob hc q⟩) (fun c xs q => q) (fun c ob u q => q) (fun c ps q => ⟨#[], by rw [q]; simp⟩)
        (fun m hm => ?_) (fun c ob q => ?_) I.bare
      · simp only [List.mem_cons, List.not_mem_nil, or_false] at hc
        rcases hc with rfl | rfl | rfl | rfl
        · exact ⟨fz.2.2.2.1, fz.2.1, fz.2.2.2.2.1, fz.2.2.2.2.2⟩
        · exact ⟨fo.2.2.2.1, fo.2.1, fo.2.2.2.2.1, fo.2.2.2.2.2⟩
        · exact ⟨fi.2.2.2.1, fi.2.1, fi.2.2.2.2.1, fi.2.2.2.2.2⟩
        · exact ⟨fj.2.2.2.1, fj.2.1, fj.2.2.2.2.1, fj.2.2.2.2.2⟩
      · obtain ⟨ob, es, ep, hoL, r⟩ := hm
        exact ⟨ob, es, ep, hk _ ob (Ne.symm fz.2.1) (Ne.symm fo.2.1) (Ne.symm fi.2.1) (Ne.symm fj.2.1) hoL, r⟩
      · refine (I.hok c ob q).stay (fun d w' hd q2 => ?_) (fun d q2 => q2) (fun d zs q2 => q2)
        rcases hd with rfl | hd
        · exact up3 _ w' _ q q2
        · exact up3 _ w' _ hd q2
  self := fun _ _ _ _ _ st h => wpAny_pyIter_zip st.1 h
def iZip (K : PySem.W.Frag) (ta : TA) : TI := fun σ H R => ta σ H fun vs H1 => ∃ a b, vs = [.ref a, .ref b] ∧ (∃ xs, SqL K H1 a xs) ∧ (∃ ys, SqL K H1 b ys) ∧ R (Itz K a b) H1
theorem pi_zip {X : Cx} {e1 e2 : Expr} {ta : TA} {p pos tp : Pos} {elts : List Expr} {n : Nat} (hg : Gl X "zip") (hm : X.mg "zip" = none) (ha : PA X [e1, e2] ta) (hs : starEach [e1, e2] X.env = [(false, eval e1 X.env), (false, eval e2 X.env)] := by rfl) (hs2 : starEach [e2] X.env = [(false, eval e2 X.env)] := by rfl) :
    PI X (.Tuple elts n tp) (.Call (.Name "zip" p) [e1, e2] [] pos) (iZip X.K ta) := by
  intro pins s σ H R I h
  refine Call_ (ld_blt I hg hm (show bootBuiltins "zip" = some (.type "zip") from rfl) (PyProof.Rows.callWith_type1 (thn (ha pos pins s σ H _ I h) fun us s1 ⟨vs, H1, I1, r1, q1⟩ => ?_) (by rw [hs, hs2]) (by rw [hs2]; rfl)))
  obtain ⟨a, b, ev, ⟨xs, hq1⟩, ⟨ys, hq2⟩, q⟩ := q1
  subst ev
  cases r1 with
  | cons ra rr =>
    cases rr with
    | cons rb rr =>
      cases rr
      cases ra
      cases rb
      obtain ⟨its, rv, pl, hz⟩ := I1.list hq1
      obtain ⟨jts, rv', pl', hz'⟩ := I1.list hq2
      refine call_zip_2 pl.isList pl'.isList fun h' b1 b2 b3 b4 b5 b6 hk => ?_
      refine wpAny_pyIter_zip b1 ?_
      have I2 : Inv X pins σ H1 { s1 with heap := h' } := I1.kept (t' := s1.toks) hk
      refine ⟨_, [s1.heap.objs.size + 4, s1.heap.objs.size + 2, s1.heap.objs.size + 3, s1.heap.objs.size, s1.heap.objs.size + 1], _, _, H1, rfl, I2, turn_zip a b (s1.heap.objs.size + 4) (s1.heap.objs.size + 2) (s1.heap.objs.size + 3) s1.heap.objs.size (s1.heap.objs.size + 1) (zp_new _), ⟨b1, b2, ⟨_, _, b3⟩, b4, b5⟩, fun c hc => ?_, q⟩
      have le : s1.heap.objs.size ≤ c := by
        simp only [List.mem_cons, List.not_mem_nil, or_false] at hc
        rcases hc with rfl | rfl | rfl | rfl | rfl <;> omega
      exact I1.fpOk le (I1.hok.fresh le)
theorem comp_zip {K K' : PySem.W.Frag} {a b : Addr} {xs zs : List V} {tc : TT} {te : TE} {σ : St} {ix : List Nat} {QQ : Hp → Prop} {H1 : Hp} {p : Addr} (Pv : Nat → List V → Hp → Prop) (h0 : Pv 0 [] (upd H1 p (.lst [])))
    (hp : ∀ i ys H, i ≤ min xs.length zs.length → Pv i ys H → H p = some (.lst ys) ∧ ys.length ≤ i ∧ SqL K H a xs ∧ SqL K H b zs) (hn : xs.length ≤ sizeLine)
    (hs : ∀ i x z ys H t, xs[i]? = some x → zs[i]? = some z → Pv i ys H → H t = none → tc (some x :: some z :: caps ix σ) (upd H t (.tup [x, z])) fun b H5 => if b = true then te (some x :: some z :: caps ix σ) H5 fun y H6 => H6 p = some (.lst ys) ∧
      (some x :: some z :: caps ix σ) = (some x :: some z :: caps ix σ) ∧ Pv (i + 1) (ys ++ [y]) (upd H6 p (.lst (ys ++ [y]))) else (some x :: some z :: caps ix σ) = (some x :: some z :: caps ix σ) ∧ Pv (i + 1) ys H5)
    (hd : ∀ ys H, Pv (min xs.length zs.length) ys H → QQ H) :
    CompW (gTup K' 2 (gCons (gName 0) (gCons (gName 1) gNil))) tc te 2 ix σ (Itz K a b) p H1 QQ := by
  refine ⟨fun i m ys σ2 H2 => m = min xs.length zs.length - i ∧ i ≤ min xs.length zs.length ∧ (∃ o o', σ2 = o :: o' :: caps ix σ) ∧ Pv i ys H2, ⟨min xs.length zs.length, rfl, Nat.zero_le _, ⟨none, none, rfl⟩, h0⟩, ?_⟩
  rintro i m ys σ2 H2 ⟨rfl, hi, ⟨o, o', rfl⟩, pv⟩
  obtain ⟨hp2, hl2, hq2, hq3⟩ := hp i ys H2 hi pv
  refine ⟨hp2, ?_⟩
  by_cases hlt : i < min xs.length zs.length
  · have l1 : i < xs.length := by omega
    have l2 : i < zs.length := by omega
    refine .inr ⟨⟨xs, zs, xs[i], zs[i], hq2, hq3, by simp [l1], by simp [l2]⟩, by omega, fun x H3 y => ?_⟩
    obtain ⟨t, u, z, ex, ht, hu, hz, e3⟩ := y
    subst ex e3
    refine ⟨fun ys' σ' H' => σ' = (some u :: some z :: caps ix σ) ∧ Pv (i + 1) ys' H', fun ys' σ' H' ⟨e, q⟩ => ⟨min xs.length zs.length - (i + 1), by omega, rfl, by omega, ⟨_, _, e⟩, q⟩, ?_⟩
    exact ⟨t, _, rfl, SqT.of upd_same, rfl, _, _, rfl, _, _, rfl, rfl, hs i u z ys H2 t (hu xs hq2) (hz zs hq3) pv ht⟩
  · obtain rfl : i = min xs.length zs.length := by omega
    exact .inl ⟨⟨xs, zs, hq2, hq3, by omega⟩, hd ys H2 pv⟩
end L2

namespace L2
open PySem PySem.Spec PyProof.Rows
/-! ### a text told several times -/
theorem rep_cps (l : List Nat) : ∀ n : Nat, (List.replicate n l.toArray).foldl (· ++ ·) #[] = ((List.replicate n l).flatten).toArray := fun n => by
  have go : ∀ (n : Nat) (a : List Nat), (List.replicate n l.toArray).foldl (· ++ ·) a.toArray = (a ++ (List.replicate n l).flatten).toArray := fun n => by
    induction n with
    | zero => intro a; simp
    | succ n ih =>
      intro a
      rw [List.replicate_succ, List.foldl_cons, List.replicate_succ, List.flatten_cons, ← List.append_assoc]
      have e : a.toArray ++ l.toArray = (a ++ l).toArray := by simp
      rw [e]
      exact ih (a ++ l)
  have z := go n []
  simpa using z
theorem op_mul_str {X : Cx} : OpR X (binaryOp .Mult) (fun x y H Q => ∃ (l : List Nat) (n : Int), x = .str (tx l) ∧ y = .int n ∧ 1 ≤ n ∧ n ≤ 1000 ∧ l.length ≤ 1000 ∧ Q (.str (tx (List.replicate n.toNat l).flatten)) H) := by
  intro pins s σ H x y v u Q I rx ry h
  obtain ⟨l, n, rfl, rfl, h1, h2, h3, q⟩ := h
  obtain ⟨t, rfl⟩ := rx
  obtain ⟨t', rfl⟩ := ry
  have hl : (tx l).length = l.length := tx_len l
  have small : l.length * n.toNat ≤ 1000 * 1000 := Nat.mul_le_mul h3 (by omega)
  refine PySem.P.mul_str ?_ (fun _ _ => ?_) (fun _ _ => ?_) ?_
  · rw [decide_eq_false (by omega), decide_eq_false (by omega)]; rfl
  · rw [hl]
    have : (1000 : Int) ≤ (2 ^ 63 - 1) / n := Int.le_ediv_of_mul_le (by omega) (by omega)
    omega
  · rw [hl]
    unfold Builtin.Str.tooLong
    simp only [decide_eq_false_iff_not]
    have := sizeLine_eq
    omega
  · rw [if_neg (by omega)]
    by_cases c : (n == 1 || (tx l).length == 0) = true
    · rw [if_pos c]
      refine ⟨.str (tx (List.replicate n.toNat l).flatten), H, I, ⟨t, ?_⟩, q⟩
      have e : (List.replicate n.toNat l).flatten = l := by
        rcases (Bool.or_eq_true _ _).mp c with z | z
        · have z' : n = 1 := by simpa using z
          subst z'
          simp
        · have z' : l = [] := by
            rw [hl] at z
            exact List.eq_nil_of_length_eq_zero (by simpa using z)
          subst z'
          simp
      rw [e]
    · rw [if_neg c]
      refine ⟨?_, .str (tx (List.replicate n.toNat l).flatten), H, I.tok _, ⟨s.toks, ?_⟩, q⟩
      · have e := rep_cps l n.toNat
        show (⟨(List.replicate n.toNat (tx l).cps).foldl (· ++ ·) #[]⟩ : Str).length ≤ sizeLine
        unfold tx
        rw [e]
        have e2 : (⟨((List.replicate n.toNat l).flatten).toArray⟩ : Str) = tx (List.replicate n.toNat l).flatten := rfl
        rw [e2, tx_len, len_rep, sizeLine_eq, Nat.mul_comm]
        omega
      · show Value.str ⟨(List.replicate n.toNat (tx l).cps).foldl (· ++ ·) #[]⟩ _ = Value.str (tx _) _
        have e := rep_cps l n.toNat
        unfold tx at *
        rw [e]
/-! ### a class whose __init__ has defaults, some of its arguments given -/
structure KCalD (P : Program) (w : World) (K : PySem.W.Frag) (mg : Str → Option Value) (base : Heap) (k : Nat) (x : Str) (C : Addr) (ps : List Str) (dvs : List V) (sp : Sp) : Prop where
  ex : ∃ f fd ds, Mk K C f ∧ FnOk P w K mg base CX0 k f fd ps sp ∧ Binds K fd ps ds ∧ Vals dvs ds ∧ mg x = some (.ref C)
theorem pe_makeD {X : Cx} {k : Nat} {x : Str} {C : Addr} {ps : List Str} {dvs : List V} {sp : Sp} {e : Expr} {es : List Expr} {p pos : Pos} {t : TA} (M : KCalD X.prog X.w X.K X.mg X.base k x C ps dvs sp) (hr : Room (k + 1) X.A) (hg : Gl X x) (ha : PA X (e :: es) t)
    (hdb : (x == ("__debug__" : Str)) = false := by decide) (he : starEach (e :: es) X.env = (false, eval e X.env) :: starEach es X.env := by rfl) (hpl : (backTo pos (starEach es X.env)).any (·.1) = false := by rfl) :
    PE X (.Call (.Name x p) (e :: es) [] pos) (tMake C sp dvs E0 t) := by
  obtain ⟨f, fd, ds, mk, F, b, hd, hm⟩ := M.ex
  exact pe_make mk F hr hg hm b hd pass0 ha hdb he hpl
end L2

/-! runs of whole numbers, without the program -/
namespace CR
/-! ### from lo on and below hi -/
/-! ### the lowest -/
/-! ### those that are none of others -/
end CR

/-! the turns, as plain functions over lists of ints -/
namespace CR
def at0 (l : List Int) (k : Int) : Int := l.getD k.toNat 0
structure GW (ws : List Int) : Prop where
  lo : 1 ≤ ws.length
  hi : ws.length ≤ 8
  pos : ∀ w ∈ ws, 1 ≤ w
  sum : ws.sum ≤ 100
def may (ws ds : List Int) (t k : Int) : Bool := decide (at0 ds k * ws.sum < at0 ws k * (t + 1))
def due (ws ds : List Int) (k : Int) : Int := ((at0 ds k + 1) * ws.sum + at0 ws k - 1) / at0 ws k
/-- the places among the first n that may have the turn t -/
def placesTo (ws ds : List Int) (t : Int) (n : Nat) : List Int := ((List.range n).map fun k : Nat => (k : Int)).filter fun k => may ws ds t k
def places (ws ds : List Int) (t : Int) : List Int := placesTo ws ds t ws.length
def pick (f : Int → Int) (b : Int) (l : List Int) : Int := l.foldl (fun b p => if f p < f b then p else b) b
def place (ws ds : List Int) (t : Int) : Int := pick (due ws ds) ((places ws ds t).headD 0) (places ws ds t)
def put (ds : List Int) (p : Int) : List Int := ds.set p.toNat (at0 ds p + 1)
/-- behind the first t turns: what each place has, the turns -/
def run (ws : List Int) : Nat → List Int × List Int
  | 0 => (List.replicate ws.length 0, [])
  | t + 1 => (put (run ws t).1 (place ws (run ws t).1 t), (run ws t).2 ++ [place ws (run ws t).1 t])
def wheel (ws : List Int) : List Int := (run ws ws.sum.toNat).2

theorem placesTo_succ (ws ds : List Int) (t : Int) (n : Nat) : placesTo ws ds t (n + 1) = placesTo ws ds t n ++ (if may ws ds t n = true then [(n : Int)] else []) := by
  unfold placesTo
  rw [List.range_succ, List.map_append, List.filter_append]
  congr 1
  by_cases h : may ws ds t n = true
  · simp [h]
  · simp [h]
theorem placesTo_le (ws ds : List Int) (t : Int) (n : Nat) : (placesTo ws ds t n).length ≤ n := by
  unfold placesTo
  refine Nat.le_trans (List.length_filter_le _ _) ?_
  rw [List.length_map, List.length_range]
  exact Nat.le_refl _
theorem placesTo_mem {ws ds : List Int} {t : Int} {n : Nat} {k : Int} (h : k ∈ placesTo ws ds t n) : 0 ≤ k ∧ k < n ∧ may ws ds t k = true := by
  unfold placesTo at h
  obtain ⟨h1, h2⟩ := List.mem_filter.mp h
  obtain ⟨j, hj, rfl⟩ := List.mem_map.mp h1
  have := List.mem_range.mp hj
  exact ⟨by omega, by omega, h2⟩
theorem pick_mem (f : Int → Int) : ∀ (l : List Int) (b : Int), pick f b l = b ∨ pick f b l ∈ l
  | [], b => .inl rfl
  | p :: l, b => by
    show pick f (if f p < f b then p else b) l = b ∨ pick f (if f p < f b then p else b) l ∈ p :: l
    rcases pick_mem f l (if f p < f b then p else b) with h | h
    · rw [h]
      split
      · exact .inr List.mem_cons_self
      · exact .inl rfl
    · exact .inr (List.mem_cons_of_mem _ h)
theorem place_mem {ws ds : List Int} {t : Int} (h : places ws ds t ≠ []) : place ws ds t ∈ places ws ds t := by
  unfold place
  rcases pick_mem (due ws ds) (places ws ds t) ((places ws ds t).headD 0) with e | e
  · rw [e]
    cases q : places ws ds t with
    | nil => exact absurd q h
    | cons p l => exact List.mem_cons_self
  · exact e
/-- the sums: if no place may have the turn, all have too much -/
theorem sum_le : ∀ (ws ds : List Int) (T c : Int), ds.length = ws.length → (∀ k : Nat, k < ws.length → ws.getD k 0 * c ≤ ds.getD k 0 * T) → ws.sum * c ≤ ds.sum * T
  | [], [], _, _, _, _ => by simp
  | [], _ :: _, _, _, h, _ => by simp at h
  | _ :: _, [], _, _, h, _ => by simp at h
  | w :: ws, d :: ds, T, c, h, hk => by
    have ih := sum_le ws ds T c (by simpa using h) fun k hk' => by simpa using hk (k + 1) (by simpa using hk')
    have h0 := hk 0 (by simp)
    simp only [List.sum_cons, List.getD_cons_zero] at *
    rw [Int.add_mul, Int.add_mul]
    omega
theorem sum_pos {ws : List Int} (g : GW ws) : 1 ≤ ws.sum := by
  have aux : ∀ l : List Int, (∀ w ∈ l, 1 ≤ w) → (l.length : Int) ≤ l.sum := by
    intro l
    induction l with
    | nil => intro _; simp
    | cons w l ih =>
      intro h
      have h1 := h w List.mem_cons_self
      have h2 := ih fun x hx => h x (List.mem_cons_of_mem _ hx)
      rw [List.sum_cons, List.length_cons]
      omega
  have := aux ws g.pos
  have := g.lo
  omega
theorem places_ne {ws ds : List Int} {t : Nat} (g : GW ws) (hl : ds.length = ws.length) (hs : ds.sum = t) : places ws ds t ≠ [] := by
  intro h
  have key : ∀ k : Nat, k < ws.length → ws.getD k 0 * ((t : Int) + 1) ≤ ds.getD k 0 * ws.sum := fun k hk => by
    by_cases c : ds.getD k 0 * ws.sum < ws.getD k 0 * ((t : Int) + 1)
    · have m : (k : Int) ∈ places ws ds t := by
        unfold places placesTo
        refine List.mem_filter.mpr ⟨List.mem_map.mpr ⟨k, List.mem_range.mpr hk, rfl⟩, ?_⟩
        unfold may at0
        simpa using c
      rw [h] at m
      cases m
    · omega
  have q := sum_le ws ds ws.sum ((t : Int) + 1) hl key
  rw [hs] at q
  have p := sum_pos g
  have e : ws.sum * ((t : Int) + 1) = (t : Int) * ws.sum + ws.sum := by rw [Int.mul_add, Int.mul_comm, Int.mul_one]
  omega
theorem put_length (ds : List Int) (p : Int) : (put ds p).length = ds.length := by unfold put; rw [List.length_set]
theorem sum_set : ∀ (ds : List Int) (k : Nat) (x : Int), k < ds.length → (ds.set k x).sum = ds.sum - ds.getD k 0 + x
  | [], _, _, h => by simp at h
  | d :: ds, 0, x, _ => by simp only [List.set_cons_zero, List.sum_cons, List.getD_cons_zero]; omega
  | d :: ds, k + 1, x, h => by
    have ih := sum_set ds k x (by simpa using h)
    simp only [List.set_cons_succ, List.sum_cons, List.getD_cons_succ, ih]; omega
theorem put_sum {ds : List Int} {p : Int} (h0 : 0 ≤ p) (h : p < ds.length) : (put ds p).sum = ds.sum + 1 := by
  unfold put at0
  rw [sum_set ds p.toNat _ (by omega)]
  omega
theorem sum_replicate (n : Nat) : (List.replicate n (0 : Int)).sum = 0 := by
  induction n with
  | zero => rfl
  | succ n ih => rw [List.replicate_succ, List.sum_cons, ih]; rfl
/-- what stands behind the first t turns -/
structure At (ws : List Int) (t : Nat) : Prop where
  len : (run ws t).1.length = ws.length
  sum : (run ws t).1.sum = t
  row : (run ws t).2.length = t
  inr : ∀ p ∈ (run ws t).2, 0 ≤ p ∧ p < ws.length
theorem place_in {ws ds : List Int} {t : Nat} (g : GW ws) (hl : ds.length = ws.length) (hs : ds.sum = t) : 0 ≤ place ws ds t ∧ place ws ds t < ws.length ∧ may ws ds t (place ws ds t) = true :=
  placesTo_mem (place_mem (places_ne g hl hs))
theorem run_at {ws : List Int} (g : GW ws) : ∀ t : Nat, At ws t
  | 0 => ⟨by simp [run], by show (List.replicate _ 0).sum = _; rw [sum_replicate]; rfl, rfl, fun _ h => by cases h⟩
  | t + 1 => by
    have a := run_at g t
    obtain ⟨h0, h1, _⟩ := place_in (t := t) g a.len a.sum
    refine ⟨?_, ?_, ?_, fun p hp => ?_⟩
    · show (put _ _).length = _
      rw [put_length, a.len]
    · show (put _ _).sum = _
      rw [put_sum h0 (by rw [a.len]; exact h1), a.sum]
      omega
    · show (_ ++ [_]).length = _
      rw [List.length_append, a.row]
      rfl
    · rcases List.mem_append.mp hp with h | h
      · exact a.inr p h
      · rw [List.mem_singleton.mp h]
        exact ⟨h0, h1⟩
end CR

namespace CR
theorem pick_le (f : Int → Int) : ∀ (l : List Int) (b : Int), f (pick f b l) ≤ f b ∧ ∀ x ∈ l, f (pick f b l) ≤ f x
  | [], b => ⟨Int.le_refl _, fun _ h => by cases h⟩
  | p :: l, b => by
    obtain ⟨h1, h2⟩ := pick_le f l (if f p < f b then p else b)
    have e : pick f b (p :: l) = pick f (if f p < f b then p else b) l := rfl
    rw [e]
    have h3 : f (if f p < f b then p else b) ≤ f b ∧ f (if f p < f b then p else b) ≤ f p := by
      split <;> omega
    refine ⟨by omega, fun x hx => ?_⟩
    rcases List.mem_cons.mp hx with rfl | hx
    · omega
    · exact h2 x hx
theorem place_min {ws ds : List Int} {t : Nat} (k : Nat) (hk : k < ws.length) (hm : may ws ds t k = true) : due ws ds (place ws ds t) ≤ due ws ds k := by
  unfold place
  refine (pick_le (due ws ds) (places ws ds t) _).2 k ?_
  unfold places placesTo
  exact List.mem_filter.mpr ⟨List.mem_map.mpr ⟨k, List.mem_range.mpr hk, rfl⟩, hm⟩
theorem at0_set (ds : List Int) (p : Int) (k : Nat) (h0 : 0 ≤ p) (hp : p < ds.length) : at0 (put ds p) k = if (k : Int) = p then at0 ds k + 1 else at0 ds k := by
  unfold put at0
  rw [List.getD_eq_getElem?_getD, List.getD_eq_getElem?_getD, List.getElem?_set]
  by_cases e : (k : Int) = p
  · have e' : p.toNat = (k : Int).toNat := by omega
    rw [if_pos e, e', if_pos rfl, if_pos (by omega)]
    simp only [Option.getD_some, List.getD_eq_getElem?_getD]
  · rw [if_neg e, if_neg (by omega), List.getD_eq_getElem?_getD]
section
variable {ws : List Int}
/-- what place k has behind t turns; who has the turn t -/
def D (ws : List Int) (t k : Nat) : Int := at0 (run ws t).1 k
def pl (ws : List Int) (t : Nat) : Int := place ws (run ws t).1 t
theorem D_zero (k : Nat) : D ws 0 k = 0 := by
  show (List.replicate ws.length (0 : Int)).getD (k : Int).toNat 0 = 0
  rw [List.getD_eq_getElem?_getD, List.getElem?_replicate]
  split <;> rfl
theorem D_succ (g : GW ws) (t k : Nat) : D ws (t + 1) k = if (k : Int) = pl ws t then D ws t k + 1 else D ws t k := by
  have a := run_at g t
  have q := place_in (t := t) g a.len a.sum
  exact at0_set _ _ _ q.1 (by rw [a.len]; exact q.2.1)
theorem w_pos (g : GW ws) {k : Nat} (h : k < ws.length) : 1 ≤ at0 ws k := by
  unfold at0
  rw [List.getD_eq_getElem?_getD, show (k : Int).toNat = k from rfl, List.getElem?_eq_getElem h]
  exact g.pos _ (List.getElem_mem _)
theorem due_le (g : GW ws) {t k : Nat} {d : Int} (h : k < ws.length) : due ws (run ws t).1 k ≤ d ↔ (D ws t k + 1) * ws.sum ≤ d * at0 ws k := by
  have w := w_pos g h
  have e : due ws (run ws t).1 k = ((D ws t k + 1) * ws.sum + at0 ws k - 1) / at0 ws k := rfl
  rw [e]
  have q : ((D ws t k + 1) * ws.sum + at0 ws k - 1) / at0 ws k ≤ d ↔ ((D ws t k + 1) * ws.sum + at0 ws k - 1) < (d + 1) * at0 ws k := by
    rw [← Int.lt_add_one_iff]
    exact Int.ediv_lt_iff_lt_mul (by omega)
  rw [q]
  have e2 : (d + 1) * at0 ws k = d * at0 ws k + at0 ws k := by rw [Int.add_mul, Int.one_mul]
  rw [e2]
  constructor <;> intro z <;> omega
/-- no place has too much -/
theorem upper (g : GW ws) : ∀ (t k : Nat), k < ws.length → D ws t k * ws.sum < (t : Int) * at0 ws k + ws.sum
  | 0, k, h => by
    have := sum_pos g
    rw [D_zero]
    simp
    omega
  | t + 1, k, h => by
    have ih := upper g t k h
    have w := w_pos g h
    have e : ((t + 1 : Nat) : Int) * at0 ws k = (t : Int) * at0 ws k + at0 ws k := by rw [Int.natCast_add, Int.add_mul]; simp
    rw [e, D_succ g]
    by_cases c : (k : Int) = pl ws t
    · rw [if_pos c]
      have a := run_at g t
      have q := (place_in (t := t) g a.len a.sum).2.2
      have m : may ws (run ws t).1 t (pl ws t) = true := q
      rw [← c] at m
      have m' : D ws t k * ws.sum < at0 ws k * ((t : Int) + 1) := of_decide_eq_true m
      rw [Int.mul_add, Int.mul_one, Int.mul_comm (at0 ws k)] at m'
      rw [Int.add_mul, Int.one_mul]
      omega
    · rw [if_neg c]
      omega
theorem D_mono (g : GW ws) (k a : Nat) : ∀ m : Nat, D ws a k ≤ D ws (a + m) k
  | 0 => Int.le_refl _
  | m + 1 => by
    have ih := D_mono g k a m
    rw [← Nat.add_assoc, D_succ g]
    split <;> omega
theorem sum_le3 : ∀ (ws es as : List Int) (T c : Int), es.length = ws.length → as.length = ws.length → (∀ k : Nat, k < ws.length → es.getD k 0 * T ≤ as.getD k 0 * T + ws.getD k 0 * c) → es.sum * T ≤ as.sum * T + ws.sum * c
  | [], [], [], _, _, _, _, _ => by simp
  | [], _ :: _, _, _, _, h, _, _ => by simp at h
  | [], [], _ :: _, _, _, _, h, _ => by simp at h
  | _ :: _, [], _, _, _, h, _, _ => by simp at h
  | _ :: _, _ :: _, [], _, _, _, h, _ => by simp at h
  | w :: ws, e :: es, a :: as, T, c, h, h', hk => by
    have ih := sum_le3 ws es as T c (by simpa using h) (by simpa using h') fun k hk' => by simpa using hk (k + 1) (by simpa using hk')
    have h0 := hk 0 (by simp)
    simp only [List.sum_cons, List.getD_cons_zero] at *
    rw [Int.add_mul, Int.add_mul, Int.add_mul]
    omega
/-- the last turn ahead of d that went to a job due later than d -/
theorem last_bad (d : Nat) (bad : Nat → Prop) : ∀ i : Nat, ∃ a, a ≤ i ∧ (a = 0 ∨ ∃ b, a = b + 1 ∧ bad b) ∧ ∀ s, a ≤ s → s < i → ¬ bad s
  | 0 => ⟨0, Nat.le_refl _, .inl rfl, fun s _ h => by omega⟩
  | i + 1 => by
    by_cases c : bad i
    · exact ⟨i + 1, Nat.le_refl _, .inr ⟨i, rfl, c⟩, fun s h1 h2 => by omega⟩
    · obtain ⟨a, h1, h2, h3⟩ := last_bad d bad i
      refine ⟨a, by omega, h2, fun s h4 h5 => ?_⟩
      by_cases e : s = i
      · rw [e]; exact c
      · exact h3 s h4 (by omega)
/-- no place has too little: else the jobs due by d that came free behind a would be more than the turns between -/
theorem lower (g : GW ws) (d k0 : Nat) (hk0 : k0 < ws.length) : (d : Int) * at0 ws k0 < (D ws d k0 + 1) * ws.sum := by
  refine Classical.byContradiction fun viol => ?_
  have viol' : (D ws d k0 + 1) * ws.sum ≤ (d : Int) * at0 ws k0 := by omega
  have gp := sum_pos g
  obtain ⟨a, had, ha, hgood⟩ := last_bad d (fun s => (d : Int) < due ws (run ws s).1 (pl ws s)) d
  have pin : ∀ s : Nat, ∃ q : Nat, pl ws s = (q : Int) ∧ q < ws.length := fun s => by
    have x := run_at g s
    have y := place_in (t := s) g x.len x.sum
    exact ⟨(pl ws s).toNat, by have : 0 ≤ pl ws s := y.1; omega, by have : pl ws s < ws.length := y.2.1; have : 0 ≤ pl ws s := y.1; omega⟩
  -- behind a: a place stands as at a, or its last job was due by d
  have inv : ∀ m : Nat, a + m ≤ d → ∀ k : Nat, k < ws.length → D ws (a + m) k = D ws a k ∨ D ws (a + m) k * ws.sum ≤ (d : Int) * at0 ws k := by
    intro m
    induction m with
    | zero => intro _ k _; exact .inl rfl
    | succ m ih =>
      intro hm k hk
      rw [← Nat.add_assoc, D_succ g]
      by_cases c : (k : Int) = pl ws (a + m)
      · rw [if_pos c]
        have good := hgood (a + m) (by omega) (by omega)
        rw [← c] at good
        exact .inr ((due_le g hk).mp (by omega))
      · rw [if_neg c]
        exact ih (by omega) k hk
  -- a place whose next job at a is due by d: that job came free behind a
  have rel : ∀ k : Nat, k < ws.length → (D ws a k + 1) * ws.sum ≤ (d : Int) * at0 ws k → (a : Int) * at0 ws k ≤ D ws a k * ws.sum := by
    intro k hk hd
    rcases ha with rfl | ⟨b, rfl, hb⟩
    · rw [D_zero]
      simp
    · rw [D_succ g] at hd ⊢
      by_cases c : (k : Int) = pl ws b
      · rw [if_pos c] at hd
        have h1 : (D ws b k + 1) * ws.sum ≤ (d : Int) * at0 ws k := by
          have e : (D ws b k + 1 + 1) * ws.sum = (D ws b k + 1) * ws.sum + ws.sum := by rw [Int.add_mul (D ws b k + 1), Int.one_mul]
          omega
        have h2 := (due_le (t := b) g hk).mpr h1
        rw [c] at h2
        omega
      · rw [if_neg c] at hd ⊢
        have h2 := (due_le (t := b) g hk).mpr hd
        cases m : may ws (run ws b).1 b k with
        | true =>
          have h3 := place_min (ds := (run ws b).1) (t := b) k hk m
          have h4 : due ws (run ws b).1 (pl ws b) ≤ due ws (run ws b).1 k := h3
          omega
        | false =>
          have h3 : ¬ D ws b k * ws.sum < at0 ws k * ((b : Int) + 1) := of_decide_eq_false m
          rw [Int.mul_comm (at0 ws k)] at h3
          have e : ((b + 1 : Nat) : Int) = (b : Int) + 1 := by omega
          rw [e]
          omega
  have ead : a + (d - a) = d := by omega
  have mono : ∀ k : Nat, D ws a k ≤ D ws d k := fun k => by have q := D_mono g k a (d - a); rw [ead] at q; exact q
  have key : ∀ k : Nat, k < ws.length → (put (run ws d).1 k0).getD k 0 * ws.sum ≤ (run ws a).1.getD k 0 * ws.sum + ws.getD k 0 * ((d : Int) - a) := by
    intro k hk
    have x := run_at g d
    have e1 : (put (run ws d).1 k0).getD k 0 = if (k : Int) = (k0 : Int) then D ws d k + 1 else D ws d k := at0_set (run ws d).1 k0 k (by omega) (by rw [x.len]; omega)
    have e2 : (run ws a).1.getD k 0 = D ws a k := rfl
    have e3 : ws.getD k 0 = at0 ws k := rfl
    rw [e1, e2, e3, Int.mul_sub, Int.mul_comm (at0 ws k), Int.mul_comm (at0 ws k)]
    have w := w_pos g hk
    by_cases c : (k : Int) = (k0 : Int)
    · have c' : k = k0 := by omega
      rw [if_pos c, c']
      have h1 : (D ws a k0 + 1) * ws.sum ≤ (d : Int) * at0 ws k0 := Int.le_trans (Int.mul_le_mul_of_nonneg_right (by have := mono k0; omega) (by omega)) viol'
      have h2 := rel k0 hk0 h1
      omega
    · rw [if_neg c]
      have q := inv (d - a) (by omega) k hk
      rw [ead] at q
      rcases q with q | q
      · rw [q]
        have h1 : (a : Int) * at0 ws k ≤ (d : Int) * at0 ws k := Int.mul_le_mul_of_nonneg_right (by omega) (by omega)
        omega
      · by_cases z : D ws d k = D ws a k
        · rw [z]
          have h1 : (a : Int) * at0 ws k ≤ (d : Int) * at0 ws k := Int.mul_le_mul_of_nonneg_right (by omega) (by omega)
          omega
        · have h1 : (D ws a k + 1) * ws.sum ≤ (d : Int) * at0 ws k := Int.le_trans (Int.mul_le_mul_of_nonneg_right (by have := mono k; omega) (by omega)) q
          have h2 := rel k hk h1
          omega
  have xd := run_at g d
  have xa := run_at g a
  have tot := sum_le3 ws (put (run ws d).1 k0) (run ws a).1 ws.sum ((d : Int) - a) (by rw [put_length, xd.len]) xa.len key
  rw [put_sum (by omega) (by rw [xd.len]; omega), xd.sum, xa.sum, Int.mul_sub, Int.add_mul, Int.mul_comm ws.sum, Int.mul_comm ws.sum] at tot
  omega
/-- behind all turns each place has its weight -/
theorem all_dealt (g : GW ws) {k : Nat} (hk : k < ws.length) : D ws ws.sum.toNat k = at0 ws k := by
  have gp := sum_pos g
  have e : ((ws.sum.toNat : Nat) : Int) = ws.sum := by omega
  have h1 := upper g ws.sum.toNat k hk
  have h2 := lower g ws.sum.toNat k hk
  rw [e] at h1 h2
  have h3 : D ws ws.sum.toNat k * ws.sum < (at0 ws k + 1) * ws.sum := by rw [Int.add_mul, Int.one_mul, Int.mul_comm (at0 ws k)]; exact h1
  have h4 : at0 ws k * ws.sum < (D ws ws.sum.toNat k + 1) * ws.sum := by rw [Int.mul_comm (at0 ws k)]; exact h2
  have h5 := Int.lt_of_mul_lt_mul_right h3 (by omega)
  have h6 := Int.lt_of_mul_lt_mul_right h4 (by omega)
  omega
theorem run_prefix (t : Nat) : ∀ m : Nat, ∃ l, (run ws (t + m)).2 = (run ws t).2 ++ l
  | 0 => ⟨[], by simp⟩
  | m + 1 => by
    obtain ⟨l, e⟩ := run_prefix t m
    refine ⟨l ++ [place ws (run ws (t + m)).1 ((t + m : Nat) : Int)], ?_⟩
    show (run ws (t + m)).2 ++ [_] = _
    rw [e, List.append_assoc]
    rfl
theorem wheel_len (g : GW ws) : (wheel ws).length = ws.sum.toNat := (run_at g _).row
end
end CR

namespace CR
section
variable {ws : List Int}
theorem pl_in (g : GW ws) (t : Nat) : 0 ≤ pl ws t ∧ pl ws t < ws.length :=
  have a := run_at g t
  have q := place_in (t := t) g a.len a.sum
  ⟨q.1, q.2.1⟩
theorem run_take (g : GW ws) {m : Nat} (h : m ≤ ws.sum.toNat) : (wheel ws).take m = (run ws m).2 := by
  obtain ⟨l, e⟩ := run_prefix (ws := ws) m (ws.sum.toNat - m)
  have e2 : m + (ws.sum.toNat - m) = ws.sum.toNat := by omega
  rw [e2] at e
  unfold wheel
  have a := run_at g m
  rw [e, List.take_append_of_le_length (by rw [a.row]; exact Nat.le_refl _), List.take_of_length_le (by rw [a.row]; exact Nat.le_refl _)]
theorem count_run (g : GW ws) (k : Nat) : ∀ t : Nat, (((run ws t).2.count (k : Int) : Nat) : Int) = D ws t k
  | 0 => by rw [D_zero]; rfl
  | t + 1 => by
    have ih := count_run g k t
    rw [D_succ g]
    show ((((run ws t).2 ++ [pl ws t]).count (k : Int) : Nat) : Int) = _
    rw [List.count_append, List.count_singleton]
    by_cases c : (k : Int) = pl ws t
    · rw [if_pos c, if_pos (by simp [c]), ← ih]
      omega
    · rw [if_neg c, if_neg (by simp; exact fun z => c z.symm), ← ih]
      omega
theorem count_wheel (g : GW ws) {k : Nat} (hk : k < ws.length) : (((wheel ws).count (k : Int) : Nat) : Int) = at0 ws k := by
  unfold wheel
  rw [count_run g, all_dealt g hk]
/-- what the first n cents come to -/
def cnt (ws : List Int) (n : Int) : List Int := (List.range ws.length).map fun k : Nat => n / ws.sum * at0 ws k + (((wheel ws).take (n % ws.sum).toNat).count (k : Int) : Nat)
theorem cnt_len (n : Int) : (cnt ws n).length = ws.length := by unfold cnt; rw [List.length_map, List.length_range]
theorem cnt_at (g : GW ws) (n : Int) {k : Nat} (hk : k < ws.length) : at0 (cnt ws n) k = n / ws.sum * at0 ws k + D ws (n % ws.sum).toNat k := by
  have gp := sum_pos g
  have h0 : 0 ≤ n % ws.sum := Int.emod_nonneg _ (by omega)
  have h1 : n % ws.sum < ws.sum := Int.emod_lt_of_pos _ (by omega)
  have q : at0 (cnt ws n) k = n / ws.sum * at0 ws k + (((wheel ws).take (n % ws.sum).toNat).count (k : Int) : Nat) := by
    show (cnt ws n).getD (k : Int).toNat 0 = _
    unfold cnt
    rw [List.getD_eq_getElem?_getD, List.getElem?_map, show (k : Int).toNat = k from rfl, List.getElem?_range hk]
    rfl
  rw [q, run_take g (by omega), count_run g]
theorem ext_at {xs ys : List Int} (hl : xs.length = ys.length) (h : ∀ k : Nat, k < xs.length → at0 xs k = at0 ys k) : xs = ys := by
  refine List.ext_getElem hl fun i h1 h2 => ?_
  have q := h i h1
  unfold at0 at q
  rw [List.getD_eq_getElem?_getD, List.getD_eq_getElem?_getD, show (i : Int).toNat = i from rfl, List.getElem?_eq_getElem h1, List.getElem?_eq_getElem h2] at q
  exact q
/-- one cent more: one more at the place that has it -/
theorem cnt_succ (g : GW ws) {n : Int} (h : 0 ≤ n) : cnt ws (n + 1) = put (cnt ws n) (pl ws (n % ws.sum).toNat) := by
  have gp := sum_pos g
  have h0 : 0 ≤ n % ws.sum := Int.emod_nonneg _ (by omega)
  have h1 : n % ws.sum < ws.sum := Int.emod_lt_of_pos _ (by omega)
  have pin := pl_in g (n % ws.sum).toNat
  refine ext_at (by rw [put_length, cnt_len, cnt_len]) fun k hk => ?_
  rw [cnt_len] at hk
  rw [at0_set _ _ _ pin.1 (by rw [cnt_len]; exact pin.2), cnt_at g _ hk, cnt_at g _ hk]
  have hs := D_succ g (n % ws.sum).toNat k
  have en : n = ws.sum * (n / ws.sum) + n % ws.sum := (Int.mul_ediv_add_emod n ws.sum).symm
  by_cases c : n % ws.sum + 1 < ws.sum
  · have e1 : (n + 1) / ws.sum = n / ws.sum := by
      have : n + 1 = (n % ws.sum + 1) + ws.sum * (n / ws.sum) := by omega
      rw [this, Int.add_mul_ediv_left _ _ (by omega), Int.ediv_eq_zero_of_lt (by omega) c, Int.zero_add]
    have e2 : (n + 1) % ws.sum = n % ws.sum + 1 := by
      have : n + 1 = (n % ws.sum + 1) + ws.sum * (n / ws.sum) := by omega
      rw [this, Int.add_mul_emod_self_left, Int.emod_eq_of_lt (by omega) c]
    have e3 : (n % ws.sum + 1).toNat = (n % ws.sum).toNat + 1 := by omega
    rw [e1, e2, e3, hs]
    show _ = if (k : Int) = pl ws (n % ws.sum).toNat then _ else _
    split <;> omega
  · have c' : n % ws.sum + 1 = ws.sum := by omega
    have e1 : (n + 1) / ws.sum = n / ws.sum + 1 := by
      have : n + 1 = 0 + ws.sum * (n / ws.sum + 1) := by rw [Int.mul_add, Int.mul_one]; omega
      rw [this, Int.add_mul_ediv_left _ _ (by omega)]
      simp
    have e2 : (n + 1) % ws.sum = 0 := by
      have : n + 1 = 0 + ws.sum * (n / ws.sum + 1) := by rw [Int.mul_add, Int.mul_one]; omega
      rw [this, Int.add_mul_emod_self_left]
      simp
    rw [e1, e2]
    show _ + D ws 0 k = if (k : Int) = pl ws (n % ws.sum).toNat then _ else _
    rw [D_zero, Int.add_mul, Int.one_mul]
    have e3 : (n % ws.sum).toNat + 1 = ws.sum.toNat := by omega
    rw [e3, all_dealt g hk] at hs
    split <;> rename_i z
    · rw [if_pos z] at hs
      omega
    · rw [if_neg z] at hs
      omega
theorem sum_lin : ∀ (ws ds es : List Int) (c : Int), ds.length = ws.length → es.length = ws.length → (∀ k : Nat, k < ws.length → es.getD k 0 = c * ws.getD k 0 + ds.getD k 0) → es.sum = c * ws.sum + ds.sum
  | [], [], [], _, _, _, _ => by simp
  | [], _ :: _, _, _, h, _, _ => by simp at h
  | [], [], _ :: _, _, _, h, _ => by simp at h
  | _ :: _, [], _, _, h, _, _ => by simp at h
  | _ :: _, _ :: _, [], _, _, h, _ => by simp at h
  | w :: ws, d :: ds, e :: es, c, h, h', hk => by
    have ih := sum_lin ws ds es c (by simpa using h) (by simpa using h') fun k hk' => by simpa using hk (k + 1) (by simpa using hk')
    have h0 := hk 0 (by simp)
    simp only [List.sum_cons, List.getD_cons_zero] at *
    rw [Int.mul_add]
    omega
theorem cnt_sum (g : GW ws) (n : Int) : (cnt ws n).sum = n := by
  have gp := sum_pos g
  have h0 : 0 ≤ n % ws.sum := Int.emod_nonneg _ (by omega)
  have a := run_at g (n % ws.sum).toNat
  have q := sum_lin ws (run ws (n % ws.sum).toNat).1 (cnt ws n) (n / ws.sum) a.len (cnt_len n) fun k hk => cnt_at g n hk
  rw [q, a.sum, Int.mul_comm]
  have := Int.mul_ediv_add_emod n ws.sum
  omega
/-- more cents, nowhere less -/
theorem cnt_mono (g : GW ws) {k : Nat} (hk : k < ws.length) {n : Int} (h : 0 ≤ n) : ∀ m : Nat, at0 (cnt ws n) k ≤ at0 (cnt ws (n + m)) k
  | 0 => by simp
  | m + 1 => by
    have ih := cnt_mono g hk h m
    have e : n + ((m + 1 : Nat) : Int) = n + (m : Int) + 1 := by omega
    have pin := pl_in g ((n + m) % ws.sum).toNat
    rw [e, cnt_succ g (by omega), at0_set _ _ _ pin.1 (by rw [cnt_len]; exact pin.2)]
    split <;> omega
end
end CR

namespace CR
section
variable {ws : List Int}
end
end CR

namespace CR
section
variable {ws : List Int}
/-- place by place -/
def zipk (f : Int → Int → Int) (xs ys : List Int) : List Int := (List.range xs.length).map fun k : Nat => f (at0 xs k) (at0 ys k)
theorem zipk_len (f : Int → Int → Int) (xs ys : List Int) : (zipk f xs ys).length = xs.length := by unfold zipk; rw [List.length_map, List.length_range]
theorem zipk_at (f : Int → Int → Int) (xs ys : List Int) {k : Nat} (hk : k < xs.length) : at0 (zipk f xs ys) k = f (at0 xs k) (at0 ys k) := by
  show (zipk f xs ys).getD (k : Int).toNat 0 = _
  unfold zipk
  rw [List.getD_eq_getElem?_getD, List.getElem?_map, show (k : Int).toNat = k from rfl, List.getElem?_range hk]
  rfl
/-- what the cents from n on below m come to -/
def btw (ws : List Int) (n m : Int) : List Int := zipk (fun a b => a - b) (cnt ws m) (cnt ws n)
theorem btw_len (n m : Int) : (btw ws n m).length = ws.length := by unfold btw; rw [zipk_len, cnt_len]
theorem btw_at (n m : Int) {k : Nat} (hk : k < ws.length) : at0 (btw ws n m) k = at0 (cnt ws m) k - at0 (cnt ws n) k := zipk_at _ _ _ (by rw [cnt_len]; exact hk)
theorem btw_sum (g : GW ws) (n m : Int) : (btw ws n m).sum = m - n := by
  have q := sum_lin (btw ws n m) (cnt ws n) (cnt ws m) 1 (by rw [cnt_len, btw_len]) (by rw [cnt_len, btw_len]) fun k hk => by
    rw [btw_len] at hk
    have z : at0 (btw ws n m) k = at0 (cnt ws m) k - at0 (cnt ws n) k := btw_at n m hk
    show at0 (cnt ws m) k = 1 * at0 (btw ws n m) k + at0 (cnt ws n) k
    omega
  rw [cnt_sum g, cnt_sum g] at q
  omega
theorem btw_nn (g : GW ws) {n m : Int} (h : 0 ≤ n) (hm : n ≤ m) : ∀ x ∈ btw ws n m, 0 ≤ x := by
  intro x hx
  obtain ⟨k, hk, rfl⟩ := List.mem_iff_getElem.mp hx
  rw [btw_len] at hk
  have z := btw_at (ws := ws) n m hk
  have e : at0 (btw ws n m) k = (btw ws n m)[k] := by
    unfold at0
    rw [List.getD_eq_getElem?_getD, show (k : Int).toNat = k from rfl, List.getElem?_eq_getElem]
    rfl
  have mo := cnt_mono g hk h (m - n).toNat
  rw [show n + (((m - n).toNat : Nat) : Int) = m by omega] at mo
  rw [← e, z]
  omega
end
end CR

namespace CRL
open PySem L2
def top (i : Nat) : Stmt := PySem.Challenge.pw_coverroll_k62_dealt_to_houses.main.body.getD i (.Pass ⟨0, 0, 0, 0⟩)
abbrev s_is_whole : Stmt := top 6
abbrev s_has_letters_alone : Stmt := top 10
abbrev s_is_name : Stmt := top 11
abbrev s_are_weights : Stmt := top 15
abbrev s_may_have : Stmt := top 16
abbrev s_due_by : Stmt := top 17
abbrev s_place_of_turn : Stmt := top 18
abbrev s_turns : Stmt := top 19
abbrev s_Deal___init__ : Stmt := inClass (top 20) 0
abbrev s_Deal_counts_to : Stmt := inClass (top 20) 2
abbrev s_Deal_between : Stmt := inClass (top 20) 3
abbrev s_check_houses : Stmt := top 24
abbrev s_Cover___init__ : Stmt := inClass (top 25) 0
abbrev s_dealt_to : Stmt := top 27
abbrev s__law_cell : Stmt := top 31
abbrev s__law_mix : Stmt := top 32
abbrev s__law_whole : Stmt := top 33
abbrev s__law_names : Stmt := top 34
abbrev s__law_wheel : Stmt := top 35
abbrev s__law_first : Stmt := top 36
abbrev s__law_houses : Stmt := top 37
abbrev s__law_size : Stmt := top 38
abbrev s__law_due : Stmt := top 39
abbrev s__law_pairs : Stmt := top 40
abbrev s__law_one : Stmt := top 41
abbrev s_law : Stmt := top 42
/-- what the text's own names stand for -/
structure Txt (K : PySem.W.Frag) (mg : Str → Option Value) : Prop where
  g_COVERED_ONE : GStr mg "COVERED_ONE" "self"
  g_LETTERS : GStr mg "LETTERS" "abcdefghijklmnopqrstuvwxyz"
  g_LONGEST_NAME : GInt mg "LONGEST_NAME" 8
  g_MOST_CLAUSES : GInt mg "MOST_CLAUSES" 8
  g_MOST_PLACES : GInt mg "MOST_PLACES" 8
  g_MOST_TURNS : GInt mg "MOST_TURNS" 100
  n_bool : mg "bool" = none
  n_divmod : mg "divmod" = none
  n_enumerate : mg "enumerate" = none
  n_int : mg "int" = none
  n_isinstance : mg "isinstance" = none
  n_len : mg "len" = none
  n_list : mg "list" = none
  n_range : mg "range" = none
  n_str : mg "str" = none
  n_sum : mg "sum" = none
  n_tuple : mg "tuple" = none
  n_zip : mg "zip" = none
/-- the text's own classes -/
structure Kl (K : PySem.W.Frag) (mg : Str → Option Value) (C_Deal C_Cover C_Condition : Addr) : Prop where
  mg_Deal : mg "Deal" = some (.ref C_Deal)
  cl_Deal : Cls K C_Deal
  na_Deal_wheel : NoAttr K C_Deal "wheel"
  na_Deal_weights : NoAttr K C_Deal "weights"
  mg_Cover : mg "Cover" = some (.ref C_Cover)
  cl_Cover : Cls K C_Cover
  na_Cover_name : NoAttr K C_Cover "name"
  na_Cover_condition : NoAttr K C_Cover "condition"
  na_Cover_clauses : NoAttr K C_Cover "clauses"
  na_Cover_houses : NoAttr K C_Cover "houses"
  na_Cover_deal : NoAttr K C_Cover "deal"
  na_Cover_waits : NoAttr K C_Cover "waits"
  mg_Condition : mg "Condition" = some (.ref C_Condition)
  cl_Condition : Cls K C_Condition
  nd : ([C_Deal, C_Cover, C_Condition] : List Addr).Nodup
/-! ### tests that are known -/
theorem dT {c A B : Prop} [Decidable c] (h : c) (q : A) : if decide c = true then A else B := by rw [decide_eq_true h, if_pos rfl]; exact q
theorem dF {c A B : Prop} [Decidable c] (h : ¬ c) (q : B) : if decide c = true then A else B := by rw [decide_eq_false h, if_neg Bool.false_ne_true]; exact q
theorem nT {c A B : Prop} [Decidable c] (h : ¬ c) (q : A) : if (!decide c) = true then A else B := by rw [decide_eq_false h]; exact q
theorem nF {c A B : Prop} [Decidable c] (h : c) (q : B) : if (!decide c) = true then A else B := by rw [decide_eq_true h]; exact q
theorem bF {c : Bool} {A B : Prop} (h : c = false) (q : B) : if c = true then A else B := by rw [if_neg (by rw [h]; exact Bool.false_ne_true)]; exact q
/-- an int and no bool -/
def wholeV : V → Bool
  | .int _ => true
  | _ => false
theorem whole_kit {K : PySem.W.Frag} {H : Hp} {x : V} {T : String} (h : TyOf K H x (.type T)) : ∃ b1 b2, PySem.W.kitOne K (.type T) (.type "int") = some b1 ∧ PySem.W.kitOne K (.type T) (.type "bool") = some b2 ∧ wholeV x = (b1 && !b2) := by
  cases h with
  | non => exact ⟨false, false, by kernel_rfl, by kernel_rfl, rfl⟩
  | bl b => exact ⟨true, true, by kernel_rfl, by kernel_rfl, rfl⟩
  | int i => exact ⟨true, false, by kernel_rfl, by kernel_rfl, rfl⟩
  | str i => exact ⟨false, false, by kernel_rfl, by kernel_rfl, rfl⟩
  | flt i => exact ⟨false, false, by kernel_rfl, by kernel_rfl, rfl⟩
  | lst e => exact ⟨false, false, by kernel_rfl, by kernel_rfl, rfl⟩
  | frz e => exact ⟨false, false, by kernel_rfl, by kernel_rfl, rfl⟩
  | tup e => exact ⟨false, false, by kernel_rfl, by kernel_rfl, rfl⟩
  | dK e => exact ⟨false, false, by kernel_rfl, by kernel_rfl, rfl⟩
  | dT e => exact ⟨false, false, by kernel_rfl, by kernel_rfl, rfl⟩
theorem kit_ll {K : PySem.W.Frag} : PySem.W.kitOne K (.type "list") (.type "list") = some true := by kernel_rfl
/-! ### promises -/
def spWhole (K : PySem.W.Frag) : Sp := fun vs H Q _ => ∃ x T, vs = [x] ∧ TyOf K H x (.type T) ∧ Q (.bl (wholeV x)) H
theorem kit_tt {K : PySem.W.Frag} : PySem.W.kitOne K (.type "tuple") (.type "tuple") = some true := by kernel_rfl


section
variable {P : Program} {w : World} {K : PySem.W.Frag} {mg : Str → Option Value} {base : Heap}
theorem sc__law_whole : FnScope ["_law_found"] ["_law_found"] (defScope s__law_whole) := ⟨rfl, rfl, rfl, by decide +kernel, rfl, by decide +kernel, by decide +kernel⟩
theorem ok__law_whole {f : Addr} {fd : FuncData} (F : Fun K "_law_whole" "_law_whole" s__law_whole f fd) (T : Txt K mg) : FnOk P w K mg base CX0 1 f fd ["_law_found"] (spWhole K) := by
  have sc := sc__law_whole
  refine F.ok sc (fun vs H Q E h => ?_) (fun cdv A outer s H vs Q E hr h => ?_)
  · obtain ⟨x, T, rfl, _⟩ := h
    rfl
  obtain ⟨x, ty, rfl, hty, q⟩ := h
  refine ⟨_, (pss_one (ps_ret (pe_and (pe_callB call_isinst rfl T.n_isinstance (show bootBuiltins _ = some (.builtin "isinstance") from rfl) (pa_cons (pv 0) (pa_cons (pe_ty "int" rfl T.n_int rfl) pa_nil))) (pe_one (pe_not (pe_callB call_isinst rfl T.n_isinstance (show bootBuiltins _ = some (.builtin "isinstance") from rfl) (pa_cons (pv 0) (pa_cons (pe_ty "bool" rfl T.n_bool rfl) pa_nil)))))))), ?_⟩
  obtain ⟨b1, b2, k1, k2, e⟩ := whole_kit hty
  rw [e] at q
  refine ⟨_, rfl, _, _, _, _, _, rfl, ty_is, hty, k1, _, rfl, ?_⟩
  cases b1 with
  | false => exact q
  | true => exact ⟨_, rfl, _, _, _, _, _, rfl, ty_is, hty, k2, _, rfl, q⟩
end


section
variable {P : Program} {w : World} {K : PySem.W.Frag} {mg : Str → Option Value} {base : Heap}
theorem sc_is_whole : FnScope ["thing"] ["thing"] (defScope s_is_whole) := ⟨rfl, rfl, rfl, by decide +kernel, rfl, by decide +kernel, by decide +kernel⟩
theorem ok_is_whole {f : Addr} {fd : FuncData} (F : Fun K "is_whole" "is_whole" s_is_whole f fd) (T : Txt K mg) : FnOk P w K mg base CX0 1 f fd ["thing"] (spWhole K) := by
  have sc := sc_is_whole
  refine F.ok sc (fun vs H Q E h => ?_) (fun cdv A outer s H vs Q E hr h => ?_)
  · obtain ⟨x, T, rfl, _⟩ := h
    rfl
  obtain ⟨x, ty, rfl, hty, q⟩ := h
  refine ⟨_, (pss_one (ps_ret (pe_and (pe_callB call_isinst rfl T.n_isinstance (show bootBuiltins _ = some (.builtin "isinstance") from rfl) (pa_cons (pv 0) (pa_cons (pe_ty "int" rfl T.n_int rfl) pa_nil))) (pe_one (pe_not (pe_callB call_isinst rfl T.n_isinstance (show bootBuiltins _ = some (.builtin "isinstance") from rfl) (pa_cons (pv 0) (pa_cons (pe_ty "bool" rfl T.n_bool rfl) pa_nil)))))))), ?_⟩
  obtain ⟨b1, b2, k1, k2, e⟩ := whole_kit hty
  rw [e] at q
  refine ⟨_, rfl, _, _, _, _, _, rfl, ty_is, hty, k1, _, rfl, ?_⟩
  cases b1 with
  | false => exact q
  | true => exact ⟨_, rfl, _, _, _, _, _, rfl, ty_is, hty, k2, _, rfl, q⟩
end


/-! ### the law's numbers -/
def spCell (K : PySem.W.Frag) : Sp := fun vs H Q _ => ∃ a ns, ∃ k : Int, vs = [.ref a, .int k] ∧ SqL K H a (List.map V.int ns) ∧ 0 ≤ k ∧ k ≤ 1000 ∧ ns.length ≤ 63 ∧ ∀ i : Int, 0 ≤ i → i < 1000000000000000000 → Q (.int i) H
def spMix : Sp := fun vs H Q _ => ∃ n k : Int, vs = [.int n, .int k] ∧ 0 ≤ k ∧ k ≤ 1000 ∧ ∀ i : Int, 0 ≤ i → i ≤ 2147483628 → Q (.int i) H
theorem hideI {i : Nat} {v : Int} {nx : St → Hp → Prop} {σ : St} {H : Hp} (lo hi : Int) (h0 : lo ≤ v ∧ v ≤ hi) (h : ∀ x : Int, lo ≤ x → x ≤ hi → gName i (.int x) σ H nx) : gName i (.int v) σ H nx := h v h0.1 h0.2
theorem md {a b : Int} (h : 0 < b) : 0 ≤ a % b ∧ a % b ≤ b - 1 := ⟨Int.emod_nonneg _ (by omega), by have := Int.emod_lt_of_pos a h; omega⟩
theorem e18 : (10 : Int) ^ (18 : Int).toNat = 1000000000000000000 := by decide +kernel
section
variable {P : Program} {w : World} {K : PySem.W.Frag} {mg : Str → Option Value} {base : Heap}
theorem sc__law_cell : FnScope ["_law_script", "_law_k"] ["_law_script", "_law_k"] (defScope s__law_cell) := ⟨rfl, rfl, rfl, by decide +kernel, rfl, by decide +kernel, by decide +kernel⟩
theorem ok__law_cell {f : Addr} {fd : FuncData} (F : Fun K "_law_cell" "_law_cell" s__law_cell f fd) (T : Txt K mg) : FnOk P w K mg base CX0 1 f fd ["_law_script", "_law_k"] (spCell K) := by
  have sc := sc__law_cell
  refine F.ok sc (fun vs H Q E h => ?_) (fun cdv A outer s H vs Q E hr h => ?_)
  · obtain ⟨_, _, _, rfl, _⟩ := h
    rfl
  obtain ⟨a, ns, k, rfl, ha, h0, h1, h63, q⟩ := h
  refine ⟨_, (pss_cons (ps_if (pt_cmpR op_lt (pv 1) (pe_callB call_len_seq rfl T.n_len (show bootBuiltins _ = some (.builtin "len") from rfl) (pa_cons (pv 0) pa_nil)) (nomark _))
        (pss_one (ps_ret (pe_op op_mod (pe_ix ix_list (pv 0) (pv 1) (fun _ _ => rfl)) (pe_op op_pow pe_int pe_int))))
        pss_nil)
      (pss_one (ps_ret (pe_op op_mod (pe_op op_add (pe_op op_add (pe_op op_mul (pe_op op_mul (pv 1) (pv 1)) pe_int) (pe_op op_mul pe_int (pe_callB call_len_seq rfl T.n_len (show bootBuiltins _ = some (.builtin "len") from rfl) (pa_cons (pv 0) pa_nil)))) pe_int) pe_int)))), ?_⟩
  have hl : (List.map V.int ns).length = ns.length := List.length_map _
  refine ⟨_, rfl, _, rfl, a, _, rfl, .inl ha, _, _, rfl, rfl, _, rfl, ?_⟩
  rw [hl]
  refine ite2 (fun c => ?_) (fun c => ?_)
  · have c' : k < (ns.length : Int) := of_decide_eq_true c
    refine ⟨_, rfl, _, rfl, a, _, _, _, rfl, rfl, ha, at_intI h0 c', _, _, rfl, rfl, ⟨by decide, by decide, by decide⟩, _, _, rfl, rfl, (by show (0 : Int) < (10 : Int) ^ (18 : Int).toNat; rw [e18]; decide), ?_⟩
    have b := md (a := ns.getD k.toNat 0) (b := (10 : Int) ^ (18 : Int).toNat) (by rw [e18]; decide)
    exact q _ b.1 (by have := b.2; rw [e18] at this; show _ % (10 : Int) ^ (18 : Int).toNat < _; rw [e18]; omega)
  · refine ⟨_, rfl, _, rfl, _, _, rfl, rfl, .inl ⟨by omega, by omega⟩, _, _, rfl, rfl, .inr ⟨by decide, by decide⟩, _, rfl, a, _, rfl, .inl ha, _, _, rfl, rfl, .inl ⟨by decide, by decide⟩, _, _, rfl, rfl, _, _, rfl, rfl, _, _, rfl, rfl, (by show (0 : Int) < 2147483647; decide), ?_⟩
    have b := md (a := k * k * 48271 + 7919 * ((List.map V.int ns).length : Int) + 12345) (b := 2147483647) (by decide)
    exact q _ b.1 (by have := b.2; omega)
theorem sc__law_mix : FnScope ["_law_number", "_law_k"] ["_law_number", "_law_k"] (defScope s__law_mix) := ⟨rfl, rfl, rfl, by decide +kernel, rfl, by decide +kernel, by decide +kernel⟩
theorem ok__law_mix {f : Addr} {fd : FuncData} (F : Fun K "_law_mix" "_law_mix" s__law_mix f fd) (T : Txt K mg) : FnOk P w K mg base CX0 1 f fd ["_law_number", "_law_k"] spMix := by
  have sc := sc__law_mix
  refine F.ok sc (fun vs H Q E h => ?_) (fun cdv A outer s H vs Q E hr h => ?_)
  · obtain ⟨_, _, rfl, _⟩ := h
    rfl
  obtain ⟨n, k, rfl, h0, h1, q⟩ := h
  refine ⟨_, (pss_cons (ps_set (i := 0) sc.nd rfl (Or.inl rfl) (pe_op op_mod (pe_op op_add (pe_op op_add (pe_op op_mul (pv 0) pe_int) (pe_op op_mul (pe_op op_mul (pv 1) (pv 1)) pe_int)) pe_int) pe_int))
      (pss_one (ps_ret (pe_op op_mod (pe_op op_mul (pv 0) (pv 0)) pe_int)))), ?_⟩
  refine ⟨_, rfl, _, _, rfl, rfl, .inr ⟨by decide, by decide⟩, _, rfl, _, rfl, _, _, rfl, rfl, .inl ⟨by omega, by omega⟩, _, _, rfl, rfl, .inr ⟨by decide, by decide⟩, _, _, rfl, rfl, _, _, rfl, rfl, _, _, rfl, rfl, (by show (0 : Int) < 2147483647; decide), ?_⟩
  refine hideI 0 2147483646 (md (by decide)) fun x x0 x1 => ?_
  refine ⟨_, rfl, _, rfl, _, _, rfl, rfl, .inl ⟨by omega, by omega⟩, _, _, rfl, rfl, (by show (0 : Int) < 2147483629; decide), ?_⟩
  have b := md (a := x * x) (b := 2147483629) (by decide)
  exact q _ b.1 b.2
end


/-! ### names -/
def letter (c : Nat) : Prop := 97 ≤ c ∧ c ≤ 122
instance : DecidablePred letter := fun c => by unfold letter; exact inferInstance
def AllLet (l : List Nat) : Prop := ∀ c ∈ l, letter c
instance (l : List Nat) : Decidable (AllLet l) := by unfold AllLet; exact inferInstance
def NameL (l : List Nat) : Prop := (1 ≤ l.length ∧ l.length ≤ 8) ∧ AllLet l
instance (l : List Nat) : Decidable (NameL l) := by unfold NameL; exact inferInstance
theorem let_in {c : Nat} : (c ∈ (Str.ofString "abcdefghijklmnopqrstuvwxyz").cps.toList) ↔ letter c := by
  have e : (Str.ofString "abcdefghijklmnopqrstuvwxyz").cps.toList = (List.range 26).map (97 + ·) := by decide +kernel
  rw [e, List.mem_map]
  unfold letter
  constructor
  · rintro ⟨k, hk, rfl⟩
    have := List.mem_range.mp hk
    omega
  · intro h
    exact ⟨c - 97, List.mem_range.mpr (by omega), by omega⟩
def isStrV : V → Bool
  | .str _ => true
  | _ => false
def nameV : V → Bool
  | .str z => decide (NameL z.cps.toList)
  | _ => false
def okX (x : V) : Prop := ∀ z, x = .str z → z.length ≤ 900
theorem str_kit {K : PySem.W.Frag} {H : Hp} {x : V} {T : String} (h : TyOf K H x (.type T)) : PySem.W.kitOne K (.type T) (.type "str") = some (isStrV x) := by
  cases h with
  | non => kernel_rfl
  | bl b => kernel_rfl
  | int i => kernel_rfl
  | str i => kernel_rfl
  | flt i => kernel_rfl
  | lst e => kernel_rfl
  | frz e => kernel_rfl
  | tup e => kernel_rfl
  | dK e => kernel_rfl
  | dT e => kernel_rfl
def spLet : Sp := fun vs H Q _ => ∃ l, vs = [.str (tx l)] ∧ Q (.bl (decide (AllLet l))) H
def spName (K : PySem.W.Frag) : Sp := fun vs H Q _ => ∃ x T, vs = [x] ∧ TyOf K H x (.type T) ∧ okX x ∧ Q (.bl (nameV x)) H
section
seal L2.PS L2.PSs L2.PE
variable {P : Program} {w : World} {K : PySem.W.Frag} {mg : Str → Option Value} {base : Heap}
theorem sc_has_letters_alone : FnScope ["text", "sign"] ["text"] (defScope s_has_letters_alone) := ⟨rfl, rfl, rfl, by decide +kernel, rfl, by decide +kernel, by decide +kernel⟩
theorem ok_has_letters_alone {f : Addr} {fd : FuncData} (F : Fun K "has_letters_alone" "has_letters_alone" s_has_letters_alone f fd) (T : Txt K mg) : FnOk P w K mg base CX0 1 f fd ["text"] spLet := by
  have sc := sc_has_letters_alone
  refine F.ok sc (fun vs H Q E h => ?_) (fun cdv A outer s H vs Q E hr h => ?_)
  · obtain ⟨_, rfl, _⟩ := h
    rfl
  obtain ⟨l, rfl, q⟩ := h
  refine ⟨_, (pss_cons (ps_for PassesOwn.never rfl (pi_str (pv 0)) (pg_name (i := 1) sc.nd rfl (Or.inl rfl))
        (pss_one (ps_if (pt_cmpR op_notIn1 (pv 1) (pe_gstr T.g_LETTERS rfl) rfl)
        (pss_one (ps_ret pe_bl))
        pss_nil)))
      (pss_one (ps_ret pe_bl))), ?_⟩
  refine ⟨_, rfl, _, rfl, for_str (l := l) (fun i σ H2 => ((∃ o, σ = [some (.str (tx l)), o]) ∧ H2 = H) ∧ ∀ j c, j < i → l[j]? = some c → letter c) ⟨⟨⟨none, rfl⟩, rfl⟩, fun _ _ z => absurd z (Nat.not_lt_zero _)⟩ ?_ ?_⟩
  · rintro i c σ H2 hi ⟨⟨⟨o, rfl⟩, rfl⟩, good⟩
    refine ⟨_, rfl, c, _, rfl, rfl, _, rfl, ?_⟩
    by_cases hc : letter c
    · refine nF (let_in.mpr hc) ⟨⟨⟨_, rfl⟩, rfl⟩, fun j d hj hd => ?_⟩
      by_cases e : j = i
      · subst e
        rw [hi] at hd
        cases hd
        exact hc
      · exact good j d (by omega) hd
    · refine nT (fun z => hc (let_in.mp z)) ?_
      have n : ¬ AllLet l := fun z => hc (z c (List.mem_of_getElem? hi))
      rw [decide_eq_false n] at q
      exact q
  · rintro σ H2 ⟨⟨⟨o, rfl⟩, rfl⟩, good⟩
    have all : AllLet l := fun c hc => by
      obtain ⟨j, hj, e⟩ := List.getElem_of_mem hc
      exact good j c hj (by rw [List.getElem?_eq_getElem hj, e])
    rw [decide_eq_true all] at q
    exact q
theorem sc_is_name : FnScope ["thing"] ["thing"] (defScope s_is_name) := ⟨rfl, rfl, rfl, by decide +kernel, rfl, by decide +kernel, by decide +kernel⟩
theorem ok_is_name {f : Addr} {fd : FuncData} (F : Fun K "is_name" "is_name" s_is_name f fd) (T : Txt K mg) (Chas_letters_alone : Cal P w K mg base 1 "has_letters_alone" ["text"] spLet) : FnOk P w K mg base CX0 2 f fd ["thing"] (spName K) := by
  have sc := sc_is_name
  refine F.ok sc (fun vs H Q E h => ?_) (fun cdv A outer s H vs Q E hr h => ?_)
  · obtain ⟨_, _, rfl, _⟩ := h
    rfl
  obtain ⟨x, ty, rfl, hty, ok, q⟩ := h
  refine ⟨_, (pss_cons (ps_if (pt_not (pt_val (pe_callB call_isinst rfl T.n_isinstance (show bootBuiltins _ = some (.builtin "isinstance") from rfl) (pa_cons (pv 0) (pa_cons (pe_ty "str" rfl T.n_str rfl) pa_nil)))))
        (pss_one (ps_ret pe_bl))
        pss_nil)
      (pss_one (ps_ret (pe_and (pe_chain op_le op_le pe_int (pe_callB call_len_str rfl T.n_len (show bootBuiltins _ = some (.builtin "len") from rfl) (pa_cons (pv 0) pa_nil)) (pe_gint T.g_LONGEST_NAME rfl)) (pe_one (pe_callC Chas_letters_alone (hr.mono (by decide)) rfl (pa_cons (pv 0) pa_nil))))))), ?_⟩
  refine ⟨_, rfl, _, _, _, _, _, rfl, ty_is, hty, str_kit hty, _, rfl, ?_⟩
  cases x with
  | str z =>
    have hz := ok z rfl
    have ez : tx z.cps.toList = z := tx_of z
    refine iteF ⟨_, rfl, _, rfl, le_line (by omega), ?_⟩
    have lz : (z.length : Int) = (z.cps.toList.length : Int) := by rw [← tx_len, ez]
    refine ⟨_, _, rfl, rfl, _, rfl, ?_⟩
    by_cases c1 : 1 ≤ (z.length : Int)
    · refine dT c1 ⟨_, _, rfl, rfl, _, rfl, ?_⟩
      by_cases c2 : (z.length : Int) ≤ 8
      · refine dT c2 ⟨_, rfl, z.cps.toList, by rw [ez]; rfl, ?_⟩
        have e : decide (NameL z.cps.toList) = decide (AllLet z.cps.toList) := by
          by_cases a : AllLet z.cps.toList
          · rw [decide_eq_true a, decide_eq_true (show NameL _ from ⟨⟨by omega, by omega⟩, a⟩)]
          · rw [decide_eq_false a, decide_eq_false (fun y => a y.2)]
        rw [← e]
        exact q
      · refine dF c2 ?_
        rw [show nameV (.str z) = false from decide_eq_false (fun y => c2 (by have := y.1.2; omega))] at q
        exact q
    · refine dF c1 ⟨_, rfl, iteF ?_⟩
      rw [show nameV (.str z) = false from decide_eq_false (fun y => c1 (by have := y.1.1; omega))] at q
      exact q
  | _ => exact iteT q
end


def spWeights : Sp := fun vs H Q _ => ∃ a ws, vs = [.ref a] ∧ H a = some (.lst (List.map V.int ws)) ∧ CR.GW ws ∧ Q (.bl true) H
def spMay : Sp := fun vs H Q _ => ∃ w d T t : Int, vs = [.int w, .int d, .int T, .int t] ∧ (0 ≤ w ∧ w ≤ 100) ∧ (0 ≤ T ∧ T ≤ 100) ∧ Q (.bl (decide (d * T < w * (t + 1)))) H
def spDue : Sp := fun vs H Q _ => ∃ w d T : Int, vs = [.int w, .int d, .int T] ∧ (1 ≤ w ∧ w ≤ 100) ∧ (0 ≤ T ∧ T ≤ 100) ∧ Q (.int (((d + 1) * T + w - 1) / w)) H
def spPlace : Sp := fun vs H Q _ => ∃ a b ws ds, ∃ t : Nat, vs = [.ref a, .ref b, .int t] ∧ H a = some (.lst (List.map V.int ws)) ∧ H b = some (.lst (List.map V.int ds)) ∧ CR.GW ws ∧ ds.length = ws.length ∧ ds.sum = t ∧
  ∀ H', Same H H' → Q (.int (CR.place ws ds t)) H'
def spTurns : Sp := fun vs H Q _ => ∃ a ws, vs = [.ref a] ∧ H a = some (.lst (List.map V.int ws)) ∧ CR.GW ws ∧ ∀ r H', Same H H' → H r = none → H' r = some (.lst (List.map V.int (CR.wheel ws))) → Q (.ref r) H'
section
variable {P : Program} {w : World} {K : PySem.W.Frag} {mg : Str → Option Value} {base : Heap}
theorem gw_at {ws : List Int} (g : CR.GW ws) {k : Int} (h0 : 0 ≤ k) (h : k < ws.length) : 1 ≤ ws.getD k.toNat 0 ∧ ws.getD k.toNat 0 ≤ 100 := by
  have m : ws.getD k.toNat 0 ∈ ws := by
    rw [List.getD_eq_getElem?_getD, List.getElem?_eq_getElem (by omega)]
    exact List.getElem_mem _
  refine ⟨g.pos _ m, ?_⟩
  have aux : ∀ (l : List Int) (x : Int), (∀ w ∈ l, 1 ≤ w) → x ∈ l → x ≤ l.sum := by
    intro l x
    induction l with
    | nil => intro _ h; cases h
    | cons y l ih =>
      intro hp hx
      have nn : ∀ l : List Int, (∀ w ∈ l, 1 ≤ w) → 0 ≤ l.sum := by
        intro l
        induction l with
        | nil => intro _; exact Int.le_refl 0
        | cons z l ih => intro h; have := h z List.mem_cons_self; have := ih fun w hw => h w (List.mem_cons_of_mem _ hw); rw [List.sum_cons]; omega
      have h1 := hp y List.mem_cons_self
      have hp' : ∀ w ∈ l, 1 ≤ w := fun w hw => hp w (List.mem_cons_of_mem _ hw)
      have h2 := nn l hp'
      rw [List.sum_cons]
      rcases List.mem_cons.mp hx with rfl | hx
      · omega
      · have := ih hp' hx
        omega
  have := aux ws _ g.pos m
  have := g.sum
  omega
theorem sc_are_weights : FnScope ["thing", "weight"] ["thing"] (defScope s_are_weights) := ⟨rfl, rfl, rfl, by decide +kernel, rfl, by decide +kernel, by decide +kernel⟩
theorem ok_are_weights {f : Addr} {fd : FuncData} (F : Fun K "are_weights" "are_weights" s_are_weights f fd) (T : Txt K mg) (Cis_whole : Cal P w K mg base 1 "is_whole" ["thing"] (spWhole K)) : FnOk P w K mg base CX0 2 f fd ["thing"] spWeights := by
  have sc := sc_are_weights
  refine F.ok sc (fun vs H Q E h => ?_) (fun cdv A outer s H vs Q E hr h => ?_)
  · obtain ⟨a, ws, rfl, _⟩ := h
    rfl
  obtain ⟨a, ws, rfl, ha, g, q⟩ := h
  refine ⟨_, (pss_cons (ps_if (pt_not (pt_val (pe_callB call_isinst rfl T.n_isinstance (show bootBuiltins _ = some (.builtin "isinstance") from rfl) (pa_cons (pv 0) (pa_cons (pe_ty "list" rfl T.n_list rfl) pa_nil)))))
        (pss_one (ps_ret pe_bl))
        pss_nil)
      (pss_cons (ps_if (PW.pt (pw_or (pt_cmpR op_lt (pe_callB call_len_seq rfl T.n_len (show bootBuiltins _ = some (.builtin "len") from rfl) (pa_cons (pv 0) pa_nil)) pe_int (nomark _)) (pw_or1 (pt_cmpR op_gt (pe_callB call_len_seq rfl T.n_len (show bootBuiltins _ = some (.builtin "len") from rfl) (pa_cons (pv 0) pa_nil)) (pe_gint T.g_MOST_PLACES rfl) (nomark _)))))
        (pss_one (ps_ret pe_bl))
        pss_nil)
      (pss_cons (ps_for PassesOwn.never rfl (pi_list (pv 0)) (pg_name (i := 1) sc.nd rfl (Or.inl rfl))
        (pss_one (ps_if (PW.pt (pw_or (pt_not (pt_val (pe_callC Cis_whole (hr.mono (by decide)) rfl (pa_cons (pv 1) pa_nil)))) (pw_or1 (pt_cmpR op_lt (pv 1) pe_int (nomark _)))))
        (pss_one (ps_ret pe_bl))
        pss_nil)))
      (pss_one (ps_ret (pe_cmpR op_le (pe_callB (call_sum rfl) rfl T.n_sum (show bootBuiltins _ = some (.builtin "sum") from rfl) (pa_cons (pv 0) pa_nil)) (pe_gint T.g_MOST_TURNS rfl) (nomark _))))))), ?_⟩
  have hl : (List.map V.int ws).length = ws.length := List.length_map _
  have g1 := g.lo
  have g2 := g.hi
  refine ⟨_, rfl, _, _, _, _, _, rfl, ty_is, .lst ha, kit_ll, _, rfl, ?_⟩
  refine iteF ?_
  refine ⟨_, rfl, a, _, rfl, .inl (SqL.of ha), _, _, rfl, rfl, _, rfl, ?_⟩
  refine dF (by rw [hl]; omega) ?_
  refine ⟨_, rfl, a, _, rfl, .inl (SqL.of ha), _, _, rfl, rfl, _, rfl, ?_⟩
  refine dF (by rw [hl]; omega) ?_
  refine ⟨_, rfl, a, rfl, ⟨_, SqL.of ha⟩, for_list (K := K) (a := a) (xs := List.map V.int ws) (fun i σ H2 => (∃ o, σ = [some (.ref a), o]) ∧ H2 = H) ⟨⟨none, rfl⟩, rfl⟩ (fun i σ H2 _ ⟨_, e⟩ => by rw [e]; exact SqL.of ha) ?_ ?_⟩
  · rintro i y σ H2 hi ⟨⟨o, rfl⟩, rfl⟩
    obtain ⟨n, hn, rfl⟩ := item_int hi
    refine ⟨_, rfl, _, _, rfl, .int n, _, rfl, ?_⟩
    refine iteF ?_
    refine ⟨_, rfl, _, _, rfl, rfl, _, rfl, ?_⟩
    have := g.pos n (List.mem_of_getElem? hn)
    refine dF (by omega) ?_
    exact ⟨⟨_, rfl⟩, rfl⟩
  · rintro σ H2 ⟨⟨o, rfl⟩, rfl⟩
    refine ⟨_, rfl, a, ws, rfl, SqL.of ha, _, _, rfl, rfl, ?_⟩
    show Q (.bl (decide (ws.sum ≤ 100))) H2
    rw [decide_eq_true g.sum]
    exact q
theorem sc_may_have : FnScope ["weight", "dealt", "total", "turn"] ["weight", "dealt", "total", "turn"] (defScope s_may_have) := ⟨rfl, rfl, rfl, by decide +kernel, rfl, by decide +kernel, by decide +kernel⟩
theorem ok_may_have {f : Addr} {fd : FuncData} (F : Fun K "may_have" "may_have" s_may_have f fd) (T : Txt K mg) : FnOk P w K mg base CX0 1 f fd ["weight", "dealt", "total", "turn"] spMay := by
  have sc := sc_may_have
  refine F.ok sc (fun vs H Q E h => ?_) (fun cdv A outer s H vs Q E hr h => ?_)
  · obtain ⟨_, _, _, _, rfl, _⟩ := h
    rfl
  obtain ⟨v, d, t0, t, rfl, hw, ht, q⟩ := h
  refine ⟨_, (pss_one (ps_ret (pe_cmpR op_lt (pe_op op_mul (pv 1) (pv 2)) (pe_op op_mul (pv 0) (pe_op op_add (pv 3) pe_int)) (nomark _)))), ?_⟩
  refine ⟨_, rfl, _, rfl, _, _, rfl, rfl, .inr ⟨by omega, by omega⟩, _, rfl, _, rfl, _, _, rfl, rfl, _, _, rfl, rfl, .inl ⟨by omega, by omega⟩, _, _, rfl, rfl, q⟩
theorem sc_due_by : FnScope ["weight", "dealt", "total"] ["weight", "dealt", "total"] (defScope s_due_by) := ⟨rfl, rfl, rfl, by decide +kernel, rfl, by decide +kernel, by decide +kernel⟩
theorem ok_due_by {f : Addr} {fd : FuncData} (F : Fun K "due_by" "due_by" s_due_by f fd) (T : Txt K mg) : FnOk P w K mg base CX0 1 f fd ["weight", "dealt", "total"] spDue := by
  have sc := sc_due_by
  refine F.ok sc (fun vs H Q E h => ?_) (fun cdv A outer s H vs Q E hr h => ?_)
  · obtain ⟨_, _, _, rfl, _⟩ := h
    rfl
  obtain ⟨v, d, t0, rfl, hw, ht, q⟩ := h
  refine ⟨_, (pss_one (ps_ret (pe_op op_fdiv (pe_op op_sub (pe_op op_add (pe_op op_mul (pe_op op_add (pv 1) pe_int) (pv 2)) (pv 0)) pe_int) (pv 0)))), ?_⟩
  refine ⟨_, rfl, _, _, rfl, rfl, _, rfl, _, _, rfl, rfl, .inr ⟨by omega, by omega⟩, _, rfl, _, _, rfl, rfl, _, _, rfl, rfl, _, rfl, _, _, rfl, rfl, ⟨by omega, by omega⟩, q⟩
theorem sc_place_of_turn : FnScope ["weights", "dealt", "turn", "total", "places", "best", "place"] ["weights", "dealt", "turn"] (defScope s_place_of_turn) := ⟨rfl, rfl, rfl, by decide +kernel, rfl, by decide +kernel, by decide +kernel⟩
theorem ok_place_of_turn {f : Addr} {fd : FuncData} (F : Fun K "place_of_turn" "place_of_turn" s_place_of_turn f fd) (T : Txt K mg) (Cmay_have : Cal P w K mg base 1 "may_have" ["weight", "dealt", "total", "turn"] spMay) (Cdue_by : Cal P w K mg base 1 "due_by" ["weight", "dealt", "total"] spDue) :
    FnOk P w K mg base CX0 2 f fd ["weights", "dealt", "turn"] spPlace := by
  have sc := sc_place_of_turn
  refine F.ok sc (fun vs H Q E h => ?_) (fun cdv A outer s H vs Q E hr h => ?_)
  · obtain ⟨_, _, _, _, _, rfl, _⟩ := h
    rfl
  obtain ⟨a, b, ws, ds, t, rfl, ha, hb, g, hlen, hsum, q⟩ := h
  refine ⟨_, (pss_cons (ps_set (i := 3) sc.nd rfl (Or.inr rfl) (pe_callB (call_sum rfl) rfl T.n_sum (show bootBuiltins _ = some (.builtin "sum") from rfl) (pa_cons (pv 0) pa_nil)))
      (pss_cons (ps_comp (NC := ["k", "total", "turn", "weights", "dealt"]) (own := ["k"]) (cs := ["total", "turn", "weights", "dealt"]) (ix := [3, 2, 0, 1]) (j := 4) sc.nd rfl rfl rfl (CompScope.of rfl) rfl ⟨⟨rfl, .inl rfl, rfl⟩, ⟨⟨rfl, .inl rfl, rfl⟩, ⟨⟨rfl, .inl rfl, rfl⟩, ⟨⟨rfl, .inl rfl, rfl⟩, trivial⟩⟩⟩⟩ (pi_range1 rfl T.n_range (pa_cons (pe_callB call_len_seq rfl T.n_len (show bootBuiltins _ = some (.builtin "len") from rfl) (pa_cons (pv 0) pa_nil)) pa_nil)) (fun _ _ _ => (pg_name (i := 0) (show (["k", "total", "turn", "weights", "dealt"] : List Str).Nodup from by decide +kernel) rfl (Or.inl rfl))) (fun _ _ _ => (pts_one (pt_val (pe_callC Cmay_have (hr.mono (by decide)) rfl (pa_cons (pe_ix (ix_listK (K := K) rfl) (pv 3) (pv 0) (fun _ _ => rfl)) (pa_cons (pe_ix (ix_listK (K := K) rfl) (pv 4) (pv 0) (fun _ _ => rfl)) (pa_cons (pv 1) (pa_cons (pv 2) pa_nil)))))))) (fun _ _ _ => (pv 0)))
      (pss_cons (ps_set (i := 5) sc.nd rfl (Or.inl rfl) (pe_ix ix_list (pv 4) pe_int (fun _ _ => rfl)))
      (pss_cons (ps_for PassesOwn.never rfl (pi_list (pv 4)) (pg_name (i := 6) sc.nd rfl (Or.inl rfl))
        (pss_one (ps_if (pt_cmpR op_lt (pe_callC Cdue_by (hr.mono (by decide)) rfl (pa_cons (pe_ix ix_list (pv 0) (pv 6) (fun _ _ => rfl)) (pa_cons (pe_ix ix_list (pv 1) (pv 6) (fun _ _ => rfl)) (pa_cons (pv 3) pa_nil)))) (pe_callC Cdue_by (hr.mono (by decide)) rfl (pa_cons (pe_ix ix_list (pv 0) (pv 5) (fun _ _ => rfl)) (pa_cons (pe_ix ix_list (pv 1) (pv 5) (fun _ _ => rfl)) (pa_cons (pv 3) pa_nil)))) (nomark _))
        (pss_one (ps_set (i := 5) sc.nd rfl (Or.inl rfl) (pv 6)))
        pss_nil)))
      (pss_one (ps_ret (pv 5))))))), ?_⟩
  have hl : (List.map V.int ws).length = ws.length := List.length_map _
  have g1 := g.lo
  have g2 := g.hi
  have gs := g.sum
  have gp := CR.sum_pos g
  -- total = sum(weights)
  refine ⟨_, rfl, a, ws, rfl, SqL.of ha, ?_⟩
  -- places = [k for k in range(len(weights)) if may_have(..)]
  refine ⟨_, rfl, a, _, rfl, .inl (SqL.of ha), _, rfl, by omega, by omega, fun p hp => ?_⟩
  have ep : ((List.map V.int ws).length : Int).toNat = ws.length := by rw [hl]; omega
  rw [ep]
  refine comp_range (lo := 0) (n := ws.length) (fun i ys H2 => ys = (CR.placesTo ws ds t i).map V.int ∧ H2 p = some (.lst ys) ∧ Same H H2) ⟨rfl, upd_same, same_new hp _⟩ (fun i ys H2 _ ⟨e, h1, _⟩ => ⟨h1, by rw [e, List.length_map]; exact CR.placesTo_le _ _ _ _⟩) (by rw [sizeLine_eq]; omega) (fun i ys H2 hi ⟨e, h1, s1⟩ => ?_) (fun ys H2 ⟨e, h1, s1⟩ => ?_)
  · have hw := gw_at g (k := 0 + (i : Int)) (by omega) (by omega)
    refine ⟨_, rfl, _, rfl, a, _, _, _, rfl, rfl, SqL.of (s1 _ _ ha), at_intI (by omega) (by omega), _, rfl, _, rfl, b, _, _, _, rfl, rfl, SqL.of (s1 _ _ hb), at_intI (by omega) (by omega), _, rfl, _, rfl, _, _, _, _, rfl, ⟨by omega, by omega⟩, ⟨by omega, by omega⟩, _, rfl, ?_⟩
    have em : decide (ds.getD (0 + (i : Int)).toNat 0 * ws.sum < ws.getD (0 + (i : Int)).toNat 0 * ((t : Int) + 1)) = CR.may ws ds t i := by
      rw [show (0 + (i : Int)) = (i : Int) by omega]
      rfl
    rw [em]
    have es := CR.placesTo_succ ws ds t i
    cases c : CR.may ws ds t i with
    | false =>
      rw [c] at es
      refine iteF ⟨rfl, ?_, h1, s1⟩
      rw [es, e]
      simp
    | true =>
      rw [c] at es
      refine iteT ⟨_, rfl, h1, rfl, ?_, upd_same, fun x o z => ?_⟩
      · rw [es, e]
        simp
      · rw [upd_ne (ne_of_none z hp)]
        exact s1 x o z
  subst e
  have hpl : CR.placesTo ws ds t ws.length = CR.places ws ds t := rfl
  rw [hpl] at h1
  have hne := CR.places_ne (t := t) g hlen hsum
  -- best = places[0]
  have hd0 : atI ((CR.places ws ds t).map V.int) 0 = some (.int ((CR.places ws ds t).headD 0)) := by
    cases z : CR.places ws ds t with
    | nil => exact absurd z hne
    | cons x l => exact at_int (i := 0) rfl
  refine ⟨_, rfl, p, _, _, _, rfl, rfl, SqL.of h1, hd0, ?_⟩
  -- for place in places
  have inr : ∀ k : Int, k ∈ CR.places ws ds t → 0 ≤ k ∧ k < ws.length := fun k hk => ⟨(CR.placesTo_mem hk).1, (CR.placesTo_mem hk).2.1⟩
  refine ⟨_, rfl, p, rfl, ⟨_, SqL.of h1⟩, for_list (K := K) (a := p) (xs := (CR.places ws ds t).map V.int)
    (fun i σ H3 => (∃ o, ∃ best : Int, σ = [some (.ref a), some (.ref b), some (.int t), some (.int ws.sum), some (.ref p), some (.int best), o] ∧ best = CR.pick (CR.due ws ds) ((CR.places ws ds t).headD 0) ((CR.places ws ds t).take i) ∧ 0 ≤ best ∧ best < ws.length) ∧ H3 = H2)
    ⟨⟨none, _, rfl, rfl, ?_⟩, rfl⟩ (fun i σ H3 _ ⟨_, z⟩ => by rw [z]; exact SqL.of h1) ?_ ?_⟩
  · cases z : CR.places ws ds t with
    | nil => exact absurd z hne
    | cons x l => exact inr x (by rw [z]; exact List.mem_cons_self)
  · rintro i y σ H3 hi ⟨⟨o, best, rfl, eb, b0, b1⟩, rfl⟩
    obtain ⟨n, hn, rfl⟩ := item_int hi
    have hnm := inr n (List.mem_of_getElem? hn)
    have w1 := gw_at g hnm.1 hnm.2
    have w2 := gw_at g b0 b1
    refine ⟨_, rfl, _, rfl, a, _, _, _, rfl, rfl, SqL.of (s1 _ _ ha), at_intI hnm.1 hnm.2, _, rfl, _, rfl, b, _, _, _, rfl, rfl, SqL.of (s1 _ _ hb), at_intI hnm.1 (by omega), _, rfl, _, _, _, rfl, w1, ⟨by omega, by omega⟩, ?_⟩
    refine ⟨_, rfl, _, rfl, a, _, _, _, rfl, rfl, SqL.of (s1 _ _ ha), at_intI b0 b1, _, rfl, _, rfl, b, _, _, _, rfl, rfl, SqL.of (s1 _ _ hb), at_intI b0 (by omega), _, rfl, _, _, _, rfl, w2, ⟨by omega, by omega⟩, _, _, rfl, rfl, _, rfl, ?_⟩
    have et : (CR.places ws ds t).take (i + 1) = (CR.places ws ds t).take i ++ [n] := by rw [List.take_add_one, hn]; rfl
    have ef : CR.pick (CR.due ws ds) ((CR.places ws ds t).headD 0) ((CR.places ws ds t).take (i + 1)) = if CR.due ws ds n < CR.due ws ds best then n else best := by
      rw [et, eb]
      unfold CR.pick
      rw [List.foldl_append]
      rfl
    refine ite2 (fun c => ?_) (fun c => ?_)
    · have c' : CR.due ws ds n < CR.due ws ds best := of_decide_eq_true c
      refine ⟨_, rfl, ⟨⟨_, n, rfl, ?_, hnm⟩, rfl⟩⟩
      rw [ef, if_pos c']
    · have c' : ¬ CR.due ws ds n < CR.due ws ds best := of_decide_eq_false (Bool.eq_false_iff.mpr c)
      refine ⟨⟨_, best, rfl, ?_, b0, b1⟩, rfl⟩
      rw [ef, if_neg c']
  · rintro σ H3 ⟨⟨o, best, rfl, eb, b0, b1⟩, rfl⟩
    refine ⟨_, rfl, ?_⟩
    rw [List.length_map, List.take_length] at eb
    rw [eb]
    exact q _ s1
theorem sc_turns : FnScope ["weights", "dealt", "wheel", "turn", "place"] ["weights"] (defScope s_turns) := ⟨rfl, rfl, rfl, by decide +kernel, rfl, by decide +kernel, by decide +kernel⟩
theorem ok_turns {f : Addr} {fd : FuncData} (F : Fun K "turns" "turns" s_turns f fd) (T : Txt K mg) (Care_weights : Cal P w K mg base 2 "are_weights" ["thing"] spWeights) (Cplace_of_turn : Cal P w K mg base 2 "place_of_turn" ["weights", "dealt", "turn"] spPlace) :
    FnOk P w K mg base CX0 3 f fd ["weights"] spTurns := by
  have sc := sc_turns
  refine F.ok sc (fun vs H Q E h => ?_) (fun cdv A outer s H vs Q E hr h => ?_)
  · obtain ⟨_, _, rfl, _⟩ := h
    rfl
  obtain ⟨a, ws, rfl, ha, g, q⟩ := h
  refine ⟨_, (pss_cons (ps_if (pt_not (pt_val (pe_callC Care_weights (hr.mono (by decide)) rfl (pa_cons (pv 0) pa_nil))))
        (pss_one ps_never)
        pss_nil)
      (pss_cons (ps_comp (NC := ["weight"]) (own := ["weight"]) (cs := []) (ix := []) (j := 1) sc.nd rfl rfl rfl (CompScope.of rfl) rfl trivial (pi_list (pv 0)) (fun _ _ _ => (pg_name (i := 0) (show (["weight"] : List Str).Nodup from by decide +kernel) rfl (Or.inl rfl))) (fun _ _ _ => pts_nil) (fun _ _ _ => pe_int))
      (pss_cons (ps_set (i := 2) sc.nd rfl (Or.inl rfl) (pe_lst pa_nil))
      (pss_cons (ps_for PassesOwn.never rfl (pi_range1 rfl T.n_range (pa_cons (pe_callB (call_sum rfl) rfl T.n_sum (show bootBuiltins _ = some (.builtin "sum") from rfl) (pa_cons (pv 0) pa_nil)) pa_nil)) (pg_name (i := 3) sc.nd rfl (Or.inl rfl))
        (pss_cons (ps_set (i := 4) sc.nd rfl (Or.inl rfl) (pe_callC Cplace_of_turn (hr.mono (by decide)) rfl (pa_cons (pv 0) (pa_cons (pv 1) (pa_cons (pv 3) pa_nil)))))
      (pss_cons (ps_asg (pe_op op_add (pe_ix ix_list (pv 1) (pv 4) (fun _ _ => rfl)) pe_int) (pg_sub (pv 1) (pv 4) set_list))
      (pss_one (ps_expr (pe_bm PySem.F.plainAttrs_list PySem.F.slot_list_append PySem.F.type_list_append mt_append (pv 2) (pa_cons (pv 4) pa_nil)))))))
      (pss_one (ps_ret (pv 2))))))), ?_⟩
  have hl : (List.map V.int ws).length = ws.length := List.length_map _
  have g1 := g.lo
  have g2 := g.hi
  have gs := g.sum
  have gp := CR.sum_pos g
  refine ⟨_, rfl, a, ws, rfl, ha, g, _, rfl, ?_⟩
  refine iteF ?_
  -- dealt = [0 for weight in weights]
  refine ⟨_, rfl, a, rfl, ⟨_, SqL.of ha⟩, fun b hb => ?_⟩
  refine comp_list (K := K) (a := a) (xs := List.map V.int ws) (fun i ys H2 => ys = (List.replicate i (0 : Int)).map V.int ∧ H2 b = some (.lst ys) ∧ Same H H2) ⟨rfl, upd_same, same_new hb _⟩
    (fun i ys H2 _ ⟨e, h1, s1⟩ => ⟨h1, by rw [e, List.length_map, List.length_replicate]; exact Nat.le_refl _, SqL.of (s1 _ _ ha)⟩) (by rw [hl, sizeLine_eq]; omega) (fun i x ys H2 hi ⟨e, h1, s1⟩ => ?_) (fun ys H2 ⟨e, h1, s1⟩ => ?_)
  · show H2 b = some (.lst ys) ∧ _ ∧ _
    refine ⟨h1, rfl, ?_, upd_same, fun x o z => ?_⟩
    · rw [e, List.replicate_succ', List.map_append]
      rfl
    · rw [upd_ne (ne_of_none z hb)]
      exact s1 x o z
  subst e
  rw [hl] at h1
  -- wheel = []
  refine ⟨Nat.zero_le _, fun r hr' => ?_⟩
  have s2 : Same H2 (upd H2 r (.lst [])) := same_new hr' _
  have hab : a ≠ b := ne_of_none ha hb
  have har : a ≠ r := ne_of_none (s1 _ _ ha) hr'
  have hbr : b ≠ r := ne_of_none h1 hr'
  have hrH : H r = none := s1.free hr'
  -- for turn in range(sum(weights))
  refine ⟨_, rfl, a, ws, rfl, SqL.of (s2 _ _ (s1 _ _ ha)), _, rfl, by omega, by omega, for_range (lo := 0) (n := ws.sum.toNat)
    (fun i σ H3 => (∃ o1 o2, σ = [some (.ref a), some (.ref b), some (.ref r), o1, o2]) ∧ H3 b = some (.lst ((CR.run ws i).1.map V.int)) ∧ H3 r = some (.lst ((CR.run ws i).2.map V.int)) ∧ Same H H3)
    ⟨⟨none, none, rfl⟩, s2 _ _ h1, upd_same, s1.trans s2⟩ ?_ ?_⟩
  · rintro i σ H3 hi ⟨⟨o1, o2, rfl⟩, hb3, hr3, s3⟩
    have A0 := CR.run_at g i
    have hpl := CR.place_in (t := i) g A0.len A0.sum
    have ei : (0 + (i : Int)) = (i : Int) := by omega
    rw [ei]
    -- place = place_of_turn(weights, dealt, turn)
    refine ⟨_, rfl, _, rfl, _, rfl, a, b, ws, _, i, rfl, s3 _ _ ha, hb3, g, A0.len, A0.sum, fun H4 s4 => ?_⟩
    -- dealt[place] = dealt[place] + 1
    have lenb : ((CR.run ws i).1.map V.int).length = ws.length := by rw [List.length_map, A0.len]
    refine ⟨_, rfl, _, rfl, b, _, _, _, rfl, rfl, SqL.of (s4 _ _ hb3), at_intI hpl.1 (by rw [A0.len]; exact hpl.2.1), _, _, rfl, rfl, ?_⟩
    refine ⟨_, rfl, _, rfl, b, _, _, (CR.place ws (CR.run ws i).1 i).toNat, rfl, rfl, s4 _ _ hb3, ?_, ?_⟩
    · rw [lenb]
      exact ix_of hpl.1 hpl.2.1
    -- wheel.append(place)
    have hr5 : upd H4 b (.lst (((CR.run ws i).1.map V.int).set (CR.place ws (CR.run ws i).1 i).toNat (.int ((CR.run ws i).1.getD (CR.place ws (CR.run ws i).1 i).toNat 0 + 1)))) r = some (.lst ((CR.run ws i).2.map V.int)) := by
      rw [upd_ne hbr.symm]
      exact s4 _ _ hr3
    refine ⟨_, rfl, .inl ⟨rfl, _, SqL.of hr5⟩, _, rfl, r, _, _, rfl, rfl, hr5, ?_, ?_⟩
    · rw [List.length_map, A0.row, sizeLine_eq]
      omega
    refine ⟨⟨_, _, rfl⟩, ?_, ?_, fun x o z => ?_⟩
    · rw [upd_ne hbr, upd_same]
      congr 2
      show _ = (CR.put _ _).map V.int
      unfold CR.put
      rw [List.map_set]
      rfl
    · rw [upd_same]
      congr 2
      show _ = ((CR.run ws i).2 ++ [_]).map V.int
      rw [List.map_append]
      rfl
    · rw [upd_ne (ne_of_none z hrH), upd_ne (ne_of_none z hb)]
      exact s4 _ _ (s3 x o z)
  · rintro σ H3 ⟨⟨o1, o2, rfl⟩, hb3, hr3, s3⟩
    exact ⟨_, rfl, q r H3 s3 hrH hr3⟩
end


/-! ### the class Deal -/
def fldsD (wh wt : Addr) : List (Str × V) := putF "weights" (.ref wt) (putF "wheel" (.ref wh) [])
theorem ww : ¬ (("wheel" : Str) = "weights") := by decide +kernel
theorem fldsD_wheel (wh wt : Addr) : (fldsD wh wt).lookup ("wheel" : Str) = some (.ref wh) := by
  unfold fldsD
  rw [lookup_putF, if_neg ww, lookup_putF, if_pos rfl]
theorem fldsD_weights (wh wt : Addr) : (fldsD wh wt).lookup ("weights" : Str) = some (.ref wt) := by
  unfold fldsD
  rw [lookup_putF, if_pos rfl]
theorem fldsD_no (wh wt : Addr) {m : Str} (h1 : ¬ m = "weights") (h2 : ¬ m = "wheel") : (fldsD wh wt).lookup m = none := by
  unfold fldsD
  rw [lookup_putF, if_neg h1, lookup_putF, if_neg h2]
  all_goals rfl
structure DealAt (C : Addr) (H : Hp) (d wh wt : Addr) (ws : List Int) : Prop where
  ob : ∃ dx, H d = some (.ins C dx (fldsD wh wt))
  hw : H wh = some (.lst (List.map V.int (CR.wheel ws)))
  ht : H wt = some (.lst (List.map V.int ws))
theorem DealAt.same {C : Addr} {H H' : Hp} {d wh wt : Addr} {ws : List Int} (D : DealAt C H d wh wt ws) (s : Same H H') : DealAt C H' d wh wt ws := by
  obtain ⟨⟨dx, h1⟩, h2, h3⟩ := D
  exact ⟨⟨dx, s _ _ h1⟩, s _ _ h2, s _ _ h3⟩
structure Dl (K : PySem.W.Frag) (C : Addr) : Prop where
  cl : Cls K C
  nW : NoAttr K C "wheel"
  nG : NoAttr K C "weights"
def spInit (C : Addr) : Sp := fun vs H Q _ => ∃ p dx a ws, vs = [.ref p, .ref a] ∧ H p = some (.ins C dx []) ∧ H a = some (.lst (List.map V.int ws)) ∧ CR.GW ws ∧
  ∀ wh wt H', (∀ b o, H b = some o → b ≠ p → H' b = some o) → DealAt C H' p wh wt ws → H wh = none → H wt = none → Q .non H'
def spCounts (C : Addr) : Sp := fun vs H Q _ => ∃ d wh wt ws, ∃ n : Int, vs = [.ref d, .int n] ∧ DealAt C H d wh wt ws ∧ CR.GW ws ∧ ∀ r H', Same H H' → H r = none → H' r = some (.lst (List.map V.int (CR.cnt ws n))) → Q (.ref r) H'
theorem made_none {H : Hp} {x dx b : Addr} {o o' : HO} (h : upd (upd H dx o) x o' b = none) : H b = none := by
  by_cases e : b = x
  · subst e
    rw [upd_same] at h
    cases h
  · rw [upd_ne e] at h
    by_cases e' : b = dx
    · subst e'
      rw [upd_same] at h
      cases h
    · rw [upd_ne e'] at h
      exact h
section
variable {P : Program} {w : World} {K : PySem.W.Frag} {mg : Str → Option Value} {base : Heap}
theorem sc_Deal___init__ : FnScope ["self", "weights"] ["self", "weights"] (defScope s_Deal___init__) := ⟨rfl, rfl, rfl, by decide +kernel, rfl, by decide +kernel, by decide +kernel⟩
theorem ok_Deal___init__ {f C : Addr} {fd : FuncData} (F : Fun K "__init__" "Deal.__init__" s_Deal___init__ f fd) (T : Txt K mg) (L : Dl K C) (Cturns : Cal P w K mg base 3 "turns" ["weights"] spTurns) : FnOk P w K mg base CX0 4 f fd ["self", "weights"] (spInit C) := by
  have sc := sc_Deal___init__
  refine F.ok sc (fun vs H Q E h => ?_) (fun cdv A outer s H vs Q E hr h => ?_)
  · obtain ⟨_, _, _, _, rfl, _⟩ := h
    rfl
  obtain ⟨p, dx, a, ws, rfl, hp, ha, g, q⟩ := h
  refine ⟨_, (pss_cons (ps_fld (pv 0) (pe_callC Cturns (hr.mono (by decide)) rfl (pa_cons (pv 1) pa_nil)) rfl)
      (pss_one (ps_fld (pv 0) (pe_callTy call_list_of rfl T.n_list (show bootBuiltins _ = some (.type "list") from rfl) (pa_cons (pv 1) pa_nil)) rfl))), ?_⟩
  have hpa : a ≠ p := ne_of ha hp (by intro z; cases z)
  refine ⟨_, rfl, a, ws, rfl, ha, g, fun wh H1 s1 hwn h1 => ?_⟩
  refine ⟨_, rfl, p, C, dx, [], rfl, s1 _ _ hp, L.cl, L.nW, (by show 0 < 1000; decide), ?_⟩
  have hwp : wh ≠ p := (ne_of_none hp hwn).symm
  have ha2 : upd H1 p (.ins C dx (putF "wheel" (.ref wh) [])) a = some (.lst (List.map V.int ws)) := by rw [upd_ne hpa]; exact s1 _ _ ha
  refine ⟨_, rfl, a, _, rfl, .inl (SqL.of ha2), fun wt hwt => ?_⟩
  have hpt : p ≠ wt := fun z => by rw [← z, upd_same] at hwt; cases hwt
  have hwt1 : H1 wt = none := by rw [upd_ne hpt.symm] at hwt; exact hwt
  refine ⟨_, rfl, p, C, dx, _, rfl, (by rw [upd_ne hpt, upd_same]), L.cl, L.nG, (by show 1 < 1000; decide), ?_⟩
  refine q wh wt _ (fun b o e hb => ?_) ⟨⟨dx, upd_same⟩, ?_, ?_⟩ ?_ ?_
  · rw [upd_ne hb, upd_ne (ne_of_none (s1 _ _ e) hwt1), upd_ne hb]
    exact s1 _ _ e
  · rw [upd_ne hwp, upd_ne (ne_of_none h1 hwt1), upd_ne hwp]
    exact h1
  · rw [upd_ne hpt.symm, upd_same]
  · exact hwn
  · exact s1.free hwt1
end


theorem made_same {C : Addr} {H H2 : Hp} {x dx : Addr} (nx : H x = none) (ndx : H dx = none) (kp : ∀ b o, (upd (upd H dx (.own x)) x (.ins C dx [])) b = some o → b ≠ x → H2 b = some o) : Same H H2 := fun b o e =>
  kp b o (by rw [upd_ne (ne_of_none e nx), upd_ne (ne_of_none e ndx)]; exact e) (ne_of_none e nx)
theorem no_counts (wh wt : Addr) : (fldsD wh wt).lookup ("counts_to" : Str) = none := fldsD_no _ _ (by decide +kernel) (by decide +kernel)
theorem no_between (wh wt : Addr) : (fldsD wh wt).lookup ("between" : Str) = none := fldsD_no _ _ (by decide +kernel) (by decide +kernel)
def spBetween (C : Addr) : Sp := fun vs H Q _ => ∃ d wh wt ws, ∃ n m : Int, vs = [.ref d, .int n, .int m] ∧ DealAt C H d wh wt ws ∧ CR.GW ws ∧ ∀ r H', Same H H' → H r = none → H' r = some (.lst (List.map V.int (CR.btw ws n m))) → Q (.ref r) H'
theorem at_nat {ns : List Int} {k : Nat} (h : k < ns.length) : atI (List.map V.int ns) (0 + (k : Int)) = some (.int (CR.at0 ns k)) := by
  have q := at_intI (ns := ns) (i := 0 + (k : Int)) (by omega) (by omega)
  rw [q]
  show some (V.int (ns.getD (0 + (k : Int)).toNat 0)) = some (V.int (ns.getD (k : Int).toNat 0))
  rw [show (0 + (k : Int)) = (k : Int) by omega]
section
variable {P : Program} {w : World} {K : PySem.W.Frag} {mg : Str → Option Value} {base : Heap}
theorem sc_Deal_counts_to : FnScope ["self", "n", "rounds", "begun"] ["self", "n"] (defScope s_Deal_counts_to) := ⟨rfl, rfl, rfl, by decide +kernel, rfl, by decide +kernel, by decide +kernel⟩
theorem ok_Deal_counts_to {f C : Addr} {fd : FuncData} (F : Fun K "counts_to" "Deal.counts_to" s_Deal_counts_to f fd) (T : Txt K mg) (L : Dl K C) : FnOk P w K mg base CX0 1 f fd ["self", "n"] (spCounts C) := by
  have sc := sc_Deal_counts_to
  refine F.ok sc (fun vs H Q E h => ?_) (fun cdv A outer s H vs Q E hr h => ?_)
  · obtain ⟨_, _, _, _, _, rfl, _⟩ := h
    rfl
  obtain ⟨d, wh, wt, ws, n, rfl, ⟨⟨dx, h1⟩, h2, h3⟩, g, q⟩ := h
  refine ⟨_, (pss_cons (ps_set (i := 2) sc.nd rfl (Or.inr rfl) (pe_op op_fdiv (pv 1) (pe_callB call_len_seq rfl T.n_len (show bootBuiltins _ = some (.builtin "len") from rfl) (pa_cons (pe_fld (pv 0) rfl) pa_nil))))
      (pss_cons (ps_set (i := 3) sc.nd rfl (Or.inr rfl) (pe_slice sl_list (pe_fld (pv 0) rfl) po_none (po_some (pe_op op_mod (pv 1) (pe_callB call_len_seq rfl T.n_len (show bootBuiltins _ = some (.builtin "len") from rfl) (pa_cons (pe_fld (pv 0) rfl) pa_nil))))))
      (pss_one (ps_ret (pe_comp (NC := ["place", "weight", "rounds", "begun"]) (own := ["place", "weight"]) (cs := ["rounds", "begun"]) (ix := [2, 3]) rfl (CompScope.of rfl) rfl ⟨⟨rfl, .inl rfl, rfl⟩, ⟨⟨rfl, .inl rfl, rfl⟩, trivial⟩⟩ (pi_enum rfl T.n_enumerate (pa_cons (pe_fld (pv 0) rfl) pa_nil)) (fun _ _ _ => (pg_tupK (K := K) (n := 2) rfl rfl (pgs_cons (pg_name (i := 0) (show (["place", "weight", "rounds", "begun"] : List Str).Nodup from by decide +kernel) rfl (Or.inl rfl)) (pgs_cons (pg_name (i := 1) (show (["place", "weight", "rounds", "begun"] : List Str).Nodup from by decide +kernel) rfl (Or.inl rfl)) pgs_nil)))) (fun _ _ _ => pts_nil) (fun _ _ _ => (pe_op op_add (pe_op op_mul (pv 2) (pv 1)) (pe_bmK (K := K) rfl PySem.F.plainAttrs_list PySem.F.slot_list_count PySem.F.type_list_count (mt_countK (K := K) rfl) (pv 3) (pa_cons (pv 0) pa_nil))))))))), ?_⟩
  have gp := CR.sum_pos g
  have gs := g.sum
  have g2 := g.hi
  have wl := CR.wheel_len g
  have hl : ((List.map V.int (CR.wheel ws)).length : Int) = ws.sum := by rw [List.length_map, wl]; omega
  have e0 : 0 ≤ n % ws.sum := Int.emod_nonneg _ (by omega)
  have e1 : n % ws.sum < ws.sum := Int.emod_lt_of_pos _ (by omega)
  -- rounds = n // len(self.wheel)
  refine ⟨_, rfl, _, rfl, d, C, dx, _, _, rfl, h1, L.cl, L.nW, fldsD_wheel _ _, wh, _, rfl, .inl (SqL.of h2), _, _, rfl, rfl, ⟨by omega, by omega⟩, ?_⟩
  -- begun = self.wheel[:n % len(self.wheel)]
  refine ⟨_, rfl, d, C, dx, _, _, rfl, h1, L.cl, L.nW, fldsD_wheel _ _, _, rfl, _, rfl, d, C, dx, _, _, rfl, h1, L.cl, L.nW, fldsD_wheel _ _, wh, _, rfl, .inl (SqL.of h2), _, _, rfl, rfl, by omega, _, rfl, wh, _, rfl, SqL.of h2, fun bg hbg => ?_⟩
  have ecut : cutV (List.map V.int (CR.wheel ws)) none (some (n % ((List.map V.int (CR.wheel ws)).length : Int))) = List.map V.int ((CR.wheel ws).take (n % ws.sum).toNat) := by
    rw [hl]
    unfold cutV
    have hs : HT.sIx (List.map V.int (CR.wheel ws)).length (List.map V.int (CR.wheel ws)).length (some (n % ws.sum)) = (n % ws.sum).toNat := by
      show (if n % ws.sum < 0 then _ else _) = _
      rw [if_neg (by omega)]
      omega
    have h0 : HT.sIx (List.map V.int (CR.wheel ws)).length 0 none = 0 := rfl
    rw [hs, h0, List.drop_zero, Nat.sub_zero, List.map_take]
  have hb : upd H bg (.lst (cutV (List.map V.int (CR.wheel ws)) none (some (n % ((List.map V.int (CR.wheel ws)).length : Int))))) bg = some (.lst (List.map V.int ((CR.wheel ws).take (n % ws.sum).toNat))) := by rw [upd_same, ecut]
  have s1 := same_new hbg (.lst (cutV (List.map V.int (CR.wheel ws)) none (some (n % ((List.map V.int (CR.wheel ws)).length : Int)))))
  generalize upd H bg (.lst (cutV (List.map V.int (CR.wheel ws)) none (some (n % ((List.map V.int (CR.wheel ws)).length : Int))))) = H1 at hb s1
  -- [rounds * weight + begun.count(place) for place, weight in enumerate(self.weights)]
  refine ⟨_, rfl, d, C, dx, _, _, rfl, s1 _ _ h1, L.cl, L.nG, fldsD_weights _ _, wt, rfl, ⟨_, SqL.of (s1 _ _ h3)⟩, fun p hp => ?_⟩
  have hlw : (List.map V.int ws).length = ws.length := List.length_map _
  refine comp_enum (K := K) (a := wt) (xs := List.map V.int ws) (fun i ys H2 => ys = ((List.range i).map fun k : Nat => n / ws.sum * CR.at0 ws k + (((CR.wheel ws).take (n % ws.sum).toNat).count (k : Int) : Nat)).map V.int ∧ H2 p = some (.lst ys) ∧ Same H1 H2)
    ⟨rfl, upd_same, same_new hp _⟩ (fun i ys H2 _ ⟨e, x1, x2⟩ => ⟨x1, by rw [e, List.length_map, List.length_map, List.length_range]; exact Nat.le_refl _, SqL.of (x2 _ _ (s1 _ _ h3))⟩) (by rw [hlw, sizeLine_eq]; omega) (fun i x ys H2 t hi ⟨e, x1, x2⟩ ht => ?_) (fun ys H2 ⟨e, x1, x2⟩ => ?_)
  · obtain ⟨wv, hwv, rfl⟩ := item_int hi
    have hil : i < ws.length := (List.getElem?_eq_some_iff.mp hwv).1
    have hw := gw_at g (k := (i : Int)) (by omega) (by omega)
    have ew : ws.getD (i : Int).toNat 0 = wv := by rw [List.getD_eq_getElem?_getD, show (i : Int).toNat = i from rfl, hwv]; rfl
    rw [ew] at hw
    have s2 := same_new ht (.tup [.int i, .int wv])
    have hb2 := s2 _ _ (x2 _ _ hb)
    refine ⟨_, rfl, _, rfl, _, _, rfl, rfl, .inr ⟨by omega, by omega⟩, ?_⟩
    refine ⟨_, rfl, .inl ⟨rfl, _, SqL.of hb2⟩, _, rfl, bg, _, _, rfl, rfl, SqL.of hb2, rfl, flat_ints _, _, _, rfl, rfl, s2 _ _ x1, rfl, ?_, upd_same, fun x o z => ?_⟩
    · rw [e, List.range_succ, List.map_append, List.map_append, countP_int]
      have ez : CR.at0 ws i = wv := ew
      show _ = _ ++ [V.int (n / ws.sum * CR.at0 ws i + _)]
      rw [ez]
      show _ ++ [V.int (n / ((List.map V.int (CR.wheel ws)).length : Int) * wv + _)] = _
      rw [hl]
    · rw [upd_ne (ne_of_none z hp)]
      exact s2 _ _ (x2 _ _ z)
  · rw [hlw] at e
    refine q p H2 (s1.trans x2) (s1.free hp) ?_
    rw [x1, e]
    rfl
theorem sc_Deal_between : FnScope ["self", "n", "m", "ahead", "upto"] ["self", "n", "m"] (defScope s_Deal_between) := ⟨rfl, rfl, rfl, by decide +kernel, rfl, by decide +kernel, by decide +kernel⟩
theorem ok_Deal_between {f C : Addr} {fd : FuncData} (F : Fun K "between" "Deal.between" s_Deal_between f fd) (T : Txt K mg) (L : Dl K C) (Mcounts_to : MCal P w K mg base 1 C "counts_to" ["self", "n"] (spCounts C)) : FnOk P w K mg base CX0 2 f fd ["self", "n", "m"] (spBetween C) := by
  have sc := sc_Deal_between
  refine F.ok sc (fun vs H Q E h => ?_) (fun cdv A outer s H vs Q E hr h => ?_)
  · obtain ⟨_, _, _, _, _, _, rfl, _⟩ := h
    rfl
  obtain ⟨d, wh, wt, ws, n, m, rfl, DD, g, q⟩ := h
  refine ⟨_, (pss_cons (ps_set (i := 3) sc.nd rfl (Or.inr rfl) (pe_methC Mcounts_to (hr.mono (by decide)) (pv 0) (pa_cons (pv 1) pa_nil)))
      (pss_cons (ps_set (i := 4) sc.nd rfl (Or.inr rfl) (pe_methC Mcounts_to (hr.mono (by decide)) (pv 0) (pa_cons (pv 2) pa_nil)))
      (pss_one (ps_ret (pe_comp (NC := ["place", "upto", "ahead"]) (own := ["place"]) (cs := ["upto", "ahead"]) (ix := [4, 3]) rfl (CompScope.of rfl) rfl ⟨⟨rfl, .inl rfl, rfl⟩, ⟨⟨rfl, .inl rfl, rfl⟩, trivial⟩⟩ (pi_range1 rfl T.n_range (pa_cons (pe_callB call_len_seq rfl T.n_len (show bootBuiltins _ = some (.builtin "len") from rfl) (pa_cons (pv 4) pa_nil)) pa_nil)) (fun _ _ _ => (pg_name (i := 0) (show (["place", "upto", "ahead"] : List Str).Nodup from by decide +kernel) rfl (Or.inl rfl))) (fun _ _ _ => pts_nil) (fun _ _ _ => (pe_op op_sub (pe_ix (ix_listK (K := K) rfl) (pv 1) (pv 0) (fun _ _ => rfl)) (pe_ix (ix_listK (K := K) rfl) (pv 2) (pv 0) (fun _ _ => rfl))))))))), ?_⟩
  have g2 := g.hi
  obtain ⟨dx, hd⟩ := DD.ob
  refine ⟨_, rfl, d, dx, _, rfl, hd, no_counts _ _, _, rfl, d, wh, wt, ws, n, rfl, DD, g, fun r1 H1 s1 _ h1 => ?_⟩
  refine ⟨_, rfl, d, dx, _, rfl, s1 _ _ hd, no_counts _ _, _, rfl, d, wh, wt, ws, m, rfl, DD.same s1, g, fun r2 H2 s2 _ h2 => ?_⟩
  have h1_2 := s2 _ _ h1
  have l1 := CR.cnt_len (ws := ws) n
  have l2 := CR.cnt_len (ws := ws) m
  have lm : (List.map V.int (CR.cnt ws m)).length = ws.length := by rw [List.length_map, l2]
  refine ⟨_, rfl, r2, _, rfl, .inl (SqL.of h2), _, rfl, by omega, by omega, fun p hp => ?_⟩
  have ep : ((List.map V.int (CR.cnt ws m)).length : Int).toNat = ws.length := by rw [lm]; omega
  rw [ep]
  refine comp_range (lo := 0) (n := ws.length) (fun i ys H3 => ys = ((List.range i).map fun k : Nat => CR.at0 (CR.cnt ws m) k - CR.at0 (CR.cnt ws n) k).map V.int ∧ H3 p = some (.lst ys) ∧ Same H2 H3) ⟨rfl, upd_same, same_new hp _⟩
    (fun i ys H3 _ ⟨e, x1, _⟩ => ⟨x1, by rw [e, List.length_map, List.length_map, List.length_range]; exact Nat.le_refl _⟩) (by rw [sizeLine_eq]; omega) (fun i ys H3 hi ⟨e, x1, x2⟩ => ?_) (fun ys H3 ⟨e, x1, x2⟩ => ?_)
  · show ∃ u, _ ∧ _
    refine ⟨_, rfl, _, rfl, r2, _, _, _, rfl, rfl, SqL.of (x2 _ _ h2), at_nat (by omega), _, rfl, _, rfl, r1, _, _, _, rfl, rfl, SqL.of (x2 _ _ h1_2), at_nat (by omega), _, _, rfl, rfl, x1, rfl, ?_, upd_same, fun x o z => ?_⟩
    · rw [e, List.range_succ, List.map_append, List.map_append]
      rfl
    · rw [upd_ne (ne_of_none z hp)]
      exact x2 _ _ z
  · refine q p H3 (s1.trans (s2.trans x2)) ((s1.trans s2).free hp) ?_
    rw [x1, e]
    show _ = some (HO.lst (List.map V.int (CR.zipk _ _ _)))
    unfold CR.zipk
    rw [l2]
end


/-! ### covers, no houses told -/
def KB (p : Addr) (H H' : Hp) : Prop := ∀ b o, H b = some o → b ≠ p → H' b = some o
theorem KB.upd {p : Addr} {H H' : Hp} (k : KB p H H') (o : HO) : KB p H (upd H' p o) := fun b u e n => by rw [upd_ne n]; exact k b u e n
theorem KB.same {p : Addr} {H H' H'' : Hp} (k : KB p H H') (s : Same H' H'') : KB p H H'' := fun b u e n => s _ _ (k b u e n)
theorem atG {i : Nat} {v : V} {nx : St → Hp → Prop} {σ : St} {H : Hp} (σ' : St) (e : σ.set i (some v) = σ') (h : nx σ' H) : gName i v σ H nx := by
  unfold gName
  rw [e]
  exact h
theorem flat_strs (l : List Str) : (l.map V.str).all flatV = true := by
  rw [List.all_map]
  exact List.all_eq_true.mpr fun _ _ => rfl
theorem flat_ints (l : List Int) : (l.map V.int).all flatV = true := by
  rw [List.all_map]
  exact List.all_eq_true.mpr fun _ _ => rfl
def spHouses : Sp := fun vs H Q _ => ∃ a, ∃ ns : List Str, vs = [.ref a] ∧ H a = some (.lst (ns.map V.str)) ∧ (∀ z ∈ ns, nameV (.str z) = true ∧ z.length ≤ 900) ∧ ns.Nodup ∧ ∀ H', Same H H' → Q .non H'
theorem f1 {f g : Str} {v : V} {fs : List (Str × V)} (h : ¬ g = f) : (putF f v fs).lookup g = fs.lookup g := by rw [lookup_putF, if_neg h]
theorem len_putF (f : Str) (v : V) : ∀ fs : List (Str × V), (putF f v fs).length ≤ fs.length + 1
  | [] => Nat.le_refl _
  | (g, u) :: fs => by
    unfold putF
    split
    · simp
    · have := len_putF f v fs
      simp only [List.length_cons]
      omega
section
variable {P : Program} {w : World} {K : PySem.W.Frag} {mg : Str → Option Value} {base : Heap} {C_Deal C_Cover C_Condition : Addr}
theorem sc_check_houses : FnScope ["houses", "k", "house"] ["houses"] (defScope s_check_houses) := ⟨rfl, rfl, rfl, by decide +kernel, rfl, by decide +kernel, by decide +kernel⟩
theorem ok_check_houses {f : Addr} {fd : FuncData} (F : Fun K "check_houses" "check_houses" s_check_houses f fd) (T : Txt K mg) (Cis_name : Cal P w K mg base 2 "is_name" ["thing"] (spName K)) : FnOk P w K mg base CX0 3 f fd ["houses"] spHouses := by
  have sc := sc_check_houses
  refine F.ok sc (fun vs H Q E h => ?_) (fun cdv A outer s H vs Q E hr h => ?_)
  · obtain ⟨_, _, rfl, _⟩ := h
    rfl
  obtain ⟨a, ns, rfl, ha, hn, nd, q⟩ := h
  refine ⟨_, (pss_one (ps_for PassesOwn.never rfl (pi_enum rfl T.n_enumerate (pa_cons (pv 0) pa_nil)) (pg_tup (n := 2) rfl (pgs_cons (pg_name (i := 1) sc.nd rfl (Or.inl rfl)) (pgs_cons (pg_name (i := 2) sc.nd rfl (Or.inl rfl)) pgs_nil)))
        (pss_one (ps_if (PW.pt (pw_or (pt_not (pt_val (pe_callC Cis_name (hr.mono (by decide)) rfl (pa_cons (pv 2) pa_nil)))) (pw_or1 (pt_cmpR op_in_seq (pv 2) (pe_slice sl_list (pv 0) po_none (po_some (pv 1))) rfl))))
        (pss_one ps_never)
        pss_nil)))), ?_⟩
  refine ⟨_, rfl, a, rfl, ⟨_, SqL.of ha⟩, for_enum (K := K) (a := a) (xs := ns.map V.str) (fun i σ H2 => (∃ o1 o2, σ = [some (.ref a), o1, o2]) ∧ Same H H2) ⟨⟨none, none, rfl⟩, fun _ _ z => z⟩ (fun i σ H2 _ ⟨_, e⟩ => SqL.of (e _ _ ha)) ?_ ?_⟩
  · rintro i x σ H2 t hi ⟨⟨o1, o2, rfl⟩, s2⟩ nt
    rw [List.getElem?_map] at hi
    obtain ⟨z, hz, rfl⟩ : ∃ z, ns[i]? = some z ∧ V.str z = x := by
      cases e : ns[i]? with
      | none => rw [e] at hi; cases hi
      | some z => rw [e] at hi; exact ⟨z, rfl, by simpa using hi⟩
    obtain ⟨h1, h2⟩ := hn z (List.mem_of_getElem? hz)
    have s3 := s2.trans (same_new nt (.tup [.int i, .str z]))
    have il : i < ns.length := (List.getElem?_eq_some_iff.mp hz).1
    refine ⟨_, rfl, _, _, rfl, .str z, (fun y e => by cases e; exact h2), _, rfl, bF (by rw [h1]; rfl) ?_⟩
    refine ⟨_, rfl, _, rfl, _, rfl, _, rfl, a, _, rfl, SqL.of (s3 _ _ ha), fun m nm => ?_⟩
    have ec : cutV (ns.map V.str) none (some (i : Int)) = (ns.take i).map V.str := by
      unfold cutV
      have e1 : HT.sIx (ns.map V.str).length (ns.map V.str).length (some (i : Int)) = i := by rw [HT.sIx_nat, List.length_map]; omega
      rw [e1, HT.sIx_none, List.drop_zero, Nat.sub_zero, List.map_take]
    have s4 := s3.trans (same_new nm (.lst (cutV (ns.map V.str) none (some (i : Int)))))
    refine ⟨m, (ns.take i).map V.str, rfl, .inl (SqL.of (by rw [upd_same, ec])), rfl, flat_strs _, _, rfl, bF ?_ ⟨⟨_, _, rfl⟩, s4⟩⟩
    show inV (.str z) ((ns.take i).map V.str) = false
    unfold inV
    rw [List.any_map]
    rw [List.any_eq_false]
    intro y hy e
    have ne : y ≠ z := fun c => by
      subst c
      obtain ⟨j, hj, ej⟩ := List.getElem_of_mem hy
      have hj' : j < i := by rw [List.length_take] at hj; omega
      have e2 : ns[j]'(by omega) = ns[i] := by
        rw [List.getElem_take] at ej
        rw [ej]
        exact ((List.getElem?_eq_some_iff.mp hz).2).symm
      exact absurd ((List.getElem_inj nd).mp e2) (by omega)
    have e' : eqV (.str y) (.str z) = true := e
    unfold eqV at e'
    exact ne (by simpa using e')
  · rintro σ H2 ⟨⟨o1, o2, rfl⟩, s2⟩
    exact q _ s2
end


/-! ### covers with houses told, without clauses -/
abbrev Hw := Str × Int
def Hss (H : Hp) : List V → List Hw → Prop
  | [], [] => True
  | x :: xs, p :: ps => (∃ t, x = .ref t ∧ H t = some (.tup [.str p.1, .int p.2])) ∧ Hss H xs ps
  | _, _ => False
theorem Hss.len {H : Hp} : ∀ {xs : List V} {ps : List Hw}, Hss H xs ps → xs.length = ps.length
  | [], [], _ => rfl
  | [], _ :: _, h => h.elim
  | _ :: _, [], h => h.elim
  | x :: xs, p :: ps, h => by rw [List.length_cons, List.length_cons, Hss.len h.2]
def Tst (H H' : Hp) : Prop := ∀ t xs, H t = some (.tup xs) → H' t = some (.tup xs)
theorem tst_same {H H' : Hp} (s : Same H H') : Tst H H' := fun t xs h => s t _ h
theorem Tst.trans {H H1 H2 : Hp} (a : Tst H H1) (b : Tst H1 H2) : Tst H H2 := fun t xs h => b t xs (a t xs h)
theorem tst_lst {H : Hp} {l : Addr} {xs : List V} (h : H l = some (.lst xs)) (o : HO) : Tst H (upd H l o) := fun t zs z => by
  rw [upd_ne (ne_of z h (by intro e; cases e))]
  exact z
theorem Hss.mono {H H' : Hp} (s : Tst H H') : ∀ {xs : List V} {ps : List Hw}, Hss H xs ps → Hss H' xs ps
  | [], [], _ => trivial
  | [], _ :: _, h => h.elim
  | _ :: _, [], h => h.elim
  | x :: xs, p :: ps, ⟨⟨t, e, h⟩, r⟩ => ⟨⟨t, e, s _ _ h⟩, Hss.mono s r⟩
theorem Hss.get {H : Hp} : ∀ {xs : List V} {ps : List Hw} {i : Nat} {x : V}, Hss H xs ps → xs[i]? = some x → ∃ t p, ps[i]? = some p ∧ x = .ref t ∧ H t = some (.tup [.str p.1, .int p.2])
  | [], [], _, _, _, e => by simp at e
  | [], _ :: _, _, _, h, _ => h.elim
  | _ :: _, [], _, _, h, _ => h.elim
  | x :: xs, p :: ps, 0, y, ⟨⟨t, e, h⟩, r⟩, q => by
    simp at q
    subst q
    exact ⟨t, p, rfl, e, h⟩
  | x :: xs, p :: ps, i + 1, y, ⟨_, r⟩, q => by
    obtain ⟨t, p', h1, h2⟩ := Hss.get (i := i) r (by simpa using q)
    exact ⟨t, p', by simpa using h1, h2⟩
theorem Hss.snoc {H : Hp} : ∀ {xs : List V} {ps : List Hw} {t : Addr} {n : Str} {c : Int}, Hss H xs ps → H t = some (.tup [.str n, .int c]) → Hss H (xs ++ [.ref t]) (ps ++ [(n, c)])
  | [], [], t, _, _, _, h => ⟨⟨t, rfl, h⟩, trivial⟩
  | [], _ :: _, _, _, _, r, _ => r.elim
  | _ :: _, [], _, _, _, r, _ => r.elim
  | x :: xs, p :: ps, _, _, _, ⟨z, r⟩, h => ⟨z, Hss.snoc r h⟩
theorem take_snoc {α : Type} {l : List α} {i : Nat} {x : α} (h : l[i]? = some x) : l.take (i + 1) = l.take i ++ [x] := by
  rw [List.take_add_one, h]
  rfl
/-- the cover at p: its houses at hv, its deal at d -/
def ChAt (C CD : Addr) (H : Hp) (p hv d wh wt : Addr) (hs : List Hw) : Prop := (∃ dx fs, H p = some (.ins C dx fs) ∧ fs.lookup ("houses" : Str) = some (.ref hv) ∧ fs.lookup ("deal" : Str) = some (.ref d)) ∧ H hv = some (.lst (hs.map fun p => V.str p.1)) ∧ DealAt CD H d wh wt (hs.map (·.2))
theorem ChAt.same {C CD : Addr} {H H' : Hp} {p hv d wh wt : Addr} {hs : List Hw} (h : ChAt C CD H p hv d wh wt hs) (s : Same H H') : ChAt C CD H' p hv d wh wt hs := by
  obtain ⟨⟨dx, fs, e, r⟩, e2, e3⟩ := h
  exact ⟨⟨dx, fs, s _ _ e, r⟩, s _ _ e2, e3.same s⟩
def spCoverH (C CD : Addr) : Sp := fun vs H Q _ => ∃ p dx nm cd hl xs hs wv, vs = [.ref p, .str nm, cd, .non, .ref hl, wv] ∧ H p = some (.ins C dx []) ∧ nameV (.str nm) = true ∧ nm.length ≤ 900 ∧ nm ≠ "self" ∧ H hl = some (.lst xs) ∧ Hss H xs hs ∧
  (∀ z ∈ hs, nameV (.str z.1) = true ∧ z.1.length ≤ 900) ∧ (hs.map (·.1)).Nodup ∧ CR.GW (hs.map (·.2)) ∧ ∀ hv d wh wt H', KB p H H' → ChAt C CD H' p hv d wh wt hs → H hv = none → Q .non H'
section
variable {P : Program} {w : World} {K : PySem.W.Frag} {mg : Str → Option Value} {base : Heap} {C_Deal C_Cover C_Condition : Addr}
theorem sc_Cover___init__ : FnScope ["self", "name", "condition", "clauses", "houses", "waits", "pairs"] ["self", "name", "condition", "clauses", "houses", "waits"] (defScope s_Cover___init__) := ⟨rfl, rfl, rfl, by decide +kernel, rfl, by decide +kernel, by decide +kernel⟩
seal L2.PS L2.PSs L2.PE L2.PA
theorem ok_Cover_initH {f : Addr} {fd : FuncData} (F : FunD K "__init__" "Cover.__init__" s_Cover___init__ f fd) (T : Txt K mg) (L : Kl K mg C_Deal C_Cover C_Condition) (Cis_name : Cal P w K mg base 2 "is_name" ["thing"] (spName K)) (Ccheck_houses : Cal P w K mg base 3 "check_houses" ["houses"] spHouses)
    (KDeal : KCal P w K mg base 4 "Deal" C_Deal ["self", "weights"] (spInit C_Deal)) : FnOk P w K mg base CX0 6 f fd ["self", "name", "condition", "clauses", "houses", "waits"] (spCoverH C_Cover C_Deal) := by
  have sc := sc_Cover___init__
  refine F.ok sc (fun vs H Q E h => ?_) (fun cdv A outer s H vs Q E hr h => ?_)
  · obtain ⟨_, _, _, _, _, _, _, _, rfl, _⟩ := h
    rfl
  obtain ⟨p, dx, nm, cd, h0, xs, hs, wv, rfl, hp, hn, hl, ns, hh, ph, okh, ndh, gw, q⟩ := h
  refine ⟨_, (pss_cons (ps_if (PW.pt (pw_or (pt_not (pt_val (pe_callC Cis_name (hr.mono (by decide)) rfl (pa_cons (pv 1) pa_nil)))) (pw_or1 (pt_cmpR op_eq (pv 1) (pe_gstr T.g_COVERED_ONE rfl) (nomark _)))))
        (pss_one ps_never)
        pss_nil)
      (pss_cons (ps_fld (pv 0) (pv 1) rfl)
      (pss_cons (ps_fld (pv 0) (pv 2) rfl)
      (pss_cons (ps_fld (pv 0) (pe_ifExp (pt_cmpR op_isN (pv 3) pe_non (nomark _)) (pe_lst pa_nil) (pe_callTy call_list_of rfl T.n_list (show bootBuiltins _ = some (.type "list") from rfl) (pa_cons (pv 3) pa_nil))) rfl)
      (pss_cons (ps_if (pt_cmpR op_gt (pe_callB call_len_seq rfl T.n_len (show bootBuiltins _ = some (.builtin "len") from rfl) (pa_cons (pe_fld (pv 0) rfl) pa_nil)) (pe_gint T.g_MOST_CLAUSES rfl) (nomark _))
        (pss_one ps_never)
        pss_nil)
      (pss_cons (ps_set (i := 6) sc.nd rfl (Or.inl rfl) (pe_ifExp (pt_cmpR op_isN (pv 4) pe_non (nomark _)) (pe_lst (pa_cons (pe_tup (pa_cons (pv 1) (pa_cons pe_int pa_nil))) pa_nil)) (pv 4)))
      (pss_cons (ps_fld (pv 0) (pe_comp (NC := ["pair"]) (own := ["pair"]) (cs := []) (ix := []) rfl (CompScope.of rfl) rfl trivial (pi_list (pv 6)) (fun _ _ _ => (pg_name (i := 0) (show (["pair"] : List Str).Nodup from by decide +kernel) rfl (Or.inl rfl))) (fun _ _ _ => pts_nil) (fun _ _ _ => (pe_ix (ix_tupK (K := K) rfl) (pv 0) pe_int (fun _ _ => rfl)))) rfl)
      (pss_cons (ps_expr (pe_callC Ccheck_houses (hr.mono (by decide)) rfl (pa_cons (pe_fld (pv 0) rfl) pa_nil)))
      (pss_cons (ps_fld (pv 0) (pe_makeC KDeal (hr.mono (by decide)) rfl (pa_cons (pe_comp (NC := ["pair"]) (own := ["pair"]) (cs := []) (ix := []) rfl (CompScope.of rfl) rfl trivial (pi_list (pv 6)) (fun _ _ _ => (pg_name (i := 0) (show (["pair"] : List Str).Nodup from by decide +kernel) rfl (Or.inl rfl))) (fun _ _ _ => pts_nil) (fun _ _ _ => (pe_ix (ix_tupK (K := K) rfl) (pv 0) pe_int (fun _ _ => rfl)))) pa_nil)) rfl)
      (pss_one (ps_fld (pv 0) (pv 5) rfl))))))))))), ?_⟩
  have lx := ph.len
  have l8 : hs.length ≤ 8 := by have := gw.hi; rw [List.length_map] at this; exact this
  have nhp0 : h0 ≠ p := ne_of hh hp (by intro z; cases z)
  have keep : ∀ {H' : Hp}, KB p H H' → Tst H H' := fun k t zs e => k _ _ e (ne_of e hp (by intro z; cases z))
  refine ⟨_, rfl, _, _, rfl, .str nm, (fun y e => by cases e; exact hl), _, rfl, bF (by rw [hn]; rfl) ?_⟩
  refine ⟨_, rfl, rfl, _, rfl, dF (fun z => ns (V.str.inj z)) ?_⟩
  -- name, condition
  refine ⟨_, rfl, _, rfl, p, C_Cover, dx, [], rfl, hp, L.cl_Cover, L.na_Cover_name, by decide, ?_⟩
  refine ⟨_, rfl, _, rfl, p, C_Cover, dx, _, rfl, upd_same, L.cl_Cover, L.na_Cover_condition, Nat.lt_of_le_of_lt (len_putF _ _ _) (by decide), ?_⟩
  have k2 : KB p H (upd (upd H p (.ins C_Cover dx (putF "name" (.str nm) []))) p (.ins C_Cover dx (putF "condition" cd (putF "name" (.str nm) [])))) := KB.upd (KB.upd (fun _ _ e _ => e) _) _
  have e2 : upd (upd H p (.ins C_Cover dx (putF "name" (.str nm) []))) p (.ins C_Cover dx (putF "condition" cd (putF "name" (.str nm) []))) p = some (.ins C_Cover dx (putF "condition" cd (putF "name" (.str nm) []))) := upd_same
  have g2 : (putF "condition" cd (putF "name" (.str nm) [])).length ≤ 2 := Nat.le_trans (len_putF _ _ _) (Nat.succ_le_succ (len_putF _ _ _))
  generalize putF "condition" cd (putF "name" (.str nm) []) = fs2 at k2 e2 g2
  generalize upd (upd H p (.ins C_Cover dx (putF "name" (.str nm) []))) p (.ins C_Cover dx fs2) = H2 at k2 e2
  -- clauses
  refine ⟨_, rfl, rfl, _, rfl, dT rfl ?_⟩
  refine ⟨Nat.zero_le _, fun cl ncl => ?_⟩
  have s3 := same_new ncl (.lst [])
  have ncl' : cl ≠ p := (ne_of_none e2 ncl).symm
  refine ⟨_, rfl, p, C_Cover, dx, fs2, rfl, s3 _ _ e2, L.cl_Cover, L.na_Cover_clauses, by omega, ?_⟩
  have k3 : KB p H (upd (upd H2 cl (.lst [])) p (.ins C_Cover dx (putF "clauses" (.ref cl) fs2))) := (k2.same s3).upd _
  have e3 : upd (upd H2 cl (.lst [])) p (.ins C_Cover dx (putF "clauses" (.ref cl) fs2)) p = some (.ins C_Cover dx (putF "clauses" (.ref cl) fs2)) := upd_same
  have c3 : upd (upd H2 cl (.lst [])) p (.ins C_Cover dx (putF "clauses" (.ref cl) fs2)) cl = some (.lst []) := by rw [upd_ne ncl', upd_same]
  have g3 : (putF "clauses" (.ref cl) fs2).length ≤ 3 := Nat.le_trans (len_putF _ _ _) (by omega)
  have w3 : (putF "clauses" (.ref cl) fs2).lookup ("clauses" : Str) = some (.ref cl) := by rw [lookup_putF, if_pos rfl]
  generalize putF "clauses" (.ref cl) fs2 = fs3 at k3 e3 c3 g3 w3
  generalize upd (upd H2 cl (.lst [])) p (.ins C_Cover dx fs3) = H3 at k3 e3 c3
  refine ⟨_, rfl, p, C_Cover, dx, fs3, _, rfl, e3, L.cl_Cover, L.na_Cover_clauses, w3, cl, _, rfl, .inl (SqL.of c3), _, _, rfl, rfl, _, rfl, dF (by decide) ?_⟩
  -- pairs
  refine ⟨_, rfl, rfl, _, rfl, dF (fun z => nomatch z) ?_⟩
  refine ⟨_, rfl, ?_⟩
  refine atG [some (.ref p), some (.str nm), some cd, some .non, some (.ref h0), some wv, some (.ref h0)] rfl ?_
  have hh3 := k3 _ _ hh nhp0
  have ph3 := ph.mono (keep k3)
  -- houses
  refine ⟨_, rfl, h0, rfl, ⟨_, SqL.of hh3⟩, fun hv nhv => ?_⟩
  refine comp_list (K := K) (a := h0) (xs := xs) (fun i ys H5 => ys = ((hs.take i).map fun p => V.str p.1) ∧ H5 hv = some (.lst ys) ∧ Same H3 H5) ⟨rfl, upd_same, same_new nhv _⟩
    (fun i ys H5 _ ⟨e, h1, s5⟩ => ⟨h1, by rw [e, List.length_map, List.length_take]; omega, SqL.of (s5 _ _ hh3)⟩) (by rw [sizeLine_eq]; omega) (fun i x ys H5 hi ⟨e, h1, s5⟩ => ?_) (fun ys H5 ⟨e, h1, s5⟩ => ?_)
  · obtain ⟨t, r, hp', rfl, ht⟩ := ph3.get hi
    refine ⟨_, rfl, t, _, _, _, rfl, rfl, SqT.of (s5 _ _ ht), rfl, h1, rfl, ?_, upd_same, fun b o z => ?_⟩
    · rw [take_snoc hp', List.map_append, e]
      rfl
    · rw [upd_ne (ne_of_none z nhv)]
      exact s5 b o z
  subst e
  rw [lx, List.take_length] at h1
  have e5 := s5 _ _ e3
  have k5 := k3.same s5
  have hh5 := s5 _ _ hh3
  have nhp : hv ≠ p := (ne_of_none e3 nhv).symm
  refine ⟨_, rfl, p, C_Cover, dx, fs3, rfl, e5, L.cl_Cover, L.na_Cover_houses, by omega, ?_⟩
  have e6 : upd H5 p (.ins C_Cover dx (putF "houses" (.ref hv) fs3)) p = some (.ins C_Cover dx (putF "houses" (.ref hv) fs3)) := upd_same
  have h6 : upd H5 p (.ins C_Cover dx (putF "houses" (.ref hv) fs3)) hv = some (.lst (hs.map fun p => V.str p.1)) := by rw [upd_ne nhp]; exact h1
  have hh6 : upd H5 p (.ins C_Cover dx (putF "houses" (.ref hv) fs3)) h0 = some (.lst xs) := by rw [upd_ne nhp0]; exact hh5
  have k6 : KB p H (upd H5 p (.ins C_Cover dx (putF "houses" (.ref hv) fs3))) := k5.upd _
  have g6 : (putF "houses" (.ref hv) fs3).length ≤ 4 := Nat.le_trans (len_putF _ _ _) (by omega)
  have v6 : (putF "houses" (.ref hv) fs3).lookup ("houses" : Str) = some (.ref hv) := by rw [lookup_putF, if_pos rfl]
  generalize putF "houses" (.ref hv) fs3 = fs6 at e6 h6 hh6 k6 g6 v6
  generalize upd H5 p (.ins C_Cover dx fs6) = H6 at e6 h6 hh6 k6
  have h6' : H6 hv = some (.lst ((hs.map (·.1)).map V.str)) := by rw [List.map_map]; exact h6
  refine ⟨_, rfl, p, C_Cover, dx, fs6, _, rfl, e6, L.cl_Cover, L.na_Cover_houses, v6, hv, hs.map (·.1), rfl, h6', fun z hz => by obtain ⟨y, hy, rfl⟩ := List.mem_map.mp hz; exact okh y hy, ndh, fun H7 s7 => ?_⟩
  have e7 := s7 _ _ e6
  have hh7 := s7 _ _ hh6
  have h7 := s7 _ _ h6
  have k7 := k6.same s7
  have ph7 := ph.mono (keep k7)
  -- deal
  refine ⟨_, rfl, h0, rfl, ⟨_, SqL.of hh7⟩, fun wl nwl => ?_⟩
  refine comp_list (K := K) (a := h0) (xs := xs) (fun i ys H8 => ys = ((hs.take i).map (·.2)).map V.int ∧ H8 wl = some (.lst ys) ∧ Same H7 H8) ⟨rfl, upd_same, same_new nwl _⟩
    (fun i ys H8 _ ⟨e, h1, s8⟩ => ⟨h1, by rw [e, List.length_map, List.length_map, List.length_take]; omega, SqL.of (s8 _ _ hh7)⟩) (by rw [sizeLine_eq]; omega) (fun i x ys H8 hi ⟨e, h1, s8⟩ => ?_) (fun ys H8 ⟨e, h1, s8⟩ => ?_)
  · obtain ⟨t, r, hp', rfl, ht⟩ := ph7.get hi
    refine ⟨_, rfl, t, _, _, _, rfl, rfl, SqT.of (s8 _ _ ht), rfl, h1, rfl, ?_, upd_same, fun b o z => ?_⟩
    · rw [take_snoc hp', List.map_append, List.map_append, e]
      rfl
    · rw [upd_ne (ne_of_none z nwl)]
      exact s8 b o z
  subst e
  rw [lx, List.take_length] at h1
  have e8 := s8 _ _ e7
  have h8 := s8 _ _ h7
  have k8 := k7.same s8
  intro d dd nd ndd nde
  have nwd : wl ≠ d := ne_of_none h1 nd
  have nwdd : wl ≠ dd := ne_of_none h1 ndd
  refine ⟨d, dd, wl, hs.map (·.2), rfl, upd_same, by rw [upd_ne nwd, upd_ne nwdd]; exact h1, gw, fun wh wt H9 kp9 D9 nwh nwt => ⟨rfl, ?_⟩⟩
  have s9 : Same H8 H9 := made_same nd ndd kp9
  have e9 := s9 _ _ e8
  have h9 := s9 _ _ h8
  have k9 := k8.same s9
  have npd : d ≠ p := (ne_of_none e8 nd).symm
  have npwh : wh ≠ p := (ne_of_none e8 (made_none nwh)).symm
  have npwt : wt ≠ p := (ne_of_none e8 (made_none nwt)).symm
  refine ⟨_, rfl, p, C_Cover, dx, fs6, rfl, e9, L.cl_Cover, L.na_Cover_deal, by omega, ?_⟩
  have g10 : (putF "deal" (.ref d) fs6).length ≤ 5 := Nat.le_trans (len_putF _ _ _) (by omega)
  have w10 : (putF "deal" (.ref d) fs6).lookup ("houses" : Str) = some (.ref hv) := by rw [f1 (by decide +kernel)]; exact v6
  have d10 : (putF "deal" (.ref d) fs6).lookup ("deal" : Str) = some (.ref d) := by rw [lookup_putF, if_pos rfl]
  refine ⟨_, rfl, _, rfl, p, C_Cover, dx, _, rfl, upd_same, L.cl_Cover, L.na_Cover_waits, by omega, ?_⟩
  obtain ⟨⟨dq, q1⟩, q2, q3⟩ := D9
  refine q hv d wh wt _ ((k9.upd _).upd _) ⟨⟨dx, _, upd_same, by rw [f1 (by decide +kernel)]; exact w10, by rw [f1 (by decide +kernel)]; exact d10⟩, ?_, ⟨dq, ?_⟩, ?_, ?_⟩ ?_
  · rw [upd_ne nhp, upd_ne nhp]; exact h9
  · rw [upd_ne npd, upd_ne npd]; exact q1
  · rw [upd_ne npwh, upd_ne npwh]; exact q2
  · rw [upd_ne npwt, upd_ne npwt]; exact q3
  · cases z : H hv with
    | none => rfl
    | some o =>
      have := k3 _ _ z nhp
      rw [nhv] at this
      cases this
end


/-! ### k62: dealt_to -/
/-- the houses that have some -/
def dealtL : List Hw → List Int → List Hw
  | h :: hs, c :: cs => if 0 < c then (h.1, c) :: dealtL hs cs else dealtL hs cs
  | _, _ => []
theorem dealt_take : ∀ (hs : List Hw) (cs : List Int) (i : Nat) {h : Hw} {c : Int}, hs[i]? = some h → cs[i]? = some c → dealtL (hs.take (i + 1)) (cs.take (i + 1)) = dealtL (hs.take i) (cs.take i) ++ if 0 < c then [(h.1, c)] else []
  | [], _, _, _, _, e, _ => by simp at e
  | _ :: _, [], _, _, _, _, e => by simp at e
  | x :: hs, y :: cs, 0, h, c, e, e' => by
    simp at e e'
    subst e e'
    simp [dealtL]
  | x :: hs, y :: cs, i + 1, h, c, e, e' => by
    have ih := dealt_take hs cs i (by simpa using e) (by simpa using e')
    rw [List.take_succ_cons, List.take_succ_cons, List.take_succ_cons, List.take_succ_cons]
    unfold dealtL
    rw [ih]
    by_cases z : 0 < y
    · rw [if_pos z, if_pos z]; rfl
    · rw [if_neg z, if_neg z]
theorem dealt_len : ∀ (hs : List Hw) (cs : List Int), (dealtL hs cs).length ≤ hs.length
  | [], _ => by simp [dealtL]
  | _ :: _, [] => by simp [dealtL]
  | x :: hs, y :: cs => by
    unfold dealtL
    have := dealt_len hs cs
    by_cases z : 0 < y
    · rw [if_pos z, List.length_cons, List.length_cons]; omega
    · rw [if_neg z, List.length_cons]; omega
def spDealt (C CD : Addr) : Sp := fun vs H Q _ => ∃ p hv d wh wt hs, ∃ b lo hi : Int, vs = [.ref p, .int b, .int lo, .int hi] ∧ ChAt C CD H p hv d wh wt hs ∧ CR.GW (hs.map (·.2)) ∧
  ∀ r xs H', Same H H' → H r = none → H' r = some (.lst xs) → Hss H' xs (dealtL hs (CR.btw (hs.map (·.2)) (b + lo) (b + hi))) → Q (.ref r) H'
section
variable {P : Program} {w : World} {K : PySem.W.Frag} {mg : Str → Option Value} {base : Heap} {C_Deal C_Cover C_Condition : Addr}
theorem sc_dealt_to : FnScope ["cover", "base", "lo", "hi", "shares"] ["cover", "base", "lo", "hi"] (defScope s_dealt_to) := ⟨rfl, rfl, rfl, by decide +kernel, rfl, by decide +kernel, by decide +kernel⟩
theorem ok_dealt_to {f : Addr} {fd : FuncData} (F : Fun K "dealt_to" "dealt_to" s_dealt_to f fd) (T : Txt K mg) (L : Kl K mg C_Deal C_Cover C_Condition) (Mbetween : MCal P w K mg base 2 C_Deal "between" ["self", "n", "m"] (spBetween C_Deal)) : FnOk P w K mg base CX0 3 f fd ["cover", "base", "lo", "hi"] (spDealt C_Cover C_Deal) := by
  have sc := sc_dealt_to
  refine F.ok sc (fun vs H Q E h => ?_) (fun cdv A outer s H vs Q E hr h => ?_)
  · obtain ⟨_, _, _, _, _, _, _, _, _, rfl, _⟩ := h
    rfl
  obtain ⟨p, hv, d, wh, wt, hs, b, lo, hi, rfl, CH, g, q⟩ := h
  refine ⟨_, (pss_cons (ps_set (i := 4) sc.nd rfl (Or.inl rfl) (pe_methC Mbetween (hr.mono (by decide)) (pe_fld (pv 0) rfl) (pa_cons (pe_op op_add (pv 1) (pv 2)) (pa_cons (pe_op op_add (pv 1) (pv 3)) pa_nil))))
      (pss_one (ps_ret (pe_comp (NC := ["house", "cents"]) (own := ["house", "cents"]) (cs := []) (ix := []) rfl (CompScope.of rfl) rfl trivial (pi_zip rfl T.n_zip (pa_cons (pe_fld (pv 0) rfl) (pa_cons (pv 4) pa_nil))) (fun _ _ _ => (pg_tupK (K := K) (n := 2) rfl rfl (pgs_cons (pg_name (i := 0) (show (["house", "cents"] : List Str).Nodup from by decide +kernel) rfl (Or.inl rfl)) (pgs_cons (pg_name (i := 1) (show (["house", "cents"] : List Str).Nodup from by decide +kernel) rfl (Or.inl rfl)) pgs_nil)))) (fun _ _ _ => (pts_one (pt_cmpR op_gt (pv 1) pe_int (nomark _)))) (fun _ _ _ => (pe_tup (pa_cons (pv 0) (pa_cons (pv 1) pa_nil)))))))), ?_⟩
  obtain ⟨⟨dx, fs, e1, e2, e3⟩, e4, DD⟩ := id CH
  obtain ⟨dd, hd⟩ := DD.ob
  refine ⟨_, rfl, p, C_Cover, dx, fs, _, rfl, e1, L.cl_Cover, L.na_Cover_deal, e3, d, dd, _, rfl, hd, no_between _ _, _, rfl, _, rfl, _, _, rfl, rfl, _, rfl, _, rfl, _, _, rfl, rfl, d, wh, wt, hs.map (·.2), _, _, rfl, DD, g, fun r1 H1 s1 _ h1 => ?_⟩
  have gl := g.hi
  rw [List.length_map] at gl
  have lb : (CR.btw (hs.map (·.2)) (b + lo) (b + hi)).length = hs.length := by
    unfold CR.btw CR.zipk
    rw [List.length_map, List.length_range, CR.cnt_len, List.length_map]
  generalize CR.btw (hs.map (·.2)) (b + lo) (b + hi) = bs at h1 q lb
  have e4' := s1 _ _ e4
  refine ⟨_, rfl, p, C_Cover, dx, fs, _, rfl, s1 _ _ e1, L.cl_Cover, L.na_Cover_houses, e2, _, rfl, hv, r1, rfl, ⟨_, SqL.of e4'⟩, ⟨_, SqL.of h1⟩, fun pp hpp => ?_⟩
  refine comp_zip (K := K) (a := hv) (b := r1) (xs := hs.map fun p => V.str p.1) (zs := List.map V.int bs) (fun i ys H2 => Hss H2 ys (dealtL (hs.take i) (bs.take i)) ∧ H2 pp = some (.lst ys) ∧ Same H1 H2) ⟨trivial, upd_same, same_new hpp _⟩
    (fun i ys H2 hi ⟨a1, a2, a3⟩ => ⟨a2, ?_, SqL.of (a3 _ _ e4'), SqL.of (a3 _ _ h1)⟩) (by rw [List.length_map, sizeLine_eq]; omega) (fun i x z ys H2 t hx hz ⟨a1, a2, a3⟩ ht => ?_) (fun ys H2 ⟨a1, a2, a3⟩ => ?_)
  · rw [a1.len]
    have := dealt_len (hs.take i) (bs.take i)
    rw [List.length_take] at this
    omega
  · rw [List.getElem?_map] at hx hz
    obtain ⟨h, eh, rfl⟩ := Option.map_eq_some_iff.mp hx
    obtain ⟨c, ec, rfl⟩ := Option.map_eq_some_iff.mp hz
    have dt := dealt_take hs bs i eh ec
    have tp : t ≠ pp := (ne_of_none a2 ht).symm
    have s2 := same_new ht (.tup [V.str h.1, V.int c])
    have p2 : upd H2 t (.tup [V.str h.1, V.int c]) pp = some (.lst ys) := s2 _ _ a2
    generalize upd H2 t (.tup [V.str h.1, V.int c]) = H3 at s2 p2
    refine ⟨_, rfl, _, _, rfl, rfl, _, rfl, ite2 (fun z => ?_) (fun z => ?_)⟩
    · have z' : 0 < c := of_decide_eq_true z
      refine ⟨_, rfl, _, rfl, le_line (by show 2 ≤ 1000; decide), fun t2 n2 => ⟨same_new n2 _ _ _ p2, rfl, ?_, upd_same, fun y o w => ?_⟩⟩
      · rw [dt, if_pos z']
        have n3 : t2 ≠ pp := (ne_of_none p2 n2).symm
        refine Hss.snoc (Hss.mono ?_ a1) (by rw [upd_ne n3, upd_same])
        exact ((tst_same s2).trans (tst_same (same_new n2 _))).trans (tst_lst (same_new n2 _ _ _ p2) _)
      · have w2 := same_new n2 (.tup [V.str h.1, V.int c]) _ _ (s2 _ _ (a3 _ _ w))
        rw [upd_ne (ne_of_none w hpp)]
        exact w2
    · have z' : ¬ 0 < c := fun y => z (decide_eq_true y)
      refine ⟨rfl, ?_, p2, a3.trans s2⟩
      rw [dt, if_neg z', List.append_nil]
      exact Hss.mono (tst_same s2) a1
  · have le : min (hs.map fun p => V.str p.1).length (List.map V.int bs).length = hs.length := by rw [List.length_map, List.length_map, lb]; exact Nat.min_self _
    rw [le, List.take_length, List.take_of_length_le (by omega)] at a1
    exact q pp ys H2 (s1.trans a3) (s1.free hpp) a2 a1
end


/-! ### the law's own turns -/
theorem rep_flat (v : Int) (n : Nat) : (List.replicate n [V.int v]).flatten = (List.replicate n v).map V.int := by
  induction n with
  | zero => rfl
  | succ n ih => rw [List.replicate_succ, List.flatten_cons, ih, List.replicate_succ, List.map_cons]; rfl
theorem atGH {i : Nat} {v : V} {nx : St → Hp → Prop} {σ : St} {H : Hp} (σ' : St) (H' : Hp) (e : σ.set i (some v) = σ') (eH : H = H') (h : nx σ' H') : gName i v σ H nx := by
  unfold gName
  rw [e, eH]
  exact h
def spRow : Sp := fun vs H Q _ => ∃ a ws, vs = [.ref a] ∧ H a = some (.lst (List.map V.int ws)) ∧ CR.GW ws ∧ ∀ r H', Same H H' → H r = none → H' r = some (.lst (List.map V.int (CR.wheel ws))) → Q (.ref r) H'
/-- the search so far: the least due, its place -/
def Bst (ws ds : List Int) (t : Int) (i : Nat) (least best : Int) : Prop :=
  (CR.placesTo ws ds t i = [] ∧ least = ws.sum + 1) ∨ (CR.placesTo ws ds t i ≠ [] ∧ best = CR.pick (CR.due ws ds) ((CR.placesTo ws ds t i).headD 0) (CR.placesTo ws ds t i) ∧ least = CR.due ws ds best)
theorem bst_skip {ws ds : List Int} {t : Int} {i : Nat} {best least : Int} (h : Bst ws ds t i least best) (c : CR.may ws ds t i = false) : Bst ws ds t (i + 1) least best := by
  have e : CR.placesTo ws ds t (i + 1) = CR.placesTo ws ds t i := by rw [CR.placesTo_succ, c]; simp
  unfold Bst
  rw [e]
  exact h
theorem pick_app (f : Int → Int) (b x : Int) (l : List Int) : CR.pick f b (l ++ [x]) = if f x < f (CR.pick f b l) then x else CR.pick f b l := by
  unfold CR.pick
  rw [List.foldl_append]
  rfl
theorem bst_step {ws ds : List Int} {t : Int} {i : Nat} {best least : Int} (h : Bst ws ds t i least best) (c : CR.may ws ds t i = true) (hd : CR.due ws ds i ≤ ws.sum) :
    (CR.due ws ds i < least → Bst ws ds t (i + 1) (CR.due ws ds i) i) ∧ (¬ CR.due ws ds i < least → Bst ws ds t (i + 1) least best) := by
  have e : CR.placesTo ws ds t (i + 1) = CR.placesTo ws ds t i ++ [(i : Int)] := by rw [CR.placesTo_succ, c]; simp
  rcases h with ⟨h1, h2⟩ | ⟨h1, h2, h3⟩
  · rw [h1] at e
    refine ⟨fun _ => .inr ⟨by rw [e]; simp, ?_, rfl⟩, fun n => absurd (by omega) n⟩
    rw [e]
    show (i : Int) = if CR.due ws ds i < CR.due ws ds i then (i : Int) else i
    split <;> rfl
  · have hd' : (CR.placesTo ws ds t (i + 1)).headD 0 = (CR.placesTo ws ds t i).headD 0 := by
      rw [e]
      cases q : CR.placesTo ws ds t i with
      | nil => exact absurd q h1
      | cons x l => rfl
    have hp : CR.pick (CR.due ws ds) ((CR.placesTo ws ds t (i + 1)).headD 0) (CR.placesTo ws ds t (i + 1)) = if CR.due ws ds i < CR.due ws ds best then (i : Int) else best := by
      rw [hd', e, pick_app, ← h2]
    have ne : CR.placesTo ws ds t (i + 1) ≠ [] := by rw [e]; simp
    refine ⟨fun z => .inr ⟨ne, ?_, rfl⟩, fun z => .inr ⟨ne, ?_, h3⟩⟩
    · rw [hp, if_pos (by omega)]
    · rw [hp, if_neg (by omega)]
theorem may_due {ws ds : List Int} {t : Nat} {i : Nat} (w1 : 1 ≤ CR.at0 ws i) (s1 : 1 ≤ ws.sum) (ht : (t : Int) < ws.sum) (c : CR.may ws ds t i = true) : CR.due ws ds i ≤ ws.sum := by
  have c' : CR.at0 ds i * ws.sum < CR.at0 ws i * ((t : Int) + 1) := of_decide_eq_true c
  unfold CR.due
  generalize CR.at0 ds i = d at c' ⊢
  generalize CR.at0 ws i = w at w1 c' ⊢
  generalize ws.sum = T at s1 ht c' ⊢
  have h1 : w * ((t : Int) + 1) ≤ w * T := Int.mul_le_mul_of_nonneg_left (by omega) (by omega)
  have h2 : d < w := Int.lt_of_mul_lt_mul_right (a := T) (by omega) (by omega)
  have h3 : (d + 1) * T ≤ w * T := Int.mul_le_mul_of_nonneg_right (by omega) (by omega)
  have e : (T + 1) * w = w * T + w := by rw [Int.add_mul, Int.one_mul, Int.mul_comm T w]
  have h4 : ((d + 1) * T + w - 1) / w < T + 1 := Int.ediv_lt_of_lt_mul (by omega) (by omega)
  omega
section
variable {P : Program} {w : World} {K : PySem.W.Frag} {mg : Str → Option Value} {base : Heap}
theorem sc__law_wheel : FnScope ["_law_weights", "_law_total", "_law_given", "_law_wheel_here", "_law_n", "_law_best", "_law_place", "_law_weight", "_law_due_here"] ["_law_weights"] (defScope s__law_wheel) := ⟨rfl, rfl, rfl, by decide +kernel, rfl, by decide +kernel, by decide +kernel⟩
theorem ok__law_wheel {f : Addr} {fd : FuncData} (F : Fun K "_law_wheel" "_law_wheel" s__law_wheel f fd) (T : Txt K mg) : FnOk P w K mg base CX0 1 f fd ["_law_weights"] spRow := by
  have sc := sc__law_wheel
  refine F.ok sc (fun vs H Q E h => ?_) (fun cdv A outer s H vs Q E hr h => ?_)
  · obtain ⟨_, _, rfl, _⟩ := h
    rfl
  obtain ⟨a, ws, rfl, ha, g, q⟩ := h
  refine ⟨_, (pss_cons (ps_set (i := 1) sc.nd rfl (Or.inl rfl) (pe_callB (call_sum rfl) rfl T.n_sum (show bootBuiltins _ = some (.builtin "sum") from rfl) (pa_cons (pv 0) pa_nil)))
      (pss_cons (ps_set (i := 2) sc.nd rfl (Or.inl rfl) (pe_op op_rep (pe_lst (pa_cons pe_int pa_nil)) (pe_callB call_len_seq rfl T.n_len (show bootBuiltins _ = some (.builtin "len") from rfl) (pa_cons (pv 0) pa_nil))))
      (pss_cons (ps_set (i := 3) sc.nd rfl (Or.inl rfl) (pe_lst pa_nil))
      (pss_cons (ps_for PassesOwn.never rfl (pi_range1 rfl T.n_range (pa_cons (pv 1) pa_nil)) (pg_name (i := 4) sc.nd rfl (Or.inl rfl))
        (pss_cons (ps_set (i := 5) sc.nd rfl (Or.inl rfl) (pe_tup (pa_cons (pe_op op_add (pv 1) pe_int) (pa_cons pe_int pa_nil))))
      (pss_cons (ps_for PassesOwn.never rfl (pi_range1 rfl T.n_range (pa_cons (pe_callB call_len_seq rfl T.n_len (show bootBuiltins _ = some (.builtin "len") from rfl) (pa_cons (pv 0) pa_nil)) pa_nil)) (pg_name (i := 6) sc.nd rfl (Or.inl rfl))
        (pss_cons (ps_set (i := 7) sc.nd rfl (Or.inl rfl) (pe_ix ix_list (pv 0) (pv 6) (fun _ _ => rfl)))
      (pss_cons (ps_set (i := 8) sc.nd rfl (Or.inl rfl) (pe_op op_fdiv (pe_op op_sub (pe_op op_add (pe_op op_mul (pe_op op_add (pe_ix ix_list (pv 2) (pv 6) (fun _ _ => rfl)) pe_int) (pv 1)) (pv 7)) pe_int) (pv 7)))
      (pss_one (ps_if (PW.pt (pw_and (pt_cmpR op_lt (pe_op op_mul (pe_ix ix_list (pv 2) (pv 6) (fun _ _ => rfl)) (pv 1)) (pe_op op_mul (pv 7) (pe_op op_add (pv 4) pe_int)) (nomark _)) (pw_and1 (pt_cmpR op_lt (pv 8) (pe_ix ix_tup (pv 5) pe_int (fun _ _ => rfl)) (nomark _)))))
        (pss_one (ps_set (i := 5) sc.nd rfl (Or.inl rfl) (pe_tup (pa_cons (pv 8) (pa_cons (pv 6) pa_nil)))))
        pss_nil)))))
      (pss_cons (ps_expr (pe_bm PySem.F.plainAttrs_list PySem.F.slot_list_append PySem.F.type_list_append mt_append (pv 3) (pa_cons (pe_ix ix_tup (pv 5) pe_int (fun _ _ => rfl)) pa_nil)))
      (pss_one (ps_asg (pe_op op_add (pe_ix ix_list (pv 2) (pe_ix ix_tup (pv 5) pe_int (fun _ _ => rfl)) (fun _ _ => rfl)) pe_int) (pg_sub (pv 2) (pe_ix ix_tup (pv 5) pe_int (fun _ _ => rfl)) set_list)))))))
      (pss_one (ps_ret (pv 3))))))), ?_⟩
  have hl : (List.map V.int ws).length = ws.length := List.length_map _
  have g1 := g.lo
  have g2 := g.hi
  have gs := g.sum
  have gp := CR.sum_pos g
  have ep : ((List.map V.int ws).length : Int).toNat = ws.length := by rw [hl]; omega
  refine ⟨_, rfl, a, ws, rfl, SqL.of ha, ?_⟩
  refine ⟨le_line (by show 1 ≤ 1000; decide), fun p0 hp0 => ?_⟩
  have s0 : Same H (upd H p0 (.lst [.int 0])) := same_new hp0 _
  refine ⟨_, rfl, a, _, rfl, .inl (SqL.of (s0 _ _ ha)), p0, _, _, rfl, rfl, upd_same, by omega, by omega, ?_, fun b hb => ?_⟩
  · show 1 * ((List.map V.int ws).length : Int).toNat ≤ sizeLine
    rw [sizeLine_eq]
    omega
  have eb : (List.replicate ((List.map V.int ws).length : Int).toNat [V.int 0]).flatten = (List.replicate ws.length (0 : Int)).map V.int := by
    rw [rep_flat, hl]
    rfl
  rw [eb]
  have s1 : Same H (upd (upd H p0 (.lst [.int 0])) b (.lst ((List.replicate ws.length (0 : Int)).map V.int))) := s0.trans (same_new hb _)
  have hbH : H b = none := s0.free hb
  have h1 : (upd (upd H p0 (.lst [.int 0])) b (.lst ((List.replicate ws.length (0 : Int)).map V.int))) b = some (.lst ((List.replicate ws.length (0 : Int)).map V.int)) := upd_same
  generalize upd (upd H p0 (.lst [.int 0])) b (.lst ((List.replicate ws.length (0 : Int)).map V.int)) = H2 at s1 h1
  refine ⟨Nat.zero_le _, fun r hr' => ?_⟩
  have s2 : Same H2 (upd H2 r (.lst [])) := same_new hr' _
  have hbr : b ≠ r := ne_of_none h1 hr'
  have hrH : H r = none := s1.free hr'
  refine ⟨_, rfl, _, rfl, by omega, by omega, for_range (lo := 0) (n := ws.sum.toNat)
    (fun i σ H3 => (∃ o1 o2 o3 o4 o5, σ = [some (.ref a), some (.int ws.sum), some (.ref b), some (.ref r), o1, o2, o3, o4, o5]) ∧ H3 b = some (.lst ((CR.run ws i).1.map V.int)) ∧ H3 r = some (.lst ((CR.run ws i).2.map V.int)) ∧ Same H H3)
    ⟨⟨none, none, none, none, none, rfl⟩, s2 _ _ h1, upd_same, s1.trans s2⟩ ?_ ?_⟩
  · rintro i σ H3 hi ⟨⟨o1, o2, o3, o4, o5, rfl⟩, hb3, hr3, s3⟩
    have A0 := CR.run_at g i
    have hpl := CR.place_in (t := i) g A0.len A0.sum
    have ei : (0 + (i : Int)) = (i : Int) := by omega
    rw [ei]
    refine ⟨_, rfl, _, _, rfl, rfl, le_line (by show 2 ≤ 1000; decide), fun t0 nt0 => ?_⟩
    have s4 := same_new nt0 (.tup [V.int (ws.sum + 1), V.int 0])
    have e4 : upd H3 t0 (.tup [V.int (ws.sum + 1), V.int 0]) t0 = some (.tup [V.int (ws.sum + 1), V.int 0]) := upd_same
    refine atGH [some (.ref a), some (.int ws.sum), some (.ref b), some (.ref r), some (.int i), some (.ref t0), o3, o4, o5] (upd H3 t0 (.tup [V.int (ws.sum + 1), V.int 0])) rfl rfl ?_
    generalize upd H3 t0 (.tup [V.int (ws.sum + 1), V.int 0]) = H4 at s4 e4
    refine ⟨_, rfl, a, _, rfl, .inl (SqL.of (s4 _ _ (s3 _ _ ha))), _, rfl, by omega, by omega, ?_⟩
    rw [ep]
    generalize hds : (CR.run ws i).1 = ds at hb3 A0 hpl
    have lds : ds.length = ws.length := by rw [← hds]; exact (CR.run_at g i).len
    have hsum : ds.sum = i := by rw [← hds]; exact (CR.run_at g i).sum
    refine for_range (lo := 0) (n := ws.length)
      (fun k σ H5 => (∃ tb o3 o4 o5, ∃ least best : Int, σ = [some (.ref a), some (.int ws.sum), some (.ref b), some (.ref r), some (.int i), some (.ref tb), o3, o4, o5] ∧ H5 tb = some (.tup [.int least, .int best]) ∧ Bst ws ds i k least best) ∧ Same H4 H5)
      ⟨⟨t0, o3, o4, o5, _, _, rfl, e4, .inl ⟨rfl, rfl⟩⟩, Same.refl _⟩ ?_ ?_
    · rintro k σ H5 hk ⟨⟨tb, o3, o4, o5, least, best, rfl, htb, bs⟩, s5⟩
      have ek : (0 + (k : Int)) = (k : Int) := by omega
      rw [ek]
      have hw := gw_at g (k := (k : Int)) (by omega) (by omega)
      have ha5 := s5 _ _ (s4 _ _ (s3 _ _ ha))
      have hb5 := s5 _ _ (s4 _ _ hb3)
      refine ⟨_, rfl, _, rfl, a, _, _, _, rfl, rfl, SqL.of ha5, at_intI (by omega) (by omega), ?_⟩
      refine ⟨_, rfl, _, rfl, b, _, _, _, rfl, rfl, SqL.of hb5, at_intI (by omega) (by omega), _, _, rfl, rfl, _, rfl, _, _, rfl, rfl, .inr ⟨by omega, by omega⟩, _, rfl, _, _, rfl, rfl, _, _, rfl, rfl, _, rfl, _, _, rfl, rfl, ⟨by omega, by omega⟩, ?_⟩
      refine atG [some (.ref a), some (.int ws.sum), some (.ref b), some (.ref r), some (.int i), some (.ref tb), some (.int k), some (.int (ws.getD (k : Int).toNat 0)), some (.int (CR.due ws ds k))] rfl ?_
      refine ⟨_, rfl, _, rfl, b, _, _, _, rfl, rfl, SqL.of hb5, at_intI (by omega) (by omega), _, rfl, _, _, rfl, rfl, .inr ⟨by omega, by omega⟩, ?_⟩
      refine ⟨_, rfl, _, rfl, _, _, rfl, rfl, _, _, rfl, rfl, .inl ⟨by omega, by omega⟩, _, _, rfl, rfl, _, rfl, ?_⟩
      have em : decide (ds.getD (k : Int).toNat 0 * ws.sum < ws.getD (k : Int).toNat 0 * ((i : Int) + 1)) = CR.may ws ds i k := rfl
      rw [em]
      cases c : CR.may ws ds i k with
      | false => exact iteF (iteF ⟨⟨_, _, _, _, _, _, rfl, htb, bst_skip bs c⟩, s5⟩)
      | true =>
        obtain ⟨st1, st2⟩ := bst_step bs c (may_due (t := i) hw.1 gp (by omega) c)
        refine iteT ?_
        refine ⟨_, rfl, _, rfl, tb, _, _, _, rfl, rfl, SqT.of htb, rfl, _, _, rfl, rfl, _, rfl, ?_⟩
        refine ite2 (fun c2 => ?_) (fun c2 => ?_)
        · have c2' : CR.due ws ds k < least := of_decide_eq_true c2
          refine ⟨_, rfl, _, rfl, le_line (by show 2 ≤ 1000; decide), fun t2 nt2 => ?_⟩
          exact ⟨⟨t2, _, _, _, _, _, rfl, upd_same, st1 c2'⟩, s5.trans (same_new nt2 _)⟩
        · have c2' : ¬ CR.due ws ds k < least := of_decide_eq_false (Bool.eq_false_iff.mpr c2)
          exact ⟨⟨_, _, _, _, _, _, rfl, htb, st2 c2'⟩, s5⟩
    · rintro σ H5 ⟨⟨tb, o3, o4, o5, least, best, rfl, htb, bs⟩, s5⟩
      have eb : best = CR.place ws ds i := by
        rcases bs with ⟨z, _⟩ | ⟨_, z, _⟩
        · exact absurd z (CR.places_ne (t := i) g lds hsum)
        · exact z
      subst eb
      have hb5 := s5 _ _ (s4 _ _ hb3)
      have hr5 := s5 _ _ (s4 _ _ hr3)
      have s35 := s3.trans (s4.trans s5)
      refine ⟨_, rfl, .inl ⟨rfl, _, SqL.of hr5⟩, _, rfl, tb, _, _, _, rfl, rfl, SqT.of htb, rfl, r, _, _, rfl, rfl, hr5, ?_, ?_⟩
      · rw [List.length_map, (CR.run_at g i).row, sizeLine_eq]
        omega
      have htr : tb ≠ r := ne_of htb hr5 (by intro z; cases z)
      have htb6 : upd H5 r (.lst ((CR.run ws i).2.map V.int ++ [.int (CR.place ws ds i)])) tb = some (.tup [.int least, .int (CR.place ws ds i)]) := by
        rw [upd_ne htr]
        exact htb
      have hb6 : upd H5 r (.lst ((CR.run ws i).2.map V.int ++ [.int (CR.place ws ds i)])) b = some (.lst (ds.map V.int)) := by
        rw [upd_ne hbr]
        exact hb5
      have lenb : (ds.map V.int).length = ws.length := by rw [List.length_map, lds]
      refine ⟨_, rfl, _, rfl, tb, _, _, _, rfl, rfl, SqT.of htb6, rfl, b, _, _, _, rfl, rfl, SqL.of hb6, at_intI hpl.1 (by rw [lds]; exact hpl.2.1), _, _, rfl, rfl, ?_⟩
      refine ⟨_, rfl, _, rfl, tb, _, _, _, rfl, rfl, SqT.of htb6, rfl, b, _, _, (CR.place ws ds i).toNat, rfl, rfl, hb6, ?_, ?_⟩
      · rw [lenb]
        exact ix_of hpl.1 hpl.2.1
      refine ⟨⟨_, _, _, _, _, rfl⟩, ?_, ?_, fun x o z => ?_⟩
      · rw [upd_same]
        congr 2
        show _ = (CR.put (CR.run ws i).1 (CR.place ws (CR.run ws i).1 i)).map V.int
        rw [hds]
        unfold CR.put
        rw [List.map_set]
        rfl
      · rw [upd_ne hbr.symm, upd_same]
        congr 2
        show _ = ((CR.run ws i).2 ++ [CR.place ws (CR.run ws i).1 i]).map V.int
        rw [hds, List.map_append]
        rfl
      · rw [upd_ne (ne_of_none z hbH), upd_ne (ne_of_none z hrH)]
        exact s35 x o z
  · rintro σ H3 ⟨⟨o1, o2, o3, o4, o5, rfl⟩, hb3, hr3, s3⟩
    exact ⟨_, rfl, q r H3 s3 hrH hr3⟩
end


/-! ### the law's own counts -/
def spSize : Sp := fun vs H Q _ => ∃ n : Int, vs = [.int n] ∧ ∀ (v : Int) H', 0 ≤ v → v < 10 ^ 12 → Same H H' → Q (.int v) H'
def spFirst : Sp := fun vs H Q _ => ∃ wl ws, ∃ n : Int, vs = [.ref wl, .int ws.length, .int n] ∧ H wl = some (.lst (List.map V.int (CR.wheel ws))) ∧ CR.GW ws ∧ ∀ r H', Same H H' → H r = none → H' r = some (.lst (List.map V.int (CR.cnt ws n))) → Q (.ref r) H'
def spDueL : Sp := fun vs H Q _ => ∃ hl xs hs wl, ∃ n m : Int, vs = [.ref hl, .ref wl, .int n, .int m] ∧ H hl = some (.lst xs) ∧ Hss H xs hs ∧ H wl = some (.lst (List.map V.int (CR.wheel (hs.map (·.2))))) ∧ CR.GW (hs.map (·.2)) ∧
  ∀ r ys H', Same H H' → H r = none → H' r = some (.lst ys) → Hss H' ys (dealtL hs (CR.btw (hs.map (·.2)) n m)) → Q (.ref r) H'
def spPairs : Sp := fun vs H Q _ => ∃ a b xs ys ps, vs = [.ref a, .ref b] ∧ H a = some (.lst xs) ∧ H b = some (.lst ys) ∧ Hss H xs ps ∧ Hss H ys ps ∧ ps.length ≤ 8 ∧ Q (.bl true) H
theorem most6 {i : Int} (h0 : 0 ≤ i) (h : i < 6) : 0 < ([1, 4, 30, 1000, 10 ^ (6 : Int).toNat, 10 ^ (12 : Int).toNat] : List Int).getD i.toNat 0 ∧ ([1, 4, 30, 1000, 10 ^ (6 : Int).toNat, 10 ^ (12 : Int).toNat] : List Int).getD i.toNat 0 ≤ 10 ^ 12 := by
  have : i = 0 ∨ i = 1 ∨ i = 2 ∨ i = 3 ∨ i = 4 ∨ i = 5 := by omega
  rcases this with rfl | rfl | rfl | rfl | rfl | rfl <;> exact ⟨by decide, by decide⟩
/-! #### pairs, all the way down -/
def dHw (p : Hw) : D := .seq true [.at (.str p.1), .at (.int p.2)]
theorem Hss.rep {K : PySem.W.Frag} {H : Hp} : ∀ {xs : List V} {ps : List Hw}, Hss H xs ps → Reps K H (ps.map dHw) xs
  | [], [], _ => by rw [List.map_nil]; unfold Reps; rfl
  | [], _ :: _, h => h.elim
  | _ :: _, [], h => h.elim
  | x :: xs, p :: ps, ⟨⟨t, e, h⟩, r⟩ => by
    rw [List.map_cons]
    unfold Reps
    refine ⟨x, xs, rfl, ?_, Hss.rep r⟩
    unfold dHw Rep
    refine ⟨t, _, e, fun _ => SqT.of h, fun z => (nomatch z), ?_⟩
    unfold Reps
    refine ⟨_, _, rfl, ?_, ?_⟩
    · unfold Rep; exact ⟨rfl, rfl⟩
    unfold Reps
    refine ⟨_, _, rfl, ?_, ?_⟩
    · unfold Rep; exact ⟨rfl, rfl⟩
    unfold Reps
    rfl
theorem dHw_same (p : Hw) : eqD (dHw p) (dHw p) = true := by
  obtain ⟨a, b⟩ := p
  unfold dHw eqD eqDs eqDs eqDs eqD
  show (true == true && (eqV (.str a) (.str a) && (b == b && true))) = _
  have : eqV (.str a) (.str a) = true := by unfold eqV; simp
  rw [this]
  simp
theorem dHws_same : ∀ ps : List Hw, eqDs (ps.map dHw) (ps.map dHw) = true
  | [] => by rw [List.map_nil]; unfold eqDs; rfl
  | p :: ps => by
    rw [List.map_cons]
    unfold eqDs
    rw [dHw_same, dHws_same ps]
    rfl
theorem dHw_dep : ∀ ps : List Hw, deps (ps.map dHw) ≤ 1
  | [] => by rw [List.map_nil]; unfold deps; omega
  | p :: ps => by
    rw [List.map_cons]
    unfold deps
    have := dHw_dep ps
    have e : dep (dHw p) = 1 := by
      unfold dHw dep deps deps deps dep
      rfl
    omega
theorem eq_Hss {K : PySem.W.Frag} {H : Hp} {a b : Addr} {xs ys : List V} {ps : List Hw} {Q : VK} (h1 : H a = some (.lst xs)) (h2 : H b = some (.lst ys)) (r1 : Hss H xs ps) (r2 : Hss H ys ps) (q : Q (.bl true) H) : rEqD K false (.ref a) (.ref b) H Q := by
  have rp : ∀ {c : Addr} {zs : List V}, H c = some (.lst zs) → Hss H zs ps → Rep K H (.seq false (ps.map dHw)) (.ref c) := fun {c zs} h r => by
    unfold Rep
    exact ⟨c, zs, rfl, fun z => (nomatch z), fun _ => SqL.of h, r.rep⟩
  refine ⟨false, ps.map dHw, ps.map dHw, rp h1 r1, rp h2 r2, by have := dHw_dep ps; omega, ?_⟩
  show Q (.bl (eqDs (ps.map dHw) (ps.map dHw))) H
  rw [dHws_same]
  exact q
section
seal L2.PS L2.PSs L2.PE L2.PA
variable {P : Program} {w : World} {K : PySem.W.Frag} {mg : Str → Option Value} {base : Heap}
theorem sc__law_size : FnScope ["_law_number", "_law_most"] ["_law_number"] (defScope s__law_size) := ⟨rfl, rfl, rfl, by decide +kernel, rfl, by decide +kernel, by decide +kernel⟩
theorem ok__law_size {f : Addr} {fd : FuncData} (F : Fun K "_law_size" "_law_size" s__law_size f fd) (T : Txt K mg) : FnOk P w K mg base CX0 1 f fd ["_law_number"] spSize := by
  have sc := sc__law_size
  refine F.ok sc (fun vs H Q E h => ?_) (fun cdv A outer s H vs Q E hr h => ?_)
  · obtain ⟨_, rfl, _⟩ := h
    rfl
  obtain ⟨n, rfl, q⟩ := h
  refine ⟨_, (pss_cons (ps_set (i := 1) sc.nd rfl (Or.inl rfl) (pe_ix ix_list (pe_lst (pa_cons pe_int (pa_cons pe_int (pa_cons pe_int (pa_cons pe_int (pa_cons (pe_op op_pow pe_int pe_int) (pa_cons (pe_op op_pow pe_int pe_int) pa_nil))))))) (pe_op op_mod (pv 0) pe_int) (fun _ _ => rfl)))
      (pss_one (ps_ret (pe_op op_mod (pe_op op_mul (pe_op op_fdiv (pv 0) pe_int) pe_int) (pv 1))))), ?_⟩
  have c0 : 0 ≤ n % 6 := Int.emod_nonneg _ (by decide)
  have c6 : n % 6 < 6 := Int.emod_lt_of_pos _ (by decide)
  refine ⟨_, _, rfl, rfl, ⟨by decide, by decide, by decide⟩, _, _, rfl, rfl, ⟨by decide, by decide, by decide⟩, le_line (by show 6 ≤ 1000; decide), fun p6 hp6 => ?_⟩
  have s1 := same_new hp6 (.lst (List.map V.int [1, 4, 30, 1000, 10 ^ (6 : Int).toNat, 10 ^ (12 : Int).toNat]))
  have e1 : upd H p6 (.lst (List.map V.int [1, 4, 30, 1000, 10 ^ (6 : Int).toNat, 10 ^ (12 : Int).toNat])) p6 = some (.lst (List.map V.int [1, 4, 30, 1000, 10 ^ (6 : Int).toNat, 10 ^ (12 : Int).toNat])) := upd_same
  refine ⟨_, rfl, _, _, rfl, rfl, (by show (0 : Int) < 6; decide), p6, _, _, _, rfl, rfl, SqL.of e1, at_intI c0 c6, ?_⟩
  obtain ⟨m0, m1⟩ := most6 c0 c6
  revert s1 e1 m0 m1
  generalize ([1, 4, 30, 1000, 10 ^ (6 : Int).toNat, 10 ^ (12 : Int).toNat] : List Int).getD (n % 6).toNat 0 = m
  intro s1 e1 m0 m1
  refine ⟨_, rfl, _, _, rfl, rfl, ⟨by decide, by decide⟩, _, _, rfl, rfl, .inr ⟨by decide, by decide⟩, _, rfl, _, _, rfl, rfl, m0, ?_⟩
  exact q _ _ (Int.emod_nonneg _ (by omega)) (Int.lt_of_lt_of_le (Int.emod_lt_of_pos _ m0) m1) s1
theorem sc__law_first : FnScope ["_law_wheel_here", "_law_size_here", "_law_n", "_law_rounds", "_law_left", "_law_counts", "_law_place", "_law_more"] ["_law_wheel_here", "_law_size_here", "_law_n"] (defScope s__law_first) := ⟨rfl, rfl, rfl, by decide +kernel, rfl, by decide +kernel, by decide +kernel⟩
theorem ok__law_first {f : Addr} {fd : FuncData} (F : Fun K "_law_first" "_law_first" s__law_first f fd) (T : Txt K mg) : FnOk P w K mg base CX0 1 f fd ["_law_wheel_here", "_law_size_here", "_law_n"] spFirst := by
  have sc := sc__law_first
  refine F.ok sc (fun vs H Q E h => ?_) (fun cdv A outer s H vs Q E hr h => ?_)
  · obtain ⟨_, _, _, rfl, _⟩ := h
    rfl
  obtain ⟨wl, ws, n, rfl, hw, g, q⟩ := h
  refine ⟨_, (pss_cons (ps_asg (pe_callB call_divmod rfl T.n_divmod (show bootBuiltins _ = some (.builtin "divmod") from rfl) (pa_cons (pv 2) (pa_cons (pe_callB call_len_seq rfl T.n_len (show bootBuiltins _ = some (.builtin "len") from rfl) (pa_cons (pv 0) pa_nil)) pa_nil))) (pg_tup (n := 2) rfl (pgs_cons (pg_name (i := 3) sc.nd rfl (Or.inl rfl)) (pgs_cons (pg_name (i := 4) sc.nd rfl (Or.inl rfl)) pgs_nil))))
      (pss_cons (ps_set (i := 5) sc.nd rfl (Or.inl rfl) (pe_lst pa_nil))
      (pss_cons (ps_for PassesOwn.never rfl (pi_range1 rfl T.n_range (pa_cons (pv 1) pa_nil)) (pg_name (i := 6) sc.nd rfl (Or.inl rfl))
        (pss_cons (ps_set (i := 7) sc.nd rfl (Or.inl rfl) (pe_bm PySem.F.plainAttrs_list PySem.F.slot_list_count PySem.F.type_list_count mt_count (pe_slice sl_list (pv 0) po_none (po_some (pv 4))) (pa_cons (pv 6) pa_nil)))
      (pss_one (ps_expr (pe_bm PySem.F.plainAttrs_list PySem.F.slot_list_append PySem.F.type_list_append mt_append (pv 5) (pa_cons (pe_op op_add (pe_op op_mul (pv 3) (pe_bm PySem.F.plainAttrs_list PySem.F.slot_list_count PySem.F.type_list_count mt_count (pv 0) (pa_cons (pv 6) pa_nil))) (pv 7)) pa_nil))))))
      (pss_one (ps_ret (pv 5)))))), ?_⟩
  have gp := CR.sum_pos g
  have gs := g.sum
  have g2 := g.hi
  have wlen := CR.wheel_len g
  have hl : ((List.map V.int (CR.wheel ws)).length : Int) = ws.sum := by rw [List.length_map, wlen]; omega
  have e0 : 0 ≤ n % ws.sum := Int.emod_nonneg _ (by omega)
  have e1 : n % ws.sum < ws.sum := Int.emod_lt_of_pos _ (by omega)
  refine ⟨_, rfl, _, rfl, wl, _, rfl, .inl (SqL.of hw), _, _, rfl, ⟨by omega, by omega⟩, fun pt npt => ?_⟩
  have s1 := same_new npt (.tup [V.int (n / ((List.map V.int (CR.wheel ws)).length : Int)), V.int (n % ((List.map V.int (CR.wheel ws)).length : Int))])
  refine ⟨pt, _, rfl, SqT.of upd_same, rfl, _, _, rfl, _, _, rfl, rfl, ?_⟩
  have hw1 := s1 _ _ hw
  refine ⟨Nat.zero_le _, fun r nr => ?_⟩
  have s2 := same_new nr (.lst [])
  have hr2 : upd (upd H pt (.tup [V.int (n / ((List.map V.int (CR.wheel ws)).length : Int)), V.int (n % ((List.map V.int (CR.wheel ws)).length : Int))])) r (.lst []) r = some (.lst []) := upd_same
  have nrH : H r = none := s1.free nr
  refine atGH [some (.ref wl), some (.int ws.length), some (.int n), some (.int (n / ws.sum)), some (.int (n % ws.sum)), some (.ref r), none, none] _ (by rw [← hl]; rfl) rfl ?_
  have s3 := s1.trans s2
  generalize upd (upd H pt (.tup [V.int (n / ((List.map V.int (CR.wheel ws)).length : Int)), V.int (n % ((List.map V.int (CR.wheel ws)).length : Int))])) r (.lst []) = H2 at s3 hr2
  have ecut : cutV (List.map V.int (CR.wheel ws)) none (some (n % ws.sum)) = List.map V.int ((CR.wheel ws).take (n % ws.sum).toNat) := by
    unfold cutV
    have hs : HT.sIx (List.map V.int (CR.wheel ws)).length (List.map V.int (CR.wheel ws)).length (some (n % ws.sum)) = (n % ws.sum).toNat := by
      show (if n % ws.sum < 0 then _ else _) = _
      rw [if_neg (by omega)]
      omega
    have h0 : HT.sIx (List.map V.int (CR.wheel ws)).length 0 none = 0 := rfl
    rw [hs, h0, List.drop_zero, Nat.sub_zero, List.map_take]
  refine ⟨_, rfl, _, rfl, by omega, by omega, ?_⟩
  have ep : ((ws.length : Nat) : Int).toNat = ws.length := by omega
  rw [ep]
  refine for_range (lo := 0) (n := ws.length)
    (fun i σ H3 => (∃ o1 o2, σ = [some (.ref wl), some (.int ws.length), some (.int n), some (.int (n / ws.sum)), some (.int (n % ws.sum)), some (.ref r), o1, o2]) ∧ H3 r = some (.lst (((List.range i).map fun k : Nat => n / ws.sum * CR.at0 ws k + (((CR.wheel ws).take (n % ws.sum).toNat).count (k : Int) : Nat)).map V.int)) ∧ Same H H3)
    ⟨⟨none, none, rfl⟩, hr2, s3⟩ ?_ ?_
  · rintro i σ H3 hi ⟨⟨o1, o2, rfl⟩, hr3, t3⟩
    have ei : (0 + (i : Int)) = (i : Int) := by omega
    rw [ei]
    have hw3 := t3 _ _ hw
    have hg := gw_at g (k := (i : Int)) (by omega) (by omega)
    refine ⟨_, rfl, _, rfl, _, rfl, wl, _, rfl, SqL.of hw3, fun bg nbg => ?_⟩
    have s4 := same_new nbg (.lst (cutV (List.map V.int (CR.wheel ws)) none (some (n % ws.sum))))
    have hb : upd H3 bg (.lst (cutV (List.map V.int (CR.wheel ws)) none (some (n % ws.sum)))) bg = some (.lst (List.map V.int ((CR.wheel ws).take (n % ws.sum).toNat))) := by rw [upd_same, ecut]
    generalize upd H3 bg (.lst (cutV (List.map V.int (CR.wheel ws)) none (some (n % ws.sum)))) = H4 at s4 hb
    have hw4 := s4 _ _ hw3
    have hr4 := s4 _ _ hr3
    refine ⟨.inl ⟨rfl, _, SqL.of hb⟩, _, rfl, bg, _, _, rfl, rfl, SqL.of hb, rfl, flat_ints _, ?_⟩
    have ew : ((List.map V.int (CR.wheel ws)).countP fun z => eqV z (.int i) : Nat) = (CR.wheel ws).count (i : Int) := countP_int _ _
    have ec : ((List.map V.int ((CR.wheel ws).take (n % ws.sum).toNat)).countP fun z => eqV z (.int i) : Nat) = ((CR.wheel ws).take (n % ws.sum).toNat).count (i : Int) := countP_int _ _
    have wc : (((CR.wheel ws).count (i : Int) : Nat) : Int) = CR.at0 ws i := CR.count_wheel g hi
    refine ⟨_, rfl, .inl ⟨rfl, _, SqL.of hr4⟩, _, rfl, _, rfl, .inl ⟨rfl, _, SqL.of hw4⟩, _, rfl, wl, _, _, rfl, rfl, SqL.of hw4, rfl, flat_ints _, _, _, rfl, rfl, ?_, ?_⟩
    · rw [ew, wc]
      have : CR.at0 ws i = ws.getD (i : Int).toNat 0 := rfl
      exact .inr ⟨by omega, by omega⟩
    refine ⟨_, rfl, _, _, rfl, rfl, r, _, _, rfl, rfl, hr4, ?_, ?_⟩
    · rw [List.length_map, List.length_map, List.length_range]
      exact le_line (by omega)
    refine ⟨⟨_, _, rfl⟩, ?_, fun x o z => ?_⟩
    · rw [upd_same, ew, wc, ec, List.range_succ, List.map_append, List.map_append]
      rfl
    · rw [upd_ne (ne_of_none z nrH)]
      exact s4 _ _ (t3 x o z)
  · rintro σ H3 ⟨⟨o1, o2, rfl⟩, hr3, t3⟩
    exact ⟨_, rfl, q r H3 t3 nrH hr3⟩
theorem sc__law_pairs : FnScope ["_law_found", "_law_due_here", "_law_one_here"] ["_law_found", "_law_due_here"] (defScope s__law_pairs) := ⟨rfl, rfl, rfl, by decide +kernel, rfl, by decide +kernel, by decide +kernel⟩
theorem ok__law_pairs {f : Addr} {fd : FuncData} (F : Fun K "_law_pairs" "_law_pairs" s__law_pairs f fd) (T : Txt K mg) (C_law_whole : Cal P w K mg base 1 "_law_whole" ["_law_found"] (spWhole K)) : FnOk P w K mg base CX0 2 f fd ["_law_found", "_law_due_here"] spPairs := by
  have sc := sc__law_pairs
  refine F.ok sc (fun vs H Q E h => ?_) (fun cdv A outer s H vs Q E hr h => ?_)
  · obtain ⟨_, _, _, _, _, rfl, _⟩ := h
    rfl
  obtain ⟨a, b, xs, ys, ps, rfl, ha, hb, r1, r2, h8, q⟩ := h
  have hu64 := room_64 hr
  refine ⟨_, (pss_cons (ps_if (PW.pt (pw_or (pt_not (pt_val (pe_callB call_isinst rfl T.n_isinstance (show bootBuiltins _ = some (.builtin "isinstance") from rfl) (pa_cons (pv 0) (pa_cons (pe_ty "list" rfl T.n_list rfl) pa_nil))))) (pw_or1 (pt_cmpR op_ne (pe_callB call_len_seq rfl T.n_len (show bootBuiltins _ = some (.builtin "len") from rfl) (pa_cons (pv 0) pa_nil)) (pe_callB call_len_seq rfl T.n_len (show bootBuiltins _ = some (.builtin "len") from rfl) (pa_cons (pv 1) pa_nil)) (nomark _)))))
        (pss_one (ps_ret pe_bl))
        pss_nil)
      (pss_cons (ps_for PassesOwn.never rfl (pi_list (pv 0)) (pg_name (i := 2) sc.nd rfl (Or.inl rfl))
        (pss_cons (ps_if (PW.pt (pw_or (pt_not (pt_val (pe_callB call_isinst rfl T.n_isinstance (show bootBuiltins _ = some (.builtin "isinstance") from rfl) (pa_cons (pv 2) (pa_cons (pe_ty "tuple" rfl T.n_tuple rfl) pa_nil))))) (pw_or1 (pt_cmpR op_ne (pe_callB call_len_seq rfl T.n_len (show bootBuiltins _ = some (.builtin "len") from rfl) (pa_cons (pv 2) pa_nil)) pe_int (nomark _)))))
        (pss_one (ps_ret pe_bl))
        pss_nil)
      (pss_one (ps_if (PW.pt (pw_or (pt_not (pt_val (pe_callB call_isinst rfl T.n_isinstance (show bootBuiltins _ = some (.builtin "isinstance") from rfl) (pa_cons (pe_ix ix_tup (pv 2) pe_int (fun _ _ => rfl)) (pa_cons (pe_ty "str" rfl T.n_str rfl) pa_nil))))) (pw_or1 (pt_not (pt_val (pe_callC C_law_whole (hr.mono (by decide)) rfl (pa_cons (pe_ix ix_tup (pv 2) pe_int (fun _ _ => rfl)) pa_nil)))))))
        (pss_one (ps_ret pe_bl))
        pss_nil))))
      (pss_one (ps_ret (pe_cmpR (op_eqD (K := K) hu64) (pv 0) (pv 1) (nomark _)))))), ?_⟩
  have l1 := r1.len
  have l2 := r2.len
  refine ⟨_, rfl, _, _, _, _, _, rfl, ty_is, .lst ha, kit_ll, _, rfl, iteF ?_⟩
  refine ⟨_, rfl, a, _, rfl, .inl (SqL.of ha), _, rfl, b, _, rfl, .inl (SqL.of hb), rfl, _, rfl, ?_⟩
  refine nF (by rw [l1, l2]) ?_
  refine ⟨_, rfl, a, rfl, ⟨_, SqL.of ha⟩, for_list (K := K) (a := a) (xs := xs) (fun i σ H2 => (∃ o, σ = [some (.ref a), some (.ref b), o]) ∧ H2 = H) ⟨⟨none, rfl⟩, rfl⟩ (fun i σ H2 _ ⟨_, z⟩ => by rw [z]; exact SqL.of ha) ?_ ?_⟩
  · rintro i x σ H2 hi ⟨⟨o, rfl⟩, rfl⟩
    obtain ⟨t, p, _, rfl, ht⟩ := r1.get hi
    refine ⟨_, rfl, _, _, _, _, _, rfl, ty_is, .tup ht, kit_tt, _, rfl, iteF ?_⟩
    refine ⟨_, rfl, t, _, rfl, .inr (SqT.of ht), rfl, _, rfl, nF rfl ?_⟩
    refine ⟨_, rfl, t, _, _, _, rfl, rfl, SqT.of ht, rfl, _, _, _, _, _, rfl, ty_is, .str _, (by kernel_rfl : PySem.W.kitOne K (.type "str") (.type "str") = some true), _, rfl, iteF ?_⟩
    refine ⟨_, rfl, t, _, _, _, rfl, rfl, SqT.of ht, rfl, _, _, rfl, .int _, _, rfl, iteF ?_⟩
    exact ⟨⟨_, rfl⟩, rfl⟩
  · rintro σ H2 ⟨⟨o, rfl⟩, rfl⟩
    exact ⟨_, rfl, _, rfl, eq_Hss ha hb r1 r2 q⟩
theorem sc__law_due : FnScope ["_law_houses_here", "_law_wheel_here", "_law_first_here", "_law_upto", "_law_early", "_law_late", "_law_due_here", "_law_k"] ["_law_houses_here", "_law_wheel_here", "_law_first_here", "_law_upto"] (defScope s__law_due) := ⟨rfl, rfl, rfl, by decide +kernel, rfl, by decide +kernel, by decide +kernel⟩
theorem ok__law_due {f : Addr} {fd : FuncData} (F : Fun K "_law_due" "_law_due" s__law_due f fd) (T : Txt K mg) (C_law_first : Cal P w K mg base 1 "_law_first" ["_law_wheel_here", "_law_size_here", "_law_n"] spFirst) : FnOk P w K mg base CX0 2 f fd ["_law_houses_here", "_law_wheel_here", "_law_first_here", "_law_upto"] spDueL := by
  have sc := sc__law_due
  refine F.ok sc (fun vs H Q E h => ?_) (fun cdv A outer s H vs Q E hr h => ?_)
  · obtain ⟨_, _, _, _, _, _, rfl, _⟩ := h
    rfl
  obtain ⟨hl, xs, hs, wl, n, m, rfl, hh, ph, hw, g, q⟩ := h
  refine ⟨_, (pss_cons (ps_set (i := 4) sc.nd rfl (Or.inl rfl) (pe_callC C_law_first (hr.mono (by decide)) rfl (pa_cons (pv 1) (pa_cons (pe_callB call_len_seq rfl T.n_len (show bootBuiltins _ = some (.builtin "len") from rfl) (pa_cons (pv 0) pa_nil)) (pa_cons (pv 2) pa_nil)))))
      (pss_cons (ps_set (i := 5) sc.nd rfl (Or.inl rfl) (pe_callC C_law_first (hr.mono (by decide)) rfl (pa_cons (pv 1) (pa_cons (pe_callB call_len_seq rfl T.n_len (show bootBuiltins _ = some (.builtin "len") from rfl) (pa_cons (pv 0) pa_nil)) (pa_cons (pv 3) pa_nil)))))
      (pss_cons (ps_set (i := 6) sc.nd rfl (Or.inl rfl) (pe_lst pa_nil))
      (pss_cons (ps_for PassesOwn.never rfl (pi_range1 rfl T.n_range (pa_cons (pe_callB call_len_seq rfl T.n_len (show bootBuiltins _ = some (.builtin "len") from rfl) (pa_cons (pv 0) pa_nil)) pa_nil)) (pg_name (i := 7) sc.nd rfl (Or.inl rfl))
        (pss_one (ps_if (pt_cmpR op_gt (pe_ix ix_list (pv 5) (pv 7) (fun _ _ => rfl)) (pe_ix ix_list (pv 4) (pv 7) (fun _ _ => rfl)) (nomark _))
        (pss_one (ps_expr (pe_bm PySem.F.plainAttrs_list PySem.F.slot_list_append PySem.F.type_list_append mt_append (pv 6) (pa_cons (pe_tup (pa_cons (pe_ix ix_tup (pe_ix ix_list (pv 0) (pv 7) (fun _ _ => rfl)) pe_int (fun _ _ => rfl)) (pa_cons (pe_op op_sub (pe_ix ix_list (pv 5) (pv 7) (fun _ _ => rfl)) (pe_ix ix_list (pv 4) (pv 7) (fun _ _ => rfl))) pa_nil))) pa_nil))))
        pss_nil)))
      (pss_one (ps_ret (pv 6))))))), ?_⟩
  have lx := ph.len
  have g2 := g.hi
  rw [List.length_map] at g2
  have el : ((xs.length : Nat) : Int) = (((hs.map (·.2)).length : Nat) : Int) := by rw [List.length_map, lx]
  refine ⟨_, rfl, _, rfl, hl, _, rfl, .inl (SqL.of hh), _, rfl, wl, hs.map (·.2), n, congrArg (fun z => [V.ref wl, V.int z, V.int n]) el, hw, g, fun r1 H1 s1 _ h1 => ?_⟩
  refine ⟨_, rfl, _, rfl, hl, _, rfl, .inl (SqL.of (s1 _ _ hh)), _, rfl, wl, hs.map (·.2), m, congrArg (fun z => [V.ref wl, V.int z, V.int m]) el, s1 _ _ hw, g, fun r2 H2 s2 _ h2 => ?_⟩
  have h12 := s2 _ _ h1
  have hh2 := s2 _ _ (s1 _ _ hh)
  refine ⟨Nat.zero_le _, fun r nr => ?_⟩
  have s3 := same_new nr (.lst [])
  have hr3 : upd H2 r (.lst []) r = some (.lst []) := upd_same
  have nrH : H r = none := (s1.trans s2).free nr
  refine ⟨_, rfl, hl, _, rfl, .inl (SqL.of (s3 _ _ hh2)), _, rfl, by omega, by omega, ?_⟩
  have ep : ((xs.length : Nat) : Int).toNat = hs.length := by rw [lx]; omega
  rw [ep]
  have lb : (CR.btw (hs.map (·.2)) n m).length = hs.length := by rw [CR.btw_len, List.length_map]
  have lc : ∀ z : Int, (CR.cnt (hs.map (·.2)) z).length = hs.length := fun z => by rw [CR.cnt_len, List.length_map]
  refine for_range (lo := 0) (n := hs.length)
    (fun i σ H4 => (∃ o, σ = [some (.ref hl), some (.ref wl), some (.int n), some (.int m), some (.ref r1), some (.ref r2), some (.ref r), o]) ∧ (∃ ys, H4 r = some (.lst ys) ∧ Hss H4 ys (dealtL (hs.take i) ((CR.btw (hs.map (·.2)) n m).take i))) ∧ Same H2 H4)
    ⟨⟨none, rfl⟩, ⟨[], hr3, trivial⟩, s3⟩ ?_ ?_
  · rintro i σ H4 hi ⟨⟨o, rfl⟩, ⟨ys, hy, py⟩, s4⟩
    have ei : (0 + (i : Int)) = (i : Int) := by omega
    rw [ei]
    have e1 : (CR.cnt (hs.map (·.2)) n).getD (i : Int).toNat 0 = CR.at0 (CR.cnt (hs.map (·.2)) n) i := rfl
    have e2 : (CR.cnt (hs.map (·.2)) m).getD (i : Int).toNat 0 = CR.at0 (CR.cnt (hs.map (·.2)) m) i := rfl
    have eb := CR.btw_at (ws := hs.map (·.2)) n m (k := i) (by rw [List.length_map]; exact hi)
    have hb : (CR.btw (hs.map (·.2)) n m)[i]? = some (CR.at0 (CR.cnt (hs.map (·.2)) m) i - CR.at0 (CR.cnt (hs.map (·.2)) n) i) := by
      rw [← eb]
      have lt : i < (CR.btw (hs.map (·.2)) n m).length := by omega
      unfold CR.at0
      rw [List.getD_eq_getElem?_getD, show (i : Int).toNat = i from rfl, List.getElem?_eq_getElem lt]
      rfl
    have hx : hs[i]? = some hs[i] := List.getElem?_eq_getElem hi
    have hxi : xs[i]? = some (xs[i]'(by omega)) := List.getElem?_eq_getElem (by omega)
    obtain ⟨t, p, hp, ex, ht⟩ := (ph.mono (tst_same (s1.trans (s2.trans s4)))).get hxi
    have ep' : p = hs[i] := by rw [hx] at hp; exact (Option.some.inj hp).symm
    have dt := dealt_take hs (CR.btw (hs.map (·.2)) n m) i hp hb
    have hly : ys.length ≤ 8 := by
      rw [py.len]
      have := dealt_len (hs.take i) ((CR.btw (hs.map (·.2)) n m).take i)
      rw [List.length_take] at this
      omega
    have hh4 := s4 _ _ hh2
    refine ⟨_, rfl, _, rfl, r2, _, _, _, rfl, rfl, SqL.of (s4 _ _ h2), at_intI (by omega) (by rw [lc]; omega), _, rfl, _, rfl, r1, _, _, _, rfl, rfl, SqL.of (s4 _ _ h12), at_intI (by omega) (by rw [lc]; omega), _, _, rfl, rfl, _, rfl, ?_⟩
    rw [e1, e2]
    refine ite2 (fun c => ?_) (fun c => ?_)
    · have c' : CR.at0 (CR.cnt (hs.map (·.2)) n) i < CR.at0 (CR.cnt (hs.map (·.2)) m) i := of_decide_eq_true c
      refine ⟨_, rfl, .inl ⟨rfl, _, SqL.of hy⟩, _, rfl, _, rfl, hl, _, _, _, rfl, rfl, SqL.of hh4, ?_, t, _, _, _, ex, rfl, SqT.of ht, rfl, ?_⟩
      · exact atI_nat hxi
      refine ⟨_, rfl, _, rfl, r2, _, _, _, rfl, rfl, SqL.of (s4 _ _ h2), at_intI (by omega) (by rw [lc]; omega), _, rfl, _, rfl, r1, _, _, _, rfl, rfl, SqL.of (s4 _ _ h12), at_intI (by omega) (by rw [lc]; omega), _, _, rfl, rfl, le_line (by show 2 ≤ 1000; decide), fun t2 n2 => ?_⟩
      have s5 := same_new n2 (.tup [V.str p.1, V.int (CR.at0 (CR.cnt (hs.map (·.2)) m) i - CR.at0 (CR.cnt (hs.map (·.2)) n) i)])
      have e5 : upd H4 t2 (.tup [V.str p.1, V.int (CR.at0 (CR.cnt (hs.map (·.2)) m) i - CR.at0 (CR.cnt (hs.map (·.2)) n) i)]) t2 = some (.tup [V.str p.1, V.int (CR.at0 (CR.cnt (hs.map (·.2)) m) i - CR.at0 (CR.cnt (hs.map (·.2)) n) i)]) := upd_same
      have hy5 := s5 _ _ hy
      have n3 : t2 ≠ r := (ne_of_none hy n2).symm
      refine ⟨r, _, _, rfl, rfl, hy5, by rw [sizeLine_eq]; omega, ?_⟩
      refine ⟨⟨_, rfl⟩, ⟨_, upd_same, ?_⟩, fun x o z => ?_⟩
      · rw [dt, if_pos (by omega)]
        exact Hss.snoc (Hss.mono ((tst_same s5).trans (tst_lst hy5 _)) py) (by rw [upd_ne n3]; exact e5)
      · rw [upd_ne (ne_of_none z nr)]
        exact s5 _ _ (s4 x o z)
    · have c' : ¬ CR.at0 (CR.cnt (hs.map (·.2)) n) i < CR.at0 (CR.cnt (hs.map (·.2)) m) i := fun z => c (decide_eq_true z)
      refine ⟨⟨_, rfl⟩, ⟨ys, hy, ?_⟩, s4⟩
      rw [dt, if_neg (by omega), List.append_nil]
      exact py
  · rintro σ H4 ⟨⟨o, rfl⟩, ⟨ys, hy, py⟩, s4⟩
    rw [List.take_length, List.take_of_length_le (by omega)] at py
    exact ⟨_, rfl, q r ys H4 (s1.trans (s2.trans s4)) nrH hy py⟩
end


/-! ### the law's own names -/
def ltr (i : Int) : Nat := 97 + (i % 26).toNat
theorem ltr_letter (i : Int) : letter (ltr i) := by
  unfold letter ltr
  have h0 : 0 ≤ i % 26 := Int.emod_nonneg _ (by decide)
  have h1 : i % 26 < 26 := Int.emod_lt_of_pos _ (by decide)
  omega
theorem abc_at (i : Int) : atI (Str.ofString "abcdefghijklmnopqrstuvwxyz").cps.toList (i % 26) = some (ltr i) := by
  have e : (Str.ofString "abcdefghijklmnopqrstuvwxyz").cps.toList = (List.range 26).map (97 + ·) := by decide +kernel
  have h0 : 0 ≤ i % 26 := Int.emod_nonneg _ (by decide)
  have h1 : i % 26 < 26 := Int.emod_lt_of_pos _ (by decide)
  obtain ⟨k, ek⟩ := Int.eq_ofNat_of_zero_le h0
  rw [e]
  unfold ltr
  rw [ek]
  refine atI_nat ?_
  rw [List.getElem?_map, List.getElem?_range (by omega)]
  rfl
theorem abc_len : (Str.ofString "abcdefghijklmnopqrstuvwxyz").length ≤ sizeLine := by
  have e : (Str.ofString "abcdefghijklmnopqrstuvwxyz").length = 26 := by decide +kernel
  rw [e]
  exact le_line (by decide)
theorem join_set {c : Prop} {inst : Decidable c} {te : TE} {i : Nat} {D : Ends} {σ : St} {H : Hp} (G : V → Hp → Prop) (v0 : V) (e0 : σ.set i (some v0) = σ) (g0 : ¬ c → G v0 H) (h : c → ∀ Q : VK, (∀ v H', G v H' → Q v H') → te σ H Q) (R : ∀ v H', G v H' → D.nx (σ.set i (some v)) H') :
    @ite Prop c inst (tAsg te (gName i) D σ H) (tNext D σ H) := by
  by_cases z : c
  · rw [if_pos z]; exact h z _ R
  · rw [if_neg z]
    have r := R v0 H (g0 z)
    rw [e0] at r
    exact r
theorem atσ {nx : St → Hp → Prop} {σ : St} {H : Hp} (σ' : St) (e : σ = σ') (h : nx σ' H) : nx σ H := e ▸ h
def selfL : List Nat := [115, 101, 108, 102]
def selL : List Nat := [115, 101, 108]
theorem self_tx : Str.ofString "self" = tx selfL := by decide +kernel
theorem sel_tx : Str.ofString "sel" = tx selL := by decide +kernel
/-- the name by the number j: of the stem st, changed at the place a, by n; or a letter many times -/
def rawN (n : Int) (st : List Nat) (a j : Nat) : List Nat := if n / 512 % 3 = 1 then List.replicate (j + 1) (ltr (n / 26)) else st.take a ++ [ltr (n / 26 + j)] ++ st.drop (a + 1)
def finN (n : Int) (st : List Nat) (a j : Nat) : List Nat := if rawN n st a j = selfL then selL else rawN n st a j
structure Stem (st : List Nat) (a : Nat) : Prop where
  lo : a < st.length
  hi : st.length ≤ 8
  all : AllLet st
theorem raw_name {n : Int} {st : List Nat} {a j : Nat} (S : Stem st a) (hj : j < 8) : NameL (rawN n st a j) := by
  unfold rawN
  split
  · refine ⟨by rw [List.length_replicate]; omega, fun c hc => ?_⟩
    rw [List.eq_of_mem_replicate hc]
    exact ltr_letter _
  · have := S.lo
    have := S.hi
    refine ⟨?_, fun c hc => ?_⟩
    · rw [List.length_append, List.length_append, List.length_take, List.length_drop]
      show 1 ≤ _ + 1 + _ ∧ _ + 1 + _ ≤ 8
      omega
    · rcases List.mem_append.mp hc with z | z
      · rcases List.mem_append.mp z with z | z
        · exact S.all c (List.mem_of_mem_take z)
        · rw [List.mem_singleton.mp z]
          exact ltr_letter _
      · exact S.all c (List.mem_of_mem_drop z)
theorem fin_name {n : Int} {st : List Nat} {a j : Nat} (S : Stem st a) (hj : j < 8) : NameL (finN n st a j) := by
  unfold finN
  split
  · decide
  · exact raw_name S hj
theorem fin_self {n : Int} {st : List Nat} {a j : Nat} : finN n st a j ≠ selfL := by
  unfold finN
  split
  · decide
  · assumption
theorem raw_inj {n : Int} {st : List Nat} {a i j : Nat} (hi : i < 8) (hj : j < 8) (h : rawN n st a i = rawN n st a j) : i = j := by
  unfold rawN at h
  split at h
  · have := congrArg List.length h
    rw [List.length_replicate, List.length_replicate] at this
    omega
  · have e1 : st.take a ++ [ltr (n / 26 + i)] = st.take a ++ [ltr (n / 26 + j)] := (List.append_inj' h rfl).1
    have e2 : ltr (n / 26 + i) = ltr (n / 26 + j) := by simpa using e1
    unfold ltr at e2
    generalize n / 26 = m at e2
    have a0 : 0 ≤ (m + (i : Int)) % 26 := Int.emod_nonneg _ (by decide)
    have b0 : 0 ≤ (m + (j : Int)) % 26 := Int.emod_nonneg _ (by decide)
    omega
theorem raw_len {n : Int} {st : List Nat} {a i j : Nat} (hn : ¬ n / 512 % 3 = 1) : (rawN n st a i).length = (rawN n st a j).length := by
  unfold rawN
  rw [if_neg hn, if_neg hn]
  simp
theorem rep_self {n : Int} {st : List Nat} {a i : Nat} (hn : n / 512 % 3 = 1) : rawN n st a i ≠ selfL := by
  unfold rawN
  rw [if_pos hn]
  intro z
  have h1 : (115 : Nat) ∈ List.replicate (i + 1) (ltr (n / 26)) := by rw [z]; decide
  have h2 : (101 : Nat) ∈ List.replicate (i + 1) (ltr (n / 26)) := by rw [z]; decide
  have e1 := List.eq_of_mem_replicate h1
  have e2 := List.eq_of_mem_replicate h2
  omega
theorem fin_inj {n : Int} {st : List Nat} {a i j : Nat} (hi : i < 8) (hj : j < 8) (h : finN n st a i = finN n st a j) : i = j := by
  by_cases hn : n / 512 % 3 = 1
  · unfold finN at h
    rw [if_neg (rep_self hn), if_neg (rep_self hn)] at h
    exact raw_inj hi hj h
  · have len := raw_len (st := st) (a := a) (i := i) (j := j) hn
    unfold finN at h
    by_cases zi : rawN n st a i = selfL
    · by_cases zj : rawN n st a j = selfL
      · exact raw_inj hi hj (zi.trans zj.symm)
      · rw [if_pos zi, if_neg zj] at h
        rw [zi, ← h] at len
        exact absurd len (by decide)
    · by_cases zj : rawN n st a j = selfL
      · rw [if_neg zi, if_pos zj] at h
        rw [zj, h] at len
        exact absurd len (by decide)
      · rw [if_neg zi, if_neg zj] at h
        exact raw_inj hi hj h
def spNames : Sp := fun vs H Q _ => ∃ n k : Int, vs = [.int n, .int k] ∧ 0 ≤ n ∧ 1 ≤ k ∧ k ≤ 8 ∧ ∀ r (ns : List (List Nat)) H', Same H H' → H r = none → H' r = some (.lst (ns.map fun l => V.str (tx l))) → (ns.length : Int) = k → (∀ l ∈ ns, NameL l ∧ l ≠ selfL) → ns.Nodup → Q (.ref r) H'
section
seal L2.PS L2.PSs L2.PE L2.PA
variable {P : Program} {w : World} {K : PySem.W.Frag} {mg : Str → Option Value} {base : Heap}
theorem sc__law_names : FnScope ["_law_number", "_law_size_here", "_law_letters", "_law_stem", "_law_k", "_law_at", "_law_found", "_law_sign", "_law_name"] ["_law_number", "_law_size_here"] (defScope s__law_names) := ⟨rfl, rfl, rfl, by decide +kernel, rfl, by decide +kernel, by decide +kernel⟩
theorem ok__law_names {f : Addr} {fd : FuncData} (F : Fun K "_law_names" "_law_names" s__law_names f fd) (T : Txt K mg) : FnOk P w K mg base CX0 1 f fd ["_law_number", "_law_size_here"] spNames := by
  have sc := sc__law_names
  refine F.ok sc (fun vs H Q E h => ?_) (fun cdv A outer s H vs Q E hr h => ?_)
  · obtain ⟨_, _, rfl, _⟩ := h
    rfl
  obtain ⟨n, k, rfl, hn, k1, k8, q⟩ := h
  refine ⟨_, (pss_cons (ps_set (i := 2) sc.nd rfl (Or.inl rfl) pe_str)
      (pss_cons (ps_set (i := 3) sc.nd rfl (Or.inl rfl) pe_str)
      (pss_cons (ps_for PassesOwn.never rfl (pi_range1 rfl T.n_range (pa_cons (pe_op op_add pe_int (pe_op op_mod (pv 0) pe_int)) pa_nil)) (pg_name (i := 4) sc.nd rfl (Or.inl rfl))
        (pss_cons (ps_set (i := 5) sc.nd rfl (Or.inl rfl) (pe_op op_add (pe_op op_add (pe_op op_fdiv (pv 0) pe_int) (pe_op op_mul (pe_op op_mul (pe_op op_fdiv (pv 0) pe_int) (pv 4)) (pv 4))) (pe_op op_mul pe_int (pv 4))))
      (pss_one (ps_set (i := 3) sc.nd rfl (Or.inl rfl) (pe_op op_add_str (pv 3) (pe_ix ix_str (pv 2) (pe_op op_mod (pv 5) pe_int) (fun _ _ => rfl)))))))
      (pss_cons (ps_set (i := 5) sc.nd rfl (Or.inl rfl) (pe_op op_mod (pe_op op_fdiv (pv 0) pe_int) (pe_callB call_len_str rfl T.n_len (show bootBuiltins _ = some (.builtin "len") from rfl) (pa_cons (pv 3) pa_nil))))
      (pss_cons (ps_set (i := 6) sc.nd rfl (Or.inl rfl) (pe_lst pa_nil))
      (pss_cons (ps_for PassesOwn.never rfl (pi_range1 rfl T.n_range (pa_cons (pv 1) pa_nil)) (pg_name (i := 4) sc.nd rfl (Or.inl rfl))
        (pss_cons (ps_set (i := 7) sc.nd rfl (Or.inl rfl) (pe_ix ix_str (pv 2) (pe_op op_mod (pe_op op_add (pe_op op_fdiv (pv 0) pe_int) (pv 4)) pe_int) (fun _ _ => rfl)))
      (pss_cons (ps_set (i := 8) sc.nd rfl (Or.inl rfl) (pe_op op_add_str (pe_op op_add_str (pe_slice sl_str (pv 3) po_none (po_some (pv 5))) (pv 7)) (pe_slice sl_str (pv 3) (po_some (pe_op op_add (pv 5) pe_int)) po_none)))
      (pss_cons (ps_if (pt_cmpR op_eq (pe_op op_mod (pe_op op_fdiv (pv 0) pe_int) pe_int) pe_int (nomark _))
        (pss_one (ps_set (i := 8) sc.nd rfl (Or.inl rfl) (pe_op op_mul_str (pe_ix ix_str (pv 2) (pe_op op_mod (pe_op op_fdiv (pv 0) pe_int) pe_int) (fun _ _ => rfl)) (pe_op op_add (pv 4) pe_int))))
        pss_nil)
      (pss_cons (ps_if (pt_cmpR op_eq (pv 8) pe_str (nomark _))
        (pss_one (ps_set (i := 8) sc.nd rfl (Or.inl rfl) pe_str))
        pss_nil)
      (pss_one (ps_expr (pe_bm PySem.F.plainAttrs_list PySem.F.slot_list_append PySem.F.type_list_append mt_append (pv 6) (pa_cons (pv 8) pa_nil)))))))))
      (pss_one (ps_ret (pv 6))))))))), ?_⟩
  have c0 : 0 ≤ n % 8 := Int.emod_nonneg _ (by decide)
  have c8 : n % 8 < 8 := Int.emod_lt_of_pos _ (by decide)
  have et : Str.ofString "" = tx [] := by decide +kernel
  refine ⟨_, rfl, _, _, rfl, rfl, (by show (0 : Int) < 8; decide), _, _, rfl, rfl, _, rfl, by omega, by omega, ?_⟩
  refine for_range (lo := 0) (n := (1 + n % 8).toNat)
    (fun i σ H2 => (∃ (st : List Nat) (o4 o5 : Option V), σ = [some (.int n), some (.int k), some (.str (Str.ofString "abcdefghijklmnopqrstuvwxyz")), some (.str (tx st)), o4, o5, none, none, none] ∧ st.length = i ∧ AllLet st) ∧ H2 = H)
    ⟨⟨[], none, none, congrArg (fun z : Str => [some (V.int n), some (V.int k), some (V.str (Str.ofString "abcdefghijklmnopqrstuvwxyz")), some (V.str z), none, none, none, none, none]) et, rfl, fun _ z => nomatch z⟩, rfl⟩ ?_ ?_
  · rintro i σ H2 hi ⟨⟨st, o4, o5, rfl, ls, al⟩, rfl⟩
    have ib : (-(2 ^ 64) < (0 + (i : Int)) ∧ (0 + (i : Int)) < 2 ^ 64) := by omega
    refine ⟨_, rfl, _, _, rfl, rfl, ⟨by decide, by decide⟩, _, rfl, _, _, rfl, rfl, ⟨by decide, by decide⟩, _, rfl, _, _, rfl, rfl, .inr ib, _, rfl, _, _, rfl, rfl, .inr ib, _, _, rfl, rfl, _, rfl, _, _, rfl, rfl, .inl ⟨by decide, by decide⟩, _, _, rfl, rfl, ?_⟩
    refine atG [some (.int n), some (.int k), some (.str (Str.ofString "abcdefghijklmnopqrstuvwxyz")), some (.str (tx st)), some (.int (0 + (i : Int))), some (.int (n / 8 + n / 208 * (0 + (i : Int)) * (0 + (i : Int)) + 5 * (0 + (i : Int)))), none, none, none] rfl ?_
    generalize n / 8 + n / 208 * (0 + (i : Int)) * (0 + (i : Int)) + 5 * (0 + (i : Int)) = v
    refine ⟨_, rfl, _, rfl, _, rfl, _, _, rfl, rfl, (by show (0 : Int) < 26; decide), _, _, _, rfl, rfl, abc_len, abc_at v, _, _, rfl, rfl, ?_, ?_⟩
    · show (tx st).length + (tx [ltr v]).length ≤ sizeLine
      rw [tx_len, tx_len, ls]
      exact le_line (by show i + 1 ≤ 1000; omega)
    refine ⟨⟨st ++ [ltr v], _, _, congrArg (fun z : Str => [some (V.int n), some (V.int k), some (V.str (Str.ofString "abcdefghijklmnopqrstuvwxyz")), some (V.str z), some (V.int (0 + (i : Int))), some (V.int v), none, none, none]) (tx_app st [ltr v]), by rw [List.length_append, ls]; rfl, fun c hc => ?_⟩, rfl⟩
    rcases List.mem_append.mp hc with z | z
    · exact al c z
    · rw [List.mem_singleton.mp z]
      exact ltr_letter v
  · rintro σ H2 ⟨⟨st, o4, o5, rfl, ls, al⟩, rfl⟩
    have sl : (tx st).length = st.length := tx_len _
    have sz : (tx st).length ≤ sizeLine := by rw [sl]; exact le_line (by omega)
    have d0 : 0 ≤ n / 64 % ((tx st).length : Nat) := Int.emod_nonneg _ (by rw [sl]; omega)
    have d1 : n / 64 % ((tx st).length : Nat) < (st.length : Nat) := by rw [← sl]; exact Int.emod_lt_of_pos _ (by rw [sl]; omega)
    obtain ⟨a, ea⟩ := Int.eq_ofNat_of_zero_le d0
    rw [ea] at d1
    have S : Stem st a := ⟨by omega, by omega, al⟩
    refine ⟨_, rfl, _, _, rfl, rfl, ⟨by decide, by decide⟩, _, rfl, _, rfl, sz, _, _, rfl, rfl, (by show (0 : Int) < ((tx st).length : Nat); rw [sl]; omega), ?_⟩
    refine atG [some (.int n), some (.int k), some (.str (Str.ofString "abcdefghijklmnopqrstuvwxyz")), some (.str (tx st)), o4, some (.int (a : Int)), none, none, none] (by exact congrArg (fun z : Int => [some (V.int n), some (V.int k), some (V.str (Str.ofString "abcdefghijklmnopqrstuvwxyz")), some (V.str (tx st)), o4, some (V.int z), none, none, none]) ea) ?_
    refine ⟨Nat.zero_le _, fun r nr => ?_⟩
    have s1 := same_new nr (.lst [])
    have e1 : upd H2 r (.lst []) r = some (.lst []) := upd_same
    refine ⟨_, rfl, _, rfl, by omega, by omega, ?_⟩
    refine for_range (lo := 0) (n := k.toNat)
      (fun i σ H3 => (∃ o4 o7 o8 : Option V, σ = [some (.int n), some (.int k), some (.str (Str.ofString "abcdefghijklmnopqrstuvwxyz")), some (.str (tx st)), o4, some (.int (a : Int)), some (.ref r), o7, o8]) ∧ H3 r = some (.lst (((List.range i).map (finN n st a)).map fun l => V.str (tx l))) ∧ Same H2 H3)
      ⟨⟨_, none, none, rfl⟩, e1, s1⟩ ?_ ?_
    · rintro i σ H3 hi ⟨⟨o4, o7, o8, rfl⟩, h3, s3⟩
      have i8 : i < 8 := by omega
      have ei : (0 + (i : Int)) = (i : Int) := by omega
      rw [ei]
      have st1 : Txt.slice (tx st) none (some (a : Int)) = tx (st.take a) := slice_to (by omega) (by omega)
      have st2 : Txt.slice (tx st) (some ((a : Int) + 1)) none = tx (st.drop (a + 1)) := by
        have z := slice_from (l := st) (i := (a : Int) + 1) (by omega) (by omega)
        rw [show ((a : Int) + 1).toNat = a + 1 by omega] at z
        exact z
      have S1 := S.lo
      refine ⟨_, rfl, _, rfl, _, _, rfl, rfl, ⟨by decide, by decide⟩, _, rfl, _, _, rfl, rfl, _, _, rfl, rfl, (by show (0 : Int) < 26; decide), _, _, _, rfl, rfl, abc_len, abc_at _, ?_⟩
      refine atG [some (.int n), some (.int k), some (.str (Str.ofString "abcdefghijklmnopqrstuvwxyz")), some (.str (tx st)), some (.int (i : Int)), some (.int (a : Int)), some (.ref r), some (.str (tx [ltr (n / 26 + i)])), o8] rfl ?_
      refine ⟨_, rfl, _, rfl, _, rfl, _, rfl, sz, ?_⟩
      rw [st1]
      refine ⟨_, rfl, _, _, rfl, rfl, ?_, ?_⟩
      · rw [tx_len, tx_len, List.length_take]
        exact le_line (by show _ + 1 ≤ 1000; omega)
      rw [tx_app]
      refine ⟨_, rfl, _, rfl, _, _, rfl, rfl, _, rfl, _, rfl, sz, ?_⟩
      rw [st2]
      refine ⟨_, _, rfl, rfl, ?_, ?_⟩
      · rw [tx_len, tx_len, List.length_append, List.length_take, List.length_drop]
        exact le_line (by show _ + 1 + _ ≤ 1000; omega)
      rw [tx_app]
      refine atG [some (.int n), some (.int k), some (.str (Str.ofString "abcdefghijklmnopqrstuvwxyz")), some (.str (tx st)), some (.int (i : Int)), some (.int (a : Int)), some (.ref r), some (.str (tx [ltr (n / 26 + i)])), some (.str (tx (st.take a ++ [ltr (n / 26 + i)] ++ st.drop (a + 1))))] rfl ?_
      refine ⟨_, rfl, _, _, rfl, rfl, ⟨by decide, by decide⟩, _, _, rfl, rfl, (by show (0 : Int) < 3; decide), rfl, _, rfl, ?_⟩
      refine join_set (fun v H' => v = .str (tx (rawN n st a i)) ∧ H' = H3) (.str (tx (st.take a ++ [ltr (n / 26 + i)] ++ st.drop (a + 1)))) rfl (fun c => ⟨?_, rfl⟩) (fun c Q' rest => ?_) ?_
      · have c' : ¬ n / 512 % 3 = 1 := fun z => c (decide_eq_true (congrArg V.int z))
        unfold rawN
        rw [if_neg c']
      · have c' : n / 512 % 3 = 1 := V.int.inj (of_decide_eq_true c)
        refine ⟨_, rfl, _, rfl, _, _, rfl, rfl, ⟨by decide, by decide⟩, _, _, rfl, rfl, (by show (0 : Int) < 26; decide), _, _, _, rfl, rfl, abc_len, abc_at _, _, rfl, _, _, rfl, rfl, [ltr (n / 26)], _, rfl, rfl, by omega, by omega, (show 1 ≤ 1000 from by decide), rest _ _ ⟨?_, rfl⟩⟩
        unfold rawN
        rw [if_pos c', show ((i : Int) + 1).toNat = i + 1 by omega]
        have e : ∀ m : Nat, (List.replicate m [ltr (n / 26)]).flatten = List.replicate m (ltr (n / 26)) := fun m => by
          induction m with
          | zero => rfl
          | succ m ih => rw [List.replicate_succ, List.flatten_cons, ih, List.replicate_succ]; rfl
        rw [e]
      rintro v9 H9 ⟨ev, e9⟩
      subst ev
      rw [e9]
      refine atσ [some (.int n), some (.int k), some (.str (Str.ofString "abcdefghijklmnopqrstuvwxyz")), some (.str (tx st)), some (.int (i : Int)), some (.int (a : Int)), some (.ref r), some (.str (tx [ltr (n / 26 + i)])), some (.str (tx (rawN n st a i)))] rfl ?_
      refine ⟨_, rfl, rfl, _, rfl, ?_⟩
      refine join_set (fun v H' => v = .str (tx (finN n st a i)) ∧ H' = H3) (.str (tx (rawN n st a i))) rfl (fun c => ⟨?_, rfl⟩) (fun c Q' rest => ?_) ?_
      · have c' : ¬ rawN n st a i = selfL := fun z => c (by rw [z, self_tx]; exact decide_eq_true rfl)
        unfold finN
        rw [if_neg c']
      · have c' : rawN n st a i = selfL := by
          have z : V.str (tx (rawN n st a i)) = V.str (Str.ofString "self") := of_decide_eq_true c
          rw [self_tx] at z
          exact tx_inj (V.str.inj z)
        refine rest _ _ ⟨?_, rfl⟩
        unfold finN
        rw [if_pos c', sel_tx]
      rintro v9 H9 ⟨ev, e9⟩
      subst ev
      rw [e9]
      refine atσ [some (.int n), some (.int k), some (.str (Str.ofString "abcdefghijklmnopqrstuvwxyz")), some (.str (tx st)), some (.int (i : Int)), some (.int (a : Int)), some (.ref r), some (.str (tx [ltr (n / 26 + i)])), some (.str (tx (finN n st a i)))] rfl ?_
      refine ⟨_, rfl, .inl ⟨rfl, _, SqL.of h3⟩, _, rfl, r, _, _, rfl, rfl, h3, ?_, ?_⟩
      · rw [List.length_map, List.length_map, List.length_range, sizeLine_eq]
        omega
      refine ⟨⟨_, _, _, rfl⟩, ?_, fun x o z => ?_⟩
      · rw [upd_same, List.range_succ, List.map_append, List.map_append]
        rfl
      · rw [upd_ne (ne_of_none z nr)]
        exact s3 x o z
    · rintro σ H3 ⟨⟨o4, o7, o8, rfl⟩, h3, s3⟩
      refine ⟨_, rfl, q r ((List.range k.toNat).map (finN n st a)) H3 s3 nr h3 (by rw [List.length_map, List.length_range]; omega) (fun l hl => ?_) ?_⟩
      · obtain ⟨j, hj, rfl⟩ := List.mem_map.mp hl
        have := List.mem_range.mp hj
        exact ⟨fin_name S (by omega), fin_self⟩
      · unfold List.Nodup
        rw [List.pairwise_map]
        refine List.Pairwise.imp_of_mem (fun hx hy ne e => ?_) List.nodup_range
        have hx' := List.mem_range.mp hx
        have hy' := List.mem_range.mp hy
        exact ne (fin_inj (by omega) (by omega) e)
end


/-! ### the law's own houses -/
def spHouseL : Sp := fun vs H Q _ => ∃ n k : Int, vs = [.int n, .int k, .int n] ∧ 0 ≤ n ∧ 1 ≤ k ∧ k ≤ 8 ∧ ∀ r xs (hs : List Hw) H', Same H H' → H r = none → H' r = some (.lst xs) → Hss H' xs hs → (∀ z ∈ hs, nameV (.str z.1) = true ∧ z.1.length ≤ 900) → (hs.map (·.1)).Nodup → CR.GW (hs.map (·.2)) → Q (.ref r) H'
theorem sum_bound {m : Int} : ∀ {ws : List Int}, (∀ w ∈ ws, w ≤ m) → ws.sum ≤ ws.length * m
  | [], _ => by simp
  | w :: ws, h => by
    have ih := sum_bound (ws := ws) fun x hx => h x (List.mem_cons_of_mem _ hx)
    have h1 := h w (List.mem_cons_self ..)
    rw [List.sum_cons, List.length_cons]
    have e : ((ws.length + 1 : Nat) : Int) * m = (ws.length : Int) * m + m := by
      rw [show ((ws.length + 1 : Nat) : Int) = (ws.length : Int) + 1 by omega, Int.add_mul, Int.one_mul]
    omega
theorem most4 {i k : Int} (h0 : 0 ≤ i) (h : i < 4) (k1 : 1 ≤ k) (k8 : k ≤ 8) : 1 ≤ ([1, 3, 12, 100 / k] : List Int).getD i.toNat 0 ∧ k * ([1, 3, 12, 100 / k] : List Int).getD i.toNat 0 ≤ 100 := by
  have hk : k = 1 ∨ k = 2 ∨ k = 3 ∨ k = 4 ∨ k = 5 ∨ k = 6 ∨ k = 7 ∨ k = 8 := by omega
  have hi : i = 0 ∨ i = 1 ∨ i = 2 ∨ i = 3 := by omega
  rcases hk with rfl | rfl | rfl | rfl | rfl | rfl | rfl | rfl <;> rcases hi with rfl | rfl | rfl | rfl <;> exact ⟨by decide, by decide⟩
/-- an if whose suite changes the heap alone -/
theorem join_heap {c : Prop} {inst : Decidable c} {ts : TS} {D : Ends} {σ : St} {H : Hp} (G : Hp → Prop) (g0 : ¬ c → G H) (h : c → (∀ H', G H' → D.nx σ H') → ts D σ H) (R : ∀ H', G H' → D.nx σ H') : @ite Prop c inst (ts D σ H) (tNext D σ H) := by
  by_cases z : c
  · rw [if_pos z]; exact h z R
  · rw [if_neg z]; exact R H (g0 z)
theorem nodup_set {α : Type} : ∀ {l : List α} {j : Nat} {x : α}, l.Nodup → x ∉ l → (l.set j x).Nodup
  | [], _, _, h, _ => by simpa using h
  | y :: l, 0, x, h, nx => by
    rw [List.set_cons_zero]
    exact List.nodup_cons.mpr ⟨fun z => nx (List.mem_cons_of_mem _ z), (List.nodup_cons.mp h).2⟩
  | y :: l, j + 1, x, h, nx => by
    rw [List.set_cons_succ]
    refine List.nodup_cons.mpr ⟨fun z => ?_, nodup_set (List.nodup_cons.mp h).2 fun z => nx (List.mem_cons_of_mem _ z)⟩
    rcases List.mem_or_eq_of_mem_set z with w | w
    · exact (List.nodup_cons.mp h).1 w
    · exact nx (by rw [w]; exact List.mem_cons_self ..)
theorem name_of {l : List Nat} (h : NameL l) : nameV (.str (tx l)) = true ∧ (tx l).length ≤ 900 := by
  refine ⟨?_, by rw [tx_len]; have := h.1.2; omega⟩
  show decide (NameL (tx l).cps.toList) = true
  have e : (tx l).cps.toList = l := rfl
  rw [e]
  exact decide_eq_true h
section
seal L2.PS L2.PSs L2.PE L2.PA
variable {P : Program} {w : World} {K : PySem.W.Frag} {mg : Str → Option Value} {base : Heap}
theorem sc__law_houses : FnScope ["_law_number", "_law_size_here", "_law_source", "_law_names_here", "_law_most"] ["_law_number", "_law_size_here", "_law_source"] (defScope s__law_houses) := ⟨rfl, rfl, rfl, by decide +kernel, rfl, by decide +kernel, by decide +kernel⟩
theorem ok__law_houses {f : Addr} {fd : FuncData} (F : Fun K "_law_houses" "_law_houses" s__law_houses f fd) (T : Txt K mg) (C_law_names : Cal P w K mg base 1 "_law_names" ["_law_number", "_law_size_here"] spNames) (C_law_mix : Cal P w K mg base 1 "_law_mix" ["_law_number", "_law_k"] spMix) : FnOk P w K mg base CX0 2 f fd ["_law_number", "_law_size_here", "_law_source"] spHouseL := by
  have sc := sc__law_houses
  refine F.ok sc (fun vs H Q E h => ?_) (fun cdv A outer s H vs Q E hr h => ?_)
  · obtain ⟨_, _, rfl, _⟩ := h
    rfl
  obtain ⟨n, k, rfl, hn, k1, k8, q⟩ := h
  refine ⟨_, (pss_cons (ps_set (i := 3) sc.nd rfl (Or.inr rfl) (pe_callC C_law_names (hr.mono (by decide)) rfl (pa_cons (pv 2) (pa_cons (pv 1) pa_nil))))
      (pss_cons (ps_if (pt_cmpR op_eq (pe_op op_mod (pe_op op_fdiv (pv 0) pe_int) pe_int) pe_int (nomark _))
        (pss_one (ps_asg pe_str (pg_sub (pv 3) (pe_op op_mod (pe_op op_fdiv (pv 0) pe_int) (pv 1)) set_list)))
        pss_nil)
      (pss_cons (ps_set (i := 4) sc.nd rfl (Or.inr rfl) (pe_ix ix_list (pe_lst (pa_cons pe_int (pa_cons pe_int (pa_cons pe_int (pa_cons (pe_op op_fdiv pe_int (pv 1)) pa_nil))))) (pe_op op_mod (pe_op op_fdiv (pv 0) pe_int) pe_int) (fun _ _ => rfl)))
      (pss_one (ps_ret (pe_comp (NC := ["_law_k", "_law_names_here", "_law_most", "_law_number"]) (own := ["_law_k"]) (cs := ["_law_names_here", "_law_most", "_law_number"]) (ix := [3, 4, 0]) rfl (CompScope.of rfl) rfl ⟨⟨rfl, .inl rfl, rfl⟩, ⟨⟨rfl, .inl rfl, rfl⟩, ⟨⟨rfl, .inl rfl, rfl⟩, trivial⟩⟩⟩ (pi_range1 rfl T.n_range (pa_cons (pv 1) pa_nil)) (fun _ _ _ => (pg_name (i := 0) (show (["_law_k", "_law_names_here", "_law_most", "_law_number"] : List Str).Nodup from by decide +kernel) rfl (Or.inl rfl))) (fun _ _ _ => pts_nil) (fun _ _ _ => (pe_tup (pa_cons (pe_ix (ix_listK (K := K) rfl) (pv 1) (pv 0) (fun _ _ => rfl)) (pa_cons (pe_op op_add pe_int (pe_op op_mod (pe_callC C_law_mix (hr.mono (by decide)) rfl (pa_cons (pv 3) (pa_cons (pe_op op_add (pv 0) pe_int) pa_nil))) (pv 2))) pa_nil)))))))))), ?_⟩
  refine ⟨_, rfl, _, rfl, n, k, rfl, hn, k1, k8, fun r0 ns H1 s1 n0 h1 l1 ok1 nd1 => ?_⟩
  refine atG [some (.int n), some (.int k), some (.int n), some (.ref r0), none] rfl ?_
  -- a name may become self
  have c0 : 0 ≤ n / 84 % 4 := Int.emod_nonneg _ (by decide)
  have c4 : n / 84 % 4 < 4 := Int.emod_lt_of_pos _ (by decide)
  obtain ⟨m1, m2⟩ := most4 c0 c4 k1 k8
  refine ⟨_, rfl, _, _, rfl, rfl, ⟨by decide, by decide⟩, _, _, rfl, rfl, (by show (0 : Int) < 3; decide), rfl, _, rfl, ?_⟩
  have j0 : 0 ≤ n / 21 % k := Int.emod_nonneg _ (by omega)
  have j1 : n / 21 % k < k := Int.emod_lt_of_pos _ (by omega)
  refine join_heap (fun H' => ∃ ms : List (List Nat), Same H H' ∧ H' r0 = some (.lst (ms.map fun l => V.str (tx l))) ∧ (ms.length : Int) = k ∧ (∀ l ∈ ms, NameL l) ∧ ms.Nodup) (fun _ => ⟨ns, s1, h1, l1, fun l hl => (ok1 l hl).1, nd1⟩) (fun c R => ?_) ?_
  · refine ⟨_, rfl, _, rfl, _, _, rfl, rfl, ⟨by decide, by decide⟩, _, rfl, _, _, rfl, rfl, (by show (0 : Int) < k; omega), r0, _, _, (n / 21 % k).toNat, rfl, rfl, h1, ix_of j0 (by rw [List.length_map]; omega), R _ ⟨ns.set (n / 21 % k).toNat selfL, ?_, ?_, by rw [List.length_set]; exact l1, ?_, nodup_set nd1 fun z => (ok1 _ z).2 rfl⟩⟩
    · intro b o z
      rw [upd_ne (ne_of_none z n0)]
      exact s1 b o z
    · rw [upd_same, List.map_set, self_tx]
    · intro l hl
      rcases List.mem_or_eq_of_mem_set hl with z | z
      · exact (ok1 l z).1
      · rw [z]
        decide
  rintro H2 ⟨ms, s2, h2, l2, ok2, nd2⟩
  refine ⟨_, rfl, _, _, rfl, rfl, ⟨by omega, by omega⟩, le_line (by show 4 ≤ 1000; decide), fun p4 n4 => ?_⟩
  have s3 := same_new n4 (.lst (List.map V.int [1, 3, 12, 100 / k]))
  have e3 : upd H2 p4 (.lst (List.map V.int [1, 3, 12, 100 / k])) p4 = some (.lst (List.map V.int [1, 3, 12, 100 / k])) := upd_same
  refine ⟨_, rfl, _, _, rfl, rfl, ⟨by decide, by decide⟩, _, _, rfl, rfl, (by show (0 : Int) < 4; decide), p4, _, _, _, rfl, rfl, SqL.of e3, at_intI c0 c4, ?_⟩
  revert s3 e3 m1 m2
  generalize ([1, 3, 12, 100 / k] : List Int).getD (n / 84 % 4).toNat 0 = m
  intro m1 m2 s3 e3
  refine atG [some (.int n), some (.int k), some (.int n), some (.ref r0), some (.int m)] rfl ?_
  have s23 := s2.trans s3
  have h3 := s3 _ _ h2
  refine ⟨_, rfl, _, rfl, by omega, by omega, fun p np => ?_⟩
  have pH : H p = none := s23.free np
  refine comp_range (lo := 0) (n := k.toNat) (fun i ys H4 => (∃ hs : List Hw, Hss H4 ys hs ∧ hs.map (·.1) = (ms.take i).map tx ∧ ∀ z ∈ hs, 1 ≤ z.2 ∧ z.2 ≤ m) ∧ H4 p = some (.lst ys) ∧ H4 r0 = some (.lst (ms.map fun l => V.str (tx l))) ∧ Same H H4)
    ⟨⟨[], trivial, rfl, fun _ z => nomatch z⟩, upd_same, same_new np _ _ _ h3, s23.trans (same_new np _)⟩ (fun i ys H4 hi ⟨⟨hs, a1, a2, _⟩, a3, _⟩ => ⟨a3, ?_⟩) (le_line (by omega)) (fun i ys H4 hi ⟨⟨hs, a1, a2, a3⟩, a4, a5, a6⟩ => ?_) (fun ys H4 ⟨⟨hs, a1, a2, a3⟩, a4, a5, a6⟩ => ?_)
  · rw [a1.len, ← List.length_map (f := fun z : Hw => z.1), a2, List.length_map, List.length_take]
    omega
  · have lt : i < ms.length := by omega
    have hat : (ms.map fun l => V.str (tx l))[i]? = some (.str (tx ms[i])) := by rw [List.getElem?_map, List.getElem?_eq_getElem lt]; rfl
    have hat' : atI (ms.map fun l => V.str (tx l)) (0 + (i : Int)) = some (.str (tx ms[i])) := by
      rw [show (0 + (i : Int)) = (i : Int) by omega]
      exact atI_nat hat
    show ∃ u, _ ∧ _
    refine ⟨_, rfl, _, rfl, r0, _, _, _, rfl, rfl, SqL.of a5, hat', _, rfl, _, rfl, _, _, rfl, rfl, _, _, rfl, by omega, by omega, fun v v0 v1 => ?_⟩
    refine ⟨_, rfl, _, _, rfl, rfl, (by show (0 : Int) < m; omega), _, _, rfl, rfl, le_line (by show 2 ≤ 1000; decide), fun t nt => ?_⟩
    have s5 := same_new nt (.tup [V.str (tx ms[i]), V.int (1 + v % m)])
    have e5 : upd H4 t (.tup [V.str (tx ms[i]), V.int (1 + v % m)]) t = some (.tup [V.str (tx ms[i]), V.int (1 + v % m)]) := upd_same
    have tp : t ≠ p := (ne_of_none a4 nt).symm
    have rp : r0 ≠ p := ne_of_none h3 np
    have b0 : 0 ≤ v % m := Int.emod_nonneg _ (by omega)
    have b1 : v % m < m := Int.emod_lt_of_pos _ (by omega)
    refine ⟨s5 _ _ a4, rfl, ⟨hs ++ [(tx ms[i], 1 + v % m)], ?_, ?_, fun z hz => ?_⟩, upd_same, ?_, fun x o z => ?_⟩
    · exact Hss.snoc (Hss.mono ((tst_same s5).trans (tst_lst (s5 _ _ a4) _)) a1) (by rw [upd_ne tp]; exact e5)
    · rw [List.map_append, a2, take_snoc (List.getElem?_eq_getElem lt), List.map_append]
      rfl
    · rcases List.mem_append.mp hz with y | y
      · exact a3 z y
      · rw [List.mem_singleton.mp y]
        exact ⟨by show 1 ≤ 1 + v % m; omega, by show 1 + v % m ≤ m; omega⟩
    · rw [upd_ne rp]
      exact s5 _ _ a5
    · rw [upd_ne (ne_of_none z pH)]
      exact s5 _ _ (a6 x o z)
  · have lk : ms.length = k.toNat := by omega
    rw [← lk, List.take_length] at a2
    have lh : hs.length = ms.length := by rw [← List.length_map (f := fun z : Hw => z.1), a2, List.length_map]
    refine q p ys hs H4 a6 pH a4 a1 (fun z hz => ?_) ?_ ⟨by rw [List.length_map]; omega, by rw [List.length_map]; omega, fun w hw => ?_, ?_⟩
    · have : z.1 ∈ ms.map tx := by rw [← a2]; exact List.mem_map_of_mem hz
      obtain ⟨l, hl, el⟩ := List.mem_map.mp this
      rw [← el]
      exact name_of (ok2 l hl)
    · rw [a2]
      unfold List.Nodup
      rw [List.pairwise_map]
      exact List.Pairwise.imp (fun ne e => ne (tx_inj e)) nd2
    · obtain ⟨z, hz, rfl⟩ := List.mem_map.mp hw
      exact (a3 z hz).1
    · have b := sum_bound (ws := hs.map (·.2)) (m := m) fun w hw => by
        obtain ⟨z, hz, rfl⟩ := List.mem_map.mp hw
        exact (a3 z hz).2
      rw [List.length_map, lh, show ((ms.length : Nat) : Int) = k from l2] at b
      omega
end


/-! ### one cover -/
def spOne (K : PySem.W.Frag) : Sp := fun vs H Q _ => ∃ a ns, ∃ i : Int, vs = [.ref a, .int i] ∧ SqL K H a (List.map V.int ns) ∧ ns.length ≤ 63 ∧ 0 ≤ i ∧ i ≤ 900 ∧ ∀ H', Same H H' → Q (.bl true) H'
def spLaw (K : PySem.W.Frag) : Sp := fun vs H Q _ => ∃ (a : Addr) (ns : List Int), vs = [.ref a] ∧ SqL K H a (ns.map V.int) ∧ ns.length ≤ 63 ∧ ∀ H', Q (.bl true) H'
theorem sum_dealt : ∀ (hs : List Hw) (bs : List Int), hs.length = bs.length → (∀ x ∈ bs, 0 ≤ x) → ((dealtL hs bs).map (·.2)).sum = bs.sum
  | [], [], _, _ => rfl
  | [], _ :: _, h, _ => by simp at h
  | _ :: _, [], h, _ => by simp at h
  | h :: hs, c :: cs, l, nn => by
    have ih := sum_dealt hs cs (by simpa using l) fun x hx => nn x (List.mem_cons_of_mem _ hx)
    have c0 := nn c (List.mem_cons_self ..)
    unfold dealtL
    by_cases z : 0 < c
    · rw [if_pos z, List.map_cons, List.sum_cons, List.sum_cons, ih]
    · rw [if_neg z, List.sum_cons, ih]
      omega
theorem flat_strs2 (l : List Hw) : (l.map fun p => V.str p.1).all flatV = true := by
  rw [List.all_eq_true]
  intro x hx
  obtain ⟨p, _, rfl⟩ := List.mem_map.mp hx
  rfl
theorem eq_strs : ∀ l : List Hw, eqL (l.map fun p => V.str p.1) (l.map fun p => V.str p.1) = true
  | [] => rfl
  | p :: l => by
    rw [List.map_cons]
    unfold eqL
    rw [eq_strs l]
    have : eqV (.str p.1) (.str p.1) = true := by unfold eqV; simp
    rw [this]
    rfl
theorem GW.ne {hs : List Hw} (g : CR.GW (hs.map (·.2))) : ∃ h t, hs = h :: t := by
  cases hs with
  | nil => exact absurd g.lo (by simp)
  | cons h t => exact ⟨h, t, rfl⟩
section
seal L2.PS L2.PSs L2.PE L2.PA
variable {P : Program} {w : World} {K : PySem.W.Frag} {mg : Str → Option Value} {base : Heap} {C_Deal C_Cover C_Condition : Addr}
theorem sc__law_one : FnScope ["_law_script", "_law_at", "_law_size_here", "_law_number", "_law_houses_here", "_law_handed", "_law_cover", "_law_wheel_here", "_law_base", "_law_lo", "_law_hi", "_law_found", "_law_due_here", "_law_amid", "_law_one_here", "_law_two"] ["_law_script", "_law_at"] (defScope s__law_one) := ⟨rfl, rfl, rfl, by decide +kernel, rfl, by decide +kernel, by decide +kernel⟩
theorem ok__law_one {f : Addr} {fd : FuncData} (F : Fun K "_law_one" "_law_one" s__law_one f fd) (T : Txt K mg) (L : Kl K mg C_Deal C_Cover C_Condition) (NCondition : Mk0 K mg "Condition" C_Condition) (C_law_cell : Cal P w K mg base 1 "_law_cell" ["_law_script", "_law_k"] (spCell K)) (C_law_mix : Cal P w K mg base 1 "_law_mix" ["_law_number", "_law_k"] spMix)
    (C_law_houses : Cal P w K mg base 2 "_law_houses" ["_law_number", "_law_size_here", "_law_source"] spHouseL) (KCover : KCalD P w K mg base 6 "Cover" C_Cover ["self", "name", "condition", "clauses", "houses", "waits"] [.bl false] (spCoverH C_Cover C_Deal)) (C_law_wheel : Cal P w K mg base 1 "_law_wheel" ["_law_weights"] spRow)
    (C_law_size : Cal P w K mg base 1 "_law_size" ["_law_number"] spSize) (Cdealt_to : Cal P w K mg base 3 "dealt_to" ["cover", "base", "lo", "hi"] (spDealt C_Cover C_Deal)) (C_law_due : Cal P w K mg base 2 "_law_due" ["_law_houses_here", "_law_wheel_here", "_law_first_here", "_law_upto"] spDueL)
    (C_law_pairs : Cal P w K mg base 2 "_law_pairs" ["_law_found", "_law_due_here"] spPairs) : FnOk P w K mg base CX0 8 f fd ["_law_script", "_law_at"] (spOne K) := by
  have sc := sc__law_one
  refine F.ok sc (fun vs H Q E h => ?_) (fun cdv A outer s H vs Q E hr h => ?_)
  · obtain ⟨_, _, _, rfl, _⟩ := h
    rfl
  obtain ⟨a, ns, i, rfl, ha, h63, i0, i9, q⟩ := h
  have hu64 := room_64 hr
  have hu := room_u hr
  refine ⟨_, (pss_cons (ps_set (i := 2) sc.nd rfl (Or.inl rfl) (pe_op op_add pe_int (pe_op op_mod (pe_callC C_law_cell (hr.mono (by decide)) rfl (pa_cons (pv 0) (pa_cons (pv 1) pa_nil))) pe_int)))
      (pss_cons (ps_set (i := 3) sc.nd rfl (Or.inl rfl) (pe_callC C_law_mix (hr.mono (by decide)) rfl (pa_cons (pe_callC C_law_cell (hr.mono (by decide)) rfl (pa_cons (pv 0) (pa_cons (pe_op op_add (pv 1) pe_int) pa_nil))) (pa_cons pe_int pa_nil))))
      (pss_cons (ps_set (i := 4) sc.nd rfl (Or.inl rfl) (pe_callC C_law_houses (hr.mono (by decide)) rfl (pa_cons (pv 3) (pa_cons (pv 2) (pa_cons (pv 3) pa_nil)))))
      (pss_cons (ps_set (i := 5) sc.nd rfl (Or.inl rfl) (pe_callTy call_list_of rfl T.n_list (show bootBuiltins _ = some (.type "list") from rfl) (pa_cons (pv 4) pa_nil)))
      (pss_cons (ps_set (i := 6) sc.nd rfl (Or.inl rfl) (pe_makeD KCover (hr.mono (by decide)) rfl (pa_cons pe_str (pa_cons (pe_new0 NCondition rfl) (pa_cons pe_non (pa_cons (pv 5) pa_nil))))))
      (pss_cons (ps_set (i := 7) sc.nd rfl (Or.inl rfl) (pe_callC C_law_wheel (hr.mono (by decide)) rfl (pa_cons (pe_comp (NC := ["_law_house", "_law_weight"]) (own := ["_law_house", "_law_weight"]) (cs := []) (ix := []) rfl (CompScope.of rfl) rfl trivial (pi_list (pv 4)) (fun _ _ _ => (pg_tupK (K := K) (n := 2) rfl rfl (pgs_cons (pg_name (i := 0) (show (["_law_house", "_law_weight"] : List Str).Nodup from by decide +kernel) rfl (Or.inl rfl)) (pgs_cons (pg_name (i := 1) (show (["_law_house", "_law_weight"] : List Str).Nodup from by decide +kernel) rfl (Or.inl rfl)) pgs_nil)))) (fun _ _ _ => pts_nil) (fun _ _ _ => (pv 1))) pa_nil)))
      (pss_cons (ps_expr (pe_bm0 PySem.F.plainAttrs_list PySem.F.slot_list_clear PySem.F.type_list_clear mt_clear (pv 5)))
      (pss_cons (ps_set (i := 8) sc.nd rfl (Or.inl rfl) (pe_callC C_law_size (hr.mono (by decide)) rfl (pa_cons (pe_callC C_law_mix (hr.mono (by decide)) rfl (pa_cons (pe_callC C_law_cell (hr.mono (by decide)) rfl (pa_cons (pv 0) (pa_cons (pe_op op_add (pv 1) pe_int) pa_nil))) (pa_cons pe_int pa_nil))) pa_nil)))
      (pss_cons (ps_set (i := 9) sc.nd rfl (Or.inl rfl) (pe_callC C_law_size (hr.mono (by decide)) rfl (pa_cons (pe_callC C_law_mix (hr.mono (by decide)) rfl (pa_cons (pe_callC C_law_cell (hr.mono (by decide)) rfl (pa_cons (pv 0) (pa_cons (pe_op op_add (pv 1) pe_int) pa_nil))) (pa_cons pe_int pa_nil))) pa_nil)))
      (pss_cons (ps_set (i := 10) sc.nd rfl (Or.inl rfl) (pe_op op_add (pv 9) (pe_callC C_law_size (hr.mono (by decide)) rfl (pa_cons (pe_callC C_law_mix (hr.mono (by decide)) rfl (pa_cons (pe_callC C_law_cell (hr.mono (by decide)) rfl (pa_cons (pv 0) (pa_cons (pe_op op_add (pv 1) pe_int) pa_nil))) (pa_cons pe_int pa_nil))) pa_nil))))
      (pss_cons (ps_set (i := 11) sc.nd rfl (Or.inl rfl) (pe_callC Cdealt_to (hr.mono (by decide)) rfl (pa_cons (pv 6) (pa_cons (pv 8) (pa_cons (pv 9) (pa_cons (pv 10) pa_nil))))))
      (pss_cons (ps_set (i := 12) sc.nd rfl (Or.inl rfl) (pe_callC C_law_due (hr.mono (by decide)) rfl (pa_cons (pv 4) (pa_cons (pv 7) (pa_cons (pe_op op_add (pv 8) (pv 9)) (pa_cons (pe_op op_add (pv 8) (pv 10)) pa_nil))))))
      (pss_cons (ps_if (PW.pt (pw_or (pt_not (pt_val (pe_callC C_law_pairs (hr.mono (by decide)) rfl (pa_cons (pv 11) (pa_cons (pv 12) pa_nil))))) (pw_or1 (pt_cmpR op_ne (pe_callB (call_sum rfl) rfl T.n_sum (show bootBuiltins _ = some (.builtin "sum") from rfl) (pa_cons (pe_comp (NC := ["_law_one_here"]) (own := ["_law_one_here"]) (cs := []) (ix := []) rfl (CompScope.of rfl) rfl trivial (pi_list (pv 11)) (fun _ _ _ => (pg_name (i := 0) (show (["_law_one_here"] : List Str).Nodup from by decide +kernel) rfl (Or.inl rfl))) (fun _ _ _ => pts_nil) (fun _ _ _ => (pe_ix (ix_tupK (K := K) rfl) (pv 0) pe_int (fun _ _ => rfl)))) pa_nil)) (pe_op op_sub (pv 10) (pv 9)) (nomark _)))))
        (pss_one (ps_ret pe_bl))
        pss_nil)
      (pss_cons (ps_set (i := 3) sc.nd rfl (Or.inl rfl) (pe_callC C_law_mix (hr.mono (by decide)) rfl (pa_cons (pe_callC C_law_cell (hr.mono (by decide)) rfl (pa_cons (pv 0) (pa_cons (pe_op op_add (pv 1) pe_int) pa_nil))) (pa_cons pe_int pa_nil))))
      (pss_cons (ps_set (i := 13) sc.nd rfl (Or.inl rfl) (pe_op op_add (pv 9) (pe_op op_mod (pe_op op_mul (pv 3) pe_int) (pe_op op_add (pe_op op_sub (pv 10) (pv 9)) pe_int))))
      (pss_cons (ps_set (i := 14) sc.nd rfl (Or.inl rfl) (pe_callC Cdealt_to (hr.mono (by decide)) rfl (pa_cons (pv 6) (pa_cons (pv 8) (pa_cons (pv 9) (pa_cons (pv 13) pa_nil))))))
      (pss_cons (ps_set (i := 15) sc.nd rfl (Or.inl rfl) (pe_callC Cdealt_to (hr.mono (by decide)) rfl (pa_cons (pv 6) (pa_cons (pe_op op_add (pv 8) (pv 13)) (pa_cons pe_int (pa_cons (pe_op op_sub (pv 10) (pv 13)) pa_nil))))))
      (pss_cons (ps_if (pt_not (pt_val (pe_callC C_law_pairs (hr.mono (by decide)) rfl (pa_cons (pv 14) (pa_cons (pe_callC C_law_due (hr.mono (by decide)) rfl (pa_cons (pv 4) (pa_cons (pv 7) (pa_cons (pe_op op_add (pv 8) (pv 9)) (pa_cons (pe_op op_add (pv 8) (pv 13)) pa_nil))))) pa_nil)))))
        (pss_one (ps_ret pe_bl))
        pss_nil)
      (pss_cons (ps_if (pt_not (pt_val (pe_callC C_law_pairs (hr.mono (by decide)) rfl (pa_cons (pv 15) (pa_cons (pe_callC C_law_due (hr.mono (by decide)) rfl (pa_cons (pv 4) (pa_cons (pv 7) (pa_cons (pe_op op_add (pv 8) (pv 13)) (pa_cons (pe_op op_add (pv 8) (pv 10)) pa_nil))))) pa_nil)))))
        (pss_one (ps_ret pe_bl))
        pss_nil)
      (pss_one (ps_ret (pe_and (pe_cmpR (op_eqD (K := K) hu64) (pv 11) (pv 12) (nomark _)) (pe_one (pe_cmpR (op_eqL hu) (pe_fld (pv 6) rfl) (pe_comp (NC := ["_law_house", "_law_weight"]) (own := ["_law_house", "_law_weight"]) (cs := []) (ix := []) rfl (CompScope.of rfl) rfl trivial (pi_list (pv 4)) (fun _ _ _ => (pg_tupK (K := K) (n := 2) rfl rfl (pgs_cons (pg_name (i := 0) (show (["_law_house", "_law_weight"] : List Str).Nodup from by decide +kernel) rfl (Or.inl rfl)) (pgs_cons (pg_name (i := 1) (show (["_law_house", "_law_weight"] : List Str).Nodup from by decide +kernel) rfl (Or.inl rfl)) pgs_nil)))) (fun _ _ _ => pts_nil) (fun _ _ _ => (pv 0))) (nomark _))))))))))))))))))))))))), ?_⟩
  refine ⟨_, rfl, _, rfl, a, ns, i, rfl, ha, i0, by omega, h63, fun c c0 c1 => ⟨_, _, rfl, rfl, (by show (0 : Int) < 8; decide), _, _, rfl, rfl, ?_⟩⟩
  refine hideI 1 8 (by have := md (a := c) (b := 8) (by decide); omega) fun k k1 k8 => ?_
  refine ⟨_, rfl, _, rfl, _, _, rfl, rfl, a, ns, _, rfl, ha, by omega, by omega, h63, fun c2 _ _ => ⟨_, _, rfl, by decide, by decide, fun v v0 v1 => ?_⟩⟩
  refine atG [some (.ref a), some (.int i), some (.int k), some (.int v), none, none, none, none, none, none, none, none, none, none, none, none] rfl ?_
  refine ⟨_, rfl, _, rfl, _, rfl, v, k, rfl, v0, k1, k8, fun r xs hs H1 s1 n1 h1 p1 ok1 nd1 g => ?_⟩
  have lx := p1.len
  have g8 := g.hi
  rw [List.length_map] at g8
  refine ⟨_, rfl, r, _, rfl, .inl (SqL.of h1), fun l nl => ?_⟩
  have s2 := same_new nl (.lst xs)
  have h2 : upd H1 l (.lst xs) l = some (.lst xs) := upd_same
  have rl : r ≠ l := ne_of_none h1 nl
  have lH : H l = none := s1.free nl
  refine atGH [some (.ref a), some (.int i), some (.int k), some (.int v), some (.ref r), some (.ref l), none, none, none, none, none, none, none, none, none, none] (upd H1 l (.lst xs)) rfl rfl ?_
  generalize upd H1 l (.lst xs) = H2 at s2 h2
  have r2 := s2 _ _ h1
  have p2 := p1.mono (tst_same s2)
  -- the cover
  intro cy cdx ny ndy ney
  have s3 : Same H2 (upd (upd H2 cdx (.own cy)) cy (.ins C_Condition cdx [])) := (same_new ndy _).trans (same_new (by rw [upd_ne (Ne.symm ney)]; exact ny) _)
  generalize upd (upd H2 cdx (.own cy)) cy (.ins C_Condition cdx []) = H3 at s3
  have h3 := s3 _ _ h2
  have r3 := s3 _ _ r2
  have p3 := p2.mono (tst_same s3)
  refine ⟨_, rfl, fun x dx nx ndx nex => ?_⟩
  have lx' : l ≠ x := ne_of_none h3 nx
  have ld' : l ≠ dx := ne_of_none h3 ndx
  have t3 : Tst H3 (upd (upd H3 dx (.own x)) x (.ins C_Cover dx [])) := fun t zs z => by rw [upd_ne (ne_of_none z nx), upd_ne (ne_of_none z ndx)]; exact z
  refine ⟨x, dx, "roof", .ref cy, l, xs, hs, .bl false, rfl, upd_same, by decide +kernel, by decide +kernel, by decide +kernel, by rw [upd_ne lx', upd_ne ld']; exact h3, p3.mono t3, ok1, nd1, g, fun hv d wh wt H4 kb ch nhv => ⟨rfl, ?_⟩⟩
  have s4 : Same H3 H4 := made_same nx ndx kb
  refine atG [some (.ref a), some (.int i), some (.int k), some (.int v), some (.ref r), some (.ref l), some (.ref x), none, none, none, none, none, none, none, none, none] rfl ?_
  have r4 := s4 _ _ r3
  have h4 := s4 _ _ h3
  have p4 := p3.mono (tst_same s4)
  -- the law's own wheel
  refine ⟨_, rfl, r, rfl, ⟨_, SqL.of r4⟩, fun pw npw => ?_⟩
  refine comp_pairs (K := K) (K' := K) (a := r) (xs := xs) (fun j ys H5 => ys = ((hs.take j).map (·.2)).map V.int ∧ H5 pw = some (.lst ys) ∧ Same H4 H5) ⟨rfl, upd_same, same_new npw _⟩
    (fun j ys H5 _ ⟨e, b1, b2⟩ => ⟨b1, by rw [e, List.length_map, List.length_map, List.length_take]; omega, SqL.of (b2 _ _ r4)⟩) (le_line (by omega)) (fun j y ys H5 hj ⟨e, b1, b2⟩ => ?_) (fun ys H5 ⟨e, b1, b2⟩ => ?_)
  · obtain ⟨t, z, hz, rfl, ht⟩ := p4.get hj
    refine ⟨t, _, _, rfl, SqT.of (b2 _ _ ht), ?_⟩
    show ∃ u, _ ∧ _
    refine ⟨_, rfl, b1, rfl, ?_, upd_same, fun b o y => ?_⟩
    · rw [take_snoc hz, List.map_append, List.map_append, e]
      rfl
    · rw [upd_ne (ne_of_none y npw)]
      exact b2 b o y
  rw [e, lx, List.take_length] at b1
  refine ⟨pw, hs.map (·.2), rfl, b1, g, fun wl H6 s6 n6 h6 => ?_⟩
  refine atG [some (.ref a), some (.int i), some (.int k), some (.int v), some (.ref r), some (.ref l), some (.ref x), some (.ref wl), none, none, none, none, none, none, none, none] rfl ?_
  have s46 := b2.trans s6
  have S6 : Same H H6 := s1.trans (s2.trans (s3.trans (s4.trans s46)))
  have hl6 := s46 _ _ h4
  have r6 := s46 _ _ r4
  have p6 := p4.mono (tst_same s46)
  have ch6 := ch.same s46
  have nwl : wl ≠ l := (ne_of_none (b2 _ _ h4) n6).symm
  have nhl : hv ≠ l := fun z => by rw [z, upd_ne lx', upd_ne ld', h3] at nhv; cases nhv
  have other : ∀ W : List Int, HO.lst (W.map V.int) ≠ HO.lst xs := fun W z => by
    obtain ⟨h0, tl, eh⟩ := GW.ne g
    obtain ⟨y, e0⟩ : ∃ y, xs[0]? = some y := ⟨_, List.getElem?_eq_getElem (by rw [lx, eh]; simp)⟩
    obtain ⟨t, _, _, er, _⟩ := p4.get e0
    subst er
    injection z with z
    rw [← z] at e0
    obtain ⟨m, _, em⟩ := item_int e0
    cases em
  -- handed.clear()
  refine ⟨_, rfl, .inl ⟨rfl, _, SqL.of hl6⟩, l, xs, rfl, rfl, hl6, ?_⟩
  have S7 : Same H (upd H6 l (.lst [])) := fun b o z => by rw [upd_ne (ne_of_none z lH)]; exact S6 b o z
  have r7 : upd H6 l (.lst []) r = some (.lst xs) := by rw [upd_ne rl]; exact r6
  have w7 : upd H6 l (.lst []) wl = some (.lst (List.map V.int (CR.wheel (hs.map (·.2))))) := by rw [upd_ne nwl]; exact h6
  have p7 : Hss (upd H6 l (.lst [])) xs hs := p6.mono (tst_lst hl6 _)
  have ch7 : ChAt C_Cover C_Deal (upd H6 l (.lst [])) x hv d wh wt hs := by
    obtain ⟨⟨dx', fs, e1, e2, e3⟩, e4, ⟨dq, q1⟩, q2, q3⟩ := ch6
    refine ⟨⟨dx', fs, ?_, e2, e3⟩, ?_, ⟨dq, ?_⟩, ?_, ?_⟩
    · rw [upd_ne (ne_of e1 hl6 (by intro z; cases z))]; exact e1
    · rw [upd_ne nhl]; exact e4
    · rw [upd_ne (ne_of q1 hl6 (by intro z; cases z))]; exact q1
    · rw [upd_ne (ne_of q2 hl6 (other _))]; exact q2
    · rw [upd_ne (ne_of q3 hl6 (other _))]; exact q3
  generalize upd H6 l (.lst []) = H7 at S7 r7 w7 p7 ch7
  -- base, lo, hi
  refine ⟨_, rfl, _, rfl, _, _, rfl, rfl, a, ns, _, rfl, S7.seq ha, by omega, by omega, h63, fun c3 _ _ => ⟨_, _, rfl, by decide, by decide, fun v3 _ _ => ⟨v3, rfl, fun b H8 b0 b9 s8 => ?_⟩⟩⟩
  refine atG [some (.ref a), some (.int i), some (.int k), some (.int v), some (.ref r), some (.ref l), some (.ref x), some (.ref wl), some (.int b), none, none, none, none, none, none, none] rfl ?_
  have S8 := S7.trans s8
  refine ⟨_, rfl, _, rfl, _, _, rfl, rfl, a, ns, _, rfl, S8.seq ha, by omega, by omega, h63, fun c4 _ _ => ⟨_, _, rfl, by decide, by decide, fun v4 _ _ => ⟨v4, rfl, fun lo H9 lo0 lo9 s9 => ?_⟩⟩⟩
  refine atG [some (.ref a), some (.int i), some (.int k), some (.int v), some (.ref r), some (.ref l), some (.ref x), some (.ref wl), some (.int b), some (.int lo), none, none, none, none, none, none] rfl ?_
  have S9 := S8.trans s9
  refine ⟨_, rfl, _, rfl, _, rfl, _, _, rfl, rfl, a, ns, _, rfl, S9.seq ha, by omega, by omega, h63, fun c5 _ _ => ⟨_, _, rfl, by decide, by decide, fun v5 _ _ => ⟨v5, rfl, fun wd H10 wd0 wd9 s10 => ?_⟩⟩⟩
  refine ⟨_, _, rfl, rfl, ?_⟩
  refine atG [some (.ref a), some (.int i), some (.int k), some (.int v), some (.ref r), some (.ref l), some (.ref x), some (.ref wl), some (.int b), some (.int lo), some (.int (lo + wd)), none, none, none, none, none] rfl ?_
  have S10 := S9.trans s10
  have s710 := s8.trans (s9.trans s10)
  generalize hhi : lo + wd = hi
  have ch10 := ch7.same s710
  refine ⟨_, rfl, _, rfl, _, rfl, _, rfl, x, hv, d, wh, wt, hs, b, lo, hi, rfl, ch10, g, fun f1 y1 H11 s11 nf1 hf1 pf1 => ?_⟩
  refine atG [some (.ref a), some (.int i), some (.int k), some (.int v), some (.ref r), some (.ref l), some (.ref x), some (.ref wl), some (.int b), some (.int lo), some (.int hi), some (.ref f1), none, none, none, none] rfl ?_
  have s711 := s710.trans s11
  refine ⟨_, rfl, _, rfl, _, rfl, _, rfl, _, _, rfl, rfl, _, rfl, _, rfl, _, _, rfl, rfl, r, xs, hs, wl, _, _, rfl, s711 _ _ r7, p7.mono (tst_same s711), s711 _ _ w7, g, fun d1 z1 H12 s12 nd1' hd1 pd1 => ?_⟩
  refine atG [some (.ref a), some (.int i), some (.int k), some (.int v), some (.ref r), some (.ref l), some (.ref x), some (.ref wl), some (.int b), some (.int lo), some (.int hi), some (.ref f1), some (.ref d1), none, none, none] rfl ?_
  have s712 := s711.trans s12
  have short : ∀ n m : Int, (dealtL hs (CR.btw (hs.map (·.2)) n m)).length ≤ 8 := fun n m => Nat.le_trans (dealt_len _ _) g8
  have hf12 := s12 _ _ hf1
  have pf12 := pf1.mono (tst_same s12)
  refine ⟨_, rfl, _, rfl, f1, d1, y1, z1, _, rfl, hf12, hd1, pf12, pd1, short _ _, _, rfl, iteF ?_⟩
  have bl : hs.length = (CR.btw (hs.map (·.2)) (b + lo) (b + hi)).length := by rw [CR.btw_len, List.length_map]
  have sm : ((dealtL hs (CR.btw (hs.map (·.2)) (b + lo) (b + hi))).map (·.2)).sum = hi - lo := by
    rw [sum_dealt _ _ bl (CR.btw_nn g (by omega) (by omega)), CR.btw_sum g]
    omega
  have l8 := short (b + lo) (b + hi)
  have ly := pf12.len
  refine ⟨_, rfl, f1, rfl, ⟨_, SqL.of hf12⟩, fun ps nps => ?_⟩
  refine comp_list (K := K) (a := f1) (xs := y1) (fun j ys H13 => ys = (((dealtL hs (CR.btw (hs.map (·.2)) (b + lo) (b + hi))).take j).map (·.2)).map V.int ∧ H13 ps = some (.lst ys) ∧ Same H12 H13) ⟨rfl, upd_same, same_new nps _⟩
    (fun j ys H13 _ ⟨e, b1, b2⟩ => ⟨b1, by rw [e, List.length_map, List.length_map, List.length_take]; omega, SqL.of (b2 _ _ hf12)⟩) (le_line (by omega)) (fun j y ys H13 hj ⟨e, b1, b2⟩ => ?_) (fun ys H13 ⟨e, b1, b2⟩ => ?_)
  · obtain ⟨t, z, hz, rfl, ht⟩ := pf12.get hj
    refine ⟨_, rfl, t, _, _, _, rfl, rfl, SqT.of (b2 _ _ ht), rfl, b1, rfl, ?_, upd_same, fun x' o y => ?_⟩
    · rw [take_snoc hz, List.map_append, List.map_append, e]
      rfl
    · rw [upd_ne (ne_of_none y nps)]
      exact b2 x' o y
  rw [e, ly, List.take_length] at b1
  have s713 := s712.trans b2
  have S13 := S7.trans s713
  refine ⟨ps, _, rfl, SqL.of b1, _, rfl, _, rfl, _, _, rfl, rfl, rfl, _, rfl, nF (by rw [sm]) ?_⟩
  -- amid
  refine ⟨_, rfl, _, rfl, _, _, rfl, rfl, a, ns, _, rfl, S13.seq ha, by omega, by omega, h63, fun c6 _ _ => ⟨_, _, rfl, by decide, by decide, fun v6 v60 v69 => ?_⟩⟩
  refine atG [some (.ref a), some (.int i), some (.int k), some (.int v6), some (.ref r), some (.ref l), some (.ref x), some (.ref wl), some (.int b), some (.int lo), some (.int hi), some (.ref f1), some (.ref d1), none, none, none] rfl ?_
  refine ⟨_, rfl, _, rfl, _, _, rfl, rfl, .inr ⟨by decide, by decide⟩, _, rfl, _, rfl, _, _, rfl, rfl, _, _, rfl, rfl, _, _, rfl, rfl, (by show (0 : Int) < hi - lo + 1; omega), _, _, rfl, rfl, ?_⟩
  refine hideI lo hi (by have := md (a := v6 * 1009) (b := hi - lo + 1) (by omega); omega) fun am am0 am1 => ?_
  refine atG [some (.ref a), some (.int i), some (.int k), some (.int v6), some (.ref r), some (.ref l), some (.ref x), some (.ref wl), some (.int b), some (.int lo), some (.int hi), some (.ref f1), some (.ref d1), some (.int am), none, none] rfl ?_
  refine ⟨_, rfl, _, rfl, _, rfl, _, rfl, x, hv, d, wh, wt, hs, b, lo, am, rfl, ch7.same s713, g, fun f2 y2 H14 s14 nf2 hf2 pf2 => ?_⟩
  refine atG [some (.ref a), some (.int i), some (.int k), some (.int v6), some (.ref r), some (.ref l), some (.ref x), some (.ref wl), some (.int b), some (.int lo), some (.int hi), some (.ref f1), some (.ref d1), some (.int am), some (.ref f2), none] rfl ?_
  have s714 := s713.trans s14
  refine ⟨_, rfl, _, rfl, _, rfl, _, _, rfl, rfl, _, rfl, _, rfl, _, _, rfl, rfl, x, hv, d, wh, wt, hs, _, _, _, rfl, ch7.same s714, g, fun f3 y3 H15 s15 nf3 hf3 pf3 => ?_⟩
  have e15 : b + am + 0 = b + am := by omega
  have e16 : b + am + (hi - am) = b + hi := by omega
  rw [e15, e16] at pf3
  refine atG [some (.ref a), some (.int i), some (.int k), some (.int v6), some (.ref r), some (.ref l), some (.ref x), some (.ref wl), some (.int b), some (.int lo), some (.int hi), some (.ref f1), some (.ref d1), some (.int am), some (.ref f2), some (.ref f3)] rfl ?_
  have s715 := s714.trans s15
  refine ⟨_, rfl, _, rfl, _, rfl, _, rfl, _, rfl, _, _, rfl, rfl, _, rfl, _, rfl, _, _, rfl, rfl, r, xs, hs, wl, _, _, rfl, s715 _ _ r7, p7.mono (tst_same s715), s715 _ _ w7, g, fun d2 z2 H16 s16 nd2 hd2 pd2 => ?_⟩
  refine ⟨f2, d2, y2, z2, _, rfl, s16 _ _ (s15 _ _ hf2), hd2, pf2.mono (tst_same (s15.trans s16)), pd2, short _ _, _, rfl, iteF ?_⟩
  have s716 := s715.trans s16
  refine ⟨_, rfl, _, rfl, _, rfl, _, rfl, _, rfl, _, _, rfl, rfl, _, rfl, _, rfl, _, _, rfl, rfl, r, xs, hs, wl, _, _, rfl, s716 _ _ r7, p7.mono (tst_same s716), s716 _ _ w7, g, fun d3 z3 H17 s17 nd3 hd3 pd3 => ?_⟩
  refine ⟨f3, d3, y3, z3, _, rfl, s17 _ _ (s16 _ _ hf3), hd3, pf3.mono (tst_same (s16.trans s17)), pd3, short _ _, _, rfl, iteF ?_⟩
  have s717 := s716.trans s17
  have s1217 := b2.trans (s14.trans (s15.trans (s16.trans s17)))
  refine ⟨_, rfl, _, rfl, eq_Hss (s1217 _ _ hf12) (s1217 _ _ hd1) (pf12.mono (tst_same s1217)) (pd1.mono (tst_same s1217)) ⟨_, rfl, iteT ?_⟩⟩
  obtain ⟨⟨dx', fs, e1, e2, e3⟩, e4, _⟩ := ch7.same s717
  have r17 := s717 _ _ r7
  have p17 := p7.mono (tst_same s717)
  refine ⟨_, rfl, x, C_Cover, dx', fs, _, rfl, e1, L.cl_Cover, L.na_Cover_houses, e2, _, rfl, r, rfl, ⟨_, SqL.of r17⟩, fun ph nph => ?_⟩
  refine comp_pairs (K := K) (K' := K) (a := r) (xs := xs) (fun j ys H18 => ys = ((hs.take j).map fun p => V.str p.1) ∧ H18 ph = some (.lst ys) ∧ Same H17 H18) ⟨rfl, upd_same, same_new nph _⟩
    (fun j ys H18 _ ⟨e, b1, b2⟩ => ⟨b1, by rw [e, List.length_map, List.length_take]; omega, SqL.of (b2 _ _ r17)⟩) (le_line (by omega)) (fun j y ys H18 hj ⟨e, b1, b2⟩ => ?_) (fun ys H18 ⟨e, b1, b2⟩ => ?_)
  · obtain ⟨t, z, hz, rfl, ht⟩ := p17.get hj
    refine ⟨t, _, _, rfl, SqT.of (b2 _ _ ht), ?_⟩
    show ∃ u, _ ∧ _
    refine ⟨_, rfl, b1, rfl, ?_, upd_same, fun x' o y => ?_⟩
    · rw [take_snoc hz, List.map_append, e]
      rfl
    · rw [upd_ne (ne_of_none y nph)]
      exact b2 x' o y
  rw [e, lx, List.take_length] at b1
  refine ⟨hv, ph, _, _, rfl, rfl, SqL.of (b2 _ _ e4), SqL.of b1, flat_strs2 _, flat_strs2 _, ?_⟩
  show Q (.bl (eqL (hs.map fun p => V.str p.1) (hs.map fun p => V.str p.1))) H18
  rw [eq_strs]
  exact q _ (S7.trans (s717.trans b2))
theorem sc_law : FnScope ["_law_script", "_law_k"] ["_law_script"] (defScope s_law) := ⟨rfl, rfl, rfl, by decide +kernel, rfl, by decide +kernel, by decide +kernel⟩
theorem ok_law {f : Addr} {fd : FuncData} (F : Fun K "law" "law" s_law f fd) (T : Txt K mg) (C_law_one : Cal P w K mg base 8 "_law_one" ["_law_script", "_law_at"] (spOne K)) : FnOk P w K mg base CX0 9 f fd ["_law_script"] (spLaw K) := by
  have sc := sc_law
  refine F.ok sc (fun vs H Q E h => ?_) (fun cdv A outer s H vs Q E hr h => ?_)
  · obtain ⟨_, _, rfl, _⟩ := h
    rfl
  obtain ⟨a, ns, rfl, ha, h63, q⟩ := h
  refine ⟨_, (pss_cons (ps_for PassesOwn.never rfl (pi_range1 rfl T.n_range (pa_cons pe_int pa_nil)) (pg_name (i := 1) sc.nd rfl (Or.inl rfl))
        (pss_one (ps_if (pt_not (pt_val (pe_callC C_law_one (hr.mono (by decide)) rfl (pa_cons (pv 0) (pa_cons (pe_op op_mul pe_int (pv 1)) pa_nil)))))
        (pss_one (ps_ret pe_bl))
        pss_nil)))
      (pss_one (ps_ret pe_bl))), ?_⟩
  refine ⟨6, rfl, by decide, by decide, for_range (n := 6) (fun j σ H2 => (∃ o, σ = [some (.ref a), o]) ∧ Same H H2) ⟨⟨none, rfl⟩, Same.refl _⟩ ?_ ?_⟩
  · rintro j σ H2 hj ⟨⟨o, rfl⟩, s2⟩
    refine ⟨_, rfl, _, rfl, _, _, rfl, rfl, .inl ⟨by decide, by decide⟩, a, ns, _, rfl, s2.seq ha, h63, by omega, by omega, fun H3 s3 => ⟨_, rfl, iteF ?_⟩⟩
    exact ⟨⟨_, rfl⟩, s2.trans s3⟩
  · rintro σ H2 ⟨⟨o, rfl⟩, s2⟩
    exact q _
end


theorem all_mk {l : PySem.W.OpenLaw} {w : World} {K : PySem.W.Frag} {h : Heap} {mg : Str → Option Value} {fa : Addr} (X : K.In h) (G : h.Ns mainGlobals mg) (hfa : mg "law" = some (.ref fa))
    {f0 : Addr} {od0 an0 : Option Addr} {sl0 : Array (Option Value)} {oc0 kV0 dc0 pm0 cd0 ct0 : Value}
    (a0 : PySem.W.nsIn K mainGlobals "is_whole" = some (some (.ref f0))) (l0 : K.lookup f0 = some ⟨oc0, od0, .func (PySem.W.fnOf "is_whole" "is_whole" (defArgs s_is_whole) (defBody s_is_whole) (defScope s_is_whole) .none kV0 dc0 pm0 an0 cd0 ct0), sl0⟩) (c0 : PySem.W.codeIn K cd0 "is_whole" = true) (k0 : PySem.W.keepIn K (.ref f0) = true)
    {f1 : Addr} {od1 an1 : Option Addr} {sl1 : Array (Option Value)} {oc1 kV1 dc1 pm1 cd1 ct1 : Value}
    (a1 : PySem.W.nsIn K mainGlobals "has_letters_alone" = some (some (.ref f1))) (l1 : K.lookup f1 = some ⟨oc1, od1, .func (PySem.W.fnOf "has_letters_alone" "has_letters_alone" (defArgs s_has_letters_alone) (defBody s_has_letters_alone) (defScope s_has_letters_alone) .none kV1 dc1 pm1 an1 cd1 ct1), sl1⟩) (c1 : PySem.W.codeIn K cd1 "has_letters_alone" = true) (k1 : PySem.W.keepIn K (.ref f1) = true)
    {f2 : Addr} {od2 an2 : Option Addr} {sl2 : Array (Option Value)} {oc2 kV2 dc2 pm2 cd2 ct2 : Value}
    (a2 : PySem.W.nsIn K mainGlobals "is_name" = some (some (.ref f2))) (l2 : K.lookup f2 = some ⟨oc2, od2, .func (PySem.W.fnOf "is_name" "is_name" (defArgs s_is_name) (defBody s_is_name) (defScope s_is_name) .none kV2 dc2 pm2 an2 cd2 ct2), sl2⟩) (c2 : PySem.W.codeIn K cd2 "is_name" = true) (k2 : PySem.W.keepIn K (.ref f2) = true)
    {f3 : Addr} {od3 an3 : Option Addr} {sl3 : Array (Option Value)} {oc3 kV3 dc3 pm3 cd3 ct3 : Value}
    (a3 : PySem.W.nsIn K mainGlobals "are_weights" = some (some (.ref f3))) (l3 : K.lookup f3 = some ⟨oc3, od3, .func (PySem.W.fnOf "are_weights" "are_weights" (defArgs s_are_weights) (defBody s_are_weights) (defScope s_are_weights) .none kV3 dc3 pm3 an3 cd3 ct3), sl3⟩) (c3 : PySem.W.codeIn K cd3 "are_weights" = true) (k3 : PySem.W.keepIn K (.ref f3) = true)
    {f4 : Addr} {od4 an4 : Option Addr} {sl4 : Array (Option Value)} {oc4 kV4 dc4 pm4 cd4 ct4 : Value}
    (a4 : PySem.W.nsIn K mainGlobals "may_have" = some (some (.ref f4))) (l4 : K.lookup f4 = some ⟨oc4, od4, .func (PySem.W.fnOf "may_have" "may_have" (defArgs s_may_have) (defBody s_may_have) (defScope s_may_have) .none kV4 dc4 pm4 an4 cd4 ct4), sl4⟩) (c4 : PySem.W.codeIn K cd4 "may_have" = true) (k4 : PySem.W.keepIn K (.ref f4) = true)
    {f5 : Addr} {od5 an5 : Option Addr} {sl5 : Array (Option Value)} {oc5 kV5 dc5 pm5 cd5 ct5 : Value}
    (a5 : PySem.W.nsIn K mainGlobals "due_by" = some (some (.ref f5))) (l5 : K.lookup f5 = some ⟨oc5, od5, .func (PySem.W.fnOf "due_by" "due_by" (defArgs s_due_by) (defBody s_due_by) (defScope s_due_by) .none kV5 dc5 pm5 an5 cd5 ct5), sl5⟩) (c5 : PySem.W.codeIn K cd5 "due_by" = true) (k5 : PySem.W.keepIn K (.ref f5) = true)
    {f6 : Addr} {od6 an6 : Option Addr} {sl6 : Array (Option Value)} {oc6 kV6 dc6 pm6 cd6 ct6 : Value}
    (a6 : PySem.W.nsIn K mainGlobals "place_of_turn" = some (some (.ref f6))) (l6 : K.lookup f6 = some ⟨oc6, od6, .func (PySem.W.fnOf "place_of_turn" "place_of_turn" (defArgs s_place_of_turn) (defBody s_place_of_turn) (defScope s_place_of_turn) .none kV6 dc6 pm6 an6 cd6 ct6), sl6⟩) (c6 : PySem.W.codeIn K cd6 "place_of_turn" = true) (k6 : PySem.W.keepIn K (.ref f6) = true)
    {f7 : Addr} {od7 an7 : Option Addr} {sl7 : Array (Option Value)} {oc7 kV7 dc7 pm7 cd7 ct7 : Value}
    (a7 : PySem.W.nsIn K mainGlobals "turns" = some (some (.ref f7))) (l7 : K.lookup f7 = some ⟨oc7, od7, .func (PySem.W.fnOf "turns" "turns" (defArgs s_turns) (defBody s_turns) (defScope s_turns) .none kV7 dc7 pm7 an7 cd7 ct7), sl7⟩) (c7 : PySem.W.codeIn K cd7 "turns" = true) (k7 : PySem.W.keepIn K (.ref f7) = true)
    {f8 : Addr} {od8 an8 : Option Addr} {sl8 : Array (Option Value)} {oc8 kV8 dc8 pm8 cd8 ct8 : Value}
    (a8 : PySem.W.nsIn K mainGlobals "check_houses" = some (some (.ref f8))) (l8 : K.lookup f8 = some ⟨oc8, od8, .func (PySem.W.fnOf "check_houses" "check_houses" (defArgs s_check_houses) (defBody s_check_houses) (defScope s_check_houses) .none kV8 dc8 pm8 an8 cd8 ct8), sl8⟩) (c8 : PySem.W.codeIn K cd8 "check_houses" = true) (k8 : PySem.W.keepIn K (.ref f8) = true)
    {f9 : Addr} {od9 an9 : Option Addr} {sl9 : Array (Option Value)} {oc9 kV9 dc9 pm9 cd9 ct9 : Value}
    (a9 : PySem.W.nsIn K mainGlobals "dealt_to" = some (some (.ref f9))) (l9 : K.lookup f9 = some ⟨oc9, od9, .func (PySem.W.fnOf "dealt_to" "dealt_to" (defArgs s_dealt_to) (defBody s_dealt_to) (defScope s_dealt_to) .none kV9 dc9 pm9 an9 cd9 ct9), sl9⟩) (c9 : PySem.W.codeIn K cd9 "dealt_to" = true) (k9 : PySem.W.keepIn K (.ref f9) = true)
    {f10 : Addr} {od10 an10 : Option Addr} {sl10 : Array (Option Value)} {oc10 kV10 dc10 pm10 cd10 ct10 : Value}
    (a10 : PySem.W.nsIn K mainGlobals "_law_cell" = some (some (.ref f10))) (l10 : K.lookup f10 = some ⟨oc10, od10, .func (PySem.W.fnOf "_law_cell" "_law_cell" (defArgs s__law_cell) (defBody s__law_cell) (defScope s__law_cell) .none kV10 dc10 pm10 an10 cd10 ct10), sl10⟩) (c10 : PySem.W.codeIn K cd10 "_law_cell" = true) (k10 : PySem.W.keepIn K (.ref f10) = true)
    {f11 : Addr} {od11 an11 : Option Addr} {sl11 : Array (Option Value)} {oc11 kV11 dc11 pm11 cd11 ct11 : Value}
    (a11 : PySem.W.nsIn K mainGlobals "_law_mix" = some (some (.ref f11))) (l11 : K.lookup f11 = some ⟨oc11, od11, .func (PySem.W.fnOf "_law_mix" "_law_mix" (defArgs s__law_mix) (defBody s__law_mix) (defScope s__law_mix) .none kV11 dc11 pm11 an11 cd11 ct11), sl11⟩) (c11 : PySem.W.codeIn K cd11 "_law_mix" = true) (k11 : PySem.W.keepIn K (.ref f11) = true)
    {f12 : Addr} {od12 an12 : Option Addr} {sl12 : Array (Option Value)} {oc12 kV12 dc12 pm12 cd12 ct12 : Value}
    (a12 : PySem.W.nsIn K mainGlobals "_law_whole" = some (some (.ref f12))) (l12 : K.lookup f12 = some ⟨oc12, od12, .func (PySem.W.fnOf "_law_whole" "_law_whole" (defArgs s__law_whole) (defBody s__law_whole) (defScope s__law_whole) .none kV12 dc12 pm12 an12 cd12 ct12), sl12⟩) (c12 : PySem.W.codeIn K cd12 "_law_whole" = true) (k12 : PySem.W.keepIn K (.ref f12) = true)
    {f13 : Addr} {od13 an13 : Option Addr} {sl13 : Array (Option Value)} {oc13 kV13 dc13 pm13 cd13 ct13 : Value}
    (a13 : PySem.W.nsIn K mainGlobals "_law_names" = some (some (.ref f13))) (l13 : K.lookup f13 = some ⟨oc13, od13, .func (PySem.W.fnOf "_law_names" "_law_names" (defArgs s__law_names) (defBody s__law_names) (defScope s__law_names) .none kV13 dc13 pm13 an13 cd13 ct13), sl13⟩) (c13 : PySem.W.codeIn K cd13 "_law_names" = true) (k13 : PySem.W.keepIn K (.ref f13) = true)
    {f14 : Addr} {od14 an14 : Option Addr} {sl14 : Array (Option Value)} {oc14 kV14 dc14 pm14 cd14 ct14 : Value}
    (a14 : PySem.W.nsIn K mainGlobals "_law_wheel" = some (some (.ref f14))) (l14 : K.lookup f14 = some ⟨oc14, od14, .func (PySem.W.fnOf "_law_wheel" "_law_wheel" (defArgs s__law_wheel) (defBody s__law_wheel) (defScope s__law_wheel) .none kV14 dc14 pm14 an14 cd14 ct14), sl14⟩) (c14 : PySem.W.codeIn K cd14 "_law_wheel" = true) (k14 : PySem.W.keepIn K (.ref f14) = true)
    {f15 : Addr} {od15 an15 : Option Addr} {sl15 : Array (Option Value)} {oc15 kV15 dc15 pm15 cd15 ct15 : Value}
    (a15 : PySem.W.nsIn K mainGlobals "_law_first" = some (some (.ref f15))) (l15 : K.lookup f15 = some ⟨oc15, od15, .func (PySem.W.fnOf "_law_first" "_law_first" (defArgs s__law_first) (defBody s__law_first) (defScope s__law_first) .none kV15 dc15 pm15 an15 cd15 ct15), sl15⟩) (c15 : PySem.W.codeIn K cd15 "_law_first" = true) (k15 : PySem.W.keepIn K (.ref f15) = true)
    {f16 : Addr} {od16 an16 : Option Addr} {sl16 : Array (Option Value)} {oc16 kV16 dc16 pm16 cd16 ct16 : Value}
    (a16 : PySem.W.nsIn K mainGlobals "_law_houses" = some (some (.ref f16))) (l16 : K.lookup f16 = some ⟨oc16, od16, .func (PySem.W.fnOf "_law_houses" "_law_houses" (defArgs s__law_houses) (defBody s__law_houses) (defScope s__law_houses) .none kV16 dc16 pm16 an16 cd16 ct16), sl16⟩) (c16 : PySem.W.codeIn K cd16 "_law_houses" = true) (k16 : PySem.W.keepIn K (.ref f16) = true)
    {f17 : Addr} {od17 an17 : Option Addr} {sl17 : Array (Option Value)} {oc17 kV17 dc17 pm17 cd17 ct17 : Value}
    (a17 : PySem.W.nsIn K mainGlobals "_law_size" = some (some (.ref f17))) (l17 : K.lookup f17 = some ⟨oc17, od17, .func (PySem.W.fnOf "_law_size" "_law_size" (defArgs s__law_size) (defBody s__law_size) (defScope s__law_size) .none kV17 dc17 pm17 an17 cd17 ct17), sl17⟩) (c17 : PySem.W.codeIn K cd17 "_law_size" = true) (k17 : PySem.W.keepIn K (.ref f17) = true)
    {f18 : Addr} {od18 an18 : Option Addr} {sl18 : Array (Option Value)} {oc18 kV18 dc18 pm18 cd18 ct18 : Value}
    (a18 : PySem.W.nsIn K mainGlobals "_law_due" = some (some (.ref f18))) (l18 : K.lookup f18 = some ⟨oc18, od18, .func (PySem.W.fnOf "_law_due" "_law_due" (defArgs s__law_due) (defBody s__law_due) (defScope s__law_due) .none kV18 dc18 pm18 an18 cd18 ct18), sl18⟩) (c18 : PySem.W.codeIn K cd18 "_law_due" = true) (k18 : PySem.W.keepIn K (.ref f18) = true)
    {f19 : Addr} {od19 an19 : Option Addr} {sl19 : Array (Option Value)} {oc19 kV19 dc19 pm19 cd19 ct19 : Value}
    (a19 : PySem.W.nsIn K mainGlobals "_law_pairs" = some (some (.ref f19))) (l19 : K.lookup f19 = some ⟨oc19, od19, .func (PySem.W.fnOf "_law_pairs" "_law_pairs" (defArgs s__law_pairs) (defBody s__law_pairs) (defScope s__law_pairs) .none kV19 dc19 pm19 an19 cd19 ct19), sl19⟩) (c19 : PySem.W.codeIn K cd19 "_law_pairs" = true) (k19 : PySem.W.keepIn K (.ref f19) = true)
    {f20 : Addr} {od20 an20 : Option Addr} {sl20 : Array (Option Value)} {oc20 kV20 dc20 pm20 cd20 ct20 : Value}
    (a20 : PySem.W.nsIn K mainGlobals "_law_one" = some (some (.ref f20))) (l20 : K.lookup f20 = some ⟨oc20, od20, .func (PySem.W.fnOf "_law_one" "_law_one" (defArgs s__law_one) (defBody s__law_one) (defScope s__law_one) .none kV20 dc20 pm20 an20 cd20 ct20), sl20⟩) (c20 : PySem.W.codeIn K cd20 "_law_one" = true) (k20 : PySem.W.keepIn K (.ref f20) = true)
    {f21 : Addr} {od21 an21 : Option Addr} {sl21 : Array (Option Value)} {oc21 kV21 dc21 pm21 cd21 ct21 : Value}
    (a21 : PySem.W.nsIn K mainGlobals "law" = some (some (.ref f21))) (l21 : K.lookup f21 = some ⟨oc21, od21, .func (PySem.W.fnOf "law" "law" (defArgs s_law) (defBody s_law) (defScope s_law) .none kV21 dc21 pm21 an21 cd21 ct21), sl21⟩) (c21 : PySem.W.codeIn K cd21 "law" = true) (k21 : PySem.W.keepIn K (.ref f21) = true)
    {C_Deal : Addr} (q_Deal : PySem.W.nsIn K mainGlobals "Deal" = some (some (.ref C_Deal)))
    (pg_Deal : PySem.W.plainGet K C_Deal Str.empty = true) (hd_Deal : PySem.W.hasDictIn K C_Deal = true) (po_Deal : PySem.W.plainOver K C_Deal = true) (sa_Deal : PySem.W.findIn K (.ref C_Deal) "__setattr__" = some (some (.builtin "object.__setattr__"))) (mk_Deal : PySem.W.makesIn K C_Deal = true) (kc_Deal : PySem.W.keepIn K (.ref C_Deal) = true)
    (na_Deal_wheel : PySem.W.findIn K (.ref C_Deal) "wheel" = some none)
    (na_Deal_weights : PySem.W.findIn K (.ref C_Deal) "weights" = some none)
    {C_Cover : Addr} (q_Cover : PySem.W.nsIn K mainGlobals "Cover" = some (some (.ref C_Cover)))
    (pg_Cover : PySem.W.plainGet K C_Cover Str.empty = true) (hd_Cover : PySem.W.hasDictIn K C_Cover = true) (po_Cover : PySem.W.plainOver K C_Cover = true) (sa_Cover : PySem.W.findIn K (.ref C_Cover) "__setattr__" = some (some (.builtin "object.__setattr__"))) (mk_Cover : PySem.W.makesIn K C_Cover = true) (kc_Cover : PySem.W.keepIn K (.ref C_Cover) = true)
    (na_Cover_name : PySem.W.findIn K (.ref C_Cover) "name" = some none)
    (na_Cover_condition : PySem.W.findIn K (.ref C_Cover) "condition" = some none)
    (na_Cover_clauses : PySem.W.findIn K (.ref C_Cover) "clauses" = some none)
    (na_Cover_houses : PySem.W.findIn K (.ref C_Cover) "houses" = some none)
    (na_Cover_deal : PySem.W.findIn K (.ref C_Cover) "deal" = some none)
    (na_Cover_waits : PySem.W.findIn K (.ref C_Cover) "waits" = some none)
    {C_Condition : Addr} (q_Condition : PySem.W.nsIn K mainGlobals "Condition" = some (some (.ref C_Condition)))
    (pg_Condition : PySem.W.plainGet K C_Condition Str.empty = true) (hd_Condition : PySem.W.hasDictIn K C_Condition = true) (po_Condition : PySem.W.plainOver K C_Condition = true) (sa_Condition : PySem.W.findIn K (.ref C_Condition) "__setattr__" = some (some (.builtin "object.__setattr__"))) (mk_Condition : PySem.W.makesIn K C_Condition = true) (kc_Condition : PySem.W.keepIn K (.ref C_Condition) = true)
    (nd_C : ([C_Deal, C_Cover, C_Condition] : List Addr).Nodup)
    {fDeal___init__ : Addr} {odDeal___init__ anDeal___init__ : Option Addr} {slDeal___init__ : Array (Option Value)} {ocDeal___init__ kVDeal___init__ dcDeal___init__ pmDeal___init__ cdDeal___init__ ctDeal___init__ : Value}
    (a_Deal___init__ : PySem.W.findIn K (.ref C_Deal) "__init__" = some (some (.ref fDeal___init__)))
    (iDeal___init__ : PySem.W.isFn K (.ref fDeal___init__) = true) (lDeal___init__ : K.lookup fDeal___init__ = some ⟨ocDeal___init__, odDeal___init__, .func (PySem.W.fnOf "__init__" "Deal.__init__" (defArgs s_Deal___init__) (defBody s_Deal___init__) (defScope s_Deal___init__) .none kVDeal___init__ dcDeal___init__ pmDeal___init__ anDeal___init__ cdDeal___init__ ctDeal___init__), slDeal___init__⟩) (cDeal___init__ : PySem.W.codeIn K cdDeal___init__ "Deal.__init__" = true) (kDeal___init__ : PySem.W.keepIn K (.ref fDeal___init__) = true)
    {fDeal_counts_to : Addr} {odDeal_counts_to anDeal_counts_to : Option Addr} {slDeal_counts_to : Array (Option Value)} {ocDeal_counts_to kVDeal_counts_to dcDeal_counts_to pmDeal_counts_to cdDeal_counts_to ctDeal_counts_to : Value}
    (a_Deal_counts_to : PySem.W.findIn K (.ref C_Deal) "counts_to" = some (some (.ref fDeal_counts_to)))
    (iDeal_counts_to : PySem.W.isFn K (.ref fDeal_counts_to) = true) (lDeal_counts_to : K.lookup fDeal_counts_to = some ⟨ocDeal_counts_to, odDeal_counts_to, .func (PySem.W.fnOf "counts_to" "Deal.counts_to" (defArgs s_Deal_counts_to) (defBody s_Deal_counts_to) (defScope s_Deal_counts_to) .none kVDeal_counts_to dcDeal_counts_to pmDeal_counts_to anDeal_counts_to cdDeal_counts_to ctDeal_counts_to), slDeal_counts_to⟩) (cDeal_counts_to : PySem.W.codeIn K cdDeal_counts_to "Deal.counts_to" = true) (kDeal_counts_to : PySem.W.keepIn K (.ref fDeal_counts_to) = true)
    {fDeal_between : Addr} {odDeal_between anDeal_between : Option Addr} {slDeal_between : Array (Option Value)} {ocDeal_between kVDeal_between dcDeal_between pmDeal_between cdDeal_between ctDeal_between : Value}
    (a_Deal_between : PySem.W.findIn K (.ref C_Deal) "between" = some (some (.ref fDeal_between)))
    (iDeal_between : PySem.W.isFn K (.ref fDeal_between) = true) (lDeal_between : K.lookup fDeal_between = some ⟨ocDeal_between, odDeal_between, .func (PySem.W.fnOf "between" "Deal.between" (defArgs s_Deal_between) (defBody s_Deal_between) (defScope s_Deal_between) .none kVDeal_between dcDeal_between pmDeal_between anDeal_between cdDeal_between ctDeal_between), slDeal_between⟩) (cDeal_between : PySem.W.codeIn K cdDeal_between "Deal.between" = true) (kDeal_between : PySem.W.keepIn K (.ref fDeal_between) = true)
    {fCover___init__ dvCover___init__ : Addr} {odCover___init__ anCover___init__ : Option Addr} {slCover___init__ : Array (Option Value)} {ocCover___init__ kVCover___init__ dcCover___init__ pmCover___init__ cdCover___init__ ctCover___init__ : Value}
    (a_Cover___init__ : PySem.W.findIn K (.ref C_Cover) "__init__" = some (some (.ref fCover___init__)))
    (iCover___init__ : PySem.W.isFn K (.ref fCover___init__) = true) (lCover___init__ : K.lookup fCover___init__ = some ⟨ocCover___init__, odCover___init__, .func (PySem.W.fnOf "__init__" "Cover.__init__" (defArgs s_Cover___init__) (defBody s_Cover___init__) (defScope s_Cover___init__) (.ref dvCover___init__) kVCover___init__ dcCover___init__ pmCover___init__ anCover___init__ cdCover___init__ ctCover___init__), slCover___init__⟩) (cCover___init__ : PySem.W.codeIn K cdCover___init__ "Cover.__init__" = true) (kCover___init__ : PySem.W.keepIn K (.ref fCover___init__) = true)
    {ndCover___init__ : Nat} (dlCover___init__ : K.lookup dvCover___init__ = some ⟨.type "tuple", none, .seq #[.none, .none, .bool false] ndCover___init__, #[]⟩)
    (ni_Condition : PySem.W.findIn K (.ref C_Condition) "__init__" = some (some (.builtin "object.__init__")))
    {tk_COVERED_ONE : Tok} (z_COVERED_ONE : PySem.W.nsIn K mainGlobals "COVERED_ONE" = some (some (.str "self" tk_COVERED_ONE)))
    {tk_LETTERS : Tok} (z_LETTERS : PySem.W.nsIn K mainGlobals "LETTERS" = some (some (.str "abcdefghijklmnopqrstuvwxyz" tk_LETTERS)))
    {tk_LONGEST_NAME : Tok} (z_LONGEST_NAME : PySem.W.nsIn K mainGlobals "LONGEST_NAME" = some (some (.int 8 tk_LONGEST_NAME)))
    {tk_MOST_CLAUSES : Tok} (z_MOST_CLAUSES : PySem.W.nsIn K mainGlobals "MOST_CLAUSES" = some (some (.int 8 tk_MOST_CLAUSES)))
    {tk_MOST_PLACES : Tok} (z_MOST_PLACES : PySem.W.nsIn K mainGlobals "MOST_PLACES" = some (some (.int 8 tk_MOST_PLACES)))
    {tk_MOST_TURNS : Tok} (z_MOST_TURNS : PySem.W.nsIn K mainGlobals "MOST_TURNS" = some (some (.int 100 tk_MOST_TURNS)))
    (z_bool : PySem.W.nsIn K mainGlobals "bool" = some none)
    (z_divmod : PySem.W.nsIn K mainGlobals "divmod" = some none)
    (z_enumerate : PySem.W.nsIn K mainGlobals "enumerate" = some none)
    (z_int : PySem.W.nsIn K mainGlobals "int" = some none)
    (z_isinstance : PySem.W.nsIn K mainGlobals "isinstance" = some none)
    (z_len : PySem.W.nsIn K mainGlobals "len" = some none)
    (z_list : PySem.W.nsIn K mainGlobals "list" = some none)
    (z_range : PySem.W.nsIn K mainGlobals "range" = some none)
    (z_str : PySem.W.nsIn K mainGlobals "str" = some none)
    (z_sum : PySem.W.nsIn K mainGlobals "sum" = some none)
    (z_tuple : PySem.W.nsIn K mainGlobals "tuple" = some none)
    (z_zip : PySem.W.nsIn K mainGlobals "zip" = some none) :
    ∃ fd : FuncData, (∀ (s : Shared) (v : Value), BindsTo s fd ⟨[v], []⟩ [("_law_script", v)]) ∧ ∀ base : Heap, K.In base → base.Ns mainGlobals mg → FnOk l.prog w K mg base CX0 9 fa fd ["_law_script"] (spLaw K) := by
  have e := hfa.symm.trans (PySem.W.mg_of X G a21)
  cases e
  have F0 := fun_mk (st := s_is_whole) l0 c0 k0
  have B0 := F0.binds (ps := ["thing"]) fun _ _ _ _ _ _ us hl => match us, hl with | [_], _ => rfl
  have D_is_whole : Def K mg "is_whole" s_is_whole ["thing"] := ⟨f0, _, F0, B0, PySem.W.mg_of X G a0⟩
  have F1 := fun_mk (st := s_has_letters_alone) l1 c1 k1
  have B1 := F1.binds (ps := ["text"]) fun _ _ _ _ _ _ us hl => match us, hl with | [_], _ => rfl
  have D_has_letters_alone : Def K mg "has_letters_alone" s_has_letters_alone ["text"] := ⟨f1, _, F1, B1, PySem.W.mg_of X G a1⟩
  have F2 := fun_mk (st := s_is_name) l2 c2 k2
  have B2 := F2.binds (ps := ["thing"]) fun _ _ _ _ _ _ us hl => match us, hl with | [_], _ => rfl
  have D_is_name : Def K mg "is_name" s_is_name ["thing"] := ⟨f2, _, F2, B2, PySem.W.mg_of X G a2⟩
  have F3 := fun_mk (st := s_are_weights) l3 c3 k3
  have B3 := F3.binds (ps := ["thing"]) fun _ _ _ _ _ _ us hl => match us, hl with | [_], _ => rfl
  have D_are_weights : Def K mg "are_weights" s_are_weights ["thing"] := ⟨f3, _, F3, B3, PySem.W.mg_of X G a3⟩
  have F4 := fun_mk (st := s_may_have) l4 c4 k4
  have B4 := F4.binds (ps := ["weight", "dealt", "total", "turn"]) fun _ _ _ _ _ _ us hl => match us, hl with | [_, _, _, _], _ => rfl
  have D_may_have : Def K mg "may_have" s_may_have ["weight", "dealt", "total", "turn"] := ⟨f4, _, F4, B4, PySem.W.mg_of X G a4⟩
  have F5 := fun_mk (st := s_due_by) l5 c5 k5
  have B5 := F5.binds (ps := ["weight", "dealt", "total"]) fun _ _ _ _ _ _ us hl => match us, hl with | [_, _, _], _ => rfl
  have D_due_by : Def K mg "due_by" s_due_by ["weight", "dealt", "total"] := ⟨f5, _, F5, B5, PySem.W.mg_of X G a5⟩
  have F6 := fun_mk (st := s_place_of_turn) l6 c6 k6
  have B6 := F6.binds (ps := ["weights", "dealt", "turn"]) fun _ _ _ _ _ _ us hl => match us, hl with | [_, _, _], _ => rfl
  have D_place_of_turn : Def K mg "place_of_turn" s_place_of_turn ["weights", "dealt", "turn"] := ⟨f6, _, F6, B6, PySem.W.mg_of X G a6⟩
  have F7 := fun_mk (st := s_turns) l7 c7 k7
  have B7 := F7.binds (ps := ["weights"]) fun _ _ _ _ _ _ us hl => match us, hl with | [_], _ => rfl
  have D_turns : Def K mg "turns" s_turns ["weights"] := ⟨f7, _, F7, B7, PySem.W.mg_of X G a7⟩
  have F8 := fun_mk (st := s_check_houses) l8 c8 k8
  have B8 := F8.binds (ps := ["houses"]) fun _ _ _ _ _ _ us hl => match us, hl with | [_], _ => rfl
  have D_check_houses : Def K mg "check_houses" s_check_houses ["houses"] := ⟨f8, _, F8, B8, PySem.W.mg_of X G a8⟩
  have F9 := fun_mk (st := s_dealt_to) l9 c9 k9
  have B9 := F9.binds (ps := ["cover", "base", "lo", "hi"]) fun _ _ _ _ _ _ us hl => match us, hl with | [_, _, _, _], _ => rfl
  have D_dealt_to : Def K mg "dealt_to" s_dealt_to ["cover", "base", "lo", "hi"] := ⟨f9, _, F9, B9, PySem.W.mg_of X G a9⟩
  have F10 := fun_mk (st := s__law_cell) l10 c10 k10
  have B10 := F10.binds (ps := ["_law_script", "_law_k"]) fun _ _ _ _ _ _ us hl => match us, hl with | [_, _], _ => rfl
  have D__law_cell : Def K mg "_law_cell" s__law_cell ["_law_script", "_law_k"] := ⟨f10, _, F10, B10, PySem.W.mg_of X G a10⟩
  have F11 := fun_mk (st := s__law_mix) l11 c11 k11
  have B11 := F11.binds (ps := ["_law_number", "_law_k"]) fun _ _ _ _ _ _ us hl => match us, hl with | [_, _], _ => rfl
  have D__law_mix : Def K mg "_law_mix" s__law_mix ["_law_number", "_law_k"] := ⟨f11, _, F11, B11, PySem.W.mg_of X G a11⟩
  have F12 := fun_mk (st := s__law_whole) l12 c12 k12
  have B12 := F12.binds (ps := ["_law_found"]) fun _ _ _ _ _ _ us hl => match us, hl with | [_], _ => rfl
  have D__law_whole : Def K mg "_law_whole" s__law_whole ["_law_found"] := ⟨f12, _, F12, B12, PySem.W.mg_of X G a12⟩
  have F13 := fun_mk (st := s__law_names) l13 c13 k13
  have B13 := F13.binds (ps := ["_law_number", "_law_size_here"]) fun _ _ _ _ _ _ us hl => match us, hl with | [_, _], _ => rfl
  have D__law_names : Def K mg "_law_names" s__law_names ["_law_number", "_law_size_here"] := ⟨f13, _, F13, B13, PySem.W.mg_of X G a13⟩
  have F14 := fun_mk (st := s__law_wheel) l14 c14 k14
  have B14 := F14.binds (ps := ["_law_weights"]) fun _ _ _ _ _ _ us hl => match us, hl with | [_], _ => rfl
  have D__law_wheel : Def K mg "_law_wheel" s__law_wheel ["_law_weights"] := ⟨f14, _, F14, B14, PySem.W.mg_of X G a14⟩
  have F15 := fun_mk (st := s__law_first) l15 c15 k15
  have B15 := F15.binds (ps := ["_law_wheel_here", "_law_size_here", "_law_n"]) fun _ _ _ _ _ _ us hl => match us, hl with | [_, _, _], _ => rfl
  have D__law_first : Def K mg "_law_first" s__law_first ["_law_wheel_here", "_law_size_here", "_law_n"] := ⟨f15, _, F15, B15, PySem.W.mg_of X G a15⟩
  have F16 := fun_mk (st := s__law_houses) l16 c16 k16
  have B16 := F16.binds (ps := ["_law_number", "_law_size_here", "_law_source"]) fun _ _ _ _ _ _ us hl => match us, hl with | [_, _, _], _ => rfl
  have D__law_houses : Def K mg "_law_houses" s__law_houses ["_law_number", "_law_size_here", "_law_source"] := ⟨f16, _, F16, B16, PySem.W.mg_of X G a16⟩
  have F17 := fun_mk (st := s__law_size) l17 c17 k17
  have B17 := F17.binds (ps := ["_law_number"]) fun _ _ _ _ _ _ us hl => match us, hl with | [_], _ => rfl
  have D__law_size : Def K mg "_law_size" s__law_size ["_law_number"] := ⟨f17, _, F17, B17, PySem.W.mg_of X G a17⟩
  have F18 := fun_mk (st := s__law_due) l18 c18 k18
  have B18 := F18.binds (ps := ["_law_houses_here", "_law_wheel_here", "_law_first_here", "_law_upto"]) fun _ _ _ _ _ _ us hl => match us, hl with | [_, _, _, _], _ => rfl
  have D__law_due : Def K mg "_law_due" s__law_due ["_law_houses_here", "_law_wheel_here", "_law_first_here", "_law_upto"] := ⟨f18, _, F18, B18, PySem.W.mg_of X G a18⟩
  have F19 := fun_mk (st := s__law_pairs) l19 c19 k19
  have B19 := F19.binds (ps := ["_law_found", "_law_due_here"]) fun _ _ _ _ _ _ us hl => match us, hl with | [_, _], _ => rfl
  have D__law_pairs : Def K mg "_law_pairs" s__law_pairs ["_law_found", "_law_due_here"] := ⟨f19, _, F19, B19, PySem.W.mg_of X G a19⟩
  have F20 := fun_mk (st := s__law_one) l20 c20 k20
  have B20 := F20.binds (ps := ["_law_script", "_law_at"]) fun _ _ _ _ _ _ us hl => match us, hl with | [_, _], _ => rfl
  have D__law_one : Def K mg "_law_one" s__law_one ["_law_script", "_law_at"] := ⟨f20, _, F20, B20, PySem.W.mg_of X G a20⟩
  have F21 := fun_mk (st := s_law) l21 c21 k21
  have B21 := F21.binds (ps := ["_law_script"]) fun _ _ _ _ _ _ us hl => match us, hl with | [_], _ => rfl
  have F_Deal___init__ := fun_mk (x := "__init__") (qual := "Deal.__init__") (st := s_Deal___init__) lDeal___init__ cDeal___init__ kDeal___init__
  have B_Deal___init__ := F_Deal___init__.binds (ps := ["self", "weights"]) fun _ _ _ _ _ _ us hl => match us, hl with | [_, _], _ => rfl
  have F_Deal_counts_to := fun_mk (x := "counts_to") (qual := "Deal.counts_to") (st := s_Deal_counts_to) lDeal_counts_to cDeal_counts_to kDeal_counts_to
  have B_Deal_counts_to := F_Deal_counts_to.binds (ps := ["self", "n"]) fun _ _ _ _ _ _ us hl => match us, hl with | [_, _], _ => rfl
  have F_Deal_between := fun_mk (x := "between") (qual := "Deal.between") (st := s_Deal_between) lDeal_between cDeal_between kDeal_between
  have B_Deal_between := F_Deal_between.binds (ps := ["self", "n", "m"]) fun _ _ _ _ _ _ us hl => match us, hl with | [_, _, _], _ => rfl
  have F_Cover___init__ := funD_mk (x := "__init__") (qual := "Cover.__init__") (st := s_Cover___init__) lCover___init__ cCover___init__ kCover___init__
  have B_Cover___init__ : Binds K _ ["self", "name", "condition", "clauses", "houses", "waits"] [] := fun s us X hl => by
    rw [List.append_nil] at hl ⊢
    match us, hl with | [_, _, _, _, _, _], _ => exact BindsTo.of_defaults (fd := PySem.W.fnOf "__init__" "Cover.__init__" (defArgs s_Cover___init__) (defBody s_Cover___init__) (defScope s_Cover___init__) (.ref dvCover___init__) kVCover___init__ dcCover___init__ pmCover___init__ anCover___init__ cdCover___init__ ctCover___init__) rfl (X _ _ dlCover___init__) rfl rfl rfl
  have H_Deal_make : Mk K C_Deal fDeal___init__ := ⟨mk_Deal, a_Deal___init__, iDeal___init__, kc_Deal⟩
  have H_Deal_counts_to : Meth K C_Deal "counts_to" fDeal_counts_to := ⟨a_Deal_counts_to, iDeal_counts_to, kDeal_counts_to⟩
  have H_Deal_between : Meth K C_Deal "between" fDeal_between := ⟨a_Deal_between, iDeal_between, kDeal_between⟩
  have H_Cover_make : Mk K C_Cover fCover___init__ := ⟨mk_Cover, a_Cover___init__, iCover___init__, kc_Cover⟩
  have NCondition : Mk0 K mg "Condition" C_Condition := ⟨mk_Condition, ni_Condition, kc_Condition, PySem.W.mg_of X G q_Condition⟩
  have L : Kl K mg C_Deal C_Cover C_Condition := ⟨PySem.W.mg_of X G q_Deal, ⟨pg_Deal, hd_Deal, po_Deal, sa_Deal⟩, na_Deal_wheel, na_Deal_weights, PySem.W.mg_of X G q_Cover, ⟨pg_Cover, hd_Cover, po_Cover, sa_Cover⟩, na_Cover_name, na_Cover_condition, na_Cover_clauses, na_Cover_houses, na_Cover_deal, na_Cover_waits, PySem.W.mg_of X G q_Condition, ⟨pg_Condition, hd_Condition, po_Condition, sa_Condition⟩, nd_C⟩
  have T : Txt K mg := ⟨⟨tk_COVERED_ONE, PySem.W.mg_of X G z_COVERED_ONE⟩, ⟨tk_LETTERS, PySem.W.mg_of X G z_LETTERS⟩, ⟨tk_LONGEST_NAME, PySem.W.mg_of X G z_LONGEST_NAME⟩, ⟨tk_MOST_CLAUSES, PySem.W.mg_of X G z_MOST_CLAUSES⟩, ⟨tk_MOST_PLACES, PySem.W.mg_of X G z_MOST_PLACES⟩, ⟨tk_MOST_TURNS, PySem.W.mg_of X G z_MOST_TURNS⟩, PySem.W.mg_none_of X G z_bool, PySem.W.mg_none_of X G z_divmod, PySem.W.mg_none_of X G z_enumerate, PySem.W.mg_none_of X G z_int, PySem.W.mg_none_of X G z_isinstance, PySem.W.mg_none_of X G z_len, PySem.W.mg_none_of X G z_list, PySem.W.mg_none_of X G z_range, PySem.W.mg_none_of X G z_str, PySem.W.mg_none_of X G z_sum, PySem.W.mg_none_of X G z_tuple, PySem.W.mg_none_of X G z_zip⟩
  refine ⟨PySem.W.fnOf "law" "law" (defArgs s_law) (defBody s_law) (defScope s_law) .none kV21 dc21 pm21 an21 cd21 ct21, fun s v => .of_eq rfl, fun base _ _ => ?_⟩
  have Cis_whole : Cal l.prog w K mg base 1 "is_whole" ["thing"] (spWhole K) := D_is_whole.cal fun f fd F => ok_is_whole F T
  have Care_weights : Cal l.prog w K mg base 2 "are_weights" ["thing"] spWeights := D_are_weights.cal fun f fd F => ok_are_weights F T Cis_whole
  have Cmay_have : Cal l.prog w K mg base 1 "may_have" ["weight", "dealt", "total", "turn"] spMay := D_may_have.cal fun f fd F => ok_may_have F T
  have Cdue_by : Cal l.prog w K mg base 1 "due_by" ["weight", "dealt", "total"] spDue := D_due_by.cal fun f fd F => ok_due_by F T
  have Cplace_of_turn : Cal l.prog w K mg base 2 "place_of_turn" ["weights", "dealt", "turn"] spPlace := D_place_of_turn.cal fun f fd F => ok_place_of_turn F T Cmay_have Cdue_by
  have Cturns : Cal l.prog w K mg base 3 "turns" ["weights"] spTurns := D_turns.cal fun f fd F => ok_turns F T Care_weights Cplace_of_turn
  have DL : Dl K C_Deal := ⟨L.cl_Deal, L.na_Deal_wheel, L.na_Deal_weights⟩
  have KDeal : KCal l.prog w K mg base 4 "Deal" C_Deal ["self", "weights"] (spInit C_Deal) := ⟨_, _, H_Deal_make, ok_Deal___init__ F_Deal___init__ T DL Cturns, B_Deal___init__, L.mg_Deal⟩
  have Mcounts_to : MCal l.prog w K mg base 1 C_Deal "counts_to" ["self", "n"] (spCounts C_Deal) := ⟨⟨_, _, ok_Deal_counts_to F_Deal_counts_to T DL, B_Deal_counts_to, H_Deal_counts_to⟩, L.cl_Deal⟩
  have Mbetween : MCal l.prog w K mg base 2 C_Deal "between" ["self", "n", "m"] (spBetween C_Deal) := ⟨⟨_, _, ok_Deal_between F_Deal_between T DL Mcounts_to, B_Deal_between, H_Deal_between⟩, L.cl_Deal⟩
  have Chas_letters_alone : Cal l.prog w K mg base 1 "has_letters_alone" ["text"] spLet := D_has_letters_alone.cal fun f fd F => ok_has_letters_alone F T
  have Cis_name : Cal l.prog w K mg base 2 "is_name" ["thing"] (spName K) := D_is_name.cal fun f fd F => ok_is_name F T Chas_letters_alone
  have Ccheck_houses : Cal l.prog w K mg base 3 "check_houses" ["houses"] spHouses := D_check_houses.cal fun f fd F => ok_check_houses F T Cis_name
  have Cdealt_to : Cal l.prog w K mg base 3 "dealt_to" ["cover", "base", "lo", "hi"] (spDealt C_Cover C_Deal) := D_dealt_to.cal fun f fd F => ok_dealt_to F T L Mbetween
  have BD_Cover : Binds K (PySem.W.fnOf "__init__" "Cover.__init__" (defArgs s_Cover___init__) (defBody s_Cover___init__) (defScope s_Cover___init__) (.ref dvCover___init__) kVCover___init__ dcCover___init__ pmCover___init__ anCover___init__ cdCover___init__ ctCover___init__) ["self", "name", "condition", "clauses", "houses", "waits"] [.bool false] := fun s us X hl => by
    have hl' : us.length = 5 := by simpa using hl
    match us, hl' with | [_, _, _, _, _], _ => exact BindsTo.of_defaults rfl (X _ _ dlCover___init__) rfl rfl rfl
  have KCover : KCalD l.prog w K mg base 6 "Cover" C_Cover ["self", "name", "condition", "clauses", "houses", "waits"] [.bl false] (spCoverH C_Cover C_Deal) := ⟨_, _, [.bool false], H_Cover_make, ok_Cover_initH F_Cover___init__ T L Cis_name Ccheck_houses KDeal, BD_Cover, .cons rfl .nil, L.mg_Cover⟩
  have C_law_cell : Cal l.prog w K mg base 1 "_law_cell" ["_law_script", "_law_k"] (spCell K) := D__law_cell.cal fun f fd F => ok__law_cell F T
  have C_law_mix : Cal l.prog w K mg base 1 "_law_mix" ["_law_number", "_law_k"] spMix := D__law_mix.cal fun f fd F => ok__law_mix F T
  have C_law_whole : Cal l.prog w K mg base 1 "_law_whole" ["_law_found"] (spWhole K) := D__law_whole.cal fun f fd F => ok__law_whole F T
  have C_law_wheel : Cal l.prog w K mg base 1 "_law_wheel" ["_law_weights"] spRow := D__law_wheel.cal fun f fd F => ok__law_wheel F T
  have C_law_size : Cal l.prog w K mg base 1 "_law_size" ["_law_number"] spSize := D__law_size.cal fun f fd F => ok__law_size F T
  have C_law_first : Cal l.prog w K mg base 1 "_law_first" ["_law_wheel_here", "_law_size_here", "_law_n"] spFirst := D__law_first.cal fun f fd F => ok__law_first F T
  have C_law_due : Cal l.prog w K mg base 2 "_law_due" ["_law_houses_here", "_law_wheel_here", "_law_first_here", "_law_upto"] spDueL := D__law_due.cal fun f fd F => ok__law_due F T C_law_first
  have C_law_pairs : Cal l.prog w K mg base 2 "_law_pairs" ["_law_found", "_law_due_here"] spPairs := D__law_pairs.cal fun f fd F => ok__law_pairs F T C_law_whole
  have C_law_names : Cal l.prog w K mg base 1 "_law_names" ["_law_number", "_law_size_here"] spNames := D__law_names.cal fun f fd F => ok__law_names F T
  have C_law_houses : Cal l.prog w K mg base 2 "_law_houses" ["_law_number", "_law_size_here", "_law_source"] spHouseL := D__law_houses.cal fun f fd F => ok__law_houses F T C_law_names C_law_mix
  have C_law_one : Cal l.prog w K mg base 8 "_law_one" ["_law_script", "_law_at"] (spOne K) := D__law_one.cal fun f fd F => ok__law_one F T L NCondition C_law_cell C_law_mix C_law_houses KCover C_law_wheel C_law_size Cdealt_to C_law_due C_law_pairs
  exact ok_law F21 T C_law_one
theorem walk {l : PySem.W.OpenLaw} {q : Program} {loose : List Str} {XP : (Str → Option Value) → Heap → Prop} {YP : World → Heap → Prop} {d : DefRec} {K : Params → PySem.W.Frag} (hn : l.most = some 63) (hdf : d.params.defaults = [])
    (hY : ∀ (w : World) (h : Heap), YP w h → (K w.params).In h)
    (F : ∀ (w : World) (mg : Str → Option Value) (fa : Addr) (h : Heap), (K w.params).In h → h.Ns mainGlobals mg → mg d.name = some (.ref fa) →
      ∃ fd : FuncData, (∀ (s : Shared) (u : Value), BindsTo s fd ⟨[u], []⟩ [("_law_script", u)]) ∧ ∀ base : Heap, (K w.params).In base → base.Ns mainGlobals mg → FnOk l.prog w (K w.params) mg base CX0 9 fa fd ["_law_script"] (spLaw (K w.params))) :
    PySem.W.WalkO q loose XP YP l.row.toRowW d [] (fun f vs => PySem.call f vs) :=
  L2.walk_of (n := 63) (k := 9) (x := "_law_script") (CX := fun _ => CX0) (sp := fun w => spLaw (K w.params)) hn (by decide) hdf ⟨rfl, by decide, by decide⟩ hY F (fun _ _ a ns hl _ hS => ⟨a, ns, rfl, hS, hl, fun _ => rfl⟩) fun _ _ _ _ _ z => z
end CRL
open PySem PySem.W PyProof.Rows
set_option maxRecDepth 100000 in
set_option maxHeartbeats 0 in
theorem PySem.Challenge.cw_coverroll_k62_dealt_to_houses_holds : PySem.Challenge.rw_coverroll_k62_dealt_to_houses.Holds := by
  w_on; o_law; k_head; (case hw => w_witness2)
  k_fill
  refine CRL.walk (l := PySem.Challenge.rw_coverroll_k62_dealt_to_houses) rfl rfl (fun w h Y => PySem.W.kIn_of Y) ?F
  case F =>
    intro w mg fa h KX G hmg
    refine' CRL.all_mk KX G hmg ?a0 ?l0 ?c0 ?k0 ?a1 ?l1 ?c1 ?k1 ?a2 ?l2 ?c2 ?k2 ?a3 ?l3 ?c3 ?k3 ?a4 ?l4 ?c4 ?k4 ?a5 ?l5 ?c5 ?k5 ?a6 ?l6 ?c6 ?k6 ?a7 ?l7 ?c7 ?k7 ?a8 ?l8 ?c8 ?k8 ?a9 ?l9 ?c9 ?k9 ?a10 ?l10 ?c10 ?k10 ?a11 ?l11 ?c11 ?k11 ?a12 ?l12 ?c12 ?k12 ?a13 ?l13 ?c13 ?k13 ?a14 ?l14 ?c14 ?k14 ?a15 ?l15 ?c15 ?k15 ?a16 ?l16 ?c16 ?k16 ?a17 ?l17 ?c17 ?k17 ?a18 ?l18 ?c18 ?k18 ?a19 ?l19 ?c19 ?k19 ?a20 ?l20 ?c20 ?k20 ?a21 ?l21 ?c21 ?k21 ?q_Deal ?pg_Deal ?hd_Deal ?po_Deal ?sa_Deal ?mk_Deal ?kc_Deal ?na_Deal_wheel ?na_Deal_weights ?q_Cover ?pg_Cover ?hd_Cover ?po_Cover ?sa_Cover ?mk_Cover ?kc_Cover ?na_Cover_name ?na_Cover_condition ?na_Cover_clauses ?na_Cover_houses ?na_Cover_deal ?na_Cover_waits ?q_Condition ?pg_Condition ?hd_Condition ?po_Condition ?sa_Condition ?mk_Condition ?kc_Condition ?nd_C ?a_Deal___init__ ?iDeal___init__ ?lDeal___init__ ?cDeal___init__ ?kDeal___init__ ?a_Deal_counts_to ?iDeal_counts_to ?lDeal_counts_to ?cDeal_counts_to ?kDeal_counts_to ?a_Deal_between ?iDeal_between ?lDeal_between ?cDeal_between ?kDeal_between ?a_Cover___init__ ?iCover___init__ ?lCover___init__ ?cCover___init__ ?kCover___init__ ?dlCover___init__ ?ni_Condition ?z_COVERED_ONE ?z_LETTERS ?z_LONGEST_NAME ?z_MOST_CLAUSES ?z_MOST_PLACES ?z_MOST_TURNS ?z_bool ?z_divmod ?z_enumerate ?z_int ?z_isinstance ?z_len ?z_list ?z_range ?z_str ?z_sum ?z_tuple ?z_zip
    (case a0 => k_is)
    (case l0 => k_is)
    (case c0 => k_is)
    (case k0 => k_is)
    (case a1 => k_is)
    (case l1 => k_is)
    (case c1 => k_is)
    (case k1 => k_is)
    (case a2 => k_is)
    (case l2 => k_is)
    (case c2 => k_is)
    (case k2 => k_is)
    (case a3 => k_is)
    (case l3 => k_is)
    (case c3 => k_is)
    (case k3 => k_is)
    (case a4 => k_is)
    (case l4 => k_is)
    (case c4 => k_is)
    (case k4 => k_is)
    (case a5 => k_is)
    (case l5 => k_is)
    (case c5 => k_is)
    (case k5 => k_is)
    (case a6 => k_is)
    (case l6 => k_is)
    (case c6 => k_is)
    (case k6 => k_is)
    (case a7 => k_is)
    (case l7 => k_is)
    (case c7 => k_is)
    (case k7 => k_is)
    (case a8 => k_is)
    (case l8 => k_is)
    (case c8 => k_is)
    (case k8 => k_is)
    (case a9 => k_is)
    (case l9 => k_is)
    (case c9 => k_is)
    (case k9 => k_is)
    (case a10 => k_is)
    (case l10 => k_is)
    (case c10 => k_is)
    (case k10 => k_is)
    (case a11 => k_is)
    (case l11 => k_is)
    (case c11 => k_is)
    (case k11 => k_is)
    (case a12 => k_is)
    (case l12 => k_is)
    (case c12 => k_is)
    (case k12 => k_is)
    (case a13 => k_is)
    (case l13 => k_is)
    (case c13 => k_is)
    (case k13 => k_is)
    (case a14 => k_is)
    (case l14 => k_is)
    (case c14 => k_is)
    (case k14 => k_is)
    (case a15 => k_is)
    (case l15 => k_is)
    (case c15 => k_is)
    (case k15 => k_is)
    (case a16 => k_is)
    (case l16 => k_is)
    (case c16 => k_is)
    (case k16 => k_is)
    (case a17 => k_is)
    (case l17 => k_is)
    (case c17 => k_is)
    (case k17 => k_is)
    (case a18 => k_is)
    (case l18 => k_is)
    (case c18 => k_is)
    (case k18 => k_is)
    (case a19 => k_is)
    (case l19 => k_is)
    (case c19 => k_is)
    (case k19 => k_is)
    (case a20 => k_is)
    (case l20 => k_is)
    (case c20 => k_is)
    (case k20 => k_is)
    (case a21 => k_is)
    (case l21 => k_is)
    (case c21 => k_is)
    (case k21 => k_is)
    (case q_Deal => k_is)
    (case pg_Deal => k_is)
    (case hd_Deal => k_is)
    (case po_Deal => k_is)
    (case sa_Deal => k_is)
    (case mk_Deal => k_is)
    (case kc_Deal => k_is)
    (case na_Deal_wheel => k_is)
    (case na_Deal_weights => k_is)
    (case q_Cover => k_is)
    (case pg_Cover => k_is)
    (case hd_Cover => k_is)
    (case po_Cover => k_is)
    (case sa_Cover => k_is)
    (case mk_Cover => k_is)
    (case kc_Cover => k_is)
    (case na_Cover_name => k_is)
    (case na_Cover_condition => k_is)
    (case na_Cover_clauses => k_is)
    (case na_Cover_houses => k_is)
    (case na_Cover_deal => k_is)
    (case na_Cover_waits => k_is)
    (case q_Condition => k_is)
    (case pg_Condition => k_is)
    (case hd_Condition => k_is)
    (case po_Condition => k_is)
    (case sa_Condition => k_is)
    (case mk_Condition => k_is)
    (case kc_Condition => k_is)
    (case nd_C => decide)
    (case a_Deal___init__ => k_is)
    (case iDeal___init__ => k_is)
    (case lDeal___init__ => k_is)
    (case cDeal___init__ => k_is)
    (case kDeal___init__ => k_is)
    (case a_Deal_counts_to => k_is)
    (case iDeal_counts_to => k_is)
    (case lDeal_counts_to => k_is)
    (case cDeal_counts_to => k_is)
    (case kDeal_counts_to => k_is)
    (case a_Deal_between => k_is)
    (case iDeal_between => k_is)
    (case lDeal_between => k_is)
    (case cDeal_between => k_is)
    (case kDeal_between => k_is)
    (case a_Cover___init__ => k_is)
    (case iCover___init__ => k_is)
    (case lCover___init__ => k_is)
    (case cCover___init__ => k_is)
    (case kCover___init__ => k_is)
    (case dlCover___init__ => k_is)
    (case ni_Condition => k_is)
    (case z_COVERED_ONE => k_is)
    (case z_LETTERS => k_is)
    (case z_LONGEST_NAME => k_is)
    (case z_MOST_CLAUSES => k_is)
    (case z_MOST_PLACES => k_is)
    (case z_MOST_TURNS => k_is)
    (case z_bool => k_is)
    (case z_divmod => k_is)
    (case z_enumerate => k_is)
    (case z_int => k_is)
    (case z_isinstance => k_is)
    (case z_len => k_is)
    (case z_list => k_is)
    (case z_range => k_is)
    (case z_str => k_is)
    (case z_sum => k_is)
    (case z_tuple => k_is)
    (case z_zip => k_is)
