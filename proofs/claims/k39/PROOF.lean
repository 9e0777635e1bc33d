import PyProof.Rows.All
import Wide.All
import OpenK.AllK
import Wide.FinOn
import Lean
import PyProof.EqAt
import PyProof.EqKinds
import PyProof.TupleCall
import PySem.Challenge.RW_coverroll_k39_whole_a_loss_in_pieces
set_option Elab.async false
set_option linter.all false
set_option maxRecDepth 100000
set_option maxHeartbeats 4000000
/-! THE HAND LAYER, for ints, bools, texts, own classes, LISTS and tuples (index, slices, in, append, pop ..), calls, loops. Paste it whole ahead of your own text; what your proof does not reach may be deleted. -/
namespace L2
open PySem PySem.Spec PyProof.Rows

/-- a key: an int or a str -/
abbrev Key := Sum Int Str
def keyIs : Key → Value → Bool
  | .inl k, v => Value.isInt k v
  | .inr x, v => Value.isStrOf x v
def keyH (w : World) : Key → Int
  | .inl k => hashInt k
  | .inr x => hashStr w x
theorem keyIs_shape : ∀ {k : Key} {v : Value}, keyIs k v = true → (∃ i t, k = Sum.inl i ∧ v = Value.int i t) ∨ (∃ x t, k = Sum.inr x ∧ v = Value.str x t)
  | .inl i, v, h => by
    obtain ⟨t, e⟩ := Value.isInt_shape (k := i) (v := v) h
    exact .inl ⟨i, t, rfl, e⟩
  | .inr x, v, h => by
    obtain ⟨t, e⟩ := Value.isStrOf_shape (x := x) (v := v) h
    exact .inr ⟨x, t, rfl, e⟩
theorem key_ll (a b : Int) : decide ((Sum.inl a : Key) = Sum.inl b) = (a == b) := by
  by_cases e : a = b
  · subst e; simp
  · have h : ¬ (Sum.inl a : Key) = Sum.inl b := fun q => e (Sum.inl.inj q)
    rw [decide_eq_false h]
    exact (beq_eq_false_iff_ne.mpr e).symm
theorem key_rr (a b : Str) : decide ((Sum.inr a : Key) = Sum.inr b) = decide (a = b) := by
  by_cases e : a = b
  · subst e; simp
  · have h : ¬ (Sum.inr a : Key) = Sum.inr b := fun q => e (Sum.inr.inj q)
    rw [decide_eq_false h, decide_eq_false e]
theorem key_lr (a : Int) (b : Str) : decide ((Sum.inl a : Key) = Sum.inr b) = false := decide_eq_false (fun q => nomatch q)
theorem key_rl (a : Str) (b : Int) : decide ((Sum.inr a : Key) = Sum.inl b) = false := decide_eq_false (fun q => nomatch q)

def mixKind (prog : Program) (w : World) : PySem.KeyKind prog w Key where
  is := keyIs
  hash := keyH w
  inj := fun v a b ha hb => by
    rcases keyIs_shape ha with ⟨i, t, rfl, rfl⟩ | ⟨x, t, rfl, rfl⟩
    · rcases keyIs_shape hb with ⟨j, u, rfl, e⟩ | ⟨y, u, rfl, e⟩
      · injection e with e1 _; rw [e1]
      · exact nomatch e
    · rcases keyIs_shape hb with ⟨j, u, rfl, e⟩ | ⟨y, u, rfl, e⟩
      · exact nomatch e
      · injection e with e1 _; rw [e1]
  byValue := fun k v h => by
    rcases keyIs_shape h with ⟨i, t, rfl, rfl⟩ | ⟨x, t, rfl, rfl⟩ <;> rfl
  pyHash := fun hv h => by
    rcases keyIs_shape hv with ⟨i, t, rfl, rfl⟩ | ⟨x, t, rfl, rfl⟩
    · exact wpAny_pyHash_int h
    · exact wpAny_pyHash_str h
  eqBool := fun hu hv h => by
    rcases keyIs_shape hu with ⟨i, t, rfl, rfl⟩ | ⟨x, t, rfl, rfl⟩
    · rcases keyIs_shape hv with ⟨j, u, rfl, rfl⟩ | ⟨y, u, rfl, rfl⟩
      · rw [key_ll] at h; exact wpAny_eqBool_int h
      · rw [key_lr] at h; exact SeqAt.EqAt.int_str i t y u _ _ _ _ h
    · rcases keyIs_shape hv with ⟨j, u, rfl, rfl⟩ | ⟨y, u, rfl, rfl⟩
      · rw [key_rl] at h; exact SeqAt.EqAt.str_int x t j u _ _ _ _ h
      · rw [key_rr] at h; exact wpAny_eqBool_str h
  «strs» := fun k x t v h => by
    rcases keyIs_shape h with ⟨i, u, rfl, e⟩ | ⟨y, u, rfl, e⟩
    · exact nomatch e
    · injection e with e1 _
      subst e1
      cases v <;> rfl

end L2

namespace L2
open PySem PySem.Spec PyProof.Rows

/-- a value, without the heap -/
inductive V where
  | non | bl (b : Bool) | int (i : Int) | str (x : Str) | byt (b : Array UInt8) | flt (b : UInt64) | ref (a : Addr) | ty (n : String)
  deriving DecidableEq

def RelV : V → Value → Prop
  | .non, u => u = Value.none
  | .bl b, u => u = Value.bool b
  | .int i, u => ∃ t, u = Value.int i t
  | .str x, u => ∃ t, u = Value.str x t
  | .byt b, u => ∃ t, u = Value.bytes b t
  | .flt b, u => ∃ t, u = Value.float b t
  | .ref a, u => u = Value.ref a
  | .ty n, u => u = Value.type n

abbrev Vals : List V → List Value → Prop := Paired RelV
theorem Vals.length {xs : List V} {us : List Value} (r : Vals xs us) : xs.length = us.length := Paired.length r
theorem Vals.get : ∀ {xs : List V} {us : List Value} {i : Nat} {x : V}, Vals xs us → xs[i]? = some x → ∃ u, us[i]? = some u ∧ RelV x u
  | _, _, _, _, .nil, e => by simp at e
  | _, _, 0, _, .cons r _, e => by simp at e; subst e; exact ⟨_, rfl, r⟩
  | _, _, i + 1, x, .cons _ t, e => by
    obtain ⟨u, h1, h2⟩ := Vals.get (i := i) (x := x) t (by simpa using e)
    exact ⟨u, by simpa using h1, h2⟩
theorem Vals.set {x : V} {u : Value} (r : RelV x u) : ∀ {xs : List V} {us : List Value} (i : Nat), Vals xs us → Vals (xs.set i x) (us.set i u)
  | _, _, _, .nil => .nil
  | _, _, 0, .cons _ t => .cons r t
  | _, _, i + 1, .cons q t => .cons q (Vals.set r i t)
theorem Vals.append : ∀ {xs ys : List V} {us ws : List Value}, Vals xs us → Vals ys ws → Vals (xs ++ ys) (us ++ ws)
  | _, _, _, _, .nil, s => s
  | _, _, _, _, .cons r t, s => .cons r (Vals.append t s)
theorem Vals.take : ∀ {xs : List V} {us : List Value} (n : Nat), Vals xs us → Vals (xs.take n) (us.take n)
  | _, _, 0, _ => .nil
  | _, _, _ + 1, .nil => .nil
  | _, _, n + 1, .cons r t => .cons r (Vals.take n t)
theorem Vals.drop : ∀ {xs : List V} {us : List Value} (n : Nat), Vals xs us → Vals (xs.drop n) (us.drop n)
  | _, _, 0, r => r
  | _, _, _ + 1, .nil => .nil
  | _, _, n + 1, .cons _ t => Vals.drop n t

def RelO : Option V → Option Value → Prop
  | some v, some u => RelV v u
  | none, none => True
  | _, _ => False
def KV {κ : Type} : List (κ × V) → List (κ × Value) → Prop := Paired fun (p : κ × V) (q : κ × Value) => p.1 = q.1 ∧ RelV p.2 q.2

/-- a key of a dict (00_mix): an int or a text -/
def kV : Key → V
  | .inl i => .int i
  | .inr x => .str x

/-- what stands at a tracked address -/
inductive HO where
  /-- a list -/
  | lst (xs : List V)
  /-- a tuple (never changes) -/
  | tup (xs : List V)
  /-- a dict whose keys are ints and texts; one whose keys are tuples of ints and texts (the empty one is both) -/
  | dK (kvs : List (Key × V)) | dT (kvs : List (List Key × V))
  /-- a set of ints: its members, its size -/
  | set (S : Int → Bool) (n : Nat)
  /-- an instance of the class at C, its dict at dx, its attributes -/
  | ins (C dx : Addr) (fs : List (Str × V))
  /-- the dict of the instance at x -/
  | own (x : Addr)
  /-- the dict of an exception -/
  | xd (fs : List (Str × V))
  /-- a bound method, f of x -/
  | met (f x : Addr)
  /-- a range object lo, lo + 1, .. below hi -/
  | rng (lo hi : Int)
  /-- a thing that is known to the object (the script; a dict while a loop walks it): read, never written while it is so -/
  | frz (o : Obj) (u : HO)
  /-- a code object's table -/
  | tbl (ps : Array Value)
  /-- any other thing, by what is true of its one object (a def of one's own: SetO a S n := HO.ext fun h => ..) -/
  | ext (φ : Heap → Prop)

abbrev Hp := Addr → Option HO
def upd (H : Hp) (a : Addr) (o : HO) : Hp := fun b => if b = a then some o else H b
theorem upd_same {H : Hp} {a : Addr} {o : HO} : upd H a o a = some o := by unfold upd; rw [if_pos rfl]
theorem upd_ne {H : Hp} {a b : Addr} {o : HO} (h : b ≠ a) : upd H a o b = H b := by unfold upd; rw [if_neg h]
/-- two objects of different content stand apart -/
theorem ne_of {H : Hp} {a b : Addr} {o u : HO} (h : H a = some o) (h' : H b = some u) (d : o ≠ u) : a ≠ b := by
  intro e; subst e; rw [h] at h'; exact d (Option.some.inj h')
theorem ne_of_none {H : Hp} {a b : Addr} {o : HO} (h : H a = some o) (h' : H b = none) : a ≠ b := by
  intro e; subst e; rw [h] at h'; cases h'

section
variable (P : Program) (w : World)
def ObjOk (H : Hp) (h : Heap) (a : Addr) : HO → Prop
  | .lst xs => xs.length ≤ sizeLine ∧ ∃ (its : List Value) (n : Nat), Vals xs its ∧ h.get? a = some { cls := .type "list", data := .seq its.toArray n }
  | .tup xs => xs.length ≤ sizeLine ∧ ∃ its : List Value, Vals xs its ∧ IsTup h a its.toArray
  | .dK kvs => kvs.length ≤ sizeLine ∧ (a == sysModules) = false ∧ ∃ vs, KV kvs vs ∧ h.DictOf (mixKind P w) a vs
  | .dT kvs => kvs.length ≤ sizeLine ∧ (a == sysModules) = false ∧ ∃ xs : List (List Key × Addr × Value),
      Paired (fun (p : List Key × V) (q : List Key × Addr × Value) => p.1 = q.1 ∧ H q.2.1 = some (.tup (p.1.map kV)) ∧ RelV p.2 q.2.2) kvs xs ∧
      ∃ o es ep, h.get? a = some o ∧ o.ExactDict ∧ o.data = .dict es ep ∧ es.toList = xs.map (entryOfKey (tupleKind (mixKind P w))) ∧ (xs.map (·.1)).Nodup
  | .set S n => h.SetOf (intKind P w) a S n
  | .ins C dx fs => H dx = some (.own a) ∧ fs.length ≤ 1000 ∧ dx ≠ a ∧ h.get? a = some (PySem.W.instObj C dx) ∧
      ∃ mA, h.Ns1 dx mA ∧ (∀ f, RelO (fs.lookup f) (mA f)) ∧ PySem.Within mA (fs.map (·.1))
  | .own _ => ∃ o, h.get? a = some o
  | .xd fs => ∃ mA, h.Ns1 a mA ∧ ∀ f, RelO (fs.lookup f) (mA f)
  | .rng lo hi => ∃ t u v, h.get? a = some { cls := .type "range", data := .fields #[.int lo t, .int hi u, .int 1 v] }
  | .frz o u => h.get? a = some o ∧ ObjOk H h a u
  | .tbl ps => h.get? a = some { cls := .none, data := .fields ps }
  | .met f x => h.get? a = some (PySem.W.methodObj (.ref f) (.ref x))
  | .ext φ => φ h ∧ (∃ o, h.get? a = some o) ∧ ∀ h1 h2 : Heap, φ h1 → (∀ o, h1.get? a = some o → h2.get? a = some o) → φ h2
/-- the abstract heap is held -/
def HOk (H : Hp) (h : Heap) : Prop := ∀ a o, H a = some o → ObjOk P w H h a o
end

section
variable {P : Program} {w : World} {H H' : Hp} {h h' : Heap} {a : Addr} {o : HO}
theorem ObjOk.lt (x : ObjOk P w H h a o) : a < h.objs.size := by
  cases o with
  | lst xs => obtain ⟨_, _, _, _, e⟩ := x; exact Heap.lt_size e
  | tup xs => obtain ⟨_, _, _, p⟩ := x; exact p.lt
  | dK kvs => obtain ⟨_, _, _, _, o, _, _, e, _⟩ := x; exact Heap.lt_size e
  | dT kvs => obtain ⟨_, _, _, _, o, _, _, e, _⟩ := x; exact Heap.lt_size e
  | set S n => obtain ⟨o, _, _, _, e, _⟩ := x; exact Heap.lt_size e
  | ins C dx fs => obtain ⟨_, _, _, e, _⟩ := x; exact Heap.lt_size e
  | own y => obtain ⟨_, e⟩ := x; exact Heap.lt_size e
  | xd fs => obtain ⟨_, ⟨_, _, _, e, _⟩, _⟩ := x; exact Heap.lt_size e
  | rng lo hi => obtain ⟨_, _, _, e⟩ := x; exact Heap.lt_size e
  | frz ob u => obtain ⟨e, _⟩ := x; exact Heap.lt_size e
  | tbl ps => exact Heap.lt_size (show h.get? a = some _ from x)
  | met f y => exact Heap.lt_size (show h.get? a = some _ from x)
  | ext φ => obtain ⟨_, ⟨_, e⟩, _⟩ := x; exact Heap.lt_size e
theorem Paired.mapP {α β : Type} {F G : α → β → Prop} : ∀ {l₁ : List α} {l₂ : List β}, Paired F l₁ l₂ → (∀ a b, F a b → G a b) → Paired G l₁ l₂
  | _, _, .nil, _ => .nil
  | _, _, .cons r t, f => .cons (f _ _ r) (Paired.mapP t f)
/-- what an object's description leans on: its own object, its own dict, the tuples -/
theorem ObjOk.stay (x : ObjOk P w H h a o) (k : ∀ b u, (b = a ∨ H b = some (.own a)) → h.get? b = some u → h'.get? b = some u)
    (ho : ∀ b, H b = some (.own a) → H' b = some (.own a)) (ht : ∀ b xs, H b = some (.tup xs) → H' b = some (.tup xs)) : ObjOk P w H' h' a o := by
  induction o with
  | lst xs => obtain ⟨z, its, n, r, e⟩ := x; exact ⟨z, its, n, r, k _ _ (.inl rfl) e⟩
  | tup xs => obtain ⟨z, its, r, ob, e, c⟩ := x; exact ⟨z, its, r, ob, k _ _ (.inl rfl) e, c⟩
  | dK kvs => obtain ⟨z, y, vs, r, ob, es, ep, e, c⟩ := x; exact ⟨z, y, vs, r, ob, es, ep, k _ _ (.inl rfl) e, c⟩
  | dT kvs =>
    obtain ⟨z, y, xs, r, ob, es, ep, e, c⟩ := x
    exact ⟨z, y, xs, Paired.mapP r fun p q z => ⟨z.1, ht _ _ z.2.1, z.2.2⟩, ob, es, ep, k _ _ (.inl rfl) e, c⟩
  | set S n => obtain ⟨ob, es, ep, t, e, c⟩ := x; exact ⟨ob, es, ep, t, k _ _ (.inl rfl) e, c⟩
  | ins C dx fs =>
    obtain ⟨d, z, ne, e, mA, ⟨od, es, ep, e2, c⟩, r⟩ := x
    exact ⟨ho _ d, z, ne, k _ _ (.inl rfl) e, mA, ⟨od, es, ep, k _ _ (.inr d) e2, c⟩, r⟩
  | own y => obtain ⟨ob, e⟩ := x; exact ⟨ob, k _ _ (.inl rfl) e⟩
  | xd fs => obtain ⟨mA, ⟨od, es, ep, e, c⟩, r⟩ := x; exact ⟨mA, ⟨od, es, ep, k _ _ (.inl rfl) e, c⟩, r⟩
  | rng lo hi => obtain ⟨t, u, v, e⟩ := x; exact ⟨t, u, v, k _ _ (.inl rfl) e⟩
  | frz ob u ih => obtain ⟨e, q⟩ := x; exact ⟨k _ _ (.inl rfl) e, ih q⟩
  | tbl ps =>
    have e : h.get? a = some { cls := .none, data := .fields ps } := x
    show h'.get? a = some { cls := .none, data := .fields ps }
    exact k a _ (.inl rfl) e
  | met f y =>
    have e : h.get? a = some (PySem.W.methodObj (.ref f) (.ref y)) := x
    show h'.get? a = some (PySem.W.methodObj (.ref f) (.ref y))
    exact k a _ (.inl rfl) e
  | ext φ => obtain ⟨p, ⟨o, e⟩, st⟩ := x; exact ⟨st _ _ p fun o q => k _ _ (.inl rfl) q, ⟨o, k _ _ (.inl rfl) e⟩, st⟩
theorem HOk.lt (x : HOk P w H h) (e : H a = some o) : a < h.objs.size := (x a o e).lt
theorem HOk.fresh (x : HOk P w H h) (e : h.objs.size ≤ a) : H a = none := by
  cases q : H a with
  | none => rfl
  | some u => exact absurd (Nat.lt_of_lt_of_le (x.lt q) e) (Nat.lt_irrefl _)
/-- every object of the heap is kept -/
theorem HOk.kept (x : HOk P w H h) (k : ∀ b u, h.get? b = some u → h'.get? b = some u) : HOk P w H h' := fun a o e =>
  (x a o e).stay (fun b u _ q => k b u q) (fun _ q => q) fun _ _ q => q
/-- a new object is laid and tracked -/
theorem HOk.laid (x : HOk P w H h) (k : ∀ b u, h.get? b = some u → h'.get? b = some u) (hp : h.objs.size ≤ a) (new : ObjOk P w (upd H a o) h' a o) : HOk P w (upd H a o) h' := fun b u e => by
  have hn := x.fresh hp
  by_cases hb : b = a
  · subst hb; rw [upd_same] at e; cases e; exact new
  · rw [upd_ne hb] at e
    exact (x b u e).stay (fun c v _ q => k c v q) (fun c q => by rw [upd_ne (ne_of_none q hn)]; exact q) fun c xs q => by rw [upd_ne (ne_of_none q hn)]; exact q
end

/-- what may be read as u: it is u, or a known u -/
def Rd (H : Hp) (a : Addr) (u : HO) : Prop := H a = some u ∨ ∃ o, H a = some (.frz o u)
theorem Rd.ok {P : Program} {w : World} {H : Hp} {h : Heap} {a : Addr} {u : HO} (r : Rd H a u) (x : HOk P w H h) : ObjOk P w H h a u := by
  rcases r with r | ⟨o, r⟩
  · exact x a u r
  · obtain ⟨_, q⟩ := x a _ r
    exact q
/-- what may be written -/
def Mut : Option HO → Prop
  | some (.lst _) => True
  | some (.dK _) => True
  | some (.dT _) => True
  | some (.set _ _) => True
  | some (.ins _ _ _) => True
  | some (.ext _) => True
  | _ => False
section
variable {P : Program} {w : World} {H : Hp} {h h' : Heap} {x e : Addr} {o' : HO}
/-- the object at e is changed: x itself, or the dict of the instance x -/
theorem HOk.write (ok : HOk P w H h) (mu : Mut (H x)) (he : e = x ∨ H e = some (.own x)) (k : ∀ b u, b ≠ e → h.get? b = some u → h'.get? b = some u) (heo : ∃ u, h'.get? e = some u)
    (new : ObjOk P w (upd H x o') h' x o') : HOk P w (upd H x o') h' := fun b u q => by
  have nown : ∀ c y, H c = some (.own y) → c ≠ x := fun c y r z => by subst z; rw [r] at mu; exact mu
  have ntup : ∀ c xs, H c = some (.tup xs) → c ≠ x := fun c xs r z => by subst z; rw [r] at mu; exact mu
  by_cases hb : b = x
  · subst hb; rw [upd_same] at q; cases q; exact new
  · rw [upd_ne hb] at q
    by_cases hbe : b = e
    · have q' : H b = some (.own x) := by
        rcases he with z | z
        · exact absurd (hbe.trans z) hb
        · rw [hbe]; exact z
      rw [q] at q'; cases q'
      obtain ⟨v, hv⟩ := heo
      exact ⟨v, by rw [hbe]; exact hv⟩
    · refine (ok b u q).stay (fun c v hc r => k c v ?_ r) (fun c r => by rw [upd_ne (nown c b r)]; exact r) fun c xs r => by rw [upd_ne (ntup c xs r)]; exact r
      rcases hc with rfl | hc
      · exact hbe
      · rintro rfl
        rcases he with z | z
        · exact nown c b hc z
        · rw [hc] at z; cases z; exact hb rfl
end

/-! ### kept unless tracked; of the frames at fs (the callers') the slots may change (an exception that passes writes there); of the records at ex (iterators) nothing is said -/
structure Un (fs ex : List Addr) (H H' : Hp) (h h' : Heap) : Prop where
  keep : ∀ b o, h.get? b = some o → H b = none → b ∉ fs → b ∉ ex → h'.get? b = some o
  slot : ∀ b o, h.get? b = some o → H b = none → b ∈ fs → b ∉ ex → ∃ sl, h'.get? b = some { o with slots := sl }
  free : ∀ b o, h.get? b = some o → H b = none → b ∉ ex → H' b = none
  there : ∀ b o, h.get? b = some o → b ∉ ex → ∃ o', h'.get? b = some o'
  tups : ∀ b xs, H b = some (.tup xs) → H' b = some (.tup xs)
  frzs : ∀ b o u, H b = some (.frz o u) → H' b = some (.frz o u)
  tbls : ∀ b ps, H b = some (.tbl ps) → ∃ more, H' b = some (.tbl (ps ++ more))
section
variable {fs fs' ex ex' : List Addr} {H H1 H2 : Hp} {h h1 h2 h' : Heap} {a x e : Addr} {o : HO}
theorem Un.any (u : Un fs ex H H1 h h1) {b : Addr} {ob : Obj} (q : h.get? b = some ob) (n : H b = none) (hx : b ∉ ex) : ∃ sl, h1.get? b = some { ob with slots := sl } := by
  by_cases hb : b ∈ fs
  · exact u.slot b ob q n hb hx
  · exact ⟨ob.slots, u.keep b ob q n hb hx⟩
theorem Un.kept (k : ∀ b u, h.get? b = some u → h'.get? b = some u) : Un fs ex H H h h' :=
  ⟨fun b ob q _ _ _ => k b ob q, fun b ob q _ _ _ => ⟨ob.slots, k b ob q⟩, fun _ _ _ n _ => n, fun b ob q _ => ⟨ob, k b ob q⟩, fun _ _ q => q, fun _ _ _ q => q, fun _ ps q => ⟨#[], by rw [q]; simp⟩⟩
theorem Un.refl : Un fs ex H H h h := Un.kept fun _ _ q => q
theorem Un.laid (k : ∀ b u, h.get? b = some u → h'.get? b = some u) (hp : h.objs.size ≤ a) (hn : H a = none) : Un fs ex H (upd H a o) h h' where
  keep := fun b u q _ _ _ => k b u q
  slot := fun b u q _ _ _ => ⟨u.slots, k b u q⟩
  free := fun b u q n _ => by rw [upd_ne (Nat.ne_of_lt (Nat.lt_of_lt_of_le (Heap.lt_size q) hp))]; exact n
  there := fun b u q _ => ⟨u, k b u q⟩
  tups := fun b xs q => by rw [upd_ne (ne_of_none q hn)]; exact q
  frzs := fun b u xs q => by rw [upd_ne (ne_of_none q hn)]; exact q
  tbls := fun b ps q => ⟨#[], by rw [upd_ne (ne_of_none q hn), q]; simp⟩
theorem Un.write (mu : Mut (H x)) (he : e = x ∨ H e = some (.own x)) (k : ∀ b u, b ≠ e → h.get? b = some u → h'.get? b = some u) (heo : ∃ u, h'.get? e = some u) : Un fs ex H (upd H x o) h h' := by
  have hx : ∀ b, H b = none → b ≠ x := fun b n z => by subst z; rw [n] at mu; exact mu
  have hb : ∀ b, H b = none → b ≠ e := fun b n z => by
    subst z
    rcases he with r | r
    · exact hx b n r
    · rw [n] at r; cases r
  have hm : ∀ b u, H b = some u → ¬ Mut (some u) → b ≠ x := fun b u q nm z => by subst z; rw [q] at mu; exact nm mu
  refine ⟨fun b u q n _ _ => k b u (hb b n) q, fun b u q n _ _ => ⟨u.slots, k b u (hb b n) q⟩, fun b u q n _ => by rw [upd_ne (hx b n)]; exact n, fun b u q _ => ?_,
    fun b xs q => by rw [upd_ne (hm b _ q fun z => z)]; exact q, fun b u xs q => by rw [upd_ne (hm b _ q fun z => z)]; exact q, fun b ps q => ⟨#[], by rw [upd_ne (hm b _ q fun z => z), q]; simp⟩⟩
  by_cases hbe : b = e
  · subst hbe; exact heo
  · exact ⟨u, k b u hbe q⟩
end

/-! ### the heap without what is tracked -/
def trk (h : Heap) (H : Hp) : List Addr := (List.range h.objs.size).filter fun a => (H a).isSome
def hidT (h : Heap) (H : Hp) : Heap := PySem.W.hideAll h (trk h H)
theorem hidT_size (h : Heap) (H : Hp) : (hidT h H).objs.size = h.objs.size := PySem.W.hideAll_size _ _
theorem hidT_get {h : Heap} {H : Hp} {b : Addr} {o : Obj} (e : h.get? b = some o) (n : H b = none) : (hidT h H).get? b = some o :=
  PySem.W.hideAll_get _ e fun hm => by
    have q : (H b).isSome = true := (List.mem_filter.mp hm).2
    rw [n] at q; simp at q
theorem of_hidT {h : Heap} {H : Hp} {b : Addr} {o : Obj} (e : (hidT h H).get? b = some o) : h.get? b = some o ∧ H b = none := by
  have e' : h.get? b = some o := PySem.W.of_hideAll (trk h H) e
  refine ⟨e', ?_⟩
  cases q : H b with
  | none => rfl
  | some x =>
    have hm : b ∈ trk h H := List.mem_filter.mpr ⟨List.mem_range.mpr (Heap.lt_size e'), by simp [q]⟩
    have z : (hidT h H).get? b = none := PySem.W.hideAll_none (trk h H) hm
    rw [z] at e; cases e

/-! ### OpenK's ledger, filled with every new object but one -/
end L2

namespace L2
open PySem PySem.Spec PyProof.Rows

/-- the module's facts, over the base: the heap at the law's entry without what is tracked there -/
structure Mod (K : PySem.W.Frag) (mg : Str → Option Value) (base : Heap) : Prop where
  kin : K.In base
  glob : base.Ns mainGlobals mg
  blt : ∃ mb, base.Ns builtinsNs mb ∧ ∀ x : Str, x ≠ "__name__" → mb x = bootBuiltins x
  nolimit : base.NoLimit

/-- the context: a def's body (or a comprehension's block) running. base: fixed through the whole law; s₀, H₀: the entry; outer: the frames whose slots others may change (a def's callers); stack: all frames that run;
   ex: iterators that were made ahead of the entry and are walked here (a comprehension's); fn: the names whose cells were made at the entry (a def: all; a comprehension's block: its own); calm: not within an except suite; pn: pins that every state bears; xe: what is wanted of an exception that leaves the code -/
structure Cx where
  prog : Program
  w : World
  K : PySem.W.Frag
  mg : Str → Option Value
  base : Heap
  A : Around
  N : List Str
  s₀ : Shared
  H₀ : Hp
  env : Env
  outer : List Env
  stack : List Env
  ex : List Addr
  fn : Str → Bool
  calm : Bool
  pn : List (Addr × Obj)
  xe : Value → Shared → Prop
/-- the callers' frames -/
def frs (l : List Env) : List Addr := l.filterMap (·.frame)
abbrev Cx.fs (X : Cx) : List Addr := frs X.outer

def Vis (sc : Scope) (x : Str) : Prop := sc.names.lookup x = some .local ∨ sc.names.lookup x = some .cell ∨ sc.names.lookup x = some .free
def Loc (sc : Scope) (x : Str) : Prop := sc.names.lookup x = some .local ∨ sc.names.lookup x = some .cell
def Look (env : Env) (h : Heap) (m : Str → Option Value) (x : Str) (u : Value) : Prop :=
  (env.kindOf x = some .local ∧ m x = some u) ∨ ((env.kindOf x = some .cell ∨ env.kindOf x = some .free) ∧ ∃ c, env.cells.lookup x = some c ∧ h.IsCell c (some u))

structure Cx.Ok (X : Cx) : Prop where
  mod : Mod X.K X.mg X.base
  kind : X.env.scope.kind = .function
  glob : X.env.globals = mainGlobals
  blt : X.env.builtins = builtinsNs
  above : X.s₀.heap.objs.size ≤ X.env.locals
  inj : ∀ x y c, X.env.cells.lookup x = some c → X.env.cells.lookup y = some c → x = y
  has : ∀ x, (X.env.kindOf x = some .cell ∨ X.env.kindOf x = some .free) → ∃ c, X.env.cells.lookup x = some c
  cab : ∀ x c, X.fn x = true → X.env.cells.lookup x = some c → X.s₀.heap.objs.size ≤ c
  hd : X.calm = true → X.A.handled = none
  frames : X.A.frames = some X.stack
  stk : X.stack = X.outer ∨ (X.stack = X.env :: X.outer ∧ X.env.frame = some X.env.locals)
  exf : ∀ b ∈ X.ex, b ≠ X.env.locals ∧ ∀ x c, X.env.cells.lookup x = some c → c ≠ b
  bs : ∀ b o, X.base.get? b = some o → X.s₀.heap.get? b = some o ∧ X.H₀ b = none
  bsz : X.base.objs.size ≤ X.s₀.heap.objs.size
  noex : ∀ b o, X.base.get? b = some o → b ∉ X.ex
  exfs : ∀ b ∈ X.ex, b ∉ X.fs
  funs : X.s₀.heap.FunFrames X.base X.outer
  frf : ∀ b ∈ X.fs, X.H₀ b = none

structure Inv (X : Cx) (pins : List (Addr × Obj)) (σ : List (Option V)) (H : Hp) (s : Shared) : Prop where
  ok : X.Ok
  os : s.os = X.s₀.os
  bare : AllBare s.gens
  base : Un X.fs X.ex X.H₀ H X.s₀.heap s.heap
  loc : ∃ m, s.heap.Ns X.env.locals m ∧ ∀ (i : Nat) (x : Str) (v : V), X.N[i]? = some x → σ[i]? = some (some v) → Vis X.env.scope x → ∃ u, RelV v u ∧ Look X.env s.heap m x u
  cell : ∀ x c, X.env.cells.lookup x = some c → ∃ v, s.heap.IsCell c v
  free : H X.env.locals = none
  freeC : ∀ x c, X.env.cells.lookup x = some c → H c = none
  pin : ∀ p ∈ X.pn ++ pins, s.heap.get? p.1 = some p.2 ∧ H p.1 = none ∧ p.1 ≠ X.env.locals ∧ p.1 ∉ X.fs ∧ ∀ v, p.2.data ≠ .cell v
  hok : HOk X.prog X.w H s.heap
  len : σ.length = X.N.length

section
variable {X : Cx} {pins : List (Addr × Obj)} {σ : List (Option V)} {H H' : Hp} {s : Shared} {h' : Heap}

theorem Cx.Ok.nofr (ok : X.Ok) {b : Addr} {o : Obj} (e : X.base.get? b = some o) : b ∉ X.fs := fun hb => by
  have := (ok.funs.mem hb).1
  rw [e] at this; cases this
theorem Inv.bs (I : Inv X pins σ H s) : ∀ b o, X.base.get? b = some o → s.heap.get? b = some o ∧ H b = none := fun b o e =>
  ⟨I.base.keep b o (I.ok.bs b o e).1 (I.ok.bs b o e).2 (I.ok.nofr e) (I.ok.noex b o e), I.base.free b o (I.ok.bs b o e).1 (I.ok.bs b o e).2 (I.ok.noex b o e)⟩
theorem Inv.bk (I : Inv X pins σ H s) : ∀ b o, X.base.get? b = some o → s.heap.get? b = some o := fun b o e => (I.bs b o e).1
theorem Inv.mod (I : Inv X pins σ H s) : Mod X.K X.mg X.base := I.ok.mod
theorem Inv.kIn (I : Inv X pins σ H s) : X.K.In s.heap := I.ok.mod.kin.keeps I.bk
theorem Inv.lt (I : Inv X pins σ H s) : X.env.locals < s.heap.objs.size := let ⟨_, hn, _⟩ := I.loc; hn.lt
theorem Inv.sz (I : Inv X pins σ H s) : X.s₀.heap.objs.size ≤ s.heap.objs.size := Nat.le_trans I.ok.above (Nat.le_of_lt I.lt)
theorem Inv.nofs (I : Inv X pins σ H s) {a : Addr} (h : s.heap.objs.size ≤ a) : a ∉ X.fs := fun hb => by
  obtain ⟨_, o, ho, _⟩ := I.ok.funs.mem hb
  exact absurd (Nat.lt_of_lt_of_le (Heap.lt_size ho) (Nat.le_trans I.sz h)) (Nat.lt_irrefl _)
theorem Inv.cne (I : Inv X pins σ H s) : ∀ x c, X.env.cells.lookup x = some c → c ≠ X.env.locals := fun x c e z => by
  obtain ⟨v, o, ho, hd⟩ := I.cell x c e
  obtain ⟨m, ⟨o', es, ep, ho', hd', _⟩, _⟩ := I.loc
  rw [z, ho'] at ho; cases ho; rw [hd'] at hd; cases hd
theorem Inv.funs (I : Inv X pins σ H s) : s.heap.FunFrames X.base X.outer := by
  have all : ∀ (l : List Env), (∀ b ∈ frs l, b ∈ X.fs) → X.s₀.heap.FunFrames X.base l → s.heap.FunFrames X.base l := by
    intro l
    induction l with
    | nil => intro _ _; trivial
    | cons env r ih =>
      intro hs hl
      obtain ⟨hk, ⟨L, o, hf, hn, ho, hd⟩, hr⟩ := hl
      have hL : L ∈ X.fs := hs L (by unfold frs; rw [List.filterMap_cons, hf]; exact List.mem_cons_self)
      obtain ⟨sl, e⟩ := I.base.slot L o ho (I.ok.frf L hL) hL fun z => I.ok.exfs L z hL
      exact ⟨hk, ⟨L, _, hf, hn, e, hd⟩, ih (fun b hb => hs b (by unfold frs; rw [List.filterMap_cons, hf]; exact List.mem_cons_of_mem _ hb)) hr⟩
  exact all X.outer (fun _ hb => hb) I.ok.funs

/-- the frames that run, for a call -/
theorem Inv.stack (I : Inv X pins σ H s) : s.heap.FunFrames X.base X.stack := by
  rcases I.ok.stk with e | ⟨e, hf⟩
  · rw [e]; exact I.funs
  · rw [e]
    obtain ⟨m, hn, _⟩ := I.loc
    refine .cons (by rw [I.ok.kind]; decide) hf hn ?_ I.funs
    exact Heap.get?_none_of_le (Nat.le_trans I.ok.bsz I.ok.above)
theorem Inv.stkSub (I : Inv X pins σ H s) : ∀ b ∈ frs X.stack, b ∈ X.env.locals :: X.fs := fun b hb => by
  rcases I.ok.stk with e | ⟨e, hf⟩
  · rw [e] at hb; exact List.mem_cons_of_mem _ hb
  · rw [e] at hb
    unfold frs at hb
    rw [List.filterMap_cons, hf] at hb
    exact hb
theorem Inv.stkFree (I : Inv X pins σ H s) : ∀ b ∈ frs X.stack, H b = none := fun b hb => by
  rcases List.mem_cons.mp (I.stkSub b hb) with e | hb
  · rw [e]; exact I.free
  · obtain ⟨_, o, ho, _⟩ := I.ok.funs.mem hb
    exact I.base.free b o ho (I.ok.frf b hb) fun z => I.ok.exfs b z hb

/-- THE STEP: the untracked objects but the frame and the records at ch are kept (the callers' frames up to slots), the frame's map is kept, the new abstract heap is held -/
theorem Inv.step {g' : Array GenState} {t' : Nat} {d' : Drawn} {ch : List Addr} (I : Inv X pins σ H s)
    (hch : ∀ b ∈ ch, (b ∈ X.ex ∨ X.s₀.heap.objs.size ≤ b) ∧ b ≠ X.env.locals ∧ (∀ x c, X.env.cells.lookup x = some c → c ≠ b) ∧ ∀ p ∈ X.pn ++ pins, p.1 ≠ b)
    (keep : ∀ b o, b ≠ X.env.locals → b ∉ X.fs → b ∉ ch → s.heap.get? b = some o → H b = none → h'.get? b = some o)
    (slot : ∀ b o, b ≠ X.env.locals → b ∈ X.fs → b ∉ ch → s.heap.get? b = some o → H b = none → ∃ sl, h'.get? b = some { o with slots := sl }) (free : ∀ b o, b ∉ ch → s.heap.get? b = some o → H b = none → H' b = none)
    (there : ∀ b o, b ∉ ch → s.heap.get? b = some o → ∃ o', h'.get? b = some o')
    (tups : ∀ b xs, H b = some (.tup xs) → H' b = some (.tup xs)) (frzs : ∀ b o u, H b = some (.frz o u) → H' b = some (.frz o u)) (tbls : ∀ b ps, H b = some (.tbl ps) → ∃ more, H' b = some (.tbl (ps ++ more)))
    (ns : ∀ m, s.heap.Ns X.env.locals m → h'.Ns X.env.locals m) (hok : HOk X.prog X.w H' h') (hg : AllBare g') :
    Inv X pins σ H' { s with heap := h', gens := g', drawn := d', toks := t' } := by
  have neL : ∀ b o, X.s₀.heap.get? b = some o → b ≠ X.env.locals := fun b o e => Nat.ne_of_lt (Nat.lt_of_lt_of_le (Heap.lt_size e) I.ok.above)
  have neC : ∀ b o, X.s₀.heap.get? b = some o → b ∉ X.ex → b ∉ ch := fun b o e hx hb => by
    rcases (hch b hb).1 with z | z
    · exact hx z
    · exact absurd (Nat.lt_of_lt_of_le (Heap.lt_size e) z) (Nat.lt_irrefl _)
  have cellK : ∀ x c, X.env.cells.lookup x = some c → ∀ v, s.heap.IsCell c v → h'.IsCell c v := fun x c e v ⟨o, ho, hd⟩ => by
    have nch : c ∉ ch := fun z => (hch c z).2.2.1 x c e rfl
    by_cases hc : c ∈ X.fs
    · obtain ⟨sl, q⟩ := slot c o (I.cne x c e) hc nch ho (I.freeC x c e)
      exact ⟨_, q, hd⟩
    · exact ⟨o, keep c o (I.cne x c e) hc nch ho (I.freeC x c e), hd⟩
  refine ⟨I.ok, I.os, hg, ⟨fun b o e n hb hx => ?_, fun b o e n hb hx => ?_, fun b o e n hx => ?_, fun b o e hx => ?_, fun b xs e => tups b xs (I.base.tups b xs e), fun b o xs e => frzs b o xs (I.base.frzs b o xs e), fun b ps e => ?_⟩, ?_, fun x c e => ?_, ?_, fun x c e => ?_, fun p hp => ?_, hok, I.len⟩
  · exact keep b o (neL b o e) hb (neC b o e hx) (I.base.keep b o e n hb hx) (I.base.free b o e n hx)
  · obtain ⟨sl, e1⟩ := I.base.slot b o e n hb hx
    obtain ⟨sl', e2⟩ := slot b _ (neL b o e) hb (neC b o e hx) e1 (I.base.free b o e n hx)
    exact ⟨sl', e2⟩
  · obtain ⟨o', e1⟩ := I.base.there b o e hx
    exact free b o' (neC b o e hx) e1 (I.base.free b o e n hx)
  · obtain ⟨o', e1⟩ := I.base.there b o e hx
    exact there b o' (neC b o e hx) e1
  · obtain ⟨m1, e1⟩ := I.base.tbls b ps e
    obtain ⟨m2, e2⟩ := tbls b _ e1
    exact ⟨m1 ++ m2, by rw [e2, Array.append_assoc]⟩
  · obtain ⟨m, hn, hl⟩ := I.loc
    refine ⟨m, ns m hn, fun i x v e1 e2 e3 => ?_⟩
    obtain ⟨u, r, l⟩ := hl i x v e1 e2 e3
    refine ⟨u, r, ?_⟩
    rcases l with l | ⟨k, c, e, z⟩
    · exact .inl l
    · exact .inr ⟨k, c, e, cellK x c e _ z⟩
  · obtain ⟨v, z⟩ := I.cell x c e
    exact ⟨v, cellK x c e v z⟩
  · obtain ⟨m, ⟨o, _, _, ho, _⟩, _⟩ := I.loc
    exact free _ o (fun z => (hch _ z).2.1 rfl) ho I.free
  · obtain ⟨v, o, ho, hd⟩ := I.cell x c e
    exact free c o (fun z => (hch c z).2.2.1 x c e rfl) ho (I.freeC x c e)
  · obtain ⟨e, n, ne, nf, d⟩ := I.pin p hp
    have nch : p.1 ∉ ch := fun z => (hch p.1 z).2.2.2 p hp rfl
    exact ⟨keep p.1 p.2 ne nf nch e n, free p.1 p.2 nch e n, ne, nf, d⟩
/-- .. where the frame's own object is kept too -/
theorem Inv.un {t' : Nat} (I : Inv X pins σ H s) (u : Un X.fs [] H H' s.heap h') (hok : HOk X.prog X.w H' h') : Inv X pins σ H' { s with heap := h', toks := t' } := by
  obtain ⟨m, ⟨o, es, ep, ho, r⟩, _⟩ := id I.loc
  obtain ⟨sl, hL⟩ := u.any ho I.free (by simp)
  exact I.step (g' := s.gens) (d' := s.drawn) (ch := []) (fun _ z => nomatch z) (fun b o _ hb _ e n => u.keep b o e n hb (by simp)) (fun b o _ hb _ e n => u.slot b o e n hb (by simp)) (fun b o _ e n => u.free b o e n (by simp)) (fun b o _ e => u.there b o e (by simp)) u.tups u.frzs u.tbls (fun m' hm => by
    obtain ⟨o', es', ep', ho', r'⟩ := hm
    rw [ho] at ho'; cases ho'
    exact ⟨_, es', ep', hL, r'⟩) hok I.bare
/-- behind a call (or a comprehension's block): the slots of this frame may have changed too, the records at ch may have turned -/
theorem Inv.call {g' : Array GenState} {t' : Nat} {d' : Drawn} {ch : List Addr} (I : Inv X pins σ H s) (u : Un (frs X.stack) ch H H' s.heap h') (hok : HOk X.prog X.w H' h') (hg : AllBare g')
    (hch : ∀ b ∈ ch, (b ∈ X.ex ∨ X.s₀.heap.objs.size ≤ b) ∧ b ≠ X.env.locals ∧ (∀ x c, X.env.cells.lookup x = some c → c ≠ b) ∧ ∀ p ∈ X.pn ++ pins, p.1 ≠ b) :
    Inv X pins σ H' { s with heap := h', gens := g', drawn := d', toks := t' } := by
  obtain ⟨m, ⟨o, es, ep, ho, r⟩, _⟩ := id I.loc
  obtain ⟨sl, hL⟩ := u.any ho I.free fun z => (hch _ z).2.1 rfl
  exact I.step (ch := ch) hch (fun b o hL hb hc e n => u.keep b o e n (fun z => (List.mem_cons.mp (I.stkSub b z)).elim hL hb) hc) (fun b o _ _ hc e n => u.any e n hc) (fun b o hc e n => u.free b o e n hc) (fun b o hc e => u.there b o e hc) u.tups u.frzs u.tbls (fun m' hm => by
    obtain ⟨o', es', ep', ho', r'⟩ := hm
    rw [ho] at ho'; cases ho'
    exact ⟨_, es', ep', hL, r'⟩) hok hg
/-- an untracked record of ours (an iterator) has turned -/
theorem Inv.turned {t' : Nat} {it : Addr} (I : Inv X pins σ H s) (k : ∀ b o, b ≠ it → s.heap.get? b = some o → h'.get? b = some o) (hn : H it = none) (hL : it ≠ X.env.locals)
    (h1 : it ∈ X.ex ∨ X.s₀.heap.objs.size ≤ it) (h2 : ∀ x c, X.env.cells.lookup x = some c → c ≠ it) (h3 : ∀ p ∈ X.pn ++ pins, p.1 ≠ it) : Inv X pins σ H { s with heap := h', toks := t' } := by
  have nit : ∀ b u, H b = some u → b ≠ it := fun b u e z => by rw [z, hn] at e; cases e
  refine I.step (g' := s.gens) (d' := s.drawn) (ch := [it]) (fun b hb => ?_) (fun b o _ _ hc e _ => k b o (fun z => hc (by simp [z])) e) (fun b o _ _ hc e _ => ⟨o.slots, k b o (fun z => hc (by simp [z])) e⟩) (fun _ _ _ _ n => n)
    (fun b o hc e => ⟨o, k b o (fun z => hc (by simp [z])) e⟩) (fun _ _ e => e) (fun _ _ _ e => e) (fun b ps e => ⟨#[], by rw [e]; simp⟩) (fun m hm => ?_) (fun b u e => ?_) I.bare
  · have e : b = it := by simpa using hb
    subst e
    exact ⟨h1, hL, h2, h3⟩
  · obtain ⟨o, es, ep, ho, r⟩ := hm
    exact ⟨o, es, ep, k _ o (Ne.symm hL) ho, r⟩
  · refine (I.hok b u e).stay (fun c v hc q => k c v ?_ q) (fun _ q => q) fun _ _ q => q
    rcases hc with z | z
    · rw [z]; exact nit b u e
    · exact nit c _ z
theorem Inv.tok (I : Inv X pins σ H s) (t : Nat) : Inv X pins σ H { s with toks := t } := I.un (h' := s.heap) (t' := t) Un.refl I.hok
/-- all objects kept -/
theorem Inv.kept {t' : Nat} (I : Inv X pins σ H s) (k : ∀ b u, s.heap.get? b = some u → h'.get? b = some u) : Inv X pins σ H { s with heap := h', toks := t' } := I.un (Un.kept k) (I.hok.kept k)
/-- a new object laid and tracked -/
theorem Inv.laid {a : Addr} {o : HO} {t' : Nat} (I : Inv X pins σ H s) (k : ∀ b u, s.heap.get? b = some u → h'.get? b = some u) (hp : s.heap.objs.size ≤ a) (new : ObjOk X.prog X.w (upd H a o) h' a o) :
    Inv X pins σ (upd H a o) { s with heap := h', toks := t' } := I.un (Un.laid k hp (I.hok.fresh hp)) (I.hok.laid k hp new)
/-- an object written -/
theorem Inv.write {x e : Addr} {o : HO} {t' : Nat} (I : Inv X pins σ H s) (mu : Mut (H x)) (he : e = x ∨ H e = some (.own x)) (k : ∀ b u, b ≠ e → s.heap.get? b = some u → h'.get? b = some u) (heo : ∃ u, h'.get? e = some u)
    (new : ObjOk X.prog X.w (upd H x o) h' x o) : Inv X pins σ (upd H x o) { s with heap := h', toks := t' } := I.un (Un.write mu he k heo) (I.hok.write mu he k heo new)
theorem Inv.pins_of {pins' : List (Addr × Obj)} (I : Inv X pins σ H s) (h : ∀ p ∈ pins', s.heap.get? p.1 = some p.2 ∧ H p.1 = none ∧ p.1 ≠ X.env.locals ∧ p.1 ∉ X.fs ∧ ∀ v, p.2.data ≠ .cell v) : Inv X pins' σ H s :=
  ⟨I.ok, I.os, I.bare, I.base, I.loc, I.cell, I.free, I.freeC, fun p hp => (List.mem_append.mp hp).elim (fun z => I.pin p (List.mem_append_left _ z)) (h p), I.hok, I.len⟩

theorem nodup_ix {N : List Str} (hN : N.Nodup) {i j : Nat} {x : Str} (a : N[i]? = some x) (b : N[j]? = some x) : i = j := by
  obtain ⟨h1, e1⟩ := List.getElem?_eq_some_iff.mp a
  obtain ⟨h2, e2⟩ := List.getElem?_eq_some_iff.mp b
  exact (List.getElem_inj hN).mp (e1.trans e2.symm)

/-- a name is stored; what changed -/
theorem store_ok2 {M : Model} {A : Around} {E : Value → Shared → Prop} {i : Nat} {x : Str} {v : V} {u : Value} {Q : Unit → Shared → Prop} (I : Inv X pins σ H s) (hN : X.N.Nodup) (hi : X.N[i]? = some x) (hx : Loc X.env.scope x) (r : RelV v u)
    (h : ∀ s', Inv X pins (σ.set i (some v)) H s' → (∃ a, Heap.SameBut a s.heap s'.heap ∧ (a = X.env.locals ∨ X.env.cells.lookup x = some a)) → Q () s') (hf : X.fn x = true ∨ X.env.scope.names.lookup x = some .local := by first | exact .inl rfl | exact .inr rfl | assumption) : wpAny M A (storeName X.env x u) Q E s := by
  obtain ⟨m, hn, hl⟩ := id I.loc
  have hcls : (X.env.scope.kind == .class || (X.env.scope.kind == .module && X.env.locals != X.env.globals)) = false := by rw [I.ok.kind]; rfl
  have hiσ : i < σ.length := by rw [I.len]; exact (List.getElem?_eq_some_iff.mp hi).1
  have cne := I.cne
  have tracked : ∀ {a : Addr} {h' : Heap}, (∃ o, s.heap.get? a = some o ∧ H a = none) → Heap.SameBut a s.heap h' → HOk X.prog X.w H h' := fun {a h'} ha hs b ob e => by
    obtain ⟨_, _, hfree⟩ := ha
    refine (I.hok b ob e).stay (fun c w' hc q => (hs.2 c ?_).trans q) (fun _ q => q) fun _ _ q => q
    rintro rfl
    rcases hc with rfl | hc
    · rw [hfree] at e; cases e
    · rw [hfree] at hc; cases hc
  rcases hx with hk | hk
  · refine wpAny_storeName_local hk hn (fun h' hn' hs => ?_) hcls
    obtain ⟨oL, _, _, hoL, _⟩ := id hn
    refine h _ ⟨I.ok, I.os, I.bare, ⟨fun b o e n hb hx => ?_, fun b o e n hb hx => ?_, I.base.free, fun b o e hx => ?_, I.base.tups, I.base.frzs, I.base.tbls⟩, ⟨_, hn', fun j y v' e1 e2 e3 => ?_⟩, fun y c e => ?_, I.free, I.freeC, fun p hp => ?_, tracked ⟨oL, hoL, I.free⟩ hs, by simpa using I.len⟩ ⟨_, hs, .inl rfl⟩
    · exact (hs.2 b (Nat.ne_of_lt (Nat.lt_of_lt_of_le (Heap.lt_size e) I.ok.above))).trans (I.base.keep b o e n hb hx)
    · obtain ⟨sl, e1⟩ := I.base.slot b o e n hb hx
      exact ⟨sl, (hs.2 b (Nat.ne_of_lt (Nat.lt_of_lt_of_le (Heap.lt_size e) I.ok.above))).trans e1⟩
    · obtain ⟨o', e1⟩ := I.base.there b o e hx
      exact ⟨o', (hs.2 b (Nat.ne_of_lt (Nat.lt_of_lt_of_le (Heap.lt_size e) I.ok.above))).trans e1⟩
    · by_cases hj : j = i
      · subst hj
        rw [hi] at e1; cases e1
        rw [List.getElem?_set_self hiσ] at e2
        cases e2
        exact ⟨u, r, .inl ⟨hk, by simp⟩⟩
      · rw [List.getElem?_set_ne (Ne.symm hj)] at e2
        obtain ⟨u', r', q⟩ := hl j y v' e1 e2 e3
        refine ⟨u', r', ?_⟩
        rcases q with ⟨k, e⟩ | ⟨k, c, e, z⟩
        · refine .inl ⟨k, ?_⟩
          have : y ≠ x := fun e => hj (nodup_ix hN e1 (e ▸ hi))
          simp [this, e]
        · exact .inr ⟨k, c, e, z.sameBut hs (cne y c e)⟩
    · obtain ⟨w', z⟩ := I.cell y c e
      exact ⟨w', z.sameBut hs (cne y c e)⟩
    · obtain ⟨e, n, ne, nf, d⟩ := I.pin p hp
      exact ⟨(hs.2 p.1 ne).trans e, n, ne, nf, d⟩
  · have hfn : X.fn x = true := by
      rcases hf with z | z
      · exact z
      · rw [z] at hk; cases hk
    obtain ⟨c, hc⟩ := I.ok.has x (.inl hk)
    obtain ⟨w', z⟩ := I.cell x c hc
    refine wpAny_storeName_cell I.ok.kind hk hc z (fun h' hc' hs => ?_)
    obtain ⟨oc, hoc, hocd⟩ := id z
    refine h { s with heap := h' } ⟨I.ok, I.os, I.bare, ⟨fun b o e n hb hx => ?_, fun b o e n hb hx => ?_, I.base.free, fun b o e hx => ?_, I.base.tups, I.base.frzs, I.base.tbls⟩, ⟨m, hn.sameBut hs (Ne.symm (cne x c hc)), fun j y v' e1 e2 e3 => ?_⟩, fun y c' e => ?_, I.free, I.freeC, fun p hp => ?_, tracked ⟨oc, hoc, I.freeC x c hc⟩ hs, by simpa using I.len⟩ ⟨c, hs, .inr hc⟩
    · exact (hs.2 b (Nat.ne_of_lt (Nat.lt_of_lt_of_le (Heap.lt_size e) (I.ok.cab x c hfn hc)))).trans (I.base.keep b o e n hb hx)
    · obtain ⟨sl, e1⟩ := I.base.slot b o e n hb hx
      exact ⟨sl, (hs.2 b (Nat.ne_of_lt (Nat.lt_of_lt_of_le (Heap.lt_size e) (I.ok.cab x c hfn hc)))).trans e1⟩
    · obtain ⟨o', e1⟩ := I.base.there b o e hx
      exact ⟨o', (hs.2 b (Nat.ne_of_lt (Nat.lt_of_lt_of_le (Heap.lt_size e) (I.ok.cab x c hfn hc)))).trans e1⟩
    · by_cases hj : j = i
      · subst hj
        rw [hi] at e1; cases e1
        rw [List.getElem?_set_self hiσ] at e2
        cases e2
        exact ⟨u, r, .inr ⟨.inl hk, c, hc, hc'⟩⟩
      · rw [List.getElem?_set_ne (Ne.symm hj)] at e2
        obtain ⟨u', r', q⟩ := hl j y v' e1 e2 e3
        refine ⟨u', r', ?_⟩
        rcases q with q | ⟨k, c', e, z'⟩
        · exact .inl q
        · refine .inr ⟨k, c', e, z'.sameBut hs ?_⟩
          rintro rfl
          exact hj (nodup_ix hN e1 (I.ok.inj _ _ _ e hc ▸ hi))
    · by_cases hcc : c' = c
      · subst hcc; exact ⟨_, hc'⟩
      · obtain ⟨w2, z2⟩ := I.cell y c' e
        exact ⟨w2, z2.sameBut hs hcc⟩
    · obtain ⟨e, n, ne, nf, d⟩ := I.pin p hp
      refine ⟨(hs.2 p.1 ?_).trans e, n, ne, nf, d⟩
      intro q
      rw [q, hoc] at e
      have q' : oc = p.2 := Option.some.inj e
      exact d w' (by rw [← q']; exact hocd)
theorem store_ok {M : Model} {A : Around} {E : Value → Shared → Prop} {i : Nat} {x : Str} {v : V} {u : Value} {Q : Unit → Shared → Prop} (I : Inv X pins σ H s) (hN : X.N.Nodup) (hi : X.N[i]? = some x) (hx : Loc X.env.scope x) (r : RelV v u)
    (h : ∀ s', Inv X pins (σ.set i (some v)) H s' → Q () s') (hf : X.fn x = true ∨ X.env.scope.names.lookup x = some .local := by first | exact .inl rfl | exact .inr rfl | assumption) : wpAny M A (storeName X.env x u) Q E s :=
  store_ok2 I hN hi hx r (fun s' I' _ => h s' I') hf
/-- behind a call or a block, the state as it is -/
theorem Inv.call' {s' : Shared} {ch : List Addr} (I : Inv X pins σ H s) (ho : s'.os = s.os) (u : Un (frs X.stack) ch H H' s.heap s'.heap) (hok : HOk X.prog X.w H' s'.heap) (hg : AllBare s'.gens)
    (hch : ∀ b ∈ ch, (b ∈ X.ex ∨ X.s₀.heap.objs.size ≤ b) ∧ b ≠ X.env.locals ∧ (∀ x c, X.env.cells.lookup x = some c → c ≠ b) ∧ ∀ p ∈ X.pn ++ pins, p.1 ≠ b) : Inv X pins σ H' s' := by
  obtain ⟨h', g', d', t', o'⟩ := s'
  have e : o' = s.os := ho
  subst e
  exact I.call (g' := g') (t' := t') (d' := d') u hok hg hch
end

/-! ### the judgements -/
/-- an exception: its class, its own dict's address (where it has one), the abstract heap behind it -/
abbrev XK := Value → Option Addr → Hp → Prop
abbrev St := List (Option V)
abbrev VK := V → Hp → Prop
/-- an expression's reading; a test's; an argument list's -/
abbrev TE := St → Hp → VK → Prop
abbrev TT := St → Hp → (Bool → Hp → Prop) → Prop
abbrev TA := St → Hp → (List V → Hp → Prop) → Prop
/-- what is wanted behind a statement -/
structure Ends where
  nx : St → Hp → Prop
  rt : VK
  bk : St → Hp → Prop := fun _ _ => False
  ct : St → Hp → Prop := fun _ _ => False
abbrev TS := Ends → St → Hp → Prop

def EP (X : Cx) (pins : List (Addr × Obj)) (σ : St) (Q : VK) (u : Value) (s' : Shared) : Prop := ∃ v H', Inv X pins σ H' s' ∧ RelV v u ∧ Q v H'
def TP (X : Cx) (pins : List (Addr × Obj)) (σ : St) (Q : Bool → Hp → Prop) (b : Bool) (s' : Shared) : Prop := ∃ H', Inv X pins σ H' s' ∧ Q b H'
def AP (X : Cx) (pins : List (Addr × Obj)) (σ : St) (Q : List V → Hp → Prop) (us : List Value) (s' : Shared) : Prop := ∃ vs H', Inv X pins σ H' s' ∧ Vals vs us ∧ Q vs H'
def SP (X : Cx) (pins : List (Addr × Obj)) (D : Ends) (f : Flow) (s' : Shared) : Prop :=
  match f with
  | .next => ∃ σ' H', Inv X pins σ' H' s' ∧ D.nx σ' H'
  | .brk => ∃ σ' H', Inv X pins σ' H' s' ∧ D.bk σ' H'
  | .cont => ∃ σ' H', Inv X pins σ' H' s' ∧ D.ct σ' H'
  | .ret u => ∃ v σ' H', Inv X pins σ' H' s' ∧ RelV v u ∧ D.rt v H'

def PE (X : Cx) (e : Expr) (t : TE) : Prop :=
  ∀ (pins : List (Addr × Obj)) (s : Shared) (σ : St) (H : Hp) (Q : VK), Inv X pins σ H s → t σ H Q → wpAny (model X.prog X.w) X.A (eval e X.env) (EP X pins σ Q) X.xe s
def PT (X : Cx) (e : Expr) (t : TT) : Prop :=
  ∀ (pins : List (Addr × Obj)) (s : Shared) (σ : St) (H : Hp) (Q : Bool → Hp → Prop), Inv X pins σ H s → t σ H Q → wpAny (model X.prog X.w) X.A (isTrue e X.env (eval e X.env)) (TP X pins σ Q) X.xe s
/-- a test whatever its 'whole' is (and, or) -/
def PW (X : Cx) (e : Expr) (t : TT) : Prop :=
  ∀ (whole : Sem Value) (pins : List (Addr × Obj)) (s : Shared) (σ : St) (H : Hp) (Q : Bool → Hp → Prop), Inv X pins σ H s → t σ H Q → wpAny (model X.prog X.w) X.A (isTrue e X.env whole) (TP X pins σ Q) X.xe s
theorem PW.pt {X : Cx} {e : Expr} {t : TT} (h : PW X e t) : PT X e t := h _
/-- an argument list (no star), from the left -/
def PA (X : Cx) (es : List Expr) (t : TA) : Prop :=
  ∀ (pos : Pos) (pins : List (Addr × Obj)) (s : Shared) (σ : St) (H : Hp) (Q : List V → Hp → Prop), Inv X pins σ H s → t σ H Q → wpAny (model X.prog X.w) X.A (spliced (backTo pos (starEach es X.env))) (AP X pins σ Q) X.xe s
def PS (X : Cx) (st : Stmt) (t : TS) : Prop :=
  ∀ (pins : List (Addr × Obj)) (s : Shared) (σ : St) (H : Hp) (D : Ends), Inv X pins σ H s → t D σ H → wpAny (model X.prog X.w) X.A (exec st X.env) (SP X pins D) X.xe s
def PSs (X : Cx) (st : List Stmt) (t : TS) : Prop :=
  ∀ (pins : List (Addr × Obj)) (s : Shared) (σ : St) (H : Hp) (D : Ends), Inv X pins σ H s → t D σ H → wpAny (model X.prog X.w) X.A (execs st X.env) (SP X pins D) X.xe s
/-- weaken the end -/
theorem thn {α : Type} {t : Sem α} {Q Q' : α → Shared → Prop} {M : Model} {A : Around} {E : Value → Shared → Prop} {s : Shared} (h : wpAny M A t Q E s) (hQ : ∀ a s, Q a s → Q' a s) : wpAny M A t Q' E s := wpAny_mono h hQ fun _ _ x => x
end L2

namespace L2
open PySem PySem.Spec PyProof.Rows
section
variable {X : Cx}

/-- two expressions in a row -/
theorem bin {a b : Expr} {ta tb : TE} (ha : PE X a ta) (hb : PE X b tb) {pins : List (Addr × Obj)} {s : Shared} {σ : St} {H : Hp} {R : V → V → Hp → Prop} (I : Inv X pins σ H s) (h : ta σ H fun x H1 => tb σ H1 fun y H2 => R x y H2)
    {α : Type} {Q : α → Shared → Prop} {f : Value → Value → Sem α}
    (hf : ∀ v u s2 x y H2, Inv X pins σ H2 s2 → RelV x v → RelV y u → R x y H2 → wpAny (model X.prog X.w) X.A (f v u) Q X.xe s2) :
    wpAny (model X.prog X.w) X.A (eval a X.env) (fun v s₁ => wpAny (model X.prog X.w) X.A (eval b X.env) (fun u s₂ => wpAny (model X.prog X.w) X.A (f v u) Q X.xe s₂) X.xe s₁) X.xe s := by
  refine thn (ha pins s σ H _ I h) fun v s1 ⟨x, H1, I1, r1, q1⟩ => ?_
  refine thn (hb pins s1 σ H1 _ I1 q1) fun u s2 ⟨y, H2, I2, r2, q2⟩ => ?_
  exact hf v u s2 x y H2 I2 r1 r2 q2

/-! ### names and constants -/
def tVar (i : Nat) : TE := fun σ H Q => ∃ v, σ[i]? = some (some v) ∧ Q v H
def tC (v : V) : TE := fun _ H Q => Q v H
theorem pe_var {i : Nat} {x : Str} {pos : Pos} (hN : X.N[i]? = some x) (hv : Vis X.env.scope x) (hd : (x == ("__debug__" : Str)) = false := by decide) (hcd : (x == ("__classdict__" : Str)) = false := by decide) : PE X (.Name x pos) (tVar i) := by
  intro pins s σ H Q I h
  obtain ⟨v, e, h⟩ := h
  obtain ⟨m, hn, hl⟩ := I.loc
  obtain ⟨u, r, l⟩ := hl i x v hN e hv
  have fin : EP X pins σ Q u s := ⟨v, H, I, r, h⟩
  rcases l with ⟨hk, hm⟩ | ⟨hk, c, hc, hcell⟩
  · exact wpAny_Name (wpAny_loadName_local I.ok.kind hk hn hm fin) hd
  · rcases hk with hk | hk
    · exact wpAny_Name (wpAny_loadName_cell I.ok.kind hk hc hcell fin) hd
    · exact wpAny_Name (wpAny_loadName_free I.ok.kind hk hc hcell fin hcd) hd
theorem pe_int {i j pos} : PE X (.Constant (.int i) j pos) (tC (.int i)) := fun _ _ _ H _ I h => wpAny_Constant_int ⟨.int i, H, I.tok _, ⟨_, rfl⟩, h⟩
theorem pe_bl {b j pos} : PE X (.Constant (.bool b) j pos) (tC (.bl b)) := fun _ _ _ H _ I h => Constant_bool ⟨.bl b, H, I, rfl, h⟩
theorem pe_non {j pos} : PE X (.Constant .none j pos) (tC .non) := fun _ _ _ H _ I h => Constant_none ⟨.non, H, I, rfl, h⟩
theorem pe_str {x j pos} : PE X (.Constant (.str x) j pos) (tC (.str x)) := fun _ _ _ H _ I h => Calls.Constant_str ⟨.str x, H, I.tok _, ⟨_, rfl⟩, h⟩

/-- a global name of the def -/
def Gl (X : Cx) (x : Str) : Prop := X.env.kindOf x = some .globalImplicit
theorem ld_glob {E : Value → Shared → Prop} {pins : List (Addr × Obj)} {s : Shared} {σ : St} {H : Hp} {x : Str} {u : Value} {pos : Pos} {Q : Value → Shared → Prop} (I : Inv X pins σ H s) (hg : Gl X x) (hm : X.mg x = some u) (h : Q u s)
    (hd : (x == ("__debug__" : Str)) = false := by decide) : wpAny (model X.prog X.w) X.A (eval (.Name x pos) X.env) Q E s :=
  Calls.Name_function_global I.ok.kind hg (Calls.loadGlobal_global (by rw [I.ok.glob]; exact I.mod.glob.keeps I.bk) hm h) hd
theorem ld_blt {E : Value → Shared → Prop} {pins : List (Addr × Obj)} {s : Shared} {σ : St} {H : Hp} {x : Str} {u : Value} {pos : Pos} {Q : Value → Shared → Prop} (I : Inv X pins σ H s) (hg : Gl X x) (hm : X.mg x = none) (hv : bootBuiltins x = some u) (h : Q u s)
    (hn : x ≠ "__name__" := by decide) (hd : (x == ("__debug__" : Str)) = false := by decide) : wpAny (model X.prog X.w) X.A (eval (.Name x pos) X.env) Q E s := by
  obtain ⟨mb, h1, h2⟩ := I.mod.blt
  exact Calls.Name_function_global I.ok.kind hg (Calls.loadGlobal_builtin (by rw [I.ok.glob]; exact I.mod.glob.keeps I.bk) hm (by rw [I.ok.blt]; exact h1.keeps I.bk) ((h2 x hn).trans hv) h) hd
/-- a module's constant, a class, a function, as a value -/
theorem pe_glob {x : Str} {v : V} {u : Value} {pos : Pos} (hg : Gl X x) (hm : X.mg x = some u) (r : RelV v u) (hd : (x == ("__debug__" : Str)) = false := by decide) : PE X (.Name x pos) (tC v) :=
  fun _ _ _ H _ I h => ld_glob I hg hm ⟨v, H, I, r, h⟩ hd
theorem pe_bltn {x : Str} {v : V} {u : Value} {pos : Pos} (hg : Gl X x) (hm : X.mg x = none) (hv : bootBuiltins x = some u) (r : RelV v u) (hn : x ≠ "__name__" := by decide) (hd : (x == ("__debug__" : Str)) = false := by decide) : PE X (.Name x pos) (tC v) :=
  fun _ _ _ H _ I h => ld_blt I hg hm hv ⟨v, H, I, r, h⟩ hn hd

/-! ### arithmetic -/
variable {a b : Expr} {ta tb : TE} {pos : Pos}

/-! ### comparisons -/
def PC (X : Cx) (op : CmpOp) (a b : Expr) (t : TE) : Prop :=
  ∀ (pins : List (Addr × Obj)) (s : Shared) (σ : St) (H : Hp) (Q : VK), Inv X pins σ H s → t σ H Q →
    wpAny (model X.prog X.w) X.A (eval a X.env) (fun v s₁ => wpAny (model X.prog X.w) X.A (eval b X.env) (fun u s₂ => wpAny (model X.prog X.w) X.A (compareOp op v u) (EP X pins σ Q) X.xe s₂) X.xe s₁) X.xe s
/-- a comparison as a value, as a test -/
def tB (t : TE) : TT := fun σ H Q => t σ H fun x H1 => ∃ c, x = .bl c ∧ Q c H1
theorem pt_cmp {op : CmpOp} {t : TE} (h : PC X op a b t) (h1 : behindInMarks op b = false := by first | exact nobehind _ (by decide) (by decide) | rfl) : PT X (.Compare a [op] [b] pos) (tB t) := by
  intro pins s σ H Q I hw
  refine wpAny_isTrue_Compare1 (thn (h pins s σ H _ I hw) fun v s1 h1 => thn h1 fun u s2 h2 => thn h2 fun c s3 ⟨x, H1, I1, r1, q1⟩ => ?_) h1
  obtain ⟨d, rfl, q⟩ := q1
  cases r1
  exact wpAny_truthy_bool ⟨H1, I1, q⟩
/-- an expression whose value is a bool, as a test -/
theorem pt_val {e : Expr} {t : TE} (h : PE X e t) (he : ∀ whole, isTrue e X.env whole = (do let v ← whole; standAt e.pos; holding [v] (truthy v)) := by intro _; rfl) : PT X e (tB t) := by
  intro pins s σ H Q I hw
  refine isTrue_plain (thn (h pins s σ H _ I hw) fun v s1 ⟨x, H1, I1, r1, q1⟩ => ?_) (he _)
  obtain ⟨d, rfl, q⟩ := q1
  cases r1
  exact wpAny_truthy_bool ⟨H1, I1, q⟩

/-! ### and, or, not -/
variable {tA tB' : TT} {rest : List Expr}
def tAnd (t u : TT) : TT := fun σ H Q => t σ H fun c H1 => if c = true then u σ H1 Q else Q false H1
def tOr (t u : TT) : TT := fun σ H Q => t σ H fun c H1 => if c = true then Q true H1 else u σ H1 Q
def tNot (t : TT) : TT := fun σ H Q => t σ H fun c H1 => Q (!c) H1
theorem pw_and1 (ha : PT X a tA) : PW X (.BoolOp .And [a] pos) tA := by
  intro wh pins s σ H Q I h
  refine isTrue_and (thn (ha pins s σ H Q I h) fun c s1 e => ?_)
  cases c with
  | true => exact isTrue_and_nil e
  | false => exact e
theorem pw_or1 (ha : PT X a tA) : PW X (.BoolOp .Or [a] pos) tA := by
  intro wh pins s σ H Q I h
  refine isTrue_or (thn (ha pins s σ H Q I h) fun c s1 e => ?_)
  cases c with
  | false => exact isTrue_or_nil e
  | true => exact e
theorem pw_and (ha : PT X a tA) (hb : PW X (.BoolOp .And (b :: rest) pos) tB') : PW X (.BoolOp .And (a :: b :: rest) pos) (tAnd tA tB') := by
  intro wh pins s σ H Q I h
  refine isTrue_and (thn (ha pins s σ H _ I h) fun c s1 ⟨H1, I1, q1⟩ => ?_)
  cases c with
  | true => exact hb wh pins s1 σ H1 Q I1 q1
  | false => exact ⟨H1, I1, q1⟩
theorem pw_or (ha : PT X a tA) (hb : PW X (.BoolOp .Or (b :: rest) pos) tB') : PW X (.BoolOp .Or (a :: b :: rest) pos) (tOr tA tB') := by
  intro wh pins s σ H Q I h
  refine isTrue_or (thn (ha pins s σ H _ I h) fun c s1 ⟨H1, I1, q1⟩ => ?_)
  cases c with
  | true => exact ⟨H1, I1, q1⟩
  | false => exact hb wh pins s1 σ H1 Q I1 q1
theorem pt_not (ha : PT X a tA) : PT X (.UnaryOp .Not a pos) (tNot tA) := by
  intro pins s σ H Q I h
  exact isTrue_not (ha pins s σ H (fun c H1 => Q (!c) H1) I h)
/-- .. as values (bools) -/
def tAndV (ta tb : TE) : TE := fun σ H Q => ta σ H fun x H1 => ∃ c, x = .bl c ∧ if c = true then tb σ H1 Q else Q (.bl false) H1
def tNotV (ta : TE) : TE := fun σ H Q => ta σ H fun x H1 => ∃ c, x = .bl c ∧ Q (.bl (!c)) H1
theorem pe_one {op} {t : TE} (h : PE X a t) : PE X (.BoolOp op [a] pos) t := fun pins s σ H Q I hw => BoolOp_one (h pins s σ H Q I hw)
theorem pe_and (ha : PE X a ta) (hb : PE X (.BoolOp .And (b :: rest) pos) tb) : PE X (.BoolOp .And (a :: b :: rest) pos) (tAndV ta tb) := by
  intro pins s σ H Q I h
  refine BoolOp_and (thn (ha pins s σ H _ I h) fun v s1 ⟨x, H1, I1, r1, q1⟩ => ?_)
  obtain ⟨c, rfl, q1⟩ := q1
  cases r1
  refine wpAny_truthy_bool ?_
  cases c with
  | true => exact hb pins s1 σ H1 Q I1 q1
  | false => exact ⟨.bl false, H1, I1, rfl, q1⟩
theorem pe_not (ha : PE X a ta) : PE X (.UnaryOp .Not a pos) (tNotV ta) := by
  intro pins s σ H Q I h
  refine UnaryOp_ (thn (ha pins s σ H _ I h) fun v s1 ⟨x, H1, I1, r1, q1⟩ => ?_)
  obtain ⟨c, rfl, q1⟩ := q1
  cases r1
  exact not_of (wpAny_truthy_bool ⟨.bl (!c), H1, I1, rfl, q1⟩)
/-- a if t else b -/
def tIf (t : TT) (ta tb : TE) : TE := fun σ H Q => t σ H fun c H1 => if c = true then ta σ H1 Q else tb σ H1 Q
theorem pe_ifExp {c : Expr} (hc : PT X c tA) (ha : PE X a ta) (hb : PE X b tb) : PE X (.IfExp c a b pos) (tIf tA ta tb) := by
  intro pins s σ H Q I h
  refine wpAny_IfExp (thn (hc pins s σ H _ I h) fun d s1 ⟨H1, I1, q1⟩ => ?_)
  cases d with
  | true => exact ha pins s1 σ H1 Q I1 q1
  | false => exact hb pins s1 σ H1 Q I1 q1
end
end L2

namespace L2
open PySem PySem.Spec PyProof.Rows

/-! ### a list, a tuple that is read: tracked, frozen, or an object of the module -/
def SqL (K : PySem.W.Frag) (H : Hp) (a : Addr) (xs : List V) : Prop :=
  Rd H a (.lst xs) ∨
    ∃ (o : Obj) (its : Array Value) (n : Nat), K.lookup a = some o ∧ o.cls = .type "list" ∧ o.dict = none ∧ o.data = .seq its n ∧ its.size ≤ sizeLine ∧ Vals xs its.toList
def SqT (K : PySem.W.Frag) (H : Hp) (a : Addr) (xs : List V) : Prop :=
  Rd H a (.tup xs) ∨
    ∃ (o : Obj) (its : Array Value) (n : Nat), K.lookup a = some o ∧ o.cls = .type "tuple" ∧ o.data = .seq its n ∧ its.size ≤ sizeLine ∧ Vals xs its.toList
def absV : Value → Option V
  | .none => some .non
  | .bool b => some (.bl b)
  | .int i _ => some (.int i)
  | .str x _ => some (.str x)
  | .bytes b _ => some (.byt b)
  | .float b _ => some (.flt b)
  | .ref a => some (.ref a)
  | .type n => some (.ty n)
  | _ => none
theorem RelV.abs {x : V} {u : Value} (r : RelV x u) : absV u = some x := by
  cases x with
  | non => cases r; rfl
  | bl _ => cases r; rfl
  | int _ => obtain ⟨t, rfl⟩ := r; rfl
  | str _ => obtain ⟨t, rfl⟩ := r; rfl
  | byt _ => obtain ⟨t, rfl⟩ := r; rfl
  | flt _ => obtain ⟨t, rfl⟩ := r; rfl
  | ref _ => cases r; rfl
  | ty _ => cases r; rfl
theorem RelV.inj {x y : V} {u : Value} (r : RelV x u) (q : RelV y u) : x = y := Option.some.inj (r.abs.symm.trans q.abs)
theorem Vals.inj : ∀ {xs ys : List V} {us : List Value}, Vals xs us → Vals ys us → xs = ys
  | _, _, _, .nil, .nil => rfl
  | _, _, _, .cons r t, .cons r' t' => by rw [r.inj r', Vals.inj t t']
section
variable {X : Cx} {pins : List (Addr × Obj)} {σ : St} {H : Hp} {s : Shared} {a : Addr} {xs ys : List V}
theorem SqL.of {K : PySem.W.Frag} (h : H a = some (.lst xs)) : SqL K H a xs := .inl (.inl h)
theorem SqT.of {K : PySem.W.Frag} (h : H a = some (.tup xs)) : SqT K H a xs := .inl (.inl h)
theorem Inv.list (I : Inv X pins σ H s) (h : SqL X.K H a xs) : ∃ its : List Value, Vals xs its ∧ PlainL s.heap a its.toArray ∧ xs.length ≤ sizeLine := by
  rcases h with h | ⟨o, its, n, hk, hc, hd, hs, hz, r⟩
  · obtain ⟨z, its, n, r, e⟩ := h.ok I.hok
    exact ⟨its, r, ⟨_, n, e, rfl, rfl, rfl⟩, z⟩
  · refine ⟨its.toList, r, ⟨o, n, I.kIn a o hk, hc, hd, by simpa using hs⟩, ?_⟩
    have e := r.length
    simp only [Array.length_toList] at e
    omega
theorem Inv.tuple (I : Inv X pins σ H s) (h : SqT X.K H a xs) : ∃ its : List Value, Vals xs its ∧ IsTup s.heap a its.toArray ∧ xs.length ≤ sizeLine := by
  rcases h with h | ⟨o, its, n, hk, hc, hs, hz, r⟩
  · obtain ⟨z, its, r, p⟩ := h.ok I.hok
    exact ⟨its, r, p, z⟩
  · refine ⟨its.toList, r, ⟨o, I.kIn a o hk, hc, n, by simpa using hs⟩, ?_⟩
    have e := r.length
    simp only [Array.length_toList] at e
    omega
theorem Inv.list_inj (I : Inv X pins σ H s) (h : SqL X.K H a xs) (h' : SqL X.K H a ys) : xs = ys := by
  obtain ⟨its, r, ⟨o, n, e, _, _, d⟩, _⟩ := I.list h
  obtain ⟨its', r', ⟨o', n', e', _, _, d'⟩, _⟩ := I.list h'
  rw [e] at e'; cases e'
  rw [d] at d'
  injection d' with d1 _
  have : its = its' := by simpa using congrArg Array.toList d1
  subst this
  exact r.inj r'
theorem Inv.tuple_inj (I : Inv X pins σ H s) (h : SqT X.K H a xs) (h' : SqT X.K H a ys) : xs = ys := by
  obtain ⟨its, r, ⟨o, e, _, n, d⟩, _⟩ := I.tuple h
  obtain ⟨its', r', ⟨o', e', _, n', d'⟩, _⟩ := I.tuple h'
  rw [e] at e'; cases e'
  rw [d] at d'
  injection d' with d1 _
  have : its = its' := by simpa using congrArg Array.toList d1
  subst this
  exact r.inj r'
end

/-! ### another wish about exceptions -/
abbrev Cx.wish (X : Cx) (E : Value → Shared → Prop) : Cx := { X with xe := E }
/-- no exception leaves -/
abbrev Cx.nox (X : Cx) : Cx := X.wish fun _ _ => False
theorem Cx.Ok.wish {X : Cx} (ok : X.Ok) (E : Value → Shared → Prop) : (X.wish E).Ok :=
  ⟨ok.mod, ok.kind, ok.glob, ok.blt, ok.above, ok.inj, ok.has, ok.cab, ok.hd, ok.frames, ok.stk, ok.exf, ok.bs, ok.bsz, ok.noex, ok.exfs, ok.funs, ok.frf⟩
theorem Cx.Ok.unwish {X : Cx} {E : Value → Shared → Prop} (ok : (X.wish E).Ok) : X.Ok :=
  ⟨ok.mod, ok.kind, ok.glob, ok.blt, ok.above, ok.inj, ok.has, ok.cab, ok.hd, ok.frames, ok.stk, ok.exf, ok.bs, ok.bsz, ok.noex, ok.exfs, ok.funs, ok.frf⟩
section
variable {X : Cx} {pins : List (Addr × Obj)} {σ : St} {H : Hp} {s : Shared} {E : Value → Shared → Prop}
theorem Inv.wish (I : Inv X pins σ H s) (E : Value → Shared → Prop) : Inv (X.wish E) pins σ H s := ⟨I.ok.wish E, I.os, I.bare, I.base, I.loc, I.cell, I.free, I.freeC, I.pin, I.hok, I.len⟩
theorem Inv.unwish (I : Inv (X.wish E) pins σ H s) : Inv X pins σ H s := ⟨I.ok.unwish, I.os, I.bare, I.base, I.loc, I.cell, I.free, I.freeC, I.pin, I.hok, I.len⟩
theorem SP.unwish {D : Ends} {f : Flow} {s' : Shared} (h : SP (X.wish E) pins D f s') : SP X pins D f s' := by
  cases f with
  | next => obtain ⟨σ', H', I, q⟩ := h; exact ⟨σ', H', I.unwish, q⟩
  | brk => obtain ⟨σ', H', I, q⟩ := h; exact ⟨σ', H', I.unwish, q⟩
  | cont => obtain ⟨σ', H', I, q⟩ := h; exact ⟨σ', H', I.unwish, q⟩
  | ret u => obtain ⟨v, σ', H', I, r, q⟩ := h; exact ⟨v, σ', H', I.unwish, r, q⟩
theorem PSs.nox {st : List Stmt} {t : TS} (h : PSs X.nox st t) : PSs X st t := fun pins s σ H D I hw =>
  wpAny_mono (h pins s σ H D (I.wish _) hw) (fun _ _ q => q.unwish) fun _ _ z => False.elim z
end

/-! ### blocks and small statements -/
section
variable {X : Cx} {st : Stmt} {rest : List Stmt} {t u : TS} {e : Expr} {te : TE} {pos : Pos}
def tNext : TS := fun D σ H => D.nx σ H
def tSeq (t u : TS) : TS := fun D σ H => t { D with nx := u D } σ H
theorem pss_nil : PSs X [] tNext := fun _ _ σ H _ I h => wpAny_execs_nil ⟨σ, H, I, h⟩
theorem pss_cons (h1 : PS X st t) (h2 : PSs X rest u) : PSs X (st :: rest) (tSeq t u) := by
  intro pins s σ H D I h
  refine wpAny_execs_cons (thn (h1 pins s σ H { D with nx := u D } I h) fun f s1 q => ?_)
  cases f with
  | next =>
    obtain ⟨σ', H', I', q⟩ := q
    exact h2 pins s1 σ' H' D I' q
  | ret v => exact q
  | brk => exact q
  | cont => exact q
theorem pss_one (h1 : PS X st t) : PSs X [st] t := by
  intro pins s σ H D I h
  refine wpAny_execs_cons (thn (h1 pins s σ H D I h) fun f s1 q => ?_)
  cases f with
  | next => exact wpAny_execs_nil q
  | ret v => exact q
  | brk => exact q
  | cont => exact q
/-- in a def's body nothing is shown -/
theorem Inv.quiet {pins : List (Addr × Obj)} {σ : St} {H : Hp} {s : Shared} (I : Inv X pins σ H s) : interactive X.env = false := by simp [interactive, I.ok.kind]
/-- an expression whose value is dropped -/
def tDrop (te : TE) : TS := fun D σ H => te σ H fun _ H1 => D.nx σ H1
theorem ps_expr (he : PE X e te) (hs : swapsWith e none pos.line X.env = pure false := by rfl) : PS X (.Expr e pos) (tDrop te) := by
  intro pins s σ H D I h
  exact wpAny_Expr_any (thn (he pins s σ H _ I h) fun v s1 ⟨x, H1, I1, r1, q1⟩ => ⟨σ, H1, I1, q1⟩) I.quiet hs
def tRet (te : TE) : TS := fun D σ H => te σ H D.rt
theorem ps_ret (he : PE X e te) : PS X (.Return (some e) pos) (tRet te) := by
  intro pins s σ H D I h
  exact wpAny_Return_some (thn (he pins s σ H _ I h) fun v s1 ⟨x, H1, I1, r1, q1⟩ => ⟨x, σ, H1, I1, r1, q1⟩)
def tIfS (c : TT) (t u : TS) : TS := fun D σ H => c σ H fun b H1 => if b = true then t D σ H1 else u D σ H1
theorem ps_if {c : Expr} {a b : List Stmt} {tc : TT} (hc : PT X c tc) (ha : PSs X a t) (hb : PSs X b u) : PS X (.If c a b pos) (tIfS tc t u) := by
  intro pins s σ H D I h
  refine wpAny_If (thn (hc pins s σ H _ I h) fun d s1 ⟨H1, I1, q1⟩ => ?_)
  cases d with
  | true => exact ha pins s1 σ H1 D I1 q1
  | false => exact hb pins s1 σ H1 D I1 q1
/-- code that the proof never comes to -/
def tNever : TS := fun _ _ _ => False
theorem ps_never : PS X st tNever := fun _ _ _ _ _ _ h => h.elim
end

/-! ### targets -/
abbrev TG := V → St → Hp → (St → Hp → Prop) → Prop
abbrev TGs := List V → St → Hp → (St → Hp → Prop) → Prop
def PG (X : Cx) (target : Expr) (t : TG) : Prop :=
  ∀ (pins : List (Addr × Obj)) (s : Shared) (σ : St) (H : Hp) (v : V) (u : Value) (Q : St → Hp → Prop), Inv X pins σ H s → RelV v u → t v σ H Q →
    wpAny (model X.prog X.w) X.A (assign target X.env u) (fun _ s' => ∃ σ' H', Inv X pins σ' H' s' ∧ Q σ' H') X.xe s
/-- several targets, one after another -/
def PGs (X : Cx) (ts : List Expr) (t : TGs) : Prop :=
  ∀ (pins : List (Addr × Obj)) (s : Shared) (σ : St) (H : Hp) (vs : List V) (us : List Value) (Q : St → Hp → Prop), Inv X pins σ H s → Vals vs us → t vs σ H Q →
    wpAny (model X.prog X.w) X.A (assignInOrder ((assignEach ts X.env).map (·.2)) us) (fun _ s' => ∃ σ' H', Inv X pins σ' H' s' ∧ Q σ' H') X.xe s
/-- o[i] = v, by values -/
abbrev TSet := V → V → V → Hp → (Hp → Prop) → Prop
def PSet (X : Cx) (t : TSet) : Prop :=
  ∀ (pins : List (Addr × Obj)) (s : Shared) (σ : St) (H : Hp) (o i v : V) (ov iv u : Value) (Q : Hp → Prop), Inv X pins σ H s → RelV o ov → RelV i iv → RelV v u → t o i v H Q →
    wpAny (model X.prog X.w) X.A (setItem ov iv u) (fun _ s' => ∃ H', Inv X pins σ H' s' ∧ Q H') X.xe s
section
variable {X : Cx} {pos : Pos}
def gName (i : Nat) : TG := fun v σ H Q => Q (σ.set i (some v)) H
theorem pg_name {i : Nat} {x : Str} (hN : X.N.Nodup) (hi : X.N[i]? = some x) (hx : Loc X.env.scope x) (hf : X.fn x = true ∨ X.env.scope.names.lookup x = some .local := by first | exact .inl rfl | exact .inr rfl | assumption) : PG X (.Name x pos) (gName i) := by
  intro pins s σ H v u Q I r h
  exact wpAny_assign_Name (store_ok I hN hi hx r (fun s' I' => ⟨_, H, I', h⟩) hf)
def gNil : TGs := fun vs σ H Q => vs = [] ∧ Q σ H
def gCons (t : TG) (u : TGs) : TGs := fun vs σ H Q => ∃ v r, vs = v :: r ∧ t v σ H fun σ' H' => u r σ' H' Q
theorem pgs_nil : PGs X [] gNil := by
  intro pins s σ H vs us Q I r h
  obtain ⟨e, h⟩ := h
  subst e
  cases r
  exact assignInOrder_nil ⟨σ, H, I, h⟩
theorem pgs_cons {e : Expr} {es : List Expr} {t : TG} {u : TGs} (h1 : PG X e t) (h2 : PGs X es u)
    (hs : (assignEach (e :: es) X.env).map (·.2) = assign e X.env :: (assignEach es X.env).map (·.2) := by rfl) : PGs X (e :: es) (gCons t u) := by
  intro pins s σ H vs us Q I r h
  obtain ⟨v, vr, e1, h⟩ := h
  subst e1
  cases r with
  | cons r rr =>
    rw [hs]
    refine assignInOrder_cons (thn (h1 pins s σ H _ _ _ I r h) fun _ s1 ⟨σ1, H1, I1, q1⟩ => ?_)
    exact h2 pins s1 σ1 H1 _ _ Q I1 rr q1
/-- (a, b, ..) = a tuple of that length -/
def gTup (K : PySem.W.Frag) (n : Nat) (t : TGs) : TG := fun v σ H Q => ∃ a xs, v = .ref a ∧ SqT K H a xs ∧ xs.length = n ∧ t xs σ H Q
theorem pg_tup {es : List Expr} {k : Nat} {t : TGs} {n : Nat} (hc : X.calm = true) (h : PGs X es t)
    (hn : (assignEach es X.env).length = n := by rfl) (hst : (assignEach es X.env).findIdx? (·.1) = none := by rfl) : PG X (.Tuple es k pos) (gTup X.K n t) := by
  intro pins s σ H v u Q I r hw
  obtain ⟨a, xs, e1, hq, hl, hw⟩ := hw
  subst e1
  cases r
  obtain ⟨its, rv, ht, hz⟩ := I.tuple hq
  refine assign_Tuple_tuple (I.ok.hd hc) ht (by simp [hn, ← hl, rv.length]) hst fun h' hx => ?_
  have I1 : Inv X pins σ H { s with heap := h' } := I.kept (t' := s.toks) fun b o e => hx b o (Nat.ne_of_lt (Heap.lt_size e)) e
  exact h pins _ σ H xs _ Q I1 (by simpa using rv) hw
/-- o[i] = .. -/
def gSub (to ti : TE) (t : TSet) : TG := fun v σ H Q => to σ H fun o H1 => ti σ H1 fun i H2 => t o i v H2 fun H3 => Q σ H3
theorem pg_sub {o i : Expr} {to ti : TE} {t : TSet} (ho : PE X o to) (hi : PE X i ti) (hs : PSet X t)
    (ha : ∀ v, assign (.Subscript o i pos) X.env v = (do
      let ov ← holding [v] (eval o X.env)
      let iv ← holding [v, ov] (eval i X.env)
      standAt pos
      holding [v, ov, iv] (setItem ov iv v)
      release [v, ov, iv] []) := by intro _; rfl) : PG X (.Subscript o i pos) (gSub to ti t) := by
  intro pins s σ H v u Q I r h
  rw [ha]
  refine wpAny_bind (wpAny_holding (thn (ho pins s σ H _ I h) fun ov s1 ⟨x, H1, I1, r1, q1⟩ => ?_))
  refine wpAny_bind (wpAny_holding (thn (hi pins s1 σ H1 _ I1 q1) fun iv s2 ⟨y, H2, I2, r2, q2⟩ => ?_))
  refine wpAny_bind (wpAny_standAt (wpAny_bind (wpAny_holding (thn (hs pins s2 σ H2 x y v ov iv u _ I2 r1 r2 r q2) fun _ s3 ⟨H3, I3, q3⟩ => ?_))))
  exact wpAny_release ⟨σ, H3, I3, q3⟩
/-- target = value -/
def tAsg (te : TE) (g : TG) : TS := fun D σ H => te σ H fun x H1 => g x σ H1 D.nx
theorem ps_asg {tg e : Expr} {te : TE} {g : TG} (he : PE X e te) (hg : PG X tg g) (hs : swapsWithSole [tg] e pos.line X.env = pure false := by rfl) (hw : swappedStores [tg] e X.env = pure none := by rfl)
    (h1 : (assignEach [tg] X.env).map (·.2) = [assign tg X.env] := by rfl) : PS X (.Assign [tg] e pos) (tAsg te g) := by
  intro pins s σ H D I h
  refine wpAny_Assign_stores (thn (he pins s σ H _ I h) fun v s1 ⟨x, H1, I1, r1, q1⟩ => ?_) hs hw
  rw [h1]
  exact thn (hg pins s1 σ H1 x v _ I1 r1 q1) fun _ s2 q => q
/-- name = value -/
theorem ps_set {i : Nat} {x : Str} {e : Expr} {te : TE} {pos' : Pos} (hN : X.N.Nodup) (hi : X.N[i]? = some x) (hx : Loc X.env.scope x) (he : PE X e te) (hs : swapsWith e (some (.Name x pos')) pos.line X.env = pure false := by rfl) (hf : X.fn x = true ∨ X.env.scope.names.lookup x = some .local := by first | exact .inl rfl | exact .inr rfl | assumption) :
    PS X (.Assign [.Name x pos'] e pos) (tAsg te (gName i)) := by
  intro pins s σ H D I h
  refine wpAny_Assign_Name (thn (he pins s σ H _ I h) fun v s1 ⟨y, H1, I1, r1, q1⟩ => ?_) hs
  exact store_ok I1 hN hi hx r1 (fun s2 I2 => ⟨_, H1, I2, q1⟩) hf
end

/-! ### while -/
section
variable {X : Cx} {pos : Pos}
end

/-! ### what a loop or a comprehension walks -/
/-- at turn i: it yields x (the heap may grow), or it stops -/
structure It where
  go : Nat → Hp → Prop
  yld : Nat → Hp → V → Hp → Prop
  stop : Nat → Hp → Prop
/-- the iterator's own objects may turn: they are not the frame's, not pinned, younger than the entry (or a comprehension's own) -/
def FpOk (X : Cx) (pins : List (Addr × Obj)) (H : Hp) (b : Addr) : Prop :=
  H b = none ∧ b ≠ X.env.locals ∧ b ∉ X.fs ∧ (b ∈ X.ex ∨ X.s₀.heap.objs.size ≤ b) ∧ (∀ x c, X.env.cells.lookup x = some c → c ≠ b) ∧ ∀ p ∈ X.pn ++ pins, p.1 ≠ b
theorem Inv.fpOk {X : Cx} {pins : List (Addr × Obj)} {σ : St} {H H' : Hp} {s : Shared} {b : Addr} (I : Inv X pins σ H s) (hb : s.heap.objs.size ≤ b) (hn : H' b = none) : FpOk X pins H' b := by
  refine ⟨hn, Nat.ne_of_gt (Nat.lt_of_lt_of_le I.lt hb), I.nofs hb, .inr (Nat.le_trans I.sz hb), fun x c e z => ?_, fun p hp z => ?_⟩
  · obtain ⟨v, q⟩ := I.cell x c e
    exact absurd (Nat.lt_of_lt_of_le q.lt (by rw [z]; exact hb)) (Nat.lt_irrefl _)
  · exact absurd (Nat.lt_of_lt_of_le (Heap.lt_size (I.pin p hp).1) (by rw [z]; exact hb)) (Nat.lt_irrefl _)
structure Turn (P : Program) (w : World) (K : PySem.W.Frag) (tg : Expr) (J : It) (fp : List Addr) (it : Addr) (tn : Nat → Heap → Prop) : Prop where
  mem : it ∈ fp
  obj : ∀ i h, tn i h → ∀ b ∈ fp, ∃ o, h.get? b = some o ∧ ∀ v, o.data ≠ .cell v
  keep : ∀ i h h', tn i h → (∀ b ∈ fp, ∀ o, h.get? b = some o → h'.get? b = some o) → tn i h'
  item : ∀ (X : Cx), X.prog = P → X.w = w → X.K = K → X.calm = true → ∀ (i : Nat) (pins : List (Addr × Obj)) (s : Shared) (σ : St) (H : Hp) (E : Value → Shared → Prop), Inv X pins σ H s → (∀ b ∈ fp, FpOk X pins H b) → tn i s.heap → J.go i H →
    wpAny (model P w) X.A (pyNext (.ref it)) (fun r s1 => ∃ u, r = some u ∧
      wpAny (model P w) X.A (letOwnedTupleGo tg (.ref it) u) (fun _ s2 => ∃ x H', Inv X pins σ H' s2 ∧ RelV x u ∧ J.yld i H x H' ∧ tn (i + 1) s2.heap ∧ ∀ b ∈ fp, H' b = none) E s1) E s
  done : ∀ (X : Cx), X.prog = P → X.w = w → X.K = K → X.calm = true → ∀ (i : Nat) (pins : List (Addr × Obj)) (s : Shared) (σ : St) (H : Hp) (E : Value → Shared → Prop), Inv X pins σ H s → (∀ b ∈ fp, FpOk X pins H b) → tn i s.heap → J.stop i H →
    wpAny (model P w) X.A (pyNext (.ref it)) (fun r s1 => r = none ∧ Inv X pins σ H s1) E s
  self : ∀ (A : Around) (i : Nat) (s : Shared) (Q : Value → Shared → Prop) (E : Value → Shared → Prop), tn i s.heap → Q (.ref it) s → wpAny (model P w) A (pyIter (.ref it)) Q E s
abbrev TI := St → Hp → (It → Hp → Prop) → Prop
/-- an iterator has come -/
def PIE (X : Cx) (pins : List (Addr × Obj)) (σ : St) (tg : Expr) (R : It → Hp → Prop) (itv : Value) (s2 : Shared) : Prop :=
  ∃ (it : Addr) (fp : List Addr) (tn : Nat → Heap → Prop) (J : It) (H' : Hp), itv = .ref it ∧ Inv X pins σ H' s2 ∧ Turn X.prog X.w X.K tg J fp it tn ∧ tn 0 s2.heap ∧ (∀ b ∈ fp, FpOk X pins H' b) ∧ R J H'
def PI (X : Cx) (tg iter : Expr) (wi : TI) : Prop :=
  ∀ (pins : List (Addr × Obj)) (s : Shared) (σ : St) (H : Hp) (R : It → Hp → Prop), Inv X pins σ H s → wi σ H R →
    wpAny (model X.prog X.w) X.A (eval iter X.env) (fun v s1 => wpAny (model X.prog X.w) X.A (pyIter v) (PIE X pins σ tg R) X.xe s1) X.xe s

/-- the step ahead of the store is nothing for an iterator that keeps no tuple -/
theorem go_of {M : Model} {A : Around} {E : Value → Shared → Prop} {s : Shared} {tg : Expr} {it : Addr} {u : Value} {o : Obj} {n : String} {vs : Array Value} {Q : Unit → Shared → Prop} (ho : s.heap.get? it = some o) (hc : o.cls = .type n) (hd : o.data = .fields vs)
    (hn : ["enumerate", "zip", "dict_itemiterator", "dict_reverseitemiterator", "odict_iterator", "itertools.zip_longest", "itertools.pairwise"].contains n = false) (hQ : Q () s) : wpAny M A (letOwnedTupleGo tg (.ref it) u) Q E s := by
  unfold letOwnedTupleGo
  cases tg <;> first
    | exact wpAny_pure hQ
    | (cases u <;> first
        | exact wpAny_pure hQ
        | (refine wpAny_bind (wpAny_load ho ?_)
           rw [hc, hd]
           show wpAny M A (if (["enumerate", "zip", "dict_itemiterator", "dict_reverseitemiterator", "odict_iterator", "itertools.zip_longest", "itertools.pairwise"].contains n && vs[0]? == some (rawInt _)) = true then _ else _) Q E s
           rw [if_neg (by intro h; rw [hn, Bool.false_and] at h; cases h)]
           exact wpAny_pure hQ))

/-- the list at a, as it stands at each turn (a loop may append to it) -/
def Itl (K : PySem.W.Frag) (a : Addr) : It :=
  ⟨fun i H => ∃ xs x, SqL K H a xs ∧ xs[i]? = some x, fun i H x H' => H' = H ∧ ∀ xs, SqL K H a xs → xs[i]? = some x, fun i H => ∃ xs, SqL K H a xs ∧ xs.length ≤ i⟩
/-- lo, lo + 1, .. (n of them) -/
def Itr (lo : Int) (n : Nat) : It := ⟨fun i _ => i < n, fun i H x H' => H' = H ∧ x = .int (lo + i), fun i _ => n ≤ i⟩
theorem turn_list {P : Program} {w : World} {K : PySem.W.Frag} {tg : Expr} (a it : Addr) : Turn P w K tg (Itl K a) [it] it (fun i h => h.IsListIter it a i) where
  mem := by simp
  obj := fun i h st b hb => by
    have e : b = it := by simpa using hb
    subst e
    obtain ⟨o, e, c, d⟩ := st
    exact ⟨o, e, fun v z => by rw [d] at z; cases z⟩
  keep := fun i h h' st k => st.at fun o e => k it (by simp) o e
  item := by
    intro X hP hw hK hc i pins s σ H E I hf st hg
    subst hP hw hK
    obtain ⟨xs, x, hq, hx⟩ := hg
    obtain ⟨its, rv, p, hz⟩ := I.list hq
    obtain ⟨u, hu, ru⟩ := rv.get hx
    obtain ⟨f0, f1, f2, f3, f4, f5⟩ := hf it (by simp)
    refine wpAny_pyNext_list_item st p.isList (x := u) (by simpa using hu) fun h' st' sb => ?_
    have I1 : Inv X pins σ H { s with heap := h' } := I.turned (t' := s.toks) (fun b o hb e => (sb.2 b hb).trans e) f0 f1 f3 f4 f5
    obtain ⟨o, e, c, d⟩ := id st'
    exact ⟨u, rfl, go_of (s := { s with heap := h' }) e c d (by decide) ⟨x, H, I1, ru, ⟨rfl, fun ys hy => by rw [I.list_inj hy hq]; exact hx⟩, st', fun b hb => (hf b hb).1⟩⟩
  done := by
    intro X hP hw hK hc i pins s σ H E I hf st hg
    subst hP hw hK
    obtain ⟨xs, hq, hx⟩ := hg
    obtain ⟨its, rv, p, hz⟩ := I.list hq
    obtain ⟨f0, f1, f2, f3, f4, f5⟩ := hf it (by simp)
    have hl := rv.length
    exact wpAny_pyNext_list_end (I.ok.hd hc) st p.isList (by simp; omega) fun h' eb => ⟨rfl, I.turned (t' := s.toks) (fun b o hb e => eb b o hb e) f0 f1 f3 f4 f5⟩
  self := fun _ _ _ _ _ st h => wpAny_pyIter_listiter st h
theorem turn_range {P : Program} {w : World} {K : PySem.W.Frag} {tg : Expr} (it : Addr) (lo : Int) (n : Nat) : Turn P w K tg (Itr lo n) [it] it (fun i h => IsRangeIter h it (lo + (i : Nat) * 1) ((n : Int) - (i : Nat)) 1) where
  mem := by simp
  obj := fun i h st b hb => by
    have e : b = it := by simpa using hb
    subst e
    exact ⟨_, st, fun v z => by
      have z' : Data.fields _ = Data.cell v := z
      cases z'⟩
  keep := fun i h h' st k => k it (by simp) _ st
  item := by
    intro X hP hw hK hc i pins s σ H E I hf st hg
    subst hP hw hK
    obtain ⟨f0, f1, f2, f3, f4, f5⟩ := hf it (by simp)
    have W := Walks.range (prog := X.prog) (w := X.w) (I.ok.hd hc) it lo 1 n
    refine W.item i s _ _ hg st fun v h' tk hv st' kk => ?_
    obtain ⟨t, rfl⟩ := hv
    have I1 : Inv X pins σ H { s with heap := h', toks := tk } := I.turned (fun b o hb e => kk b o (by simpa using hb) e) f0 f1 f3 f4 f5
    refine ⟨_, rfl, go_of (s := { s with heap := h', toks := tk }) (n := "range_iterator") st' rfl rfl (by decide) ⟨.int (lo + i), H, I1, ⟨t, ?_⟩, ⟨rfl, rfl⟩, st', fun b hb => (hf b hb).1⟩⟩
    rw [Int.mul_one]
  done := by
    intro X hP hw hK hc i pins s σ H E I hf st hg
    subst hP hw hK
    obtain ⟨f0, f1, f2, f3, f4, f5⟩ := hf it (by simp)
    exact wpAny_pyNext_range_end (I.ok.hd hc) st (by have : n ≤ i := hg; omega) fun h' eb => ⟨rfl, I.turned (t' := s.toks) (fun b o hb e => eb b o hb e) f0 f1 f3 f4 f5⟩
  self := fun _ _ _ _ _ st h => wpAny_pyIter_rangeiter st h
end L2

namespace L2
open PySem PySem.Spec PyProof.Rows
section
variable {X : Cx} {tg : Expr}
def iList (K : PySem.W.Frag) (tl : TE) : TI := fun σ H R => tl σ H fun x H1 => ∃ a, x = .ref a ∧ (∃ xs, SqL K H1 a xs) ∧ R (Itl K a) H1
theorem pi_list {l : Expr} {tl : TE} (hl : PE X l tl) : PI X tg l (iList X.K tl) := by
  intro pins s σ H R I h
  refine thn (hl pins s σ H _ I h) fun v s1 ⟨x, H1, I1, r1, q1⟩ => ?_
  obtain ⟨a, e, ⟨xs, hq⟩, q⟩ := q1
  subst e
  cases r1
  obtain ⟨its, rv, p, hz⟩ := I1.list hq
  refine wpAny_pyIter_list p.isList ?_
  refine ⟨s1.heap.objs.size, [s1.heap.objs.size], _, _, H1, rfl, I1.kept (t' := s1.toks) fun b o e => Heap.get?_push_of_some _ e, turn_list a _, ⟨_, Heap.get?_push_size _ rfl, rfl, rfl⟩, fun b hb => ?_, q⟩
  have e : b = s1.heap.objs.size := by simpa using hb
  subst e
  exact I1.fpOk (Nat.le_refl _) (I1.hok.fresh (Nat.le_refl _))
/-- a range object just made, walked -/
theorem range_it {pins : List (Addr × Obj)} {σ : St} {H : Hp} {s : Shared} {R : It → Hp → Prop} {E : Value → Shared → Prop} {lo hi : Int} {t u v : Tok} {tk : Nat} (I : Inv X pins σ H s) (h1 : -(2 ^ 62) ≤ lo) (h2 : lo < 2 ^ 62) (h3 : -(2 ^ 62) ≤ hi) (h4 : hi < 2 ^ 62)
    (q : R (Itr lo (hi - lo).toNat) H) : wpAny (model X.prog X.w) X.A (pyIter (.ref s.heap.objs.size)) (PIE X pins σ tg R) E { s with heap := s.heap.push { cls := .type "range", data := .fields #[.int lo t, .int hi u, .int 1 v] }, toks := tk } := by
  refine wpAny_pyIter_range (IsRange.new ..) (small_one h1 h2 h3 h4) ?_
  have I1 : Inv X pins σ H { s with heap := s.heap.push { cls := .type "range", data := .fields #[.int lo t, .int hi u, .int 1 v] }, toks := tk } := I.kept fun b o e => Heap.get?_push_of_some _ e
  refine ⟨(s.heap.push { cls := .type "range", data := .fields #[.int lo t, .int hi u, .int 1 v] }).objs.size, [(s.heap.push { cls := .type "range", data := .fields #[.int lo t, .int hi u, .int 1 v] }).objs.size], _, _, H, rfl,
    I1.kept (t' := tk) fun b o e => Heap.get?_push_of_some _ e, turn_range _ lo (hi - lo).toNat, ?_, fun b hb => ?_, q⟩
  · have e1 : lo + ((0 : Nat) : Int) * 1 = lo := by simp
    have e2 : (((hi - lo).toNat : Nat) : Int) - ((0 : Nat) : Int) = Builtin.Range.rangeSize lo hi 1 := by rw [rangeSize_one]; split <;> omega
    show IsRangeIter _ _ (lo + ((0 : Nat) : Int) * 1) ((((hi - lo).toNat : Nat) : Int) - ((0 : Nat) : Int)) 1
    rw [e1, e2]
    exact Heap.get?_push_size _ rfl
  · have e : b = (s.heap.push { cls := .type "range", data := .fields #[.int lo t, .int hi u, .int 1 v] }).objs.size := by simpa using hb
    subst e
    exact I1.fpOk (Nat.le_refl _) (I1.hok.fresh (Nat.le_refl _))
def iRng1 (ta : TA) : TI := fun σ H R => ta σ H fun vs H1 => ∃ j : Int, vs = [.int j] ∧ -(2 ^ 62) ≤ j ∧ j < 2 ^ 62 ∧ R (Itr 0 j.toNat) H1
theorem pi_range1 {a : Expr} {ta : TA} {p pos : Pos} (hg : Gl X "range") (hm : X.mg "range" = none) (ha : PA X [a] ta) (hs : starEach [a] X.env = [(false, eval a X.env)] := by rfl) : PI X tg (.Call (.Name "range" p) [a] [] pos) (iRng1 ta) := by
  intro pins s σ H R I h
  refine Call_ (ld_blt I hg hm boot_range (PyProof.Rows.callWith_type1 (thn (ha pos pins s σ H _ I h) fun us s1 ⟨vs, H1, I1, r1, q1⟩ => ?_) hs rfl))
  obtain ⟨j, e, q1, q2, q⟩ := q1
  subst e
  cases r1 with
  | cons r rr =>
    cases rr
    obtain ⟨t, rfl⟩ := r
    exact call_range_1 (range_it I1 (by omega) (by omega) q1 q2 (by simpa using q))

/-! ### for -/
/-- W: the invariant by the turn and a measure; N: what the body is to reach -/
def tFor (wi : TI) (g : TG) (tb : TS) : TS := fun D σ H => wi σ H fun J H1 => ∃ W : Nat → Nat → St → Hp → Prop, (∃ m, W 0 m σ H1) ∧ ∀ i m σ H, W i m σ H →
  (J.stop i H ∧ D.nx σ H) ∨ (J.go i H ∧ ∃ N : St → Hp → Prop, (∀ σ' H', N σ' H' → ∃ m', m' < m ∧ W (i + 1) m' σ' H') ∧ ∀ x H', J.yld i H x H' → g x σ H' fun σ2 H2 => tb { D with nx := N, ct := N, bk := D.nx } σ2 H2)
/-- the records at fp as they stand -/
def pinsAt (fp : List Addr) (h : Heap) : List (Addr × Obj) := fp.filterMap fun b => (h.get? b).map fun o => (b, o)
theorem mem_pinsAt {fp : List Addr} {h : Heap} {b : Addr} {o : Obj} (hb : b ∈ fp) (e : h.get? b = some o) : (b, o) ∈ pinsAt fp h := List.mem_filterMap.mpr ⟨b, hb, by rw [e]; rfl⟩
theorem of_pinsAt {fp : List Addr} {h : Heap} {p : Addr × Obj} (hp : p ∈ pinsAt fp h) : p.1 ∈ fp ∧ h.get? p.1 = some p.2 := by
  obtain ⟨b, hb, e⟩ := List.mem_filterMap.mp hp
  cases q : h.get? b with
  | none => rw [q] at e; cases e
  | some o =>
    rw [q] at e
    have e' : (b, o) = p := Option.some.inj e
    subst e'
    exact ⟨hb, q⟩
theorem Inv.pinned {pins : List (Addr × Obj)} {σ : St} {H : Hp} {s : Shared} {fp : List Addr} (I : Inv X pins σ H s) (hf : ∀ b ∈ fp, FpOk X pins H b) (ho : ∀ b ∈ fp, ∃ o, s.heap.get? b = some o ∧ ∀ v, o.data ≠ .cell v) : Inv X (pins ++ pinsAt fp s.heap) σ H s :=
  I.pins_of fun p hp => (List.mem_append.mp hp).elim (fun z => I.pin p (List.mem_append_right _ z)) fun z => by
    obtain ⟨hb, e⟩ := of_pinsAt z
    obtain ⟨f0, f1, f2, _⟩ := hf p.1 hb
    obtain ⟨o, e', d⟩ := ho p.1 hb
    rw [e] at e'; cases e'
    exact ⟨e, f0, f1, f2, d⟩
theorem Inv.unpinned {pins pl : List (Addr × Obj)} {σ : St} {H : Hp} {s : Shared} (I : Inv X (pins ++ pl) σ H s) : Inv X pins σ H s := I.pins_of fun p hp => I.pin p (List.mem_append_right _ (List.mem_append_left _ hp))
theorem ps_for {iter : Expr} {body : List Stmt} {wi : TI} {g : TG} {tb : TS} {pos : Pos} (hp : PassesOwn (model X.prog X.w) X.A X.env X.xe) (hc : X.calm = true) (hi : PI X tg iter wi) (hg : PG X tg g) (hb : PSs X body tb)
    (hs : ∀ x, foldedSetIterable iter X.env x = pure x := by intro _; rfl) : PS X (.For tg iter body [] pos) (tFor wi g tb) := by
  intro pins s σ H D I h
  refine wpAny_For (thn (hi pins s σ H _ I h) fun v s1 h1 => thn h1 fun itv s2 h2 => ?_) hs
  obtain ⟨it, fp, tn, J, H2, e, I2, T, st2, f2, W, ⟨m0, w0⟩, turn⟩ := h2
  subst e
  -- what stays true of the iterator's objects through the loop
  have stat : ∀ {H' : Hp}, (∀ b ∈ fp, H' b = none) → ∀ b ∈ fp, FpOk X pins H' b := fun hn b hb => ⟨hn b hb, (f2 b hb).2⟩
  refine codeAny_forLoop_any (fun n s' => ∃ i σ' H', Inv X pins σ' H' s' ∧ tn i s'.heap ∧ (∀ b ∈ fp, H' b = none) ∧ W i n σ' H') ?_ m0 ⟨0, σ, H2, I2, st2, fun b hb => (f2 b hb).1, w0⟩
  rintro n s3 ⟨i, σ3, H3, I3, st3, fr3, w3⟩
  rcases turn i n σ3 H3 w3 with ⟨stop, qn⟩ | ⟨go, N, hN, step⟩
  · refine wpAny_passesOwn hp (thn (T.done X rfl rfl rfl hc i pins s3 σ3 H3 X.xe I3 (stat fr3) st3 stop) fun r s4 ⟨hr, I4⟩ => ?_)
    subst hr
    exact wpAny_execs_nil ⟨σ3, H3, I4, qn⟩
  · refine wpAny_passesOwn hp (thn (T.item X rfl rfl rfl hc i pins s3 σ3 H3 X.xe I3 (stat fr3) st3 go) fun r s4 ⟨u, hr, h4⟩ => ?_)
    subst hr
    refine wpAny_passesOwn hp (thn h4 fun _ s5 ⟨x, H5, I5, r5, y5, st5, fr5⟩ => ?_)
    have I5' := I5.pinned (stat fr5) (T.obj _ _ st5)
    refine wpAny_passesOwn hp (thn (hg _ s5 σ3 H5 x u _ I5' r5 (step x H5 y5)) fun _ s6 ⟨σ6, H6, I6, q6⟩ => ?_)
    refine wpAny_passesOwn hp (thn (hb _ s6 σ6 H6 _ I6 q6) fun f s7 q7 => ?_)
    have again : ∀ {σ7 : St} {H7 : Hp}, Inv X (pins ++ pinsAt fp s5.heap) σ7 H7 s7 → N σ7 H7 → ∃ m, m < n ∧ ∃ i σ' H', Inv X pins σ' H' s7 ∧ tn i s7.heap ∧ (∀ b ∈ fp, H' b = none) ∧ W i m σ' H' := fun {σ7 H7} I7 n7 => by
      obtain ⟨m', hm, w7⟩ := hN σ7 H7 n7
      refine ⟨m', hm, i + 1, σ7, H7, I7.unpinned, T.keep _ _ _ st5 fun b hb o e => (I7.pin (b, o) (List.mem_append_right _ (List.mem_append_right _ (mem_pinsAt hb e)))).1, fun b hb => ?_, w7⟩
      obtain ⟨o, e, d⟩ := T.obj _ _ st5 b hb
      exact (I7.pin (b, o) (List.mem_append_right _ (List.mem_append_right _ (mem_pinsAt hb e)))).2.1
    cases f with
    | next => obtain ⟨σ7, H7, I7, n7⟩ := q7; exact again I7 n7
    | cont => obtain ⟨σ7, H7, I7, n7⟩ := q7; exact again I7 n7
    | brk => obtain ⟨σ7, H7, I7, q7⟩ := q7; exact ⟨σ7, H7, I7.unpinned, q7⟩
    | ret v => obtain ⟨x7, σ7, H7, I7, r7, q7⟩ := q7; exact ⟨x7, σ7, H7, I7.unpinned, r7, q7⟩
end

/-! ### the forms one uses -/
/-- over a list that the body leaves as it is -/
theorem for_list {K : PySem.W.Frag} {a : Addr} {xs : List V} {g : TG} {tb : TS} {D : Ends} {σ : St} {H : Hp} (Pv : Nat → St → Hp → Prop) (h0 : Pv 0 σ H) (hl : ∀ i σ H, i ≤ xs.length → Pv i σ H → SqL K H a xs)
    (hs : ∀ i x σ H, xs[i]? = some x → Pv i σ H → g x σ H fun σ2 H2 => tb { D with nx := Pv (i + 1), ct := Pv (i + 1), bk := D.nx } σ2 H2) (hd : ∀ σ H, Pv xs.length σ H → D.nx σ H) :
    ∃ W : Nat → Nat → St → Hp → Prop, (∃ m, W 0 m σ H) ∧ ∀ i m σ H, W i m σ H →
      ((Itl K a).stop i H ∧ D.nx σ H) ∨ ((Itl K a).go i H ∧ ∃ N : St → Hp → Prop, (∀ σ' H', N σ' H' → ∃ m', m' < m ∧ W (i + 1) m' σ' H') ∧ ∀ x H', (Itl K a).yld i H x H' → g x σ H' fun σ2 H2 => tb { D with nx := N, ct := N, bk := D.nx } σ2 H2) := by
  refine ⟨fun i m σ H => m = xs.length - i ∧ i ≤ xs.length ∧ Pv i σ H, ⟨xs.length, by simp, Nat.zero_le _, h0⟩, ?_⟩
  rintro i m σ H ⟨rfl, hi, p⟩
  have q := hl i σ H hi p
  by_cases hlt : i < xs.length
  · refine .inr ⟨⟨xs, xs[i], q, by simp [hlt]⟩, Pv (i + 1), fun σ' H' p' => ⟨xs.length - (i + 1), by omega, rfl, hlt, p'⟩, fun x H' y => ?_⟩
    obtain ⟨e, y⟩ := y
    subst e
    exact hs i x σ _ (y xs q) p
  · have e : i = xs.length := by omega
    subst e
    exact .inl ⟨⟨xs, q, Nat.le_refl _⟩, hd σ H p⟩
theorem for_range {lo : Int} {n : Nat} {g : TG} {tb : TS} {D : Ends} {σ : St} {H : Hp} (Pv : Nat → St → Hp → Prop) (h0 : Pv 0 σ H)
    (hs : ∀ i σ H, i < n → Pv i σ H → g (.int (lo + i)) σ H fun σ2 H2 => tb { D with nx := Pv (i + 1), ct := Pv (i + 1), bk := D.nx } σ2 H2) (hd : ∀ σ H, Pv n σ H → D.nx σ H) :
    ∃ W : Nat → Nat → St → Hp → Prop, (∃ m, W 0 m σ H) ∧ ∀ i m σ H, W i m σ H →
      ((Itr lo n).stop i H ∧ D.nx σ H) ∨ ((Itr lo n).go i H ∧ ∃ N : St → Hp → Prop, (∀ σ' H', N σ' H' → ∃ m', m' < m ∧ W (i + 1) m' σ' H') ∧ ∀ x H', (Itr lo n).yld i H x H' → g x σ H' fun σ2 H2 => tb { D with nx := N, ct := N, bk := D.nx } σ2 H2) := by
  refine ⟨fun i m σ H => m = n - i ∧ i ≤ n ∧ Pv i σ H, ⟨n, by simp, Nat.zero_le _, h0⟩, ?_⟩
  rintro i m σ H ⟨rfl, hi, p⟩
  by_cases hlt : i < n
  · refine .inr ⟨hlt, Pv (i + 1), fun σ' H' p' => ⟨n - (i + 1), by omega, rfl, hlt, p'⟩, fun x H' y => ?_⟩
    obtain ⟨e, y⟩ := y
    subst e y
    exact hs i σ _ hlt p
  · have e : i = n := by omega
    subst e
    exact .inl ⟨Nat.le_refl _, hd σ H p⟩
end L2

namespace L2
open PySem PySem.Spec PyProof.Rows

abbrev R2 := V → V → Hp → VK → Prop
/-- a two-place operation on values: f is binaryOp op, inplaceOp op or compareOp op -/
def OpR (X : Cx) (f : Value → Value → Sem Value) (r : R2) : Prop :=
  ∀ (pins : List (Addr × Obj)) (s : Shared) (σ : St) (H : Hp) (x y : V) (v u : Value) (Q : VK), Inv X pins σ H s → RelV x v → RelV y u → r x y H Q →
    wpAny (model X.prog X.w) X.A (f v u) (EP X pins σ Q) X.xe s
/-- a one-place operation -/
def UnR (X : Cx) (f : Value → Sem Value) (r : V → Hp → VK → Prop) : Prop :=
  ∀ (pins : List (Addr × Obj)) (s : Shared) (σ : St) (H : Hp) (x : V) (v : Value) (Q : VK), Inv X pins σ H s → RelV x v → r x H Q →
    wpAny (model X.prog X.w) X.A (f v) (EP X pins σ Q) X.xe s
/-- a call of a value that is known (a builtin, a type) with values -/
def CallR (X : Cx) (f : Value) (r : List V → Hp → VK → Prop) : Prop :=
  ∀ (pins : List (Addr × Obj)) (s : Shared) (σ : St) (H : Hp) (xs : List V) (us : List Value) (Q : VK), Inv X pins σ H s → Vals xs us → r xs H Q →
    wpAny (model X.prog X.w) X.A (call f us) (EP X pins σ Q) X.xe s
/-- a value's truth -/
def TruR (X : Cx) (r : V → Hp → (Bool → Hp → Prop) → Prop) : Prop :=
  ∀ (pins : List (Addr × Obj)) (s : Shared) (σ : St) (H : Hp) (x : V) (v : Value) (Q : Bool → Hp → Prop), Inv X pins σ H s → RelV x v → r x H Q →
    wpAny (model X.prog X.w) X.A (truthy v) (TP X pins σ Q) X.xe s

def tOp (r : R2) (ta tb : TE) : TE := fun σ H Q => ta σ H fun x H1 => tb σ H1 fun y H2 => r x y H2 Q
def tUn (r : V → Hp → VK → Prop) (ta : TE) : TE := fun σ H Q => ta σ H fun x H1 => r x H1 Q
/-- ints in, under C, and a value out -/
def rI (C : Int → Int → Prop) (g : Int → Int → V) : R2 := fun x y H Q => ∃ i j, x = .int i ∧ y = .int j ∧ C i j ∧ Q (g i j) H
def rI0 (g : Int → Int → V) : R2 := fun x y H Q => ∃ i j, x = .int i ∧ y = .int j ∧ Q (g i j) H
def rU (g : Int → V) : V → Hp → VK → Prop := fun x H Q => ∃ i, x = .int i ∧ Q (g i) H

section
variable {X : Cx} {a b c : Expr} {ta tb tc : TE} {pos : Pos}

theorem binT (ha : PE X a ta) (hb : PE X b tb) {pins : List (Addr × Obj)} {s : Shared} {σ : St} {H : Hp} {R : V → V → Hp → Prop} (I : Inv X pins σ H s)
    (h : ta σ H fun x H1 => tb σ H1 fun y H2 => R x y H2) {Q : Value → Shared → Prop} {f : Value → Value → Sem Value}
    (hf : ∀ v u s2 x y H2, Inv X pins σ H2 s2 → RelV x v → RelV y u → R x y H2 → wpAny (model X.prog X.w) X.A (f v u) Q X.xe s2) :
    wpAny (model X.prog X.w) X.A (eval a X.env) (fun v s₁ => wpAny (model X.prog X.w) X.A (eval b X.env) (fun u s₂ => wpAny (model X.prog X.w) X.A (f v u) Q X.xe s₂) X.xe s₁) X.xe s := by
  refine thn (ha pins s σ H _ I h) fun v s1 ⟨x, H1, I1, r1, q1⟩ => ?_
  refine thn (hb pins s1 σ H1 _ I1 q1) fun u s2 ⟨y, H2, I2, r2, q2⟩ => ?_
  exact hf v u s2 x y H2 I2 r1 r2 q2

theorem pe_op {op : Operator} {r : R2} (ho : OpR X (binaryOp op) r) (ha : PE X a ta) (hb : PE X b tb) : PE X (.BinOp a op b pos) (tOp r ta tb) := by
  intro pins s σ H Q I h
  exact wpAny_BinOp (binT ha hb I h fun v u s2 x y H2 I2 rx ry q => ho pins s2 σ H2 x y v u Q I2 rx ry q)
theorem pe_un {op : UnaryOp} {r : V → Hp → VK → Prop} (ho : UnR X (unaryOp op) r) (ha : PE X a ta) : PE X (.UnaryOp op a pos) (tUn r ta) := by
  intro pins s σ H Q I h
  exact UnaryOp_ (thn (ha pins s σ H _ I h) fun v s1 ⟨x, H1, I1, r1, q1⟩ => ho pins s1 σ H1 x v Q I1 r1 q1)

/-! ### ints -/
theorem opI {f : Value → Value → Sem Value} {C : Int → Int → Prop} {g : Int → Int → Int}
    (rule : ∀ (i j : Int) (t u : Tok) (s : Shared) (Q : Value → Shared → Prop) (E : Value → Shared → Prop), C i j → Q (.int (g i j) s.toks) { s with toks := s.toks + 1 } → wpAny (model X.prog X.w) X.A (f (.int i t) (.int j u)) Q E s) :
    OpR X f (rI C fun i j => .int (g i j)) := by
  intro pins s σ H x y v u Q I rx ry h
  obtain ⟨i, j, rfl, rfl, hc, q⟩ := h
  obtain ⟨t, rfl⟩ := rx
  obtain ⟨t', rfl⟩ := ry
  exact rule i j t t' s _ _ hc ⟨.int (g i j), H, I.tok _, ⟨_, rfl⟩, q⟩
theorem opI0 {f : Value → Value → Sem Value} {g : Int → Int → Int}
    (rule : ∀ (i j : Int) (t u : Tok) (s : Shared) (Q : Value → Shared → Prop) (E : Value → Shared → Prop), Q (.int (g i j) s.toks) { s with toks := s.toks + 1 } → wpAny (model X.prog X.w) X.A (f (.int i t) (.int j u)) Q E s) :
    OpR X f (rI0 fun i j => .int (g i j)) := by
  intro pins s σ H x y v u Q I rx ry h
  obtain ⟨i, j, rfl, rfl, q⟩ := h
  obtain ⟨t, rfl⟩ := rx
  obtain ⟨t', rfl⟩ := ry
  exact rule i j t t' s _ _ ⟨.int (g i j), H, I.tok _, ⟨_, rfl⟩, q⟩
theorem opB0 {f : Value → Value → Sem Value} {g : Int → Int → Bool}
    (rule : ∀ (i j : Int) (t u : Tok) (s : Shared) (Q : Value → Shared → Prop) (E : Value → Shared → Prop), Q (.bool (g i j)) s → wpAny (model X.prog X.w) X.A (f (.int i t) (.int j u)) Q E s) :
    OpR X f (rI0 fun i j => .bl (g i j)) := by
  intro pins s σ H x y v u Q I rx ry h
  obtain ⟨i, j, rfl, rfl, q⟩ := h
  obtain ⟨t, rfl⟩ := rx
  obtain ⟨t', rfl⟩ := ry
  exact rule i j t t' s _ _ ⟨.bl (g i j), H, I, rfl, q⟩

def CDiv (i j : Int) : Prop := 0 < j ∧ j < 1073741824
def CPow (i j : Int) : Prop := 0 ≤ j ∧ j ≤ 1000000 ∧ i.natAbs < 2 ^ 64
def CMul (i j : Int) : Prop := (-(2 ^ 64) < i ∧ i < 2 ^ 64) ∨ (-(2 ^ 64) < j ∧ j < 2 ^ 64)
theorem CMul.ok {i j : Int} (h : CMul i j) : IntMulOk i j := by
  rcases h with ⟨h1, h2⟩ | ⟨h1, h2⟩
  · exact .of_left (intBits_le_64 h1 h2)
  · exact .of_right (intBits_le_64 h1 h2)

theorem op_add : OpR X (binaryOp .Add) (rI0 fun i j => .int (i + j)) := opI0 fun _ _ _ _ _ _ _ q => add_int q
theorem op_sub : OpR X (binaryOp .Sub) (rI0 fun i j => .int (i - j)) := opI0 fun _ _ _ _ _ _ _ q => sub_int q
theorem op_mul : OpR X (binaryOp .Mult) (rI CMul fun i j => .int (i * j)) := opI fun _ _ _ _ _ _ _ hc q => mul_int q hc.ok
/-- // by a positive divisor -/
theorem op_fdiv : OpR X (binaryOp .FloorDiv) (rI CDiv fun i j => .int (i / j)) := opI fun i j _ _ _ _ _ hc q => by
  have h1 : (0 : Int) < j := hc.1
  have h2 : j < 1073741824 := hc.2
  exact floordiv_int (by omega) (by rw [Int.fdiv_eq_ediv_of_nonneg i (by omega)]; exact q) (.inl (PyProof.noPylong_small (by omega)))
/-- % by a positive divisor of any size -/
theorem op_mod : OpR X (binaryOp .Mod) (rI (fun _ j => 0 < j) fun i j => .int (i % j)) := opI fun i j _ _ _ _ _ hc q => by
  have h1 : (0 : Int) < j := hc
  exact mod_int' (by omega) (by rw [Int.fmod_eq_emod_of_nonneg i (by omega)]; exact q)
theorem op_pow : OpR X (binaryOp .Pow) (rI CPow fun i j => .int (i ^ j.toNat)) := opI fun _ _ _ _ _ _ _ hc q => pow_int_small hc.1 hc.2.1 hc.2.2 q


theorem unI {f : Value → Sem Value} {g : Int → Int}
    (rule : ∀ (i : Int) (t : Tok) (s : Shared) (Q : Value → Shared → Prop) (E : Value → Shared → Prop), Q (.int (g i) s.toks) { s with toks := s.toks + 1 } → wpAny (model X.prog X.w) X.A (f (.int i t)) Q E s) :
    UnR X f (rU fun i => .int (g i)) := by
  intro pins s σ H x v Q I rx h
  obtain ⟨i, rfl, q⟩ := h
  obtain ⟨t, rfl⟩ := rx
  exact rule i t s _ _ ⟨.int (g i), H, I.tok _, ⟨_, rfl⟩, q⟩
theorem un_neg : UnR X (unaryOp .USub) (rU fun i => .int (-i)) := unI fun _ _ _ _ _ q => neg_int q

/-! ### bools among ints: n += (a < b) -/
end

/-! ### comparisons -/
/-- the scalars that == tells apart as data does -/
def scal : V → V → Bool
  | .non, .non => true | .non, .int _ => true | .int _, .non => true | .non, .bl _ => true | .bl _, .non => true | .non, .str _ => true | .str _, .non => true
  | .int _, .int _ => true | .bl _, .bl _ => true | .str _, .str _ => true | .byt _, .byt _ => true
  | .int _, .str _ => true | .str _, .int _ => true | .bl _, .str _ => true | .str _, .bl _ => true
  | _, _ => false
def rEq : R2 := fun x y H Q => scal x y = true ∧ Q (.bl (decide (x = y))) H
def rNe : R2 := fun x y H Q => scal x y = true ∧ Q (.bl (!decide (x = y))) H

theorem dec_int {i j : Int} : decide (V.int i = V.int j) = (i == j) := by
  rw [Bool.eq_iff_iff]
  simp
theorem dec_bl {i j : Bool} : decide (V.bl i = V.bl j) = (i == j) := by
  rw [Bool.eq_iff_iff]
  simp
theorem dec_str {i j : Str} : decide (V.str i = V.str j) = (i == j) := by
  rw [Bool.eq_iff_iff]
  simp
theorem dec_byt {i j : Array UInt8} : decide (V.byt i = V.byt j) = (i.toList == j.toList) := by
  rw [Bool.eq_iff_iff]
  cases i
  cases j
  simp

section
variable {X : Cx} {a b c : Expr} {ta tb tc : TE} {pos : Pos}
theorem fin_bl {pins : List (Addr × Obj)} {σ : St} {H : Hp} {s : Shared} {Q : VK} {k k' : Bool} (I : Inv X pins σ H s) (q : Q (.bl k) H) (e : k = k') : EP X pins σ Q (.bool k') s := by
  subst e
  exact ⟨.bl k, H, I, rfl, q⟩
theorem op_eq : OpR X (compareOp .Eq) rEq := by
  intro pins s σ H x y v u Q I rx ry h
  obtain ⟨hs, q⟩ := h
  cases x with
  | non =>
    cases rx
    cases y with
    | non => cases ry; exact PySem.EqNone.eq_none_none (fin_bl I q (by simp))
    | bl j => cases ry; exact PySem.EqNone.eq_none_bool (fin_bl I q (by simp))
    | int j => obtain ⟨t', rfl⟩ := ry; exact PySem.EqNone.eq_none_int (fin_bl I q (by simp))
    | str j => obtain ⟨t', rfl⟩ := ry; exact PySem.EqNone.eq_none_str (fin_bl I q (by simp))
    | _ => exact absurd (show false = true from hs) Bool.false_ne_true
  | bl i =>
    cases rx
    cases y with
    | non => cases ry; exact PySem.EqNone.eq_bool_none (fin_bl I q (by simp))
    | bl j => cases ry; exact eq_bool (fin_bl I q dec_bl)
    | str j => obtain ⟨t', rfl⟩ := ry; exact PySem.EqMixed.eq_bool_str (fin_bl I q (by simp))
    | _ => exact absurd (show false = true from hs) Bool.false_ne_true
  | int i =>
    obtain ⟨t, rfl⟩ := rx
    cases y with
    | non => cases ry; exact PySem.EqNone.eq_int_none (fin_bl I q (by simp))
    | int j => obtain ⟨t', rfl⟩ := ry; exact eq_int (fin_bl I q dec_int)
    | str j => obtain ⟨t', rfl⟩ := ry; exact PySem.EqMixed.eq_int_str (fin_bl I q (by simp))
    | _ => exact absurd (show false = true from hs) Bool.false_ne_true
  | str i =>
    obtain ⟨t, rfl⟩ := rx
    cases y with
    | non => cases ry; exact PySem.EqNone.eq_str_none (fin_bl I q (by simp))
    | bl j => cases ry; exact PySem.EqMixed.eq_str_bool (fin_bl I q (by simp))
    | int j => obtain ⟨t', rfl⟩ := ry; exact PySem.EqMixed.eq_str_int (fin_bl I q (by simp))
    | str j => obtain ⟨t', rfl⟩ := ry; exact eq_str (fin_bl I q dec_str)
    | _ => exact absurd (show false = true from hs) Bool.false_ne_true
  | byt i =>
    obtain ⟨t, rfl⟩ := rx
    cases y with
    | byt j => obtain ⟨t', rfl⟩ := ry; exact PySem.W.eq_bytes (fin_bl I q dec_byt)
    | _ => exact absurd (show false = true from hs) Bool.false_ne_true
  | _ => cases y <;> exact absurd (show false = true from hs) Bool.false_ne_true
theorem op_ne : OpR X (compareOp .NotEq) rNe := by
  intro pins s σ H x y v u Q I rx ry h
  obtain ⟨hs, q⟩ := h
  cases x with
  | non =>
    cases rx
    cases y with
    | non => cases ry; exact PySem.EqNone.ne_none_none (fin_bl I q (by simp))
    | bl j => cases ry; exact PySem.EqNone.ne_none_bool (fin_bl I q (by simp))
    | int j => obtain ⟨t', rfl⟩ := ry; exact PySem.EqNone.ne_none_int (fin_bl I q (by simp))
    | str j => obtain ⟨t', rfl⟩ := ry; exact PySem.EqNone.ne_none_str (fin_bl I q (by simp))
    | _ => exact absurd (show false = true from hs) Bool.false_ne_true
  | bl i =>
    cases rx
    cases y with
    | non => cases ry; exact PySem.EqNone.ne_bool_none (fin_bl I q (by simp))
    | bl j => cases ry; exact ne_bool (fin_bl I q (congrArg not dec_bl))
    | str j => obtain ⟨t', rfl⟩ := ry; exact PySem.EqMixed.ne_bool_str (fin_bl I q (by simp))
    | _ => exact absurd (show false = true from hs) Bool.false_ne_true
  | int i =>
    obtain ⟨t, rfl⟩ := rx
    cases y with
    | non => cases ry; exact PySem.EqNone.ne_int_none (fin_bl I q (by simp))
    | int j => obtain ⟨t', rfl⟩ := ry; exact ne_int (fin_bl I q (congrArg not dec_int))
    | str j => obtain ⟨t', rfl⟩ := ry; exact PySem.EqMixed.ne_int_str (fin_bl I q (by simp))
    | _ => exact absurd (show false = true from hs) Bool.false_ne_true
  | str i =>
    obtain ⟨t, rfl⟩ := rx
    cases y with
    | non => cases ry; exact PySem.EqNone.ne_str_none (fin_bl I q (by simp))
    | bl j => cases ry; exact PySem.EqMixed.ne_str_bool (fin_bl I q (by simp))
    | int j => obtain ⟨t', rfl⟩ := ry; exact PySem.EqMixed.ne_str_int (fin_bl I q (by simp))
    | str j => obtain ⟨t', rfl⟩ := ry; exact ne_str (fin_bl I q (congrArg not dec_str))
    | _ => exact absurd (show false = true from hs) Bool.false_ne_true
  | byt i =>
    obtain ⟨t, rfl⟩ := rx
    cases y with
    | byt j => obtain ⟨t', rfl⟩ := ry; exact PySem.W.ne_bytes (fin_bl I q (congrArg not dec_byt))
    | _ => exact absurd (show false = true from hs) Bool.false_ne_true
  | _ => cases y <;> exact absurd (show false = true from hs) Bool.false_ne_true

theorem op_lt : OpR X (compareOp .Lt) (rI0 fun i j => .bl (decide (i < j))) := opB0 fun _ _ _ _ _ _ _ q => lt_int q
theorem op_le : OpR X (compareOp .LtE) (rI0 fun i j => .bl (decide (i ≤ j))) := opB0 fun _ _ _ _ _ _ _ q => le_int q
theorem op_gt : OpR X (compareOp .Gt) (rI0 fun i j => .bl (decide (j < i))) := opB0 fun _ _ _ _ _ _ _ q => gt_int q
theorem op_ge : OpR X (compareOp .GtE) (rI0 fun i j => .bl (decide (j ≤ i))) := opB0 fun _ _ _ _ _ _ _ q => ge_int q

/-- is None, is not None: the right side a value none -/
theorem op_isN : OpR X (compareOp .Is) (fun x y H Q => y = .non ∧ Q (.bl (decide (x = .non))) H) := by
  intro pins s σ H x y v u Q I rx ry h
  obtain ⟨rfl, q⟩ := h
  cases ry
  refine is_none_gen (fin_bl I q ?_)
  cases x <;> first
    | (cases rx; rfl)
    | (obtain ⟨t, rfl⟩ := rx; rfl)
theorem op_notN : OpR X (compareOp .IsNot) (fun x y H Q => y = .non ∧ Q (.bl (!decide (x = .non))) H) := by
  intro pins s σ H x y v u Q I rx ry h
  obtain ⟨rfl, q⟩ := h
  cases ry
  refine isnot_none_gen (fin_bl I q ?_)
  cases x <;> first
    | (cases rx; rfl)
    | (obtain ⟨t, rfl⟩ := rx; rfl)



theorem nomark (b : Expr) {op : CmpOp} (h : op ≠ .In := by decide) (h2 : op ≠ .NotIn := by decide) : behindInMarks op b = false := by
  have e1 : (op == CmpOp.In) = false := by cases op <;> first | rfl | exact absurd rfl h
  have e2 : (op == CmpOp.NotIn) = false := by cases op <;> first | rfl | exact absurd rfl h2
  cases b <;> simp [behindInMarks, e1, e2]
/-- a comparison as a value; hm: nomark b, or (for in, not in) by with_unfolding_all rfl -/
theorem pe_cmpR {op : CmpOp} {r : R2} (ho : OpR X (compareOp op) r) (ha : PE X a ta) (hb : PE X b tb) (hm : behindInMarks op b = false) : PE X (.Compare a [op] [b] pos) (tOp r ta tb) := by
  intro pins s σ H Q I h
  exact wpAny_Compare1 (binT ha hb I h fun v u s2 x y H2 I2 rx ry q => ho pins s2 σ H2 x y v u Q I2 rx ry q) hm
/-- a reading of a value as a test -/
def tTest (t : TE) : TT := fun σ H Q => t σ H fun x H' => ∃ k, x = .bl k ∧ Q k H'
theorem pt_cmpR {op : CmpOp} {r : R2} (ho : OpR X (compareOp op) r) (ha : PE X a ta) (hb : PE X b tb) (hm : behindInMarks op b = false) : PT X (.Compare a [op] [b] pos) (tTest (tOp r ta tb)) := by
  intro pins s σ H Q I h
  refine wpAny_isTrue_Compare1 (thn (ha pins s σ H _ I h) fun v s1 ⟨x, H1, I1, r1, q1⟩ => thn (hb pins s1 σ H1 _ I1 q1) fun u s2 ⟨y, H2, I2, r2, q2⟩ =>
    thn (ho pins s2 σ H2 x y v u _ I2 r1 r2 q2) fun c s3 ⟨z, H3, I3, r3, k, e, q3⟩ => ?_) hm
  subst e
  cases r3
  exact wpAny_truthy_bool ⟨H3, I3, q3⟩
/-- a op1 b op2 c -/
def tChain (r r' : R2) (ta tb tc : TE) : TE := fun σ H Q => ta σ H fun x H1 => tb σ H1 fun y H2 => r x y H2 fun z H3 => ∃ k, z = .bl k ∧
  (if k = true then tc σ H3 fun w' H4 => r' y w' H4 Q else Q (.bl false) H3)
theorem pe_chain {op op' : CmpOp} {r r' : R2} (ho : OpR X (compareOp op) r) (ho' : OpR X (compareOp op') r') (ha : PE X a ta) (hb : PE X b tb) (hc : PE X c tc)
    (hm : lastMarks [op, op'] [b, c] = false := by with_unfolding_all rfl) : PE X (.Compare a [op, op'] [b, c] pos) (tChain r r' ta tb tc) := by
  intro pins s σ H Q I h
  refine Compare_chain (thn (ha pins s σ H _ I h) fun v s1 ⟨x, H1, I1, r1, q1⟩ => chain_link (thn (hb pins s1 σ H1 _ I1 q1) fun u s2 ⟨y, H2, I2, r2, q2⟩ =>
    thn (ho pins s2 σ H2 x y v u _ I2 r1 r2 q2) fun d s3 ⟨z, H3, I3, r3, k, e, q3⟩ => ?_)) hm
  subst e
  cases r3
  refine wpAny_truthy_bool ?_
  cases k with
  | false => exact ite_ff ⟨.bl false, H3, I3, rfl, q3⟩
  | true => exact ite_tt (chain_last (thn (hc pins s3 σ H3 _ I3 q3) fun w' s4 ⟨z', H4, I4, r4, q4⟩ => ho' pins s4 σ H4 y z' u w' Q I4 r2 r4 q4))

/-! ### truth -/
/-- a value's truth by the abstract heap -/
def TruV (K : PySem.W.Frag) (x : V) (H : Hp) (k : Bool) : Prop :=
  match x with
  | .non => k = false
  | .bl b => k = b
  | .int i => k = (i != 0)
  | .str y => y.length ≤ sizeLine ∧ k = ((y.length : Int) != 0)
  | .byt y => y.size ≤ sizeLine ∧ k = ((y.size : Int) != 0)
  | .ref p => (∃ xs, SqL K H p xs ∧ k = !xs.isEmpty) ∨ (∃ xs, SqT K H p xs ∧ k = !xs.isEmpty) ∨ ∃ kvs, H p = some (.dK kvs) ∧ k = !kvs.isEmpty
  | _ => False
theorem isEmpty_kv {κ : Type} {kvs : List (κ × V)} {vs : List (κ × Value)} (r : KV kvs vs) : (!vs.isEmpty) = !kvs.isEmpty := by
  cases r <;> rfl
theorem isEmpty_of {xs : List V} {its : List Value} (r : Vals xs its) : (!its.toArray.isEmpty) = !xs.isEmpty := by
  cases r <;> simp
theorem line63 : (sizeLine : Nat) < 2 ^ 63 := by rw [sizeLine_eq]; decide
theorem tru_ok : TruR X (fun x H Q => ∃ k, TruV X.K x H k ∧ Q k H) := by
  intro pins s σ H x v Q I rx h
  obtain ⟨k, e, q⟩ := h
  have hl := line63
  have hs : sizeLine = 16777216 := sizeLine_eq
  cases x with
  | non =>
    cases rx
    have e' : k = false := e
    subst e'
    exact truthy_none ⟨H, I, q⟩
  | bl b =>
    cases rx
    have e' : k = b := e
    subst e'
    exact wpAny_truthy_bool ⟨H, I, q⟩
  | int i =>
    obtain ⟨t, rfl⟩ := rx
    have e' : k = (i != 0) := e
    subst e'
    exact PySem.P.truthy_int ⟨H, I, q⟩
  | str y =>
    obtain ⟨t, rfl⟩ := rx
    obtain ⟨hy, e'⟩ : y.length ≤ sizeLine ∧ k = ((y.length : Int) != 0) := e
    subst e'
    exact PySem.P.truthy_str (by omega) ⟨H, I.tok _, q⟩
  | byt y =>
    obtain ⟨t, rfl⟩ := rx
    obtain ⟨hy, e'⟩ : y.size ≤ sizeLine ∧ k = ((y.size : Int) != 0) := e
    subst e'
    exact PySem.W.truthy_bytes (by omega) ⟨H, I.tok _, q⟩
  | ref p =>
    cases rx
    have e' : (∃ xs, SqL X.K H p xs ∧ k = !xs.isEmpty) ∨ (∃ xs, SqT X.K H p xs ∧ k = !xs.isEmpty) ∨ ∃ kvs, H p = some (.dK kvs) ∧ k = !kvs.isEmpty := e
    rcases e' with ⟨xs, hx, e'⟩ | ⟨xs, hx, e'⟩ | ⟨kvs, hx, e'⟩
    · subst e'
      obtain ⟨its, r, pl, hz⟩ := I.list hx
      have hlen := r.length
      exact wpAny_truthy_list pl.isList (by simp only [List.size_toArray]; omega) ⟨H, I.tok _, by rw [isEmpty_of r]; exact q⟩
    · subst e'
      obtain ⟨its, r, pl, hz⟩ := I.tuple hx
      have hlen := r.length
      exact truthy_tuple pl (by simp only [List.size_toArray]; omega) ⟨H, I.tok _, by rw [isEmpty_of r]; exact q⟩
    · subst e'
      obtain ⟨hz, hS, vs, r, m⟩ : kvs.length ≤ sizeLine ∧ (p == sysModules) = false ∧ ∃ vs, KV kvs vs ∧ s.heap.DictOf (mixKind X.prog X.w) p vs := I.hok p _ hx
      have hlen : kvs.length = vs.length := Paired.length r
      exact wpAny_truthy_dict hS m (by omega) ⟨H, I.tok _, by rw [isEmpty_kv r]; exact q⟩
  | _ => exact (show False from e).elim
/-- any expression whose test is its value's truth (a name, a call, a subscript, a field ..: he by fun _ => rfl) -/
theorem pt_truth (ha : PE X a ta) (he : ∀ whole, isTrue a X.env whole = (do let v ← whole; standAt a.pos; holding [v] (truthy v))) :
    PT X a (fun σ H Q => ta σ H fun x H' => ∃ k, TruV X.K x H' k ∧ Q k H') := by
  intro pins s σ H Q I h
  exact isTrue_plain (thn (ha pins s σ H _ I h) fun v s1 ⟨x, H1, I1, r1, q1⟩ => tru_ok pins s1 σ H1 x v Q I1 r1 q1) (he _)

/-! ### strs and bytes -/


/-! ### scalar builtins, by CallR -/
theorem vals1 {x : V} {us : List Value} (r : Vals [x] us) : ∃ u, us = [u] ∧ RelV x u := by
  cases r with
  | cons r1 r2 => cases r2; exact ⟨_, rfl, r1⟩
theorem vals2 {x y : V} {us : List Value} (r : Vals [x, y] us) : ∃ u w', us = [u, w'] ∧ RelV x u ∧ RelV y w' := by
  cases r with
  | cons r1 r2 =>
    cases r2 with
    | cons r3 r4 => cases r4; exact ⟨_, _, rfl, r1, r3⟩
theorem call_max2 (hc : X.calm = true) : CallR X (.builtin "max") (fun xs H Q => ∃ i j, xs = [.int i, .int j] ∧ Q (.int (if j > i then j else i)) H) := by
  intro pins s σ H xs us Q I r h
  obtain ⟨i, j, rfl, q⟩ := h
  obtain ⟨u, w', rfl, ⟨t, rfl⟩, ⟨t', rfl⟩⟩ := vals2 r
  refine max_two_ints (I.ok.hd hc) fun h' tk k => ⟨_, H, I.kept k, ?_, q⟩
  by_cases hj : j > i
  · rw [if_pos hj, if_pos hj]; exact ⟨_, rfl⟩
  · rw [if_neg hj, if_neg hj]; exact ⟨_, rfl⟩
theorem call_min2 (hc : X.calm = true) : CallR X (.builtin "min") (fun xs H Q => ∃ i j, xs = [.int i, .int j] ∧ Q (.int (if j < i then j else i)) H) := by
  intro pins s σ H xs us Q I r h
  obtain ⟨i, j, rfl, q⟩ := h
  obtain ⟨u, w', rfl, ⟨t, rfl⟩, ⟨t', rfl⟩⟩ := vals2 r
  refine min_two_ints (I.ok.hd hc) fun h' tk k => ⟨_, H, I.kept k, ?_, q⟩
  by_cases hj : j < i
  · rw [if_pos hj, if_pos hj]; exact ⟨_, rfl⟩
  · rw [if_neg hj, if_neg hj]; exact ⟨_, rfl⟩
theorem call_int1 : CallR X (.type "int") (fun xs H Q => (∃ i, xs = [.int i] ∧ Q (.int i) H) ∨ ∃ k, xs = [.bl k] ∧ Q (.int (if k then 1 else 0)) H) := by
  intro pins s σ H xs us Q I r h
  rcases h with ⟨i, rfl, q⟩ | ⟨k, rfl, q⟩
  · obtain ⟨u, rfl, t, rfl⟩ := vals1 r
    exact call_int_int ⟨.int i, H, I, ⟨_, rfl⟩, q⟩
  · obtain ⟨u, rfl, r1⟩ := vals1 r
    cases r1
    exact call_int_bool ⟨.int (if k then 1 else 0), H, I.tok _, ⟨_, rfl⟩, q⟩
end
end L2

namespace L2
open PySem PySem.Spec PyProof.Rows

/-! ### an instance, its attributes a map -/
structure ObjM (h : Heap) (x dx C : Addr) (mA : Str → Option Value) : Prop where
  obj : h.get? x = some (PySem.W.instObj C dx)
  ns : h.Ns1 dx mA
  ne : dx ≠ x

theorem lookIn_ns {h : Heap} {dx : Addr} {mA : Str → Option Value} (n : h.Ns1 dx mA) : ∃ od, h.get? dx = some od ∧ ∀ name, PySem.W.lookIn name od = some (mA name) := by
  obtain ⟨o, es, ep, ho, hd, hk, _, hm⟩ := n
  refine ⟨o, ho, fun name => ?_⟩
  have e := hm name
  unfold nsFind findBy at e
  rw [← Array.find?_toList] at e
  unfold PySem.W.lookIn
  rw [hd]
  dsimp only
  split
  · rename_i y q
    rw [q] at e
    exact congrArg some e
  · rename_i q
    rw [q] at e
    have a : es.toList.any (·.refKey) = false := by
      rw [List.any_eq_false]
      intro y hy
      obtain ⟨z, t, hkey⟩ := hk y (Array.mem_toList_iff.mp hy)
      simp [DictEntry.refKey, hkey]
    have a' : ¬ es.toList.any (·.refKey) = true := by rw [a]; exact Bool.false_ne_true
    rw [if_neg a']
    exact congrArg some e

theorem ObjM.look {h : Heap} {x dx C : Addr} {mA : Str → Option Value} (I : ObjM h x dx C mA) : ∃ od, PySem.W.InstAt h x (PySem.W.instObj C dx) C (some od) ∧ ∀ name, PySem.W.lookIn name od = some (mA name) :=
  let ⟨od, ho, hl⟩ := lookIn_ns I.ns
  ⟨od, ⟨I.obj, rfl, rfl, ho⟩, hl⟩

section
variable {prog : Program} {w : World} {A : Around} {E : Value → Shared → Prop} {s : Shared} {K : PySem.W.Frag} {x dx C f : Addr} {mA : Str → Option Value} {name : Str} {v : Value}

theorem get_map {expr : Bool} {Q : Value → Shared → Prop} (X : K.In s.heap) (I : ObjM s.heap x dx C mA) (hg : PySem.W.plainGet K C name = true) (hh : PySem.W.hasDictIn K C = true)
    (ha : PySem.W.findIn K (.ref C) name = some none) (hv : mA name = some v) (hv' : PySem.W.handedIn v = true) (h : Q v { s with toks := s.toks + 1 }) :
    wpAny (model prog w) A (getAttr (.ref x) name expr) Q E s := by
  obtain ⟨od, J, hl⟩ := I.look
  exact PySem.W.get_value X J (PySem.W.plainGet_of hg).1 (PySem.W.findObj_own hh ha rfl (by rw [hl, hv])) hv' h


theorem get_meth {pl : Sem Bool} {Q : Value × List Value → Shared → Prop} (X : K.In s.heap) (I : ObjM s.heap x dx C mA) (hg : PySem.W.plainGet K C name = true)
    (hf : PySem.W.findIn K (.ref C) name = some (some (.ref f))) (ht : PySem.W.isFn K (.ref f) = true) (hv : mA name = none) (h : Q (.ref f, [.ref x]) s) :
    wpAny (model prog w) A (getMethod (.ref x) name pl) Q E s := by
  obtain ⟨od, J, hl⟩ := I.look
  exact PySem.W.method_fn X J (PySem.W.plainGet_of hg).1 (PySem.W.plainGet_of hg).2 hf (beq_iff_eq.mp ht) (by show (PySem.W.lookIn name od).map (·.isSome) = some false; rw [hl, hv]; rfl) h

theorem set_map {ns : List Str} {Q : Unit → Shared → Prop} (X : K.In s.heap) (I : ObjM s.heap x dx C mA)
    (hs : PySem.W.findIn K (.ref C) "__setattr__" = some (some (.builtin "object.__setattr__"))) (hp : PySem.W.plainOver K C = true) (ht : PySem.W.takerIn K C name = some none) (hh : PySem.W.hasDictIn K C = true)
    (hw : PySem.Within mA ns) (hsz : ns.length ≤ sizeLine)
    (h : ∀ h', ObjM h' x dx C (fun y => if y = name then some v else mA y) → Heap.SameBut dx s.heap h' → Q () { s with heap := h', toks := s.toks + 2 }) :
    wpAny (model prog w) A (setAttr (.ref x) name v) Q E s := by
  obtain ⟨od, J, hl⟩ := I.look
  refine PySem.W.set_plain X J hs (PySem.W.osa_open (s := { s with toks := s.toks + 1 }) (r := none) X J hp ht fun b => ?_)
  obtain ⟨cd, hc, hd'⟩ := PySem.W.any_some hh
  have hx : s.heap.get? x = some ⟨.ref C, some dx, .plain, #[]⟩ := I.obj
  refine wpAny_bind (wpAny_pure (wpAny_bind (wpAny_bind (wpAny_loadPart hx (wpAny_bind (PySem.W.Looks.here (s := { s with toks := s.toks + 1 }) (PySem.W.looks_clsIn X hc) ?_))))))
  rw [hd']
  refine wpAny_pure (a := some dx) (wpAny_bind (wpAny_pure (wpAny_bind ?_)))
  refine wpAny_nsSet1 (s := { s with toks := s.toks + 1 }) I.ns fun h' hn2 hs2 => ?_
  obtain ⟨oD, esD, epD, hoD, hdD, hcD⟩ := hn2.count (PySem.Within.cons name v hw)
  refine wpAny_bind (wpAny_lookBehind hoD (by rw [hdD]; exact pastItsLine_dict (Nat.le_trans hcD (by rw [List.length_cons]; omega))) ?_)
  exact wpAny_pure (h _ ⟨(hs2.2 _ (Ne.symm I.ne)).trans I.obj, hn2, I.ne⟩ hs2)

/-- C(..): the dict at the heap's end, the instance behind it; then its __init__ -/
theorem make_map {R : Result → Shared → Prop} {vs : List Value} {kw : List (Str × Value)} (X : K.In s.heap) (hm : PySem.W.makesIn K C = true)
    (hi : PySem.W.findIn K (.ref C) "__init__" = some (some (.ref f))) (hf : PySem.W.typeIn K (.ref f) = some (.type "function"))
    (h : codeAny (model prog w) (A.under (.builtin "type.__call__" ⟨.ref C :: vs, kw⟩)) (.call (.ref f) ⟨.ref (s.heap.objs.size + 1) :: vs, kw⟩) (PySem.W.InitBack (s.heap.objs.size + 1) R)
      { s with heap := (s.heap.push PySem.W.emptyDict).push (PySem.W.instObj C s.heap.objs.size) }) :
    codeAny (model prog w) A (.call (.ref C) ⟨vs, kw⟩) R s := by
  obtain ⟨hh, g, d, t, os⟩ := s
  exact PySem.W.make_core (PySem.W.makes_of X hm) (PySem.W.looks_findIn X hi) (fun self => PySem.W.bind_fn X self hf) (.inl rfl) h
/-- C() where there is no __init__ but object's -/
theorem make_map0 {R : Result → Shared → Prop} (X : K.In s.heap) (hm : PySem.W.makesIn K C = true)
    (hi : PySem.W.findIn K (.ref C) "__init__" = some (some (.builtin "object.__init__")))
    (hb : ∀ self, PySem.W.Looks (model prog w) s.heap (bindSpecial (.builtin "object.__init__") self) (.builtin "object.__init__", [self]))
    (h : codeAny (model prog w) (A.under (.builtin "type.__call__" ⟨[.ref C], []⟩)) (.call (.builtin "object.__init__") ⟨[.ref (s.heap.objs.size + 1)], []⟩) (PySem.W.InitBack (s.heap.objs.size + 1) R)
      { s with heap := (s.heap.push PySem.W.emptyDict).push (PySem.W.instObj C s.heap.objs.size) }) :
    codeAny (model prog w) A (.call (.ref C) ⟨[], []⟩) R s := by
  obtain ⟨hh, g, d, t, os⟩ := s
  exact PySem.W.make_core (PySem.W.makes_of X hm) (PySem.W.looks_findIn X hi) hb (.inr ⟨rfl, rfl⟩) h
end

/-! ### the attributes as a list of pairs -/
def putF (f : Str) (v : V) : List (Str × V) → List (Str × V)
  | [] => [(f, v)]
  | (g, x) :: r => if g = f then (g, v) :: r else (g, x) :: putF f v r
theorem lookup_putF (f g : Str) (v : V) : ∀ fs : List (Str × V), (putF f v fs).lookup g = if g = f then some v else fs.lookup g
  | [] => by
    show List.lookup g [(f, v)] = _
    by_cases h : g = f
    · have hb : (g == f) = true := beq_iff_eq.mpr h
      simp only [List.lookup, hb, if_pos h]
    · have hb : (g == f) = false := beq_eq_false_iff_ne.mpr h
      simp only [List.lookup, hb, if_neg h]
  | (k, x) :: r => by
    have ih := lookup_putF f g v r
    rw [show putF f v ((k, x) :: r) = (if k = f then (k, v) :: r else (k, x) :: putF f v r) from rfl]
    by_cases hk : k = f
    · rw [if_pos hk]
      by_cases h : g = k
      · have hb : (g == k) = true := beq_iff_eq.mpr h
        simp only [List.lookup, hb, if_pos (h.trans hk)]
      · have hb : (g == k) = false := beq_eq_false_iff_ne.mpr h
        simp only [List.lookup, hb, if_neg (fun e : g = f => h (e.trans hk.symm))]
    · rw [if_neg hk]
      by_cases h : g = k
      · have hb : (g == k) = true := beq_iff_eq.mpr h
        simp only [List.lookup, hb, if_neg (fun e : g = f => hk (h.symm.trans e))]
      · have hb : (g == k) = false := beq_eq_false_iff_ne.mpr h
        simp only [List.lookup, hb]
        exact ih
theorem keys_putF (f : Str) (v : V) : ∀ fs : List (Str × V), f ∈ (putF f v fs).map (·.1) ∧ ∀ g, g ∈ fs.map (·.1) → g ∈ (putF f v fs).map (·.1)
  | [] => ⟨by simp [putF], fun g h => by simp at h⟩
  | (k, x) :: r => by
    obtain ⟨i1, i2⟩ := keys_putF f v r
    rw [show putF f v ((k, x) :: r) = (if k = f then (k, v) :: r else (k, x) :: putF f v r) from rfl]
    by_cases hk : k = f
    · rw [if_pos hk]
      subst hk
      exact ⟨by simp, fun g h => by simpa using h⟩
    · rw [if_neg hk]
      refine ⟨?_, fun g h => ?_⟩
      · rw [List.map_cons]
        exact List.mem_cons_of_mem _ i1
      · rw [List.map_cons] at h ⊢
        rcases List.mem_cons.mp h with e | e
        · exact List.mem_cons.mpr (.inl e)
        · exact List.mem_cons_of_mem _ (i2 g e)
theorem length_putF (f : Str) (v : V) : ∀ fs : List (Str × V), (putF f v fs).length ≤ fs.length + 1
  | [] => by simp [putF]
  | (k, x) :: r => by
    have ih := length_putF f v r
    rw [show putF f v ((k, x) :: r) = (if k = f then (k, v) :: r else (k, x) :: putF f v r) from rfl]
    by_cases hk : k = f
    · rw [if_pos hk, List.length_cons, List.length_cons]; omega
    · rw [if_neg hk, List.length_cons, List.length_cons]; omega

theorem RelO.some_of {v : V} {o : Option Value} (r : RelO (some v) o) : ∃ u, o = some u ∧ RelV v u := by
  cases o with
  | none => exact (show False from r).elim
  | some u => exact ⟨u, rfl, r⟩
theorem RelO.none_of {o : Option Value} (r : RelO none o) : o = none := by
  cases o with
  | none => rfl
  | some u => exact (show False from r).elim
theorem handed_of {v : V} {u : Value} (r : RelV v u) : PySem.W.handedIn u = true := by
  cases v with
  | non => cases (show u = Value.none from r); rfl
  | bl b => cases (show u = Value.bool b from r); rfl
  | int i => obtain ⟨t, e⟩ := (show ∃ t, u = Value.int i t from r); cases e; rfl
  | str x => obtain ⟨t, e⟩ := (show ∃ t, u = Value.str x t from r); cases e; rfl
  | byt b => obtain ⟨t, e⟩ := (show ∃ t, u = Value.bytes b t from r); cases e; rfl
  | flt b => obtain ⟨t, e⟩ := (show ∃ t, u = Value.float b t from r); cases e; rfl
  | ref a => cases (show u = Value.ref a from r); rfl
  | ty n => cases (show u = Value.type n from r); rfl

section
variable {P : Program} {w : World} {H H' : Hp} {h h' : Heap} {a C dx : Addr} {fs fs' : List (Str × V)}
theorem ins_get (hok : HOk P w H h) (e : H a = some (.ins C dx fs)) : ∃ mA, ObjM h a dx C mA ∧ (∀ f, RelO (fs.lookup f) (mA f)) ∧ PySem.Within mA (fs.map (·.1)) ∧ fs.length ≤ 1000 ∧ H dx = some (.own a) := by
  obtain ⟨d, z, ne, ob, mA, n, r, q⟩ := (show ObjOk P w H h a (.ins C dx fs) from hok a _ e)
  exact ⟨mA, ⟨ob, n, ne⟩, r, q, z, d⟩
end

/-! ### what of the text a class must have -/
structure Cls (K : PySem.W.Frag) (C : Addr) : Prop where
  pg : PySem.W.plainGet K C Str.empty = true
  hd : PySem.W.hasDictIn K C = true
  po : PySem.W.plainOver K C = true
  sa : PySem.W.findIn K (.ref C) "__setattr__" = some (some (.builtin "object.__setattr__"))
theorem Cls.get {K : PySem.W.Frag} {C : Addr} (c : Cls K C) (f : Str) : PySem.W.plainGet K C f = true := c.pg
/-- no class of it has the name -/
def NoAttr (K : PySem.W.Frag) (C : Addr) (f : Str) : Prop := PySem.W.findIn K (.ref C) f = some none
theorem NoAttr.taker {K : PySem.W.Frag} {C : Addr} {f : Str} (n : NoAttr K C f) : PySem.W.takerIn K C f = some none := by
  unfold PySem.W.takerIn
  rw [show PySem.W.findIn K (.ref C) f = some none from n]
  rfl
/-- a method: a plain def of the class or of one above it -/
structure Meth (K : PySem.W.Frag) (C : Addr) (m : Str) (f : Addr) : Prop where
  at_ : PySem.W.findIn K (.ref C) m = some (some (.ref f))
  fn : PySem.W.isFn K (.ref f) = true
  kp : PySem.W.keepIn K (.ref f) = true

section
variable {X : Cx} {pins : List (Addr × Obj)} {σ : St} {H : Hp} {s : Shared} {a C dx : Addr} {fs : List (Str × V)} {f : Str} {v : V} {A : Around} {E : Value → Shared → Prop}

theorem getattr_ok {b : Bool} {Q : Value → Shared → Prop} (I : Inv X pins σ H s) (e : H a = some (.ins C dx fs)) (c : Cls X.K C) (n : NoAttr X.K C f) (l : fs.lookup f = some v)
    (h : ∀ u s', Inv X pins σ H s' → RelV v u → Q u s') : wpAny (model X.prog X.w) A (getAttr (.ref a) f b) Q E s := by
  obtain ⟨mA, O, r, _, _, _⟩ := ins_get I.hok e
  obtain ⟨u, hu, ru⟩ := RelO.some_of (v := v) (o := mA f) (by rw [← l]; exact r f)
  exact get_map I.kIn O (c.get f) c.hd n hu (handed_of ru) (h u _ (I.tok _) ru)


theorem getmeth_ok {m : Str} {g : Addr} {pl : Sem Bool} {Q : Value × List Value → Shared → Prop} (I : Inv X pins σ H s) (e : H a = some (.ins C dx fs)) (c : Cls X.K C) (k : Meth X.K C m g) (l : fs.lookup m = none)
    (h : Q (.ref g, [.ref a]) s) : wpAny (model X.prog X.w) A (getMethod (.ref a) m pl) Q E s := by
  obtain ⟨mA, O, r, _, _, _⟩ := ins_get I.hok e
  have hn : mA m = none := RelO.none_of (by rw [← l]; exact r m)
  exact get_meth I.kIn O (c.get m) k.at_ k.fn hn h

theorem setattr_ok {y : V} {u : Value} {Q : Unit → Shared → Prop} (I : Inv X pins σ H s) (e : H a = some (.ins C dx fs)) (c : Cls X.K C) (n : NoAttr X.K C f) (hl : fs.length < 1000) (ry : RelV y u)
    (h : ∀ s', Inv X pins σ (upd H a (.ins C dx (putF f y fs))) s' → Q () s') : wpAny (model X.prog X.w) A (setAttr (.ref a) f u) Q E s := by
  obtain ⟨mA, O, r, wi, _, ho⟩ := ins_get I.hok e
  have hz : (fs.map (·.1)).length ≤ sizeLine := by rw [List.length_map, sizeLine_eq]; omega
  refine set_map I.kIn O c.sa c.po n.taker c.hd wi hz fun h' O' sb => h _ ?_
  have hd : ∃ o, h'.get? dx = some o := let ⟨o, _, _, e', _⟩ := O'.ns; ⟨o, e'⟩
  refine I.write (x := a) (e := dx) (by rw [e]; exact True.intro) (.inr ho) (fun b q hb z => (sb.2 b hb).trans z) hd ?_
  refine ⟨by rw [upd_ne O.ne]; exact ho, ?_, O.ne, O'.obj, _, O'.ns, fun g => ?_, fun g hg => ?_⟩
  · have := length_putF f y fs; omega
  · show RelO ((putF f y fs).lookup g) (if g = f then some u else mA g)
    rw [lookup_putF]
    by_cases q : g = f
    · rw [if_pos q, if_pos q]; exact ry
    · rw [if_neg q, if_neg q]; exact r g
  · by_cases q : g = f
    · rw [q]; exact (keys_putF f y fs).1
    · refine (keys_putF f y fs).2 g (wi g fun z => hg ?_)
      show (if g = f then some u else mA g) = none
      rw [if_neg q]; exact z

/-- a new instance, tracked, without attributes -/
theorem Inv.made (I : Inv X pins σ H s) : Inv X pins σ (upd (upd H s.heap.objs.size (.own (s.heap.objs.size + 1))) (s.heap.objs.size + 1) (.ins C s.heap.objs.size []))
    { s with heap := (s.heap.push PySem.W.emptyDict).push (PySem.W.instObj C s.heap.objs.size) } := by
  have e1 : (s.heap.push PySem.W.emptyDict).get? s.heap.objs.size = some PySem.W.emptyDict := Heap.get?_push_size s.heap rfl
  have e2 : ((s.heap.push PySem.W.emptyDict).push (PySem.W.instObj C s.heap.objs.size)).get? (s.heap.objs.size + 1) = some (PySem.W.instObj C s.heap.objs.size) := by
    have := Heap.get?_push_size (s.heap.push PySem.W.emptyDict) (o := PySem.W.instObj C s.heap.objs.size) rfl
    rwa [Heap.size_push] at this
  have e3 : (s.heap.push PySem.W.emptyDict).Ns s.heap.objs.size (fun _ => none) := ⟨PySem.W.emptyDict, #[], _, e1, rfl, (fun e he => absurd he (by simp)), fun _ => rfl⟩
  have I1 := I.laid (a := s.heap.objs.size) (o := .own (s.heap.objs.size + 1)) (h' := s.heap.push PySem.W.emptyDict) (t' := s.toks) (fun b u q => Heap.get?_push_of_some _ q) (Nat.le_refl _) ⟨_, e1⟩
  refine I1.laid (a := s.heap.objs.size + 1) (o := .ins C s.heap.objs.size []) (t' := s.toks) (fun b u q => Heap.get?_push_of_some _ q) (Nat.le_of_eq (Heap.size_push _ _)) ?_
  have ne : s.heap.objs.size ≠ s.heap.objs.size + 1 := Nat.ne_of_lt (Nat.lt_succ_self _)
  refine ⟨by rw [upd_ne ne, upd_same], Nat.zero_le _, ne, e2, fun _ => none, (Heap.Ns1.of_empty e3).at fun o q => Heap.get?_push_of_some _ q, fun _ => True.intro, fun y hy => absurd rfl hy⟩

/-- e.f where nothing but the object is asked: through attributeBase (super) and the last hold -/
theorem attr_of {prog : Program} {w : World} {env : Env} {e : Expr} {f : Str} {pos : Pos} {s : Shared} {Q : Value → Shared → Prop} (hb : attributeBase e f env (eval e env) = eval e env)
    (h : wpAny (model prog w) A (eval e env) (fun o s₁ => wpAny (model prog w) A (getAttr o f true) Q E s₁) E s) : wpAny (model prog w) A (eval (.Attribute e f pos) env) Q E s :=
  Attribute_any_ h (by rw [arm_eval_Attribute, hb])
end

/-! ### readings and rules -/
/-- e.f, an attribute of the instance -/
def tFld (K : PySem.W.Frag) (ta : TE) (f : Str) : TE := fun σ H Q => ta σ H fun x H1 => ∃ a C dx fs v, x = .ref a ∧ H1 a = some (.ins C dx fs) ∧ Cls K C ∧ NoAttr K C f ∧ fs.lookup f = some v ∧ Q v H1
/-- e.f = value -/
def sFld (K : PySem.W.Frag) (ta tv : TE) (f : Str) : TS := fun D σ H => tv σ H fun y H1 => ta σ H1 fun x H2 => ∃ a C dx fs, x = .ref a ∧ H2 a = some (.ins C dx fs) ∧ Cls K C ∧ NoAttr K C f ∧ fs.length < 1000 ∧
  D.nx σ (upd H2 a (.ins C dx (putF f y fs)))

section
variable {X : Cx} {o e value : Expr} {f : Str} {pos pos' tpos : Pos} {ta tv : TE}
theorem pe_fld (he : PE X e ta) (hb : attributeBase e f X.env (eval e X.env) = eval e X.env) : PE X (.Attribute e f pos) (tFld X.K ta f) := by
  intro pins s σ H Q I h
  refine attr_of hb (thn (he pins s σ H _ I h) fun u s1 ⟨x, H1, I1, rx, a, C, dx, fs, v, ex, ea, c, n, l, q⟩ => ?_)
  subst ex
  obtain rfl : u = Value.ref a := rx
  exact getattr_ok I1 ea c n l fun u' s2 I2 ru => ⟨v, H1, I2, ru, q⟩
theorem ps_fld (ha : PE X o ta) (hv : PE X value tv) (hs : swapsWith value (some (.Attribute o f pos')) pos.line X.env = pure false) : PS X (.Assign [.Attribute o f pos'] value pos) (sFld X.K ta tv f) := by
  intro pins s σ H D I h
  refine plainObj_wpAny_Assign_Attribute (thn (hv pins s σ H _ I h) fun u s1 ⟨y, H1, I1, ry, q⟩ => thn (ha pins s1 σ H1 _ I1 q) fun ov s2 ⟨x, H2, I2, rx, a, C, dx, fs, ex, ea, c, n, l, q2⟩ => ?_) hs
  subst ex
  obtain rfl : ov = Value.ref a := rx
  exact setattr_ok I2 ea c n l ry fun s3 I3 => ⟨σ, _, I3, q2⟩

/-- what is between an instance and its method: the tree of a method call -/
theorem methcall_of {pl : Sem Bool} {m : Str} {apos : Pos} {args : List Expr} {pins : List (Addr × Obj)} {s : Shared} {σ : St} {H : Hp} {Q : Value → Shared → Prop} {te : TE} (he : PE X e te) (I : Inv X pins σ H s)
    (h : te σ H fun x H1 => ∃ a C dx fs g, x = .ref a ∧ H1 a = some (.ins C dx fs) ∧ Cls X.K C ∧ Meth X.K C m g ∧ fs.lookup m = none ∧
      ∀ s1, Inv X pins σ H1 s1 → wpAny (model X.prog X.w) X.A (callWith pos (.ref g) [.ref a] (backTo pos (starEach args X.env)) (backToKw pos (keywordEach [] X.env))) Q X.xe s1)
    (ht : eval (.Call (.Attribute e m apos) args [] pos) X.env = (do
      let ov ← eval e X.env
      standAt apos.atName
      let (f, first) ← holding [ov] (getMethod ov m pl)
      callWith pos f first (backTo pos (starEach args X.env)) (backToKw pos (keywordEach [] X.env)))) :
    wpAny (model X.prog X.w) X.A (eval (.Call (.Attribute e m apos) args [] pos) X.env) Q X.xe s := by
  refine PySem.W.methodCall_KW (pl := pl) (thn (he pins s σ H _ I h) fun u s1 ⟨x, H1, I1, rx, a, C, dx, fs, g, ex, ea, c, k, l, q⟩ => ?_) ht
  subst ex
  obtain rfl : u = Value.ref a := rx
  exact getmeth_ok I1 ea c k l (q s1 I1)
end

/-! ### isinstance -/
section
variable {X : Cx} {pins : List (Addr × Obj)} {σ : St} {H : Hp} {s : Shared} {A : Around} {E : Value → Shared → Prop} {Q : Value → Shared → Prop} {c : Value} {b : Bool}
/-- the type of a value, as the fragment's deciders take it; for an instance its class -/
inductive TyOf (K : PySem.W.Frag) (H : Hp) : V → Value → Prop where
  | non : TyOf K H .non (.type "NoneType")
  | bl (x : Bool) : TyOf K H (.bl x) (.type "bool")
  | int (i : Int) : TyOf K H (.int i) (.type "int")
  | str (x : Str) : TyOf K H (.str x) (.type "str")
  | flt (x : UInt64) : TyOf K H (.flt x) (.type "float")
  | lst {a : Addr} {xs : List V} (e : H a = some (.lst xs)) : TyOf K H (.ref a) (.type "list")
  | frz {a : Addr} {o : Obj} {xs : List V} (e : H a = some (.frz o (.lst xs))) : TyOf K H (.ref a) (.type "list")
  | tup {a : Addr} {xs : List V} (e : H a = some (.tup xs)) : TyOf K H (.ref a) (.type "tuple")
  | dK {a : Addr} {kvs : List (Key × V)} (e : H a = some (.dK kvs)) : TyOf K H (.ref a) (.type "dict")
  | dT {a : Addr} {kvs : List (List Key × V)} (e : H a = some (.dT kvs)) : TyOf K H (.ref a) (.type "dict")
  | ins {a C dx : Addr} {fs : List (Str × V)} (e : H a = some (.ins C dx fs)) (cl : Cls K C) (ha : PySem.W.findIn K (.ref C) "__class__" = some (some (.builtin "object.__class__")))
      (hn : PySem.W.specialIn K (.builtin "object.__class__") "__get__" = some (some (.builtin "getset_descriptor.__get__"))) (htk : PySem.W.takesIn K (.builtin "object.__class__") = some true)
      (hm : PySem.W.mroIn K C (.type "object") = some true) : TyOf K H (.ref a) (.ref C)
/-- isinstance(x, c) for one class c, a built-in or an own one: kitOne's answer -/
theorem isinst_ok {x : V} {u t : Value} (I : Inv X pins σ H s) (rx : RelV x u) (ty : TyOf X.K H x t) (e : PySem.W.kitOne X.K t c = some b) (h : ∀ tk, Q (.bool b) { s with toks := tk }) :
    wpAny (model X.prog X.w) A (call (.builtin "isinstance") [u, c]) Q E s := by
  cases ty with
  | non => cases (show u = Value.none from rx); exact PySem.W.kia_one PySem.W.kitx_none I.kIn True.intro e (fun z => nomatch z) h
  | bl y => cases (show u = Value.bool y from rx); exact PySem.W.kia_one PySem.W.kitx_bool I.kIn True.intro e (fun z => nomatch z) h
  | int i => obtain ⟨t, q⟩ := (show ∃ t, u = Value.int i t from rx); cases q; exact PySem.W.kia_one PySem.W.kitx_int I.kIn True.intro e (fun z => nomatch z) h
  | str y => obtain ⟨t, q⟩ := (show ∃ t, u = Value.str y t from rx); cases q; exact PySem.W.kia_one PySem.W.kitx_str I.kIn True.intro e (fun z => nomatch z) h
  | flt y => obtain ⟨t, q⟩ := (show ∃ t, u = Value.float y t from rx); cases q; exact PySem.W.kia_one PySem.W.kitx_float I.kIn True.intro e (fun z => nomatch z) h
  | @lst a xs ea =>
    cases (show u = Value.ref a from rx)
    obtain ⟨_, _, n, _, h1⟩ := (show ObjOk X.prog X.w H s.heap a (.lst xs) from I.hok a _ ea)
    exact PySem.W.kia_one PySem.W.kitx_list I.kIn ⟨_, h1, rfl⟩ e (fun z => nomatch z) h
  | @frz a ob xs ea =>
    cases (show u = Value.ref a from rx)
    obtain ⟨_, _, _, n, _, h1⟩ := (show ObjOk X.prog X.w H s.heap a (.frz ob (.lst xs)) from I.hok a _ ea)
    exact PySem.W.kia_one PySem.W.kitx_list I.kIn ⟨_, h1, rfl⟩ e (fun z => nomatch z) h
  | @tup a xs ea =>
    cases (show u = Value.ref a from rx)
    obtain ⟨_, _, _, p⟩ := (show ObjOk X.prog X.w H s.heap a (.tup xs) from I.hok a _ ea)
    obtain ⟨o, h1, h2, _⟩ := p
    exact PySem.W.kia_one PySem.W.kitx_tuple I.kIn ⟨o, h1, h2⟩ e (fun z => nomatch z) h
  | @dK a kvs ea =>
    cases (show u = Value.ref a from rx)
    obtain ⟨_, _, vs, _, p⟩ := (show ObjOk X.prog X.w H s.heap a (.dK kvs) from I.hok a _ ea)
    obtain ⟨o, es, ep, h1, h2, _⟩ := p
    exact PySem.W.kia_one PySem.W.kitx_dict I.kIn ⟨o, h1, h2.1⟩ e (fun z => nomatch z) h
  | @dT a kvs ea =>
    cases (show u = Value.ref a from rx)
    obtain ⟨_, _, xs, _, o, es, ep, h1, h2, _⟩ := (show ObjOk X.prog X.w H s.heap a (.dT kvs) from I.hok a _ ea)
    exact PySem.W.kia_one PySem.W.kitx_dict I.kIn ⟨o, h1, h2.1⟩ e (fun z => nomatch z) h
  | @ins a C dx fs ea cl ha hn htk hm =>
    cases (show u = Value.ref a from rx)
    obtain ⟨mA, O, _⟩ := ins_get I.hok ea
    obtain ⟨od, J, _⟩ := O.look
    exact PySem.W.kia_one (PySem.W.kitx_own (cl.get _) cl.hd ha hn htk hm) I.kIn J e (fun z => nomatch z) h
end
end L2

namespace L2
open PySem PySem.Spec PyProof.Rows

/-! ### room -/
structure Room (k : Nat) (A : Around) : Prop where
  hd : A.handled = none
  dp : A.depth + 3 * k + 5 < recursionLimit
  un : A.units + 16 * k + 200 < cLine
theorem Room.mono {j k : Nat} {A : Around} (r : Room k A) (h : j ≤ k) : Room j A := ⟨r.hd, by have := r.dp; omega, by have := r.un; omega⟩
theorem Room.deeper {k : Nat} {A : Around} (r : Room (k + 1) A) (env : Env) : Room k (A.deeper env) :=
  ⟨r.hd, by have := r.dp; show A.depth + 1 + 3 * k + 5 < _; omega, by have := r.un; show A.units + 3 + 16 * k + 200 < _; omega⟩
theorem make_depth {A : Around} {C : Addr} {us : List Value} {kw : List (Str × Value)} : (A.under (.builtin "type.__call__" ⟨.ref C :: us, kw⟩)).depth = A.depth + 1 := by
  first | rfl | simp [Around.under, Code.weight, Code.isCreation, Code.isGuard, Code.isCaller, Code.frames, Code.isFrame, guardIds]
theorem make_units {A : Around} {C : Addr} {us : List Value} {kw : List (Str × Value)} : (A.under (.builtin "type.__call__" ⟨.ref C :: us, kw⟩)).units = A.units + 1 := by
  first | rfl | simp [Around.under, Code.cUnits, Code.frames, Code.isFrame]
theorem Room.make {k : Nat} {A : Around} (r : Room (k + 1) A) (C : Addr) (us : List Value) (kw : List (Str × Value)) : Room k (A.under (.builtin "type.__call__" ⟨.ref C :: us, kw⟩)) :=
  ⟨r.hd, by have := r.dp; rw [make_depth]; omega, by have := r.un; rw [make_units]; omega⟩
theorem Room.depth {k : Nat} {A : Around} (r : Room k A) : A.depth < recursionLimit := by have := r.dp; omega
theorem Room.units {k : Nat} {A : Around} (r : Room k A) : A.units + 64 < cLine := by have := r.un; omega
theorem Room.units0 {k : Nat} {A : Around} (r : Room k A) : A.units < cLine := by have := r.un; omega

/-! ### argument lists and displays -/
def tNil : TA := fun _ H Q => Q [] H
def tCons (ta : TE) (tr : TA) : TA := fun σ H Q => ta σ H fun x H1 => tr σ H1 fun xs H2 => Q (x :: xs) H2
section
variable {X : Cx} {e : Expr} {es : List Expr} {te : TE} {t : TA} {pos : Pos}
theorem pa_nil : PA X [] tNil := fun _ _ _ _ H Q I h => Calls.spliced_nil ⟨[], H, I, .nil, h⟩
theorem pa_cons (ha : PE X e te) (hr : PA X es t) (hs : starEach (e :: es) X.env = (false, eval e X.env) :: starEach es X.env := by rfl) : PA X (e :: es) (tCons te t) := by
  intro pos pins s σ H Q I h
  rw [hs]
  show wpAny _ _ (spliced ((false, eval e X.env) :: backTo pos (starEach es X.env))) _ _ s
  refine Calls.spliced_cons (thn (ha pins s σ H _ I h) fun u s1 ⟨x, H1, I1, r1, q1⟩ => ?_)
  exact thn (hr pos pins s1 σ H1 _ I1 q1) fun us s2 ⟨xs, H2, I2, r2, q2⟩ => ⟨x :: xs, H2, I2, .cons r1 r2, q2⟩

/-- a tuple, a list of written items -/
def tTup (t : TA) : TE := fun σ H Q => t σ H fun xs H1 => xs.length ≤ sizeLine ∧ ∀ p, H1 p = none → Q (.ref p) (upd H1 p (.tup xs))
def tLst (t : TA) : TE := fun σ H Q => t σ H fun xs H1 => xs.length ≤ sizeLine ∧ ∀ p, H1 p = none → Q (.ref p) (upd H1 p (.lst xs))
theorem pe_tup {x1} (h : PA X es t) : PE X (.Tuple es x1 pos) (tTup t) := by
  intro pins s σ H Q I hq
  refine wpAny_Tuple_spliced (thn (h pos pins s σ H _ I hq) fun us s1 ⟨xs, H1, I1, r, z, q⟩ => ⟨by rw [← r.length]; exact z, ?_⟩)
  have hf : H1 s1.heap.objs.size = none := I1.hok.fresh (Nat.le_refl _)
  refine ⟨.ref s1.heap.objs.size, upd H1 s1.heap.objs.size (.tup xs), I1.laid (t' := s1.toks) (fun b u e => Heap.get?_push_of_some _ e) (Nat.le_refl _) ?_, rfl, q _ hf⟩
  exact ⟨z, us, r, ⟨_, Heap.get?_push_size _ rfl, rfl, _, rfl⟩⟩
theorem pe_lst (h : PA X es t) : PE X (.List es pos) (tLst t) := by
  intro pins s σ H Q I hq
  refine wpAny_List_spliced (thn (h pos pins s σ H _ I hq) fun us s1 ⟨xs, H1, I1, r, z, q⟩ => ⟨by rw [← r.length]; exact z, ?_⟩)
  have hf : H1 s1.heap.objs.size = none := I1.hok.fresh (Nat.le_refl _)
  refine ⟨.ref s1.heap.objs.size, upd H1 s1.heap.objs.size (.lst xs), I1.laid (t' := s1.toks) (fun b u e => Heap.get?_push_of_some _ e) (Nat.le_refl _) ?_, rfl, q _ hf⟩
  exact ⟨z, us, 0, r, Heap.get?_push_size _ rfl⟩
end

/-! ### what a def promises -/
/-- a def's promise: the bound arguments in the parameters' order, the heap, the wanted end, the wanted exception -/
abbrev Sp := List V → Hp → VK → XK → Prop
/-- how an exception lies behind a call (file 08 gives it): the callers' frames, abstract heap and state ahead of the call, the wish, the exception, the state -/
abbrev CXT := List Env → Hp → Shared → XK → Value → Shared → Prop

/-- the state at a call -/
structure Env0 (P : Program) (w : World) (K : PySem.W.Frag) (mg : Str → Option Value) (base : Heap) (A : Around) (outer : List Env) (s : Shared) (H : Hp) : Prop where
  frames : A.frames = some outer
  mod : Mod K mg base
  bs : ∀ b o, base.get? b = some o → s.heap.get? b = some o ∧ H b = none
  bsz : base.objs.size ≤ s.heap.objs.size
  funs : s.heap.FunFrames base outer
  frf : ∀ b ∈ frs outer, H b = none
  hok : HOk P w H s.heap
  bare : AllBare s.gens
/-- a call's end -/
def CE (outer : List Env) (P : Program) (w : World) (H : Hp) (s : Shared) (Q : VK) (u : Value) (s' : Shared) : Prop :=
  ∃ v H', s'.os = s.os ∧ AllBare s'.gens ∧ Un (frs outer) [] H H' s.heap s'.heap ∧ HOk P w H' s'.heap ∧ RelV v u ∧ Q v H'
def CR (CX : CXT) (outer : List Env) (P : Program) (w : World) (H : Hp) (s : Shared) (Q : VK) (E : XK) (r : Result) (s' : Shared) : Prop :=
  match r with
  | .ok (.ret u) => CE outer P w H s Q u s'
  | .ok _ => False
  | .error e => CX outer H s E e s'
structure FnOk (P : Program) (w : World) (K : PySem.W.Frag) (mg : Str → Option Value) (base : Heap) (CX : CXT) (k : Nat) (f : Addr) (fd : FuncData) (ps : List Str) (sp : Sp) : Prop where
  len : ∀ vs H Q E, sp vs H Q E → vs.length = ps.length
  run : ∀ (A : Around) (outer : List Env) (s : Shared) (H : Hp) (args : Args) (us : List Value) (vs : List V) (Q : VK) (E : XK), Room k A → Env0 P w K mg base A outer s H → BindsTo s fd args (ps.zip us) → Vals vs us → sp vs H Q E →
    codeAny (model P w) A (.call (.ref f) args) (CR CX outer P w H s Q E) s

theorem Env0.make {P : Program} {w : World} {K : PySem.W.Frag} {mg : Str → Option Value} {base : Heap} {A : Around} {outer : List Env} {s : Shared} {H : Hp} (e : Env0 P w K mg base A outer s H) (C : Addr) (us : List Value) (kw : List (Str × Value)) :
    Env0 P w K mg base (A.under (.builtin "type.__call__" ⟨.ref C :: us, kw⟩)) outer s H := ⟨by first | exact e.frames | (simpa [Around.under, Code.envs, Code.isFrame, pushEnvs] using e.frames), e.mod, e.bs, e.bsz, e.funs, e.frf, e.hok, e.bare⟩

section
variable {X : Cx} {pins : List (Addr × Obj)} {σ : St} {H : Hp} {s s' : Shared}
/-- from a body: what a callee wants -/
theorem Inv.env0 (I : Inv X pins σ H s) : Env0 X.prog X.w X.K X.mg X.base X.A X.stack s H :=
  ⟨I.ok.frames, I.ok.mod, I.bs, Nat.le_trans I.ok.bsz I.sz, I.stack, I.stkFree, I.hok, I.bare⟩
/-- behind a call -/
theorem Inv.after {Q : VK} {u : Value} (I : Inv X pins σ H s) (h : CE X.stack X.prog X.w H s Q u s') : EP X pins σ Q u s' := by
  obtain ⟨v, H', os, bare, un, hok, r, q⟩ := h
  obtain ⟨hh, g, d, t, os'⟩ := s'
  obtain rfl : os' = s.os := os
  exact ⟨v, H', I.call (h' := hh) (g' := g) (d' := d) (t' := t) (ch := []) un hok bare (fun b z => absurd z (by simp)), r, q⟩
end

/-! ### calls -/
/-- f(..): the written arguments, then the defaults dvs; E: what is wanted of an exception -/
def tCall (sp : Sp) (dvs : List V) (E : XK) (t : TA) : TE := fun σ H Q => t σ H fun vs H1 => sp (vs ++ dvs) H1 Q E
/-- o.m(..) of an instance of the class at C -/
def tMeth (C : Addr) (m : Str) (sp : Sp) (dvs : List V) (E : XK) (ta : TE) (t : TA) : TE := fun σ H Q => ta σ H fun x H1 => ∃ a dx fs, x = .ref a ∧ H1 a = some (.ins C dx fs) ∧ fs.lookup m = none ∧
  t σ H1 fun vs H2 => sp (x :: (vs ++ dvs)) H2 Q E
/-- C(..): a new instance and its dict, then __init__ -/
def tMake (C : Addr) (sp : Sp) (dvs : List V) (E : XK) (t : TA) : TE := fun σ H Q => t σ H fun vs H1 => ∀ x dx, H1 x = none → H1 dx = none → dx ≠ x →
  sp (.ref x :: (vs ++ dvs)) (upd (upd H1 dx (.own x)) x (.ins C dx [])) (fun v H2 => v = .non ∧ Q (.ref x) H2) E

/-- how the parameters are bound: us the positional arguments, kw the keywords' values by name, ds the defaults that fill up -/
def Binds (K : PySem.W.Frag) (fd : FuncData) (ps : List Str) (ds : List Value) : Prop :=
  ∀ (s : Shared) (us : List Value), K.In s.heap → (us ++ ds).length = ps.length → BindsTo s fd ⟨us, []⟩ (ps.zip (us ++ ds))
/-- every parameter is given -/
theorem Binds.all {K : PySem.W.Frag} {fd : FuncData} {ps : List Str} (h : ∀ us : List Value, us.length = ps.length → bindArgs fd ⟨us, []⟩ = pure (ps.zip us)) : Binds K fd ps [] := fun s us _ hl => by
  rw [List.append_nil] at hl ⊢
  exact .of_eq (h us hl)

/-- an exception of a callee reaches what this body wants of exceptions -/
def Passes (CX : CXT) (X : Cx) (E : XK) : Prop := ∀ (pins : List (Addr × Obj)) (σ : St) (H : Hp) (s : Shared) (e : Value) (s' : Shared), Inv X pins σ H s → CX X.stack H s E e s' → X.xe e s'

section
variable {X : Cx} {CX : CXT} {k : Nat} {f C : Addr} {fd : FuncData} {ps : List Str} {sp : Sp} {dvs : List V} {ds : List Value} {E : XK} {x m : Str} {p pos apos : Pos} {e o : Expr} {es : List Expr} {ta : TE} {t : TA}

/-- the callee runs -/
theorem run_fn {pins : List (Addr × Obj)} {σ : St} {H : Hp} {s : Shared} {Q : VK} {us : List Value} {vs : List V} (F : FnOk X.prog X.w X.K X.mg X.base CX k f fd ps sp) (hr : Room k X.A) (hb : Binds X.K fd ps ds) (hd : Vals dvs ds) (hx : Passes CX X E)
    (I : Inv X pins σ H s) (r : Vals vs us) (h : sp (vs ++ dvs) H Q E) : wpAny (model X.prog X.w) X.A (call (.ref f) us) (EP X pins σ Q) X.xe s := by
  have r2 : Vals (vs ++ dvs) (us ++ ds) := r.append hd
  have hl : (us ++ ds).length = ps.length := by rw [← r2.length]; exact F.len _ _ _ _ h
  refine wpAny_call (codeAny_mono (F.run X.A X.stack s H ⟨us, []⟩ (us ++ ds) (vs ++ dvs) Q E hr I.env0 (hb s us I.kIn hl) r2 h) fun r s' hq => ?_)
  cases r with
  | error e => exact hx pins σ H s e s' I hq
  | ok fl =>
    cases fl with
    | ret u => exact I.after hq
    | next => exact False.elim hq
    | brk => exact False.elim hq
    | cont => exact False.elim hq

theorem pe_call (F : FnOk X.prog X.w X.K X.mg X.base CX k f fd ps sp) (hr : Room k X.A) (hg : Gl X x) (hm : X.mg x = some (.ref f)) (hk : PySem.W.keepIn X.K (.ref f) = true) (hb : Binds X.K fd ps ds) (hd : Vals dvs ds) (hx : Passes CX X E)
    (ha : PA X (e :: es) t) (hdb : (x == ("__debug__" : Str)) = false := by decide) (he : starEach (e :: es) X.env = (false, eval e X.env) :: starEach es X.env := by rfl) (hpl : (backTo pos (starEach es X.env)).any (·.1) = false := by rfl) :
    PE X (.Call (.Name x p) (e :: es) [] pos) (tCall sp dvs E t) := by
  intro pins s σ H Q I h
  refine wpAny_Call_Name_kw (ld_glob I hg hm ?_ hdb)
  refine PySem.W.callWith_K (h₀ := X.base) I.ok.mod.kin hk (thn (ha pos pins s σ H _ I h) fun us s1 ⟨vs, H1, I1, r, q⟩ => ⟨I1.kIn, ?_⟩) he hpl
  exact run_fn F hr hb hd hx I1 r q

/-- o.m(e, ..) -/
theorem pe_meth {pl : Sem Bool} (he : PE X o ta) (c : Cls X.K C) (hm : Meth X.K C m f) (F : FnOk X.prog X.w X.K X.mg X.base CX k f fd ps sp) (hr : Room k X.A) (hb : Binds X.K fd ps ds) (hd : Vals dvs ds) (hx : Passes CX X E) (ha : PA X (e :: es) t)
    (hst : starEach (e :: es) X.env = (false, eval e X.env) :: starEach es X.env := by rfl) (hpl : (backTo pos (starEach es X.env)).any (·.1) = false := by rfl)
    (ht : eval (.Call (.Attribute o m apos) (e :: es) [] pos) X.env = (do
      let ov ← eval o X.env
      standAt apos.atName
      let (f, first) ← holding [ov] (getMethod ov m pl)
      callWith pos f first (backTo pos (starEach (e :: es) X.env)) (backToKw pos (keywordEach [] X.env))) := by rfl) :
    PE X (.Call (.Attribute o m apos) (e :: es) [] pos) (tMeth C m sp dvs E ta t) := by
  intro pins s σ H Q I h
  refine PySem.W.methodCall_KW (pl := pl) (thn (he pins s σ H _ I h) fun u s1 ⟨x, H1, I1, rx, a, dx, fs, ex, ea, l, q⟩ => ?_) ht
  subst ex
  obtain rfl : u = Value.ref a := rx
  refine getmeth_ok I1 ea c hm l ?_
  refine PySem.W.callWith_K (first := [.ref a]) (h₀ := X.base) I.ok.mod.kin hm.kp (thn (ha pos pins s1 σ H1 _ I1 q) fun us s2 ⟨vs, H2, I2, r, q2⟩ => ⟨I2.kIn, ?_⟩) hst hpl
  exact run_fn (us := .ref a :: us) (vs := .ref a :: vs) F hr hb hd hx I2 (.cons rfl r) q2

/-- what a class must have to be made -/
structure Mk (K : PySem.W.Frag) (C f : Addr) : Prop where
  makes : PySem.W.makesIn K C = true
  init : PySem.W.findIn K (.ref C) "__init__" = some (some (.ref f))
  fn : PySem.W.isFn K (.ref f) = true
  kp : PySem.W.keepIn K (.ref C) = true

theorem run_make {pins : List (Addr × Obj)} {σ : St} {H : Hp} {s : Shared} {Q : VK} {us : List Value} {vs : List V} (M : Mk X.K C f) (F : FnOk X.prog X.w X.K X.mg X.base CX k f fd ps sp) (hr : Room (k + 1) X.A) (hb : Binds X.K fd ps ds) (hd : Vals dvs ds)
    (hx : Passes CX X E) (I : Inv X pins σ H s) (r : Vals vs us)
    (h : ∀ x dx, H x = none → H dx = none → dx ≠ x → sp (.ref x :: (vs ++ dvs)) (upd (upd H dx (.own x)) x (.ins C dx [])) (fun v H2 => v = .non ∧ Q (.ref x) H2) E) :
    wpAny (model X.prog X.w) X.A (call (.ref C) us) (EP X pins σ Q) X.xe s := by
  have hq := h (s.heap.objs.size + 1) s.heap.objs.size (I.hok.fresh (Nat.le_succ _)) (I.hok.fresh (Nat.le_refl _)) (Nat.ne_of_lt (Nat.lt_succ_self _))
  have I2 := Inv.made (C := C) I
  have r2 : Vals (V.ref (s.heap.objs.size + 1) :: (vs ++ dvs)) (Value.ref (s.heap.objs.size + 1) :: (us ++ ds)) := .cons rfl (r.append hd)
  have hl : (Value.ref (s.heap.objs.size + 1) :: us ++ ds).length = ps.length := by
    have e := r2.length
    rw [F.len _ _ _ _ hq] at e
    exact e.symm
  refine wpAny_call (make_map (f := f) I.kIn M.makes M.init (beq_iff_eq.mp M.fn) (codeAny_mono (F.run _ X.stack _ _ ⟨Value.ref (s.heap.objs.size + 1) :: us, []⟩ (Value.ref (s.heap.objs.size + 1) :: (us ++ ds)) _ _ E (hr.make C us [])
    (I2.env0.make C us []) (hb _ (Value.ref (s.heap.objs.size + 1) :: us) I2.kIn hl) r2 hq) fun r s' hq' => ?_))
  cases r with
  | error e => exact hx pins σ _ _ e s' I2 hq'
  | ok fl =>
    cases fl with
    | ret u =>
      obtain ⟨v, H', I3, rv, ev, q3⟩ := I2.after hq'
      subst ev
      exact ⟨rv, ⟨V.ref (s.heap.objs.size + 1), H', I3, rfl, q3⟩⟩
    | next => exact False.elim hq'
    | brk => exact False.elim hq'
    | cont => exact False.elim hq'
theorem pe_make (M : Mk X.K C f) (F : FnOk X.prog X.w X.K X.mg X.base CX k f fd ps sp) (hr : Room (k + 1) X.A) (hg : Gl X x) (hm : X.mg x = some (.ref C)) (hb : Binds X.K fd ps ds) (hd : Vals dvs ds) (hx : Passes CX X E)
    (ha : PA X (e :: es) t) (hdb : (x == ("__debug__" : Str)) = false := by decide) (he : starEach (e :: es) X.env = (false, eval e X.env) :: starEach es X.env := by rfl) (hpl : (backTo pos (starEach es X.env)).any (·.1) = false := by rfl) :
    PE X (.Call (.Name x p) (e :: es) [] pos) (tMake C sp dvs E t) := by
  intro pins s σ H Q I h
  refine wpAny_Call_Name_kw (ld_glob I hg hm ?_ hdb)
  refine PySem.W.callWith_K (h₀ := X.base) I.ok.mod.kin M.kp (thn (ha pos pins s σ H _ I h) fun us s1 ⟨vs, H1, I1, r, q⟩ => ⟨I1.kIn, ?_⟩) he hpl
  exact run_make M F hr hb hd hx I1 r q
end

/-! ### keywords -/
section
variable {X : Cx} {CX : CXT} {k : Nat} {f C : Addr} {fd : FuncData} {ps ks : List Str} {sp : Sp} {E : XK} {x m : Str} {p pos apos kpos : Pos} {e o : Expr} {es : List Expr} {kws : List Keyword} {te ta : TE} {t tk : TA} {nm : Option Str}

variable {g : List Value → List Value → List Value} {gV : List V → List V → List V}
end

/-! ### a def's body keeps its promise -/
/-- names: the parameters first -/
structure FnScope (N P : List Str) (sc : Scope) : Prop where
  kind : sc.kind = .function
  co : sc.isCoroutine = false
  gen : sc.isGenerator = false
  nd : N.Nodup
  pre : N.take P.length = P
  par : ∀ x ∈ P, sc.names.lookup x = some .local ∨ sc.names.lookup x = some .cell
  nofree : ∀ y ∈ sc.names, y.2 ≠ .free

theorem bindL_out {kindOf : Str → Option NameKind} {x : Str} : ∀ {binds : List (Str × Value)} {m : Str → Option Value}, (∀ v, (x, v) ∉ binds) → bindL kindOf binds m x = m x
  | [], _, _ => rfl
  | (n, v) :: r, m, h => by
    unfold bindL
    rw [bindL_out fun w hw => h w (List.mem_cons_of_mem _ hw)]
    split
    · have : x ≠ n := by rintro rfl; exact h v List.mem_cons_self
      simp [this]
    · rfl
theorem bindC_out {kindOf : Str → Option NameKind} {x : Str} : ∀ {binds : List (Str × Value)} {m : Str → Option Value}, (∀ v, (x, v) ∉ binds) → bindC kindOf binds m x = m x
  | [], _, _ => rfl
  | (n, v) :: r, m, h => by
    unfold bindC
    rw [bindC_out fun w hw => h w (List.mem_cons_of_mem _ hw)]
    split
    · rfl
    · have : x ≠ n := by rintro rfl; exact h v List.mem_cons_self
      simp [this]
theorem bindL_get {kindOf : Str → Option NameKind} {x : Str} {v : Value} : ∀ {P : List Str} {vs : List Value} {i : Nat} {m : Str → Option Value}, P.Nodup → P[i]? = some x → vs[i]? = some v → kindOf x = some .local →
    bindL kindOf (P.zip vs) m x = some v
  | [], _, _, _, _, h, _, _ => by simp at h
  | _ :: _, [], _, _, _, _, h, _ => by simp at h
  | p :: P, w :: vs, 0, m, nd, h1, h2, hk => by
    simp at h1 h2; subst h1; subst h2
    show bindL kindOf ((p, w) :: P.zip vs) m p = _
    unfold bindL
    rw [bindL_out fun v hv => (List.nodup_cons.mp nd).1 (List.of_mem_zip hv).1, if_pos hk]
    simp
  | p :: P, w :: vs, i + 1, m, nd, h1, h2, hk => by
    show bindL kindOf ((p, w) :: P.zip vs) m x = _
    unfold bindL
    exact bindL_get (i := i) (List.nodup_cons.mp nd).2 (by simpa using h1) (by simpa using h2) hk
theorem bindC_get {kindOf : Str → Option NameKind} {x : Str} {v : Value} : ∀ {P : List Str} {vs : List Value} {i : Nat} {m : Str → Option Value}, P.Nodup → P[i]? = some x → vs[i]? = some v → kindOf x ≠ some .local →
    bindC kindOf (P.zip vs) m x = some v
  | [], _, _, _, _, h, _, _ => by simp at h
  | _ :: _, [], _, _, _, _, h, _ => by simp at h
  | p :: P, w :: vs, 0, m, nd, h1, h2, hk => by
    simp at h1 h2; subst h1; subst h2
    show bindC kindOf ((p, w) :: P.zip vs) m p = _
    unfold bindC
    rw [bindC_out fun v hv => (List.nodup_cons.mp nd).1 (List.of_mem_zip hv).1, if_neg hk]
    simp
  | p :: P, w :: vs, i + 1, m, nd, h1, h2, hk => by
    show bindC kindOf ((p, w) :: P.zip vs) m x = _
    unfold bindC
    exact bindC_get (i := i) (List.nodup_cons.mp nd).2 (by simpa using h1) (by simpa using h2) hk

/-- the names' values at the entry -/
def start (N : List Str) (vs : List V) : St := vs.map some ++ List.replicate (N.length - vs.length) none

/-- the context of a def's body, at its entry; an exception leaves the frame, then lies as CX says -/
def cxOf (CX : CXT) (P : Program) (w : World) (K : PySem.W.Frag) (mg : Str → Option Value) (base : Heap) (N : List Str) (qual : Str) (scope : Scope) (f : Addr) (cd : Value) (A : Around) (outer : List Env) (s : Shared) (H : Hp) (E : XK) : Cx where
  prog := P
  w := w
  K := K
  mg := mg
  base := base
  A := A.deeper (envOfC qual scope s.heap.objs.size f cd)
  N := N
  s₀ := s
  H₀ := H
  env := envOfC qual scope s.heap.objs.size f cd
  outer := outer
  stack := envOfC qual scope s.heap.objs.size f cd :: outer
  ex := []
  calm := true
  fn := fun _ => true
  pn := []
  xe := fun e s' => wpAny (model P w) (A.deeper (envOfC qual scope s.heap.objs.size f cd)) (leaving (envOfC qual scope s.heap.objs.size f cd) e) (fun _ s'' => CX outer H s E e s'') (fun e' s'' => CX outer H s E e' s'') s'

theorem cell_has {sc : Scope} {n : Nat} {x : Str} (h : sc.names.lookup x = some .cell) : ∃ c, (cellsFrom n sc.names []).lookup x = some c := by
  have q := PySem.W.cellsFrom_some sc.names n [] (.inl h)
  exact Option.isSome_iff_exists.mp q

theorem inv_start {CX : CXT} {P : Program} {w : World} {K : PySem.W.Frag} {mg : Str → Option Value} {base : Heap} {N ps : List Str} {qual : Str} {scope : Scope} {f : Addr} {cd : Value} {A : Around} {outer : List Env} {s s1 : Shared} {H : Hp} {E : XK} {us : List Value} {vs : List V}
    (S : FnScope N ps scope) (hd : A.handled = none) (e0 : Env0 P w K mg base A outer s H) (hl : vs.length = ps.length) (r : Vals vs us)
    (x : InCallC s s.heap.objs.size (bindL (envOfC qual scope s.heap.objs.size f cd).kindOf (ps.zip us) fun _ => none) (cellsFrom (s.heap.objs.size + 1) scope.names []) (bindC (envOfC qual scope s.heap.objs.size f cd).kindOf (ps.zip us) fun _ => none) s1) :
    Inv (cxOf CX P w K mg base N qual scope f cd A outer s H E) [] (start N vs) H s1 := by
  have hpl : ps.length ≤ N.length := by have := congrArg List.length S.pre; rw [List.length_take] at this; omega
  obtain ⟨h1, tk, rfl, hk⟩ := x.done
  have noA : ∀ b : Addr, b ∉ (cxOf CX P w K mg base N qual scope f cd A outer s H E).ex := fun b z => absurd (show b ∈ ([] : List Addr) from z) (by simp)
  refine ⟨⟨e0.mod, S.kind, rfl, rfl, Nat.le_refl _, fun y z c h1 h2 => ?_, fun y hy => ?_, fun y c _ h => ?_, fun _ => hd, Around.frames_deeper e0.frames, .inr ⟨rfl, rfl⟩, fun b z => absurd z (noA b), e0.bs, e0.bsz, fun b _ _ => noA b, fun b z => absurd z (noA b), e0.funs, e0.frf⟩,
    rfl, e0.bare, Un.kept hk, ⟨_, x.toInCall.ns, fun i y v h1 h2 h3 => ?_⟩, fun y c h => ⟨_, x.cell y c h⟩, e0.hok.fresh (Nat.le_refl _), fun y c h => ?_, fun p hp => absurd (show p ∈ ([] : List (Addr × Obj)) from hp) (by simp), e0.hok.kept hk, ?_⟩
  · exact name_of_addr x.apart (PySem.mem_of_lookup h1) (PySem.mem_of_lookup h2)
  · have hy : scope.names.lookup y = some .cell ∨ scope.names.lookup y = some .free := hy
    rcases hy with hy | hy
    · exact cell_has hy
    · exact absurd rfl (S.nofree _ (PySem.mem_of_lookup hy))
  · exact Nat.le_of_lt (x.above y c (PySem.mem_of_lookup h))
  · have hi : i < vs.length := by
      unfold start at h2
      by_cases hi : i < vs.length
      · exact hi
      · rw [List.getElem?_append_right (by simpa using hi)] at h2
        rw [List.getElem?_replicate] at h2
        split at h2 <;> cases h2
    have ha : vs[i]? = some v := by
      unfold start at h2
      rw [List.getElem?_append_left (by simpa using hi), List.getElem?_map] at h2
      cases e : vs[i]? with
      | none => rw [e] at h2; cases h2
      | some a => rw [e] at h2; cases h2; rfl
    obtain ⟨u, hu, rv⟩ := r.get ha
    have hp : ps[i]? = some y := by
      rw [← S.pre, List.getElem?_take_of_lt (by omega)]; exact h1
    have ndP : ps.Nodup := by rw [← S.pre]; exact S.nd.sublist (List.take_sublist _ _)
    refine ⟨u, rv, ?_⟩
    rcases S.par y (List.mem_of_getElem? hp) with k | k
    · exact .inl ⟨k, bindL_get ndP hp hu k⟩
    · obtain ⟨c, e⟩ := cell_has (n := s.heap.objs.size + 1) k
      refine .inr ⟨.inl k, c, e, ?_⟩
      have q := x.cell y c e
      rw [bindC_get ndP hp hu (by show scope.names.lookup y ≠ _; rw [k]; decide)] at q
      exact q
  · exact e0.hok.fresh (Nat.le_of_lt (x.above y c (PySem.mem_of_lookup h)))
  · unfold start
    show _ = N.length
    rw [List.length_append, List.length_map, List.length_replicate]
    omega

/-- THE RULE: a def (or a method) of the text, by its body. The body's reading t is chosen for each entry; it is run at the parameters' values -/
theorem fn_of {CX : CXT} {P : Program} {w : World} {K : PySem.W.Frag} {mg : Str → Option Value} {base : Heap} {k : Nat} {f : Addr} {name qual : Str} {params : Arguments} {body : List Stmt} {scope : Scope} {dV kV doc pm cdv ct oc : Value} {an od : Option Addr}
    {osl : Array (Option Value)} {N ps : List Str} {sp : Sp} (lk : K.lookup f = some ⟨oc, od, .func (PySem.W.fnOf name qual params body scope dV kV doc pm an cdv ct), osl⟩) (hcd : PySem.W.codeIn K cdv qual = true) (S : FnScope N ps scope)
    (len : ∀ vs H Q E, sp vs H Q E → vs.length = ps.length)
    (hbody : ∀ (A : Around) (outer : List Env) (s : Shared) (H : Hp) (vs : List V) (Q : VK) (E : XK), Room k (A.deeper (envOfC qual scope s.heap.objs.size f cdv)) → sp vs H Q E →
      ∃ t, PSs (cxOf CX P w K mg base N qual scope f cdv A outer s H E) body t ∧ t { nx := fun _ H' => Q .non H', rt := Q } (start N vs) H) :
    FnOk P w K mg base CX (k + 1) f (PySem.W.fnOf name qual params body scope dV kV doc pm an cdv ct) ps sp := by
  refine ⟨len, fun A outer s H args us vs Q E hr e0 hb r hsp => ?_⟩
  have hl := len _ _ _ _ hsp
  have KX : K.In s.heap := e0.mod.kin.keeps fun b o e => (e0.bs b o e).1
  have lim : s.heap.NoLimit := e0.mod.nolimit.keeps fun b o e => (e0.bs b o e).1
  have hkind : ∀ y ∈ ps.zip us, scope.names.lookup y.1 = some .local ∨ (scope.names.lookup y.1 = some .cell ∧ ((cellsFrom (s.heap.objs.size + 1) scope.names []).lookup y.1).isSome = true) := fun ⟨n, v⟩ hy => by
    rcases S.par n (List.of_mem_zip hy).1 with q | q
    · exact .inl q
    · exact .inr ⟨q, PySem.W.cellsFrom_some _ _ _ (.inl q)⟩
  refine codeAny_call_function hr.depth (KX _ _ lk) rfl S.co S.gen rfl (PySem.W.codeRec_of KX hcd) (hb _ _ _ _ ?_)
  refine wpAny_newFunctionEnv_cells S.kind hkind fun env he s1 x => ?_
  subst he
  refine ⟨lim.keeps x.toInCall.keep, codeAny_func ?_⟩
  obtain ⟨t, ht, hq⟩ := hbody A outer s H vs Q E (hr.deeper _) hsp
  have I : Inv (cxOf CX P w K mg base N qual scope f cdv A outer s H E) [] (start N vs) H s1 := inv_start S hr.hd e0 hl r x
  refine wpAny_mono (ht [] s1 (start N vs) H _ I hq) (fun fl s' hs => ?_) fun e s' hs => hs
  have fin : ∀ {σ' : St} {H' : Hp} {v : V} {u : Value}, Inv (cxOf CX P w K mg base N qual scope f cdv A outer s H E) [] σ' H' s' → RelV v u → Q v H' → CE outer P w H s Q u s' :=
    fun {σ' H' v u} J rv q => ⟨v, H', J.os, J.bare, J.base, J.hok, rv, q⟩
  cases fl with
  | ret u =>
    obtain ⟨v, σ', H', J, rv, q⟩ := hs
    exact fin J rv q
  | next =>
    obtain ⟨σ', H', J, q⟩ := hs
    exact fin (v := V.non) (u := Value.none) J rfl q
  | brk =>
    obtain ⟨_, _, _, q⟩ := hs
    exact False.elim q
  | cont =>
    obtain ⟨_, _, _, q⟩ := hs
    exact False.elim q
end L2

namespace L2
open PySem PySem.Spec PyProof.Rows
section
variable {X : Cx} {x : Str} {p pos : Pos} {e : Expr} {es : List Expr} {t : TA} {id T : String} {r : List V → Hp → VK → Prop}

def tCB (r : List V → Hp → VK → Prop) (t : TA) : TE := fun σ H Q => t σ H fun vs H1 => r vs H1 Q
/-- f(e, ..), f a built-in function -/
theorem pe_callB (hc : CallR X (.builtin id) r) (hg : Gl X x) (hm : X.mg x = none) (hv : bootBuiltins x = some (.builtin id)) (ha : PA X (e :: es) t) (hn : x ≠ "__name__" := by decide) (hdb : (x == ("__debug__" : Str)) = false := by decide)
    (he : starEach (e :: es) X.env = (false, eval e X.env) :: starEach es X.env := by rfl) (hpl : (backTo pos (starEach es X.env)).any (·.1) = false := by rfl) : PE X (.Call (.Name x p) (e :: es) [] pos) (tCB r t) := by
  intro pins s σ H Q I h
  refine wpAny_Call_Name_kw (ld_blt I hg hm hv ?_ hn hdb)
  exact PyProof.Rows.callWith_builtin1 (thn (ha pos pins s σ H _ I h) fun us s1 ⟨vs, H1, I1, r1, q1⟩ => hc pins s1 σ H1 vs us Q I1 r1 q1) he hpl
/-- T(e, ..), T a built-in type -/
theorem pe_callTy (hc : CallR X (.type T) r) (hg : Gl X x) (hm : X.mg x = none) (hv : bootBuiltins x = some (.type T)) (ha : PA X (e :: es) t) (hn : x ≠ "__name__" := by decide) (hdb : (x == ("__debug__" : Str)) = false := by decide)
    (he : starEach (e :: es) X.env = (false, eval e X.env) :: starEach es X.env := by rfl) (hpl : (backTo pos (starEach es X.env)).any (·.1) = false := by rfl) : PE X (.Call (.Name x p) (e :: es) [] pos) (tCB r t) := by
  intro pins s σ H Q I h
  refine wpAny_Call_Name_kw (ld_blt I hg hm hv ?_ hn hdb)
  exact PyProof.Rows.callWith_type1 (thn (ha pos pins s σ H _ I h) fun us s1 ⟨vs, H1, I1, r1, q1⟩ => hc pins s1 σ H1 vs us Q I1 r1 q1) he hpl
end
end L2

namespace HT
open PySem PyProof.Rows



section
open PySem.SeqAt
open PySem.AutoSeq1 (wpAny_loadPart')
open PySem.MeetsSeq PySem.MeetsSeq2 PySem.MeetsSeq3

end

section
variable {prog : Program} {w : World} {A : Around} {E : Value → Shared → Prop} {s : Shared}



/-! ### t[a:b], not the whole -/
/-- a slice's bound as a place among n (d where it is left out) -/
def sIx (n d : Nat) : Option Int → Nat
  | none => d
  | some v => if v < 0 then (v + (n : Int)).toNat else min v.toNat n
theorem sIx_none (n d : Nat) : sIx n d none = d := rfl
theorem sIx_nat (n d k : Nat) : sIx n d (some (k : Int)) = min k n := by
  show (if (k : Int) < 0 then ((k : Int) + (n : Int)).toNat else min (k : Int).toNat n) = min k n
  rw [if_neg (by omega), Int.toNat_natCast]

end
end HT

namespace L2
open PySem PySem.Spec PyProof.Rows

/-! ### the parts of a slice -/
abbrev TO := St → Hp → (Option Int → Hp → Prop) → Prop
/-- a slice's part (left out, or an int) -/
def PO (X : Cx) (e : Option Expr) (t : TO) : Prop :=
  ∀ (pins : List (Addr × Obj)) (s : Shared) (σ : St) (H : Hp) (Q : Option Int → Hp → Prop), Inv X pins σ H s → t σ H Q →
    wpAny (model X.prog X.w) X.A (evalPart e X.env) (fun u s' => ∃ o H', Inv X pins σ H' s' ∧ IsPart u o ∧ Q o H') X.xe s
def tNoPart : TO := fun _ H Q => Q none H
def tPart (t : TE) : TO := fun σ H Q => t σ H fun x H1 => ∃ i, x = .int i ∧ Q (some i) H1

theorem intsAre_of {ns : List Int} : ∀ {us : List Value}, Vals (ns.map V.int) us → IntsAre us ns := by
  induction ns with
  | nil => intro us r; rw [List.map_nil] at r; cases r; exact .nil
  | cons n ns ih =>
    intro us r
    rw [List.map_cons] at r
    cases r with
    | cons r1 r2 =>
      obtain ⟨t, e⟩ := r1
      subst e
      exact .cons n t (ih r2)

section
variable {X : Cx} {e : Expr} {te : TE} {lo hi : Option Expr} {tl th : TO} {pos p2 : Pos}

theorem po_none : PO X none tNoPart := by
  intro pins s σ H Q I h
  rw [evalPart_none]
  exact wpAny_pure ⟨none, H, I, .none, h⟩
theorem po_some (h : PE X e te) : PO X (some e) (tPart te) := by
  intro pins s σ H Q I hw
  rw [evalPart_some]
  refine thn (h pins s σ H _ I hw) fun u s1 ⟨x, H1, I1, r1, q1⟩ => ?_
  obtain ⟨i, rfl, q⟩ := q1
  obtain ⟨t, rfl⟩ := r1
  exact ⟨some i, H1, I1, .int i t, q⟩

/-- what a slice of a value is, by values: the slice object stands at sl -/
def SlR (X : Cx) (r : V → Option Int → Option Int → Hp → VK → Prop) : Prop :=
  ∀ (pins : List (Addr × Obj)) (s : Shared) (σ : St) (H : Hp) (x : V) (v vl vu : Value) (lo hi : Option Int) (sl : Addr) (Q : VK), Inv X pins σ H s → RelV x v → s.heap.IsSliceOf sl vl vu .none → IsPart vl lo → IsPart vu hi → r x lo hi H Q →
    ∃ T id, typeLookup (.type T) "__getitem__" = pure (some (.builtin id)) ∧ s.TypeIs v T ∧ wpAny (model X.prog X.w) X.A (getItem v (.ref sl)) (EP X pins σ Q) X.xe s
def tSl (r : V → Option Int → Option Int → Hp → VK → Prop) (te : TE) (tl th : TO) : TE := fun σ H Q => te σ H fun x H1 => tl σ H1 fun l H2 => th σ H2 fun u H3 => r x l u H3 Q
/-- a[lo:hi], any a -/
theorem pe_slice {r : V → Option Int → Option Int → Hp → VK → Prop} (hr : SlR X r) (he : PE X e te) (hl : PO X lo tl) (hu : PO X hi th) : PE X (.Subscript e (.Slice lo hi none p2) pos) (tSl r te tl th) := by
  intro pins s σ H Q I h
  refine Subscript_ (thn (he pins s σ H _ I h) fun v s1 ⟨x, H1, I1, r1, q1⟩ => ?_)
  refine wpAny_Slice (thn (hl pins s1 σ H1 _ I1 q1) fun vl s2 ⟨l, H2, I2, pl, q2⟩ => thn (hu pins s2 σ H2 _ I2 q2) fun vu s3 ⟨u, H3, I3, pu, q3⟩ => ?_)
  rw [evalPart_none]
  refine wpAny_pure ?_
  have I4 : Inv X pins σ H3 { s3 with heap := s3.heap.push { cls := .type "slice", data := .fields #[vl, vu, .none] } } := I3.kept (t' := s3.toks) fun b ob q => Heap.get?_push_of_some _ q
  obtain ⟨T, id, hT, ht, hg⟩ := hr pins { s3 with heap := s3.heap.push { cls := .type "slice", data := .fields #[vl, vu, .none] } } σ H3 x v vl vu l u s3.heap.objs.size Q I4 r1 (Heap.IsSliceOf.new ..) pl pu q3
  show wpAny (model X.prog X.w) X.A (subscriptTail e (.Slice lo hi none p2) v (.ref s3.heap.objs.size)) (EP X pins σ Q) X.xe { s3 with heap := s3.heap.push { cls := .type "slice", data := .fields #[vl, vu, .none] } }
  exact tail_any (ops := [.ref s3.heap.objs.size, v]) ht hT hg (by with_unfolding_all rfl)

/-- the items of xs[lo:hi] -/
def cutV (xs : List V) (lo hi : Option Int) : List V := (xs.drop (HT.sIx xs.length 0 lo)).take (HT.sIx xs.length xs.length hi - HT.sIx xs.length 0 lo)
theorem cutV_length (xs : List V) (lo hi : Option Int) : (cutV xs lo hi).length ≤ xs.length := by
  unfold cutV
  rw [List.length_take, List.length_drop]
  omega

/-! ### t < u, t + u -/
end
end L2

namespace L2
open PySem PySem.Spec PyProof.Rows

/-! ### places -/
/-- the place that an index of any sign means -/
def ixN (n : Nat) (i : Int) : Option Nat := if 0 ≤ i then (if i < n then some i.toNat else none) else if -(n : Int) ≤ i then some (i + n).toNat else none
def atI {α : Type} (xs : List α) (i : Int) : Option α := (ixN xs.length i).bind fun j => xs[j]?
theorem ixN_seq {n : Nat} {i : Int} {j : Nat} (h : ixN n i = some j) : seqIndex? i n = some j ∧ j < n ∧ -(n : Int) ≤ i ∧ i < n := by
  unfold ixN at h
  by_cases h0 : 0 ≤ i
  · rw [if_pos h0] at h
    by_cases h1 : i < n
    · rw [if_pos h1] at h
      have e : i.toNat = j := Option.some.inj h
      exact ⟨by rw [seqIndex_of h0 h1, e], by omega, by omega, h1⟩
    · rw [if_neg h1] at h; cases h
  · rw [if_neg h0] at h
    by_cases h1 : -(n : Int) ≤ i
    · rw [if_pos h1] at h
      have e : (i + n).toNat = j := Option.some.inj h
      exact ⟨by rw [seqIndex_neg (by omega) h1, e], by omega, h1, by omega⟩
    · rw [if_neg h1] at h; cases h
theorem atI_get {α : Type} {xs : List α} {i : Int} {v : α} (h : atI xs i = some v) : ∃ j, seqIndex? i xs.length = some j ∧ xs[j]? = some v ∧ j < xs.length ∧ -(xs.length : Int) ≤ i ∧ i < xs.length := by
  unfold atI at h
  cases e : ixN xs.length i with
  | none => rw [e] at h; cases h
  | some j =>
    rw [e] at h
    obtain ⟨h1, h2, h3, h4⟩ := ixN_seq e
    exact ⟨j, h1, h, h2, h3, h4⟩
theorem atI_nat {α : Type} {xs : List α} {j : Nat} {v : α} (h : xs[j]? = some v) : atI xs (j : Int) = some v := by
  have hj : j < xs.length := (List.getElem?_eq_some_iff.mp h).1
  have e : ixN xs.length (j : Int) = some j := by
    unfold ixN
    rw [if_pos (by omega), if_pos (by omega)]; simp
  unfold atI; rw [e]; exact h
theorem atI_last {α : Type} (xs : List α) (v : α) : atI (xs ++ [v]) (-1) = some v := by
  have hl : (xs ++ [v]).length = xs.length + 1 := by simp
  have e : ixN (xs ++ [v]).length (-1) = some xs.length := by
    unfold ixN
    rw [hl, if_neg (by decide), if_pos (by omega)]
    congr 1
    omega
  unfold atI
  rw [e]
  show (xs ++ [v])[xs.length]? = some v
  simp

/-! ### what may be subscripted -/
/-- what stands as an index of a plain subscript -/
def PlainIx (b : Expr) : Prop := ∀ o i, subscripted b false o i = operate [o, i] (getItem o i)
/-- a subscript by values -/
def IxR (X : Cx) (r : R2) : Prop :=
  ∀ (value slice : Expr) (pins : List (Addr × Obj)) (s : Shared) (σ : St) (H : Hp) (x y : V) (v u : Value) (Q : VK), Inv X pins σ H s → RelV x v → RelV y u → r x y H Q →
    subscripted slice false v u = operate [v, u] (getItem v u) → wpAny (model X.prog X.w) X.A (subscriptTail value slice v u) (EP X pins σ Q) X.xe s
/-- a call of a builtin's method by values: the receiver, the arguments -/
def MtR (X : Cx) (id : String) (r : V → List V → Hp → VK → Prop) : Prop :=
  ∀ (pins : List (Addr × Obj)) (s : Shared) (σ : St) (H : Hp) (x : V) (xs : List V) (v : Value) (us : List Value) (Q : VK), Inv X pins σ H s → RelV x v → Vals xs us → r x xs H Q →
    wpAny (model X.prog X.w) X.A (call (.builtin id) (v :: us)) (EP X pins σ Q) X.xe s
section
variable {X : Cx} {a b : Expr} {ta tb : TE} {pos : Pos}
/-- a[b] -/
theorem pe_ix {r : R2} (hr : IxR X r) (ha : PE X a ta) (hb : PE X b tb) (hs : PlainIx b) : PE X (.Subscript a b pos) (tOp r ta tb) := by
  intro pins s σ H Q I h
  exact Subscript_ (binT ha hb I h fun v u s2 x y H2 I2 rx ry q => hr a b pins s2 σ H2 x y v u Q I2 rx ry q (hs _ _))

def rIxL (K : PySem.W.Frag) : R2 := fun x y H Q => ∃ p xs i v, x = .ref p ∧ y = .int i ∧ SqL K H p xs ∧ atI xs i = some v ∧ Q v H
def rIxT (K : PySem.W.Frag) : R2 := fun x y H Q => ∃ p xs i v, x = .ref p ∧ y = .int i ∧ SqT K H p xs ∧ atI xs i = some v ∧ Q v H
theorem ix_list : IxR X (rIxL X.K) := by
  intro value slice pins s σ H x y v u Q I rx ry h hs
  obtain ⟨p, xs, i, z, rfl, rfl, hq, he, q⟩ := h
  cases rx
  obtain ⟨t, rfl⟩ := ry
  obtain ⟨its, r, pl, hz⟩ := I.list hq
  obtain ⟨j, h1, h2, h3, h4, h5⟩ := atI_get he
  obtain ⟨w, ew, rw'⟩ := r.get h2
  have hl := r.length
  have hn := line63
  have fin : EP X pins σ Q w s := ⟨z, H, I, rw', q⟩
  by_cases h0 : 0 ≤ i
  · have hj : i.toNat = j := by
      rw [seqIndex_of h0 h5] at h1
      exact Option.some.inj h1
    exact item_listR pl.isList h0 (by omega) (by rw [hj]; simpa using ew) fin hs
  · have hj : (i + (its.toArray.size : Int)).toNat = j := by
      rw [seqIndex_neg (by omega) h4] at h1
      rw [List.size_toArray, ← hl]
      exact Option.some.inj h1
    exact subscriptTail_builtinR (x := w) pl.isList.typeIs slot_list_getitem.lookup
      (wpAny_getItem_list_neg (Q := fun r s' => r = w ∧ EP X pins σ Q r s') pl.isList (by omega) (by rw [List.size_toArray] <;> omega) (by omega) (by rw [hj]; simpa using ew) ⟨rfl, fin⟩) hs
theorem ix_tup : IxR X (rIxT X.K) := by
  intro value slice pins s σ H x y v u Q I rx ry h hs
  obtain ⟨p, xs, i, z, rfl, rfl, hq, he, q⟩ := h
  cases rx
  obtain ⟨t, rfl⟩ := ry
  obtain ⟨its, r, pl, hz⟩ := I.tuple hq
  obtain ⟨j, h1, h2, h3, h4, h5⟩ := atI_get he
  obtain ⟨w, ew, rw'⟩ := r.get h2
  have hl := r.length
  have hn := line63
  have fin : EP X pins σ Q w s := ⟨z, H, I, rw', q⟩
  exact subscriptTail_builtinR (x := w) pl.typeIs slot_tuple_getitem.lookup
    (getItem_tuple (j := j) (Q := fun r s' => r = w ∧ EP X pins σ Q r s') pl (by omega) (by omega) (by rw [List.size_toArray, ← hl]; exact h1) (by simpa using ew) ⟨rfl, fin⟩) hs

/-! ### xs[i] = v, any sign -/
/-- the list's object behind a store -/
theorem mapSeq_set (its : List Value) (n j : Nat) (u : Value) : Obj.mapSeq (·.setIfInBounds j u) { cls := .type "list", data := .seq its.toArray n } = { cls := .type "list", data := .seq (its.set j u).toArray n } := by
  simp [Obj.mapSeq]
theorem Inv.lst {pins : List (Addr × Obj)} {σ : St} {H : Hp} {s : Shared} {p : Addr} {xs : List V} (I : Inv X pins σ H s) (h : H p = some (.lst xs)) :
    ∃ (its : List Value) (n : Nat), Vals xs its ∧ s.heap.get? p = some { cls := .type "list", data := .seq its.toArray n } ∧ xs.length ≤ sizeLine := by
  obtain ⟨z, its, n, r, e⟩ := I.hok p _ h
  exact ⟨its, n, r, e, z⟩
/-- the list at p is written by an update of its object -/
theorem Inv.lstUpd {pins : List (Addr × Obj)} {σ : St} {H : Hp} {s : Shared} {p : Addr} {xs ys : List V} {its its' : List Value} {n n' : Nat} {f : Obj → Obj} (I : Inv X pins σ H s) (h : H p = some (.lst xs))
    (ho : s.heap.get? p = some { cls := .type "list", data := .seq its.toArray n }) (hf : f { cls := .type "list", data := .seq its.toArray n } = { cls := .type "list", data := .seq its'.toArray n' }) (r : Vals ys its') (hz : ys.length ≤ sizeLine) (t : Nat) :
    Inv X pins σ (upd H p (.lst ys)) { s with heap := s.heap.update p f, toks := t } := by
  have e : (s.heap.update p f).get? p = some { cls := .type "list", data := .seq its'.toArray n' } := by
    rw [Heap.get?_update_self f ho (by rw [hf] <;> rfl), hf]
  refine I.write (x := p) (e := p) (by rw [h]; trivial) (.inl rfl) (fun b u hb q => (Heap.get?_update_other _ _ (Ne.symm hb)).trans q) ⟨_, e⟩ ?_
  exact ⟨hz, its', n', r, e⟩
def rSetL : V → V → V → Hp → (Hp → Prop) → Prop := fun o i v H Q => ∃ p xs k j, o = .ref p ∧ i = .int k ∧ H p = some (.lst xs) ∧ ixN xs.length k = some j ∧ Q (upd H p (.lst (xs.set j v)))
theorem set_list : PSet X rSetL := by
  intro pins s σ H o i v ov iv u Q I ro ri rv h
  obtain ⟨p, xs, k, j, rfl, rfl, hp, hj, q⟩ := h
  cases ro
  obtain ⟨t, rfl⟩ := ri
  obtain ⟨its, n, r, ho, hz⟩ := I.lst hp
  obtain ⟨h1, h2, h3, h4⟩ := ixN_seq hj
  have hl := r.length
  have hn := line63
  have I' : Inv X pins σ (upd H p (.lst (xs.set j v))) { s with heap := s.heap.update p (Obj.mapSeq (·.setIfInBounds j u)) } :=
    I.lstUpd hp ho (mapSeq_set its n j u) (r.set rv j) (by rw [List.length_set]; exact hz) s.toks
  by_cases h0 : 0 ≤ k
  · have hk : k.toNat = j := by
      rw [seqIndex_of h0 h4] at h1
      exact Option.some.inj h1
    exact PySem.W.ki_setAt ho h0 (by omega) (by rw [List.size_toArray, ← hl]; exact h4) (by rw [hk]; exact ⟨_, I', q⟩)
  · have hk : (k + (its.toArray.size : Int)).toNat = j := by
      rw [seqIndex_neg (by omega) h3] at h1
      rw [List.size_toArray, ← hl]
      exact Option.some.inj h1
    exact PySem.W.ki_setBack ho (by omega) (by rw [List.size_toArray, ← hl]; exact h3) (by omega) (by rw [hk]; exact ⟨_, I', q⟩)

/-! ### slices -/
theorem slice_bounds (lo hi : Option Int) (n : Nat) : (sliceBounds lo hi none n).1 = ((HT.sIx n 0 lo : Nat) : Int) ∧ (sliceBounds lo hi none n).2.1 = ((HT.sIx n n hi : Nat) : Int) ∧ (sliceBounds lo hi none n).2.2 = 1 := by
  refine ⟨?_, ?_, rfl⟩
  · cases lo with
    | none => simp [sliceBounds, HT.sIx]
    | some i =>
      simp only [sliceBounds, HT.sIx, Option.getD_none, show (1 : Int) > 0 by decide, if_true]
      by_cases h : i < 0
      · simp only [h, if_true] <;> omega
      · simp only [h, if_false] <;> omega
  · cases hi with
    | none => simp [sliceBounds, HT.sIx]
    | some i =>
      simp only [sliceBounds, HT.sIx, Option.getD_none, show (1 : Int) > 0 by decide, if_true]
      by_cases h : i < 0
      · simp only [h, if_true] <;> omega
      · simp only [h, if_false] <;> omega
theorem slicePick_cut (its : List Value) (lo hi : Option Int) : slicePick its.toArray lo hi none = ((its.drop (HT.sIx its.length 0 lo)).take (HT.sIx its.length its.length hi - HT.sIx its.length 0 lo)).toArray := by
  obtain ⟨h1, h2, h3⟩ := slice_bounds lo hi its.toArray.size
  unfold slicePick
  rw [h1, h2, h3]
  simp only [sliceRange_one, pick_run, List.size_toArray] <;> rfl
/-- xs[lo:hi] of a list: a new list -/
def rSlL (K : PySem.W.Frag) : V → Option Int → Option Int → Hp → VK → Prop := fun x lo hi H Q => ∃ a xs, x = .ref a ∧ SqL K H a xs ∧ ∀ p, H p = none → Q (.ref p) (upd H p (.lst (cutV xs lo hi)))
theorem sl_list : SlR X (rSlL X.K) := by
  intro pins s σ H x v vl vu lo hi sl Q I rx hs pl pu h
  obtain ⟨a, xs, rfl, hx, q⟩ := h
  cases rx
  obtain ⟨its, r, ht, hz⟩ := I.list hx
  have hlen := r.length
  refine ⟨"list", _, slot_list_getitem.lookup, ht.isList.typeIs, ?_⟩
  refine wpAny_getItem_list_slice ht.isList hs pl pu .none (by simp) ?_ (by rw [List.size_toArray] <;> omega)
  rw [slicePick_cut, ← hlen]
  refine ⟨.ref s.heap.objs.size, _, I.laid (t' := s.toks) (o := .lst (cutV xs lo hi)) (fun b ob q => Heap.get?_push_of_some _ q) (Nat.le_refl _) ?_, rfl, q _ (I.hok.fresh (Nat.le_refl _))⟩
  exact ⟨Nat.le_trans (cutV_length xs lo hi) hz, _, 0, (r.drop (HT.sIx xs.length 0 lo)).take (HT.sIx xs.length xs.length hi - HT.sIx xs.length 0 lo), Heap.get?_push_size _ rfl⟩

/-! ### in, not in: flat items -/
def flatV : V → Bool
  | .non => true
  | .bl _ => true
  | .int _ => true
  | .str _ => true
  | _ => false
/-- == of flat values -/
def eqV : V → V → Bool
  | .non, .non => true
  | .bl a, .bl b => a == b
  | .bl a, .int b => (if a then 1 else 0) == b
  | .int a, .bl b => a == (if b then 1 else 0)
  | .int a, .int b => a == b
  | .str a, .str b => a == b
  | _, _ => false
theorem eqAt_V {A : Around} {s : Shared} {y x : V} {u v : Value} (ry : RelV y u) (rx : RelV x v) (fy : flatV y = true) (fx : flatV x = true) : SeqAt.EqAt A s u v (eqV y x) := by
  cases y with
  | non =>
    cases ry
    cases x with
    | non => cases rx; exact SeqAt.EqAt.same _
    | bl b => cases rx; exact SeqAt.EqAt.none_bool b
    | int b => obtain ⟨t, rfl⟩ := rx; exact SeqAt.EqAt.none_int b t
    | str b => obtain ⟨t, rfl⟩ := rx; exact SeqAt.EqAt.none_str b t
    | _ => exact absurd (show false = true from fx) Bool.false_ne_true
  | bl a =>
    cases ry
    cases x with
    | non => cases rx; exact SeqAt.EqAt.bool_none a
    | bl b => cases rx; exact SeqAt.EqAt.bool_bool a b
    | int b => obtain ⟨t, rfl⟩ := rx; exact SeqAt.EqAt.bool_int a b t
    | str b => obtain ⟨t, rfl⟩ := rx; exact SeqAt.EqAt.bool_str a b t
    | _ => exact absurd (show false = true from fx) Bool.false_ne_true
  | int a =>
    obtain ⟨t', rfl⟩ := ry
    cases x with
    | non => cases rx; exact SeqAt.EqAt.int_none a t'
    | bl b => cases rx; exact SeqAt.EqAt.int_bool a t' b
    | int b => obtain ⟨t, rfl⟩ := rx; exact SeqAt.EqAt.int_int a t' b t
    | str b => obtain ⟨t, rfl⟩ := rx; exact SeqAt.EqAt.int_str a t' b t
    | _ => exact absurd (show false = true from fx) Bool.false_ne_true
  | str a =>
    obtain ⟨t', rfl⟩ := ry
    cases x with
    | non => cases rx; exact SeqAt.EqAt.str_none a t'
    | bl b => cases rx; exact SeqAt.EqAt.str_bool a t' b
    | int b => obtain ⟨t, rfl⟩ := rx; exact SeqAt.EqAt.str_int a t' b t
    | str b => obtain ⟨t, rfl⟩ := rx; exact SeqAt.EqAt.str_str a t' b t
    | _ => exact absurd (show false = true from fx) Bool.false_ne_true
  | _ => exact absurd (show false = true from fy) Bool.false_ne_true
/-- the items' answers, read off the values (a value's own answer does not lean on its token) -/
def eqU (x : V) (u : Value) : Bool := match u with
  | .none => eqV .non x
  | .bool b => eqV (.bl b) x
  | .int i _ => eqV (.int i) x
  | .str z _ => eqV (.str z) x
  | _ => false
theorem eqU_of {x y : V} {u : Value} (r : RelV y u) (f : flatV y = true) : eqU x u = eqV y x := by
  cases y with
  | non => cases r; rfl
  | bl b => cases r; rfl
  | int i => obtain ⟨t, rfl⟩ := r; rfl
  | str z => obtain ⟨t, rfl⟩ := r; rfl
  | _ => exact absurd (show false = true from f) Bool.false_ne_true
theorem any_eqU {x : V} : ∀ {xs : List V} {us : List Value}, Vals xs us → xs.all flatV = true → us.any (eqU x) = xs.any fun y => eqV y x
  | _, _, .nil, _ => rfl
  | y :: xs, u :: us, .cons r t, f => by
    rw [List.all_cons, Bool.and_eq_true] at f
    rw [List.any_cons, List.any_cons, eqU_of r f.1, any_eqU t f.2]
theorem mem_eqAt {A : Around} {s : Shared} {x : V} {v : Value} (rx : RelV x v) (fx : flatV x = true) : ∀ {xs : List V} {us : List Value}, Vals xs us → xs.all flatV = true → ∀ u ∈ us, SeqAt.EqAt A s u v (eqU x u)
  | _, _, .nil, _ => fun u hu => by cases hu
  | y :: xs, u :: us, .cons r t, f => fun u' hu => by
    rw [List.all_cons, Bool.and_eq_true] at f
    rcases List.mem_cons.mp hu with rfl | hu
    · rw [eqU_of r f.1]; exact eqAt_V r rx f.1 fx
    · exact mem_eqAt rx fx t f.2 u' hu
def inV (x : V) (xs : List V) : Bool := xs.any fun y => eqV y x
/-- x in a list or tuple of flat items -/
def rIn (K : PySem.W.Frag) (neg : Bool) : R2 := fun x y H Q => ∃ p xs, y = .ref p ∧ (SqL K H p xs ∨ SqT K H p xs) ∧ flatV x = true ∧ xs.all flatV = true ∧ Q (.bl (if neg then !inV x xs else inV x xs)) H
theorem op_in_seq : OpR X (compareOp .In) (rIn X.K false) := by
  intro pins s σ H x y v u Q I rx ry h
  obtain ⟨p, xs, rfl, hq, fx, fs, q⟩ := h
  cases ry
  rcases hq with hq | hq
  · obtain ⟨its, r, pl, hz⟩ := I.list hq
    refine SeqAt.in_listAt (eqU x) pl.isList (fun w hw => mem_eqAt rx fx r fs w (by simpa using hw)) ⟨.bl _, H, I, rfl, ?_⟩
    rw [show its.toArray.any (eqU x) = its.any (eqU x) by simp, any_eqU r fs]
    exact q
  · obtain ⟨its, r, pl, hz⟩ := I.tuple hq
    refine SeqAt.in_tupleAt (eqU x) pl (fun w hw => mem_eqAt rx fx r fs w (by simpa using hw)) ⟨.bl _, H, I, rfl, ?_⟩
    rw [show its.toArray.any (eqU x) = its.any (eqU x) by simp, any_eqU r fs]
    exact q
theorem op_notIn_seq : OpR X (compareOp .NotIn) (rIn X.K true) := by
  intro pins s σ H x y v u Q I rx ry h
  obtain ⟨p, xs, rfl, hq, fx, fs, q⟩ := h
  cases ry
  rcases hq with hq | hq
  · obtain ⟨its, r, pl, hz⟩ := I.list hq
    refine SeqAt.notIn_listAt (eqU x) pl.isList (fun w hw => mem_eqAt rx fx r fs w (by simpa using hw)) ⟨.bl _, H, I, rfl, ?_⟩
    rw [show its.toArray.any (eqU x) = its.any (eqU x) by simp, any_eqU r fs]
    exact q
  · obtain ⟨its, r, pl, hz⟩ := I.tuple hq
    refine SeqAt.notIn_tupleAt (eqU x) pl (fun w hw => mem_eqAt rx fx r fs w (by simpa using hw)) ⟨.bl _, H, I, rfl, ?_⟩
    rw [show its.toArray.any (eqU x) = its.any (eqU x) by simp, any_eqU r fs]
    exact q
theorem op_notIn_str : OpR X (compareOp .NotIn) (fun x y H Q => ∃ i j, x = .str i ∧ y = .str j ∧ Q (.bl (!(!(Builtin.Str.occurrences j i 0 j.length 1).isEmpty))) H) := by
  intro pins s σ H x y v u Q I rx ry h
  obtain ⟨i, j, rfl, rfl, q⟩ := h
  obtain ⟨t, rfl⟩ := rx
  obtain ⟨t', rfl⟩ := ry
  exact notIn_str ⟨.bl _, H, I, rfl, q⟩

/-! ### len, list(x), tuple(x) of any list or tuple that is read -/
theorem call_len_seq : CallR X (.builtin "len") (fun xs H Q => ∃ p ys, xs = [.ref p] ∧ (SqL X.K H p ys ∨ SqT X.K H p ys) ∧ Q (.int ys.length) H) := by
  intro pins s σ H xs us Q I r h
  obtain ⟨p, ys, rfl, hq, q⟩ := h
  obtain ⟨u, rfl, rx⟩ := vals1 r
  cases rx
  have hn := line63
  rcases hq with hq | hq
  · obtain ⟨its, r', pl, hz⟩ := I.list hq
    have hlen := r'.length
    exact Calls.call_len_list pl.isList (by simp only [List.size_toArray] <;> omega) ⟨.int ys.length, H, I.tok _, ⟨s.toks + 1, by rw [List.size_toArray, hlen]⟩, q⟩
  · obtain ⟨its, r', pl, hz⟩ := I.tuple hq
    have hlen := r'.length
    exact len_tuple pl (by simp only [List.size_toArray] <;> omega) ⟨.int ys.length, H, I.tok _, ⟨s.toks + 1, by rw [List.size_toArray, hlen]⟩, q⟩
theorem call_len_str : CallR X (.builtin "len") (fun xs H Q => ∃ z, xs = [.str z] ∧ z.length ≤ sizeLine ∧ Q (.int z.length) H) := by
  intro pins s σ H xs us Q I r h
  obtain ⟨z, rfl, hz, q⟩ := h
  obtain ⟨u, rfl, t, rfl⟩ := vals1 r
  have hn := line63
  exact len_str (by omega) ⟨.int z.length, H, I.tok _, ⟨_, rfl⟩, q⟩
theorem call_list_of : CallR X (.type "list") (fun xs H Q => ∃ p ys, xs = [.ref p] ∧ (SqL X.K H p ys ∨ SqT X.K H p ys) ∧ ∀ l, H l = none → Q (.ref l) (upd H l (.lst ys))) := by
  intro pins s σ H xs us Q I r h
  obtain ⟨p, ys, rfl, hq, q⟩ := h
  obtain ⟨u, rfl, rx⟩ := vals1 r
  cases rx
  have fin : ∀ (its : List Value), Vals ys its → ys.length ≤ sizeLine → ∀ (h' : Heap) (c' : Nat), (∀ b o', s.heap.get? b = some o' → h'.get? b = some o') →
      h'.get? s.heap.objs.size = some { cls := .type "list", dict := none, data := .seq its.toArray c', slots := #[] } → EP X pins σ Q (.ref s.heap.objs.size) { s with heap := h' } := fun its r' hz h' c' kp e =>
    ⟨.ref s.heap.objs.size, _, I.laid (t' := s.toks) kp (Nat.le_refl _) (show ObjOk X.prog X.w _ h' _ (.lst ys) from ⟨hz, its, c', r', e⟩), rfl, q _ (I.hok.fresh (Nat.le_refl _))⟩
  rcases hq with hq | hq
  · obtain ⟨its, r', pl, hz⟩ := I.list hq
    have hlen := r'.length
    obtain ⟨o, ho, hc, n, hd⟩ := pl.isList
    exact call_list_seq p (.inl rfl) ho hc hd (fun h' c' kp e => fin its r' hz h' c' kp e) (by simp only [List.size_toArray] <;> omega)
  · obtain ⟨its, r', pl, hz⟩ := I.tuple hq
    have hlen := r'.length
    obtain ⟨o, ho, hc, n, hd⟩ := pl
    exact call_list_seq p (.inr rfl) ho hc hd (fun h' c' kp e => fin its r' hz h' c' kp e) (by simp only [List.size_toArray] <;> omega)

/-! ### the call of a builtin's method: o.m(..) -/
/-- the value is of that builtin type -/
def tyV (K : PySem.W.Frag) (T : String) (x : V) (H : Hp) : Prop := match x with
  | .str _ => T = "str"
  | .int _ => T = "int"
  | .ref p => (T = "list" ∧ ∃ xs, SqL K H p xs) ∨ (T = "tuple" ∧ ∃ o, K.lookup p = some o ∧ o.cls = .type "tuple" ∧ o.dict = none) ∨
      (T = "dict" ∧ ((∃ kvs, H p = some (.dK kvs)) ∨ ∃ kvs, H p = some (.dT kvs))) ∨ (T = "set" ∧ ∃ S n, H p = some (.set S n))
  | _ => False
theorem tyV_is {pins : List (Addr × Obj)} {σ : St} {H : Hp} {s : Shared} {T : String} {x : V} {v : Value} (I : Inv X pins σ H s) (r : RelV x v) (ty : tyV X.K T x H) :
    s.TypeIs v T ∧ ∀ a, v = .ref a → ∃ ob, s.heap.get? a = some ob ∧ ob.dict = none := by
  cases x with
  | str z =>
    obtain ⟨t, rfl⟩ := r
    cases (show T = "str" from ty)
    exact ⟨typeIs_str s z t, fun _ e => nomatch e⟩
  | int i =>
    obtain ⟨t, rfl⟩ := r
    cases (show T = "int" from ty)
    exact ⟨typeIs_int s i t, fun _ e => nomatch e⟩
  | ref p =>
    cases r
    rcases ty with ⟨rfl, xs, hq⟩ | ⟨rfl, o, hk, hc, hd⟩ | ⟨rfl, hk⟩ | ⟨rfl, S, n, hk⟩
    · obtain ⟨its, _, pl, _⟩ := I.list hq
      refine ⟨pl.isList.typeIs, fun a e => ?_⟩
      cases e
      obtain ⟨o, n, e, c, hd, _⟩ := pl
      exact ⟨o, e, hd⟩
    · refine ⟨⟨o, I.kIn p o hk, hc⟩, fun a e => ?_⟩
      cases e
      exact ⟨o, I.kIn _ o hk, hd⟩
    · have z : ∃ o, s.heap.get? p = some o ∧ o.ExactDict := by
        rcases hk with ⟨kvs, hk⟩ | ⟨kvs, hk⟩
        · obtain ⟨_, _, _, _, o, _, _, e, ex, _⟩ := I.hok p _ hk
          exact ⟨o, e, ex⟩
        · obtain ⟨_, _, _, _, o, _, _, e, ex, _⟩ := I.hok p _ hk
          exact ⟨o, e, ex⟩
      obtain ⟨o, e, ex⟩ := z
      refine ⟨⟨o, e, ex.1⟩, fun a e2 => ?_⟩
      cases e2
      exact ⟨o, e, ex.2.1⟩
    · obtain ⟨o, _, _, _, e, ex, _⟩ := I.hok p _ hk
      refine ⟨⟨o, e, ex.1⟩, fun a e2 => ?_⟩
      cases e2
      exact ⟨o, e, ex.2.1⟩
  | _ => exact False.elim ty
def tBM0 (K : PySem.W.Frag) (T : String) (r : V → List V → Hp → VK → Prop) (to : TE) : TE := fun σ H Q => to σ H fun x H1 => tyV K T x H1 ∧ r x [] H1 Q
def tBM (K : PySem.W.Frag) (T : String) (r : V → List V → Hp → VK → Prop) (to : TE) (t : TA) : TE := fun σ H Q => to σ H fun x H1 => tyV K T x H1 ∧ t σ H1 fun xs H2 => r x xs H2 Q
variable {o e : Expr} {es : List Expr} {to : TE} {t : TA} {name : Str} {apos cpos : Pos} {T id : String} {r : V → List V → Hp → VK → Prop}
theorem pe_bm0 (pa : PlainAttrs T) (slot : Slot T name id) (hty : typeOf (.builtin id) = pure (.type "method_descriptor")) (hm : MtR X id r) (ho : PE X o to)
    (hbase : attributeBase o name X.env (eval o X.env) = eval o X.env := by rfl) (hline : (apos.endLine == cpos.line) = true := by rfl) : PE X (.Call (.Attribute o name apos) [] [] cpos) (tBM0 X.K T r to) := by
  intro pins s σ H Q I h
  refine wpAny_Call_method0_late hbase hline (thn (ho pins s σ H _ I h) fun v s1 ⟨x, H1, I1, r1, ty, q1⟩ => ?_)
  obtain ⟨h1, h2⟩ := tyV_is I1 r1 ty
  exact ⟨T, id, pa, slot, hty, h1, h2, Calls.callWith_builtin rfl (PySem.evalArgs_none (hm pins s1 σ H1 x [] v [] Q I1 r1 .nil q1))⟩
theorem pe_bm (pa : PlainAttrs T) (slot : Slot T name id) (hty : typeOf (.builtin id) = pure (.type "method_descriptor")) (hm : MtR X id r) (ho : PE X o to) (ha : PA X (e :: es) t)
    (hbase : attributeBase o name X.env (eval o X.env) = eval o X.env := by rfl)
    (hfew : ((backTo cpos (starEach (e :: es) X.env)).all (fun x => !x.1) && (backToKw cpos (keywordEach [] X.env)).all (fun x => x.1.isSome)
      && decide ((e :: es).length + ([] : List Keyword).length + (if ([] : List Keyword).isEmpty then 0 else 1) < 30)) = true := by rfl)
    (hline : (apos.endLine == cpos.line) = true := by rfl) (hs : starEach (e :: es) X.env = (false, eval e X.env) :: starEach es X.env := by rfl) (hplain : (backTo cpos (starEach es X.env)).any (·.1) = false := by rfl) :
    PE X (.Call (.Attribute o name apos) (e :: es) [] cpos) (tBM X.K T r to t) := by
  intro pins s σ H Q I h
  refine wpAny_Call_method_late hbase hfew hline rfl (thn (ho pins s σ H _ I h) fun v s1 ⟨x, H1, I1, r1, ty, q1⟩ => ?_)
  obtain ⟨h1, h2⟩ := tyV_is I1 r1 ty
  refine ⟨T, id, pa, slot, hty, h1, h2, ?_⟩
  have hA := ha cpos pins s1 σ H1 _ I1 q1
  rw [hs] at hA ⊢
  refine Calls.callWith_builtin (by show (false || (backTo cpos (starEach es X.env)).any (·.1)) = false; rw [hplain] <;> rfl) (Calls.evalArgs_plain ?_)
  exact thn hA fun us s2 ⟨vs, H2, I2, r2, q2⟩ => hm pins s2 σ H2 x vs v us Q I2 r1 r2 q2
/- xs.append(e), list.index on a module's tuple .. are MtR facts of 06m -/
end
end L2

namespace L2
open PySem PySem.Spec PyProof.Rows

def MtM (X : Cx) (id : String) (r : V → List V → Hp → VK → Prop) : Prop :=
  ∀ (pins : List (Addr × Obj)) (s : Shared) (σ : St) (H : Hp) (x : V) (xs : List V) (v : Value) (us : List Value) (Q : VK), Inv X pins σ H s → RelV x v → Vals xs us → r x xs H Q →
    wpAny (model X.prog X.w) X.A (call (.builtin id) (v :: us)) (EP X pins σ Q) X.xe s

/-! ### lists of values -/
theorem Vals.one : ∀ {x : V} {us : List Value}, Vals [x] us → ∃ u, us = [u] ∧ RelV x u
  | _, _, .cons r .nil => ⟨_, rfl, r⟩
theorem Vals.zero : ∀ {us : List Value}, Vals [] us → us = []
  | _, .nil => rfl
theorem Vals.dropLast {xs : List V} {us : List Value} (h : Vals xs us) : Vals xs.dropLast us.dropLast := by
  induction h with
  | nil => exact .nil
  | cons r t ih =>
    cases t with
    | nil => exact .nil
    | cons q t' => exact .cons r ih
theorem Vals.rep {xs : List V} {us : List Value} (h : Vals xs us) : ∀ k : Nat, Vals (List.replicate k xs).flatten (List.replicate k us).flatten
  | 0 => .nil
  | k + 1 => by
    rw [List.replicate_succ, List.replicate_succ, List.flatten_cons, List.flatten_cons]
    exact Vals.append h (Vals.rep h k)
theorem erase_last {α : Type} (l : List α) : l.eraseIdx (l.length - 1) = l.dropLast := by
  induction l with
  | nil => rfl
  | cons a r ih =>
    cases r with
    | nil => rfl
    | cons b r =>
      have e : (a :: b :: r).length - 1 = ((b :: r).length - 1) + 1 := by
        have h1 : (a :: b :: r).length = r.length + 2 := rfl
        have h2 : (b :: r).length = r.length + 1 := rfl
        omega
      rw [e, List.eraseIdx_cons_succ, ih]
      all_goals rfl

section
variable {X : Cx} {pins : List (Addr × Obj)} {σ : St} {H : Hp} {s : Shared} {l b : Addr} {xs ys zs : List V}

/-! ### the two steps: a tracked list is rewritten, a new list is laid -/
theorem Inv.lset {its its' : List Value} {n : Nat} {f : Array Value → Array Value} {t' : Nat} (I : Inv X pins σ H s) (hH : H l = some (.lst xs))
    (e : s.heap.get? l = some { cls := .type "list", data := .seq its.toArray n }) (hf : f its.toArray = its'.toArray) (hv : Vals ys its') (hz : ys.length ≤ sizeLine) :
    Inv X pins σ (upd H l (.lst ys)) { s with heap := s.heap.update l (Obj.mapSeq f), toks := t' } := by
  have q := PySem.IsL.update e f
  rw [hf] at q
  refine I.write (x := l) (e := l) (by rw [hH]; exact trivial) (.inl rfl) (fun b' u hb hu => (Heap.get?_update_other s.heap (Obj.mapSeq f) (Ne.symm hb)).trans hu) ⟨_, q⟩ ?_
  exact ⟨hz, its', _, hv, q⟩
theorem Inv.lnew {its : List Value} {t' : Nat} (I : Inv X pins σ H s) (hv : Vals ys its) (hz : ys.length ≤ sizeLine) :
    Inv X pins σ (upd H s.heap.objs.size (.lst ys)) { s with heap := s.heap.push { cls := .type "list", data := .seq its.toArray }, toks := t' } :=
  I.laid (fun _ _ q => Heap.get?_push_of_some _ q) (Nat.le_refl _) ⟨hz, its, 0, hv, Heap.get?_push_size _ rfl⟩
theorem Inv.fresh (I : Inv X pins σ H s) : H s.heap.objs.size = none := I.hok.fresh (Nat.le_refl _)
theorem Inv.lstM (I : Inv X pins σ H s) (hH : H l = some (.lst xs)) : xs.length ≤ sizeLine ∧ ∃ (its : List Value) (n : Nat), Vals xs its ∧ xs.length = its.length ∧ s.heap.get? l = some { cls := .type "list", data := .seq its.toArray n } := by
  obtain ⟨z, its, n, r, e⟩ := I.hok l _ hH
  exact ⟨z, its, n, r, r.length, e⟩

theorem notLongL {n : Nat} (h : n ≤ sizeLine) : Builtin.List.listTooLong n = false := by
  unfold Builtin.List.listTooLong
  exact decide_eq_false (by omega)
end

section
variable {X : Cx}

/-! ### methods -/
def rAppend : V → List V → Hp → VK → Prop := fun x vs H Q => ∃ l xs y, x = .ref l ∧ vs = [y] ∧ H l = some (.lst xs) ∧ xs.length < sizeLine ∧ Q .non (upd H l (.lst (xs ++ [y])))
theorem mt_append : MtM X "list.append" rAppend := by
  intro pins s σ H x vs v us Q I rx rv h
  obtain ⟨l, xs, y, rfl, rfl, hH, hz, q⟩ := h
  cases rx
  obtain ⟨u, rfl, ru⟩ := rv.one
  obtain ⟨z, its, n, r, hl, e⟩ := I.lstM hH
  refine call_meets F.slot_list_append ⟨_, e, rfl⟩ F.entry_list_append (F.args_list_append_2 _ _) (PySem.list_append l its.toArray n u (by rw [List.size_toArray]; omega)) ⟨e, ?_⟩
  refine ⟨.non, _, I.lset (its' := its ++ [u]) hH e (by simp) (r.append (.cons ru .nil)) ?_, rfl, q⟩
  rw [List.length_append, List.length_singleton]
  omega

def rExtend : V → List V → Hp → VK → Prop := fun x vs H Q => ∃ l b xs zs, x = .ref l ∧ vs = [.ref b] ∧ H l = some (.lst xs) ∧ H b = some (.lst zs) ∧ xs.length + zs.length ≤ sizeLine ∧ Q .non (upd H l (.lst (xs ++ zs)))
theorem mt_extend : MtM X "list.extend" rExtend := by
  intro pins s σ H x vs v us Q I rx rv h
  obtain ⟨l, b, xs, zs, rfl, rfl, hH, hB, hz, q⟩ := h
  cases rx
  obtain ⟨u, rfl, ru⟩ := rv.one
  cases ru
  obtain ⟨z, its, n, r, hl, e⟩ := I.lstM hH
  obtain ⟨z2, its2, n2, r2, hl2, e2⟩ := I.lstM hB
  have hsz : its.toArray.size + its2.toArray.size ≤ sizeLine := by rw [List.size_toArray, List.size_toArray]; omega
  have hlong : ¬ (!its.toArray.isEmpty && Builtin.List.listTooLong (its.toArray.size + its2.toArray.size)) = true := by
    rw [notLongL hsz, Bool.and_false]
    exact Bool.false_ne_true
  refine call_meets F.slot_list_extend ⟨_, e, rfl⟩ F.entry_list_extend (F.args_list_extend_2 _ _)
    (AutoSeq1.list_extend_list_list_0 l its.toArray n b its2.toArray n2 hlong (by rw [List.size_toArray]; omega) (by omega)) ⟨e, e2, ?_⟩
  refine ⟨.non, _, I.lset (its' := its ++ its2) hH e (by simp) (r.append r2) ?_, rfl, q⟩
  rw [List.length_append]
  omega

def rPop : V → List V → Hp → VK → Prop := fun x vs H Q => ∃ l xs y, x = .ref l ∧ vs = [] ∧ H l = some (.lst xs) ∧ xs[xs.length - 1]? = some y ∧ Q y (upd H l (.lst xs.dropLast))
theorem mt_pop : MtM X "list.pop" rPop := by
  intro pins s σ H x vs v us Q I rx rv h
  obtain ⟨l, xs, y, rfl, rfl, hH, hy, q⟩ := h
  cases rx
  have hus := rv.zero
  subst hus
  obtain ⟨z, its, n, r, hl, e⟩ := I.lstM hH
  obtain ⟨u, hu, ru⟩ := r.get hy
  have hy' : its.toArray[its.toArray.size - 1]? = some u := by
    show its.toArray[its.length - 1]? = some u
    rw [← Array.getElem?_toList, ← hl]
    exact hu
  refine call_meets F.slot_list_pop ⟨_, e, rfl⟩ F.entry_list_pop (F.args_list_pop_1 _) (MeetsSeq.list_pop_last l its.toArray n u hy' (by rw [List.size_toArray]; omega)) ⟨e, ?_⟩
  refine ⟨y, _, I.lset (its' := its.dropLast) hH e ?_ r.dropLast ?_, ru, q⟩
  · show its.toArray.eraseIdxIfInBounds (its.toArray.size - 1) = its.dropLast.toArray
    rw [List.size_toArray, List.eraseIdxIfInBounds_toArray, erase_last]
  · rw [List.length_dropLast]
    omega




/-! ### list + list, list += list, list * int -/
def rCat : R2 := fun x y H Q => ∃ l b xs zs, x = .ref l ∧ y = .ref b ∧ H l = some (.lst xs) ∧ H b = some (.lst zs) ∧ xs.length + zs.length ≤ sizeLine ∧ ∀ p, H p = none → Q (.ref p) (upd H p (.lst (xs ++ zs)))
theorem op_cat : OpR X (binaryOp .Add) rCat := by
  intro pins s σ H x y v u Q I rx ry h
  obtain ⟨l, b, xs, zs, rfl, rfl, hH, hB, hz, q⟩ := h
  cases rx
  cases ry
  obtain ⟨z, its, n, r, hl, e⟩ := I.lstM hH
  obtain ⟨z2, its2, n2, r2, hl2, e2⟩ := I.lstM hB
  refine PySem.P.add_list e e2 ?_ (by rw [List.size_toArray, List.size_toArray]; omega)
  have ea : its.toArray ++ its2.toArray = (its ++ its2).toArray := by simp
  rw [ea]
  exact ⟨.ref _, _, I.lnew (t' := s.toks) (r.append r2) (by rw [List.length_append]; omega), rfl, q _ I.fresh⟩

/-! ### del xs[i] -/
end

/-! ### xs[a:b] = ys -/
section
variable {prog : Program} {w : World} {A : Around} {E : Value → Shared → Prop} {s : Shared}
end

section
variable {X : Cx}
end
end L2

namespace Att
open PySem PySem.W PySem.Calls PyProof.Rows

/-! ### the script -/
theorem ints_of_wellAll {P : Params} {h : Heap} : ∀ (ns : List Int) (vs : List Value), WellAll P h vs (ns.map WData.int) → IntsAre vs ns := by
  intro ns
  induction ns with
  | nil =>
    intro vs w
    rw [List.map_nil] at w
    cases w
    exact .nil
  | cons n ns ih =>
    intro vs w
    rw [List.map_cons] at w
    cases w with
    | cons a b =>
      cases a
      exact .cons _ _ (ih _ b)

theorem script_of {l : OpenLaw} {n : Nat} (hn : l.most = some n) {P : Params} {h : Heap} {args : List WData} {vals : List Value}
    (hpre : l.row.toRowW.claim.pre args = true) (hwl : WellAll P h vals args) :
    ∃ a vs ns, vals = [Value.ref a] ∧ args = [WData.list (ns.map WData.int)] ∧ h.get? a = some { cls := .type "list", data := .seq vs.toArray } ∧ IntsAre vs ns ∧ ns.length ≤ n := by
  have hsh : WShape.hasAll [] args [.list .int] = true := (pre_splitW hpre).1
  have hc : l.pre.holds [] { args := args } = true := (pre_splitW hpre).2
  obtain ⟨d, r, rfl, h1, h2⟩ := hasAllW_cons hsh
  obtain rfl := hasAllW_nil h2
  obtain ⟨xs, rfl, h3⟩ := hasW_list h1
  obtain ⟨ns, rfl⟩ := items_int h3
  have hlen : ns.length ≤ n := by
    unfold OpenLaw.pre at hc
    have h4 : (WTm.not (.lt (.lit (.int (n : Int))) (.len (.arg 0)))).holds [] { args := [.list (ns.map .int)] } = true := by
      have h4 := (holds_andW hc).1
      rw [hn] at h4
      exact h4
    have h5 := condW_of h4 (w_not (w_lt w_lit (w_len_list (w_arg rfl))))
    rw [List.length_map] at h5
    refine Nat.le_of_not_lt fun q => ?_
    have q' : (n : Int) < ((ns.length : Nat) : Int) := by omega
    first
      | (rw [decide_eq_true q'] at h5; exact absurd h5 (by decide))
      | (simp at h5; omega)
  cases hwl with
  | cons w1 w2 =>
    cases w2
    cases w1 with
    | list ho hall => exact ⟨_, _, ns, rfl, rfl, ho, ints_of_wellAll ns _ hall, hlen⟩

theorem post_true (l : OpenLaw) (args : List WData) : l.row.toRowW.claim.post args (.bool true) args = true :=
  postW_of (r := l.row.toRowW) (X := (true == true))
    (show WShape.has [] (.bool true) .bool = true by first | rfl | decide | simp [WShape.has, WShape.arms, WShape.armsAll])
    (show (WTm.eq .res (.lit (.bool true))).value [] { args := args, res := some (.bool true), after := args } = some (.bool (true == true)) from w_eq_bool (w_res rfl) w_lit) rfl

/-! ### the attachment: holds_open's last premise (the goal 'hc' behind k_head) from a wpAny of the law's body -/

/-- the same from a codeAny of the CALL (for a layer whose function contracts speak of calls) -/
theorem attach_call {l : OpenLaw} {n : Nat} {q : Program} {loose : List Str} {XP : (Str → Option Value) → Heap → Prop} {YP : World → Heap → Prop} {d : DefRec}
    (hn : l.most = some n) (hdf : d.params.defaults = [])
    (call : ∀ (w : World) (s₀ s₁ : Shared) (mg mb : Str → Option Value) (fa : Addr) (o : Obj) (pm cd doc : Value) (a : Addr) (vs : List Value) (ns : List Int),
      Ground q loose [] XP w s₀ mg mb s₁.heap → YP w s₁.heap →
      s₁.heap.get? fa = some o → o.data = .func (docDef d.name d.params d.body d.scope pm cd doc) → s₁.heap.CodeRec cd d.name → mg d.name = some (.ref fa) →
      s₁.heap.get? a = some { cls := .type "list", data := .seq vs.toArray } → IntsAre vs ns → ns.length ≤ n → s₁.gens = #[] →
      codeAny (model l.prog w) callerA (.call (.ref fa) ⟨[.ref a], []⟩) (fun r s' => r = .ok (.ret (.bool true)) ∧ OldK s₁.heap s'.heap ∧ s'.os = s₁.os ∧ AllBare s'.gens) s₁) :
    WalkO q loose XP YP l.row.toRowW d [] (fun f vs => PySem.call f vs) := by
  intro w s₀ s₁ mg mb G Y fa o pm cd doc dV kV ho hd hcd hD hmg hg args vals as hpre hlay hrd hwl hlo
  obtain rfl : dV = .none := Dflts.none hD hdf
  obtain rfl : kV = .none := Dflts.noKw hD
  obtain ⟨a, vs, ns, rfl, rfl, hobj, hints, hlen⟩ := script_of hn hpre hwl
  refine enter_call (codeAny_mono (call w s₀ s₁ mg mb fa o pm cd doc a vs ns G Y ho (fd_plain hd) hcd hmg hobj hints hlen hg) fun r s' hq => ?_)
  obtain ⟨rfl, h2, h3, h4⟩ := hq
  exact ⟨.inl ⟨.bool true, .bool true, [], rfl, fun _ => rfl, .bool true, post_true l _, fun _ => ⟨List.Pairwise.nil, fun _ hm => (nomatch hm)⟩⟩, h2, h3, h4⟩


/-! ### rules over ANY heap (no ledger) from facts about the written part K: the library's own take a ledger (News) for what they write -/
section
variable {prog : Program} {w : World} {A : Around} {E : Value → Shared → Prop} {s : Shared} {K : Frag}





/-! the whole heap as the ledger: makes every rule that writes through a ledger a rule over any heap -/

end
end Att

namespace L2
open PySem PySem.Spec PyProof.Rows

theorem vals_ints : ∀ {vs : List Value} {ns : List Int}, IntsAre vs ns → Vals (ns.map V.int) vs
  | _, _, .nil => .nil
  | _, _, .cons n t h => .cons ⟨t, rfl⟩ (vals_ints h)

/-- nothing is tracked but the script, known to the object (or it is an object of the module) -/
def Only (H : Hp) : Prop := ∀ b, H b = none ∨ ∃ o xs, H b = some (.frz o (.lst xs))

/-- THE HEAD: the law's promise, at the heap behind the top. F, the promise of the law's def, may use that base is part of the heap (so K.In base, base.Ns mainGlobals mg stand in Mod) -/
theorem law_call {P : Program} {w : World} {K : PySem.W.Frag} {mg mb : Str → Option Value} {CX : CXT} {k : Nat} {fa a : Addr} {fd : FuncData} {x : Str} {sp : Sp} {s₁ : Shared} {vs : List Value} {ns : List Int}
    (KX : K.In s₁.heap) (hns : s₁.heap.Ns mainGlobals mg) (hb : s₁.heap.Ns builtinsNs mb) (hbb : ∀ x : Str, x ≠ "__name__" → mb x = bootBuiltins x) (hlim : s₁.heap.NoLimit) (hg : s₁.gens = #[])
    (ha : s₁.heap.get? a = some { cls := .type "list", data := .seq vs.toArray }) (hi : IntsAre vs ns) (hl : ns.length ≤ sizeLine) (hr : Room k callerA)
    (F : ∀ base : Heap, K.In base → base.Ns mainGlobals mg → FnOk P w K mg base CX k fa fd [x] sp) (hbind : ∀ (s : Shared) (u : Value), BindsTo s fd ⟨[u], []⟩ [(x, u)])
    (hsp : ∀ H : Hp, Only H → SqL K H a (ns.map V.int) → sp [.ref a] H (fun v _ => v = .bl true) fun _ _ _ => False)
    (hCX : ∀ H e s', CX [] H s₁ (fun _ _ _ => False) e s' → False) :
    codeAny (model P w) callerA (.call (.ref fa) ⟨[.ref a], []⟩) (fun r s' => r = .ok (.ret (.bool true)) ∧ OldK s₁.heap s'.heap ∧ s'.os = s₁.os ∧ AllBare s'.gens) s₁ := by
  have rv := vals_ints hi
  have lenV := hi.length
  -- from an abstract heap in which nothing but the script may be tracked
  have core : ∀ H : Hp, Only H → SqL K H a (ns.map V.int) → HOk P w H s₁.heap → (∀ b, H b ≠ none → b = a) → (H a ≠ none → K.lookup a = none) →
      codeAny (model P w) callerA (.call (.ref fa) ⟨[.ref a], []⟩) (fun r s' => r = .ok (.ret (.bool true)) ∧ OldK s₁.heap s'.heap ∧ s'.os = s₁.os ∧ AllBare s'.gens) s₁ := by
    intro H hO hS hok hA hK
    have base_of : ∀ {b : Addr} {o : Obj}, s₁.heap.get? b = some o → H b = none → (hidT s₁.heap H).get? b = some o := fun e n => hidT_get e n
    have noA : ∀ {b : Addr} {o : Obj} {es : Array DictEntry} {ep : Nat}, s₁.heap.get? b = some o → o.data = .dict es ep → H b = none := fun {b o es ep} e d => by
      cases q : H b with
      | none => rfl
      | some u =>
        have e' : b = a := hA b (by rw [q]; simp)
        subst e'
        rw [ha] at e; cases e
        have d' : Data.seq vs.toArray _ = Data.dict es ep := d
        cases d'
    have nsK : ∀ {b : Addr} {m : Str → Option Value}, s₁.heap.Ns b m → (hidT s₁.heap H).Ns b m := fun {b m} ⟨o, es, ep, e, d, r⟩ => ⟨o, es, ep, base_of e (noA e d), d, r⟩
    have hKb : K.In (hidT s₁.heap H) := fun b o e => base_of (KX b o e) (by
      cases q : H b with
      | none => rfl
      | some u =>
        have e' : b = a := hA b (by rw [q]; simp)
        subst e'
        rw [hK (by rw [q]; simp)] at e; cases e)
    have hM : Mod K mg (hidT s₁.heap H) := ⟨hKb, nsK hns, ⟨mb, nsK hb, hbb⟩, let ⟨mc, h1, h2⟩ := hlim; ⟨mc, nsK h1, h2⟩⟩
    have e0 : Env0 P w K mg (hidT s₁.heap H) callerA [] s₁ H := ⟨rfl, hM, fun b o e => of_hidT e, Nat.le_of_eq (hidT_size _ _), trivial, fun b hb => absurd (show b ∈ ([] : List Addr) from hb) (by simp), hok, .of_eq hg⟩
    refine codeAny_mono ((F _ hKb (nsK hns)).run callerA [] s₁ H ⟨[.ref a], []⟩ [.ref a] [.ref a] _ _ hr e0 (hbind s₁ (.ref a)) (.cons rfl .nil) (hsp H hO hS)) fun r s' h => ?_
    cases r with
    | error e => exact (hCX H e s' h).elim
    | ok fl =>
      cases fl with
      | next => exact False.elim h
      | brk => exact False.elim h
      | cont => exact False.elim h
      | ret u =>
        obtain ⟨v, H', os, bare, un, hok', r', q⟩ := h
        have q' : v = .bl true := q
        subst q'
        obtain rfl : u = Value.bool true := r'
        refine ⟨rfl, OldK.of_keep fun b o e => ?_, os, bare⟩
        cases q : H b with
        | none => exact un.keep b o e q (by intro z; exact absurd (show b ∈ ([] : List Addr) from z) (by simp)) (by simp)
        | some u =>
          rcases hO b with z | ⟨ob, xs, z⟩
          · rw [q] at z; cases z
          · have z2 := un.frzs b ob _ z
            obtain ⟨e1, _⟩ := hok b _ z
            obtain ⟨e2, _⟩ := hok' b _ z2
            rw [e] at e1; cases e1
            exact e2
  cases hk : K.lookup a with
  | some o =>
    -- the script is one of the module's own objects
    have e := KX a o hk
    rw [ha] at e
    cases e
    refine core (fun _ => none) (fun _ => .inl rfl) (.inr ⟨_, vs.toArray, _, hk, rfl, rfl, rfl, by rw [List.size_toArray, lenV]; exact hl, by simpa using rv⟩) (fun b u z => by have z' : (none : Option HO) = some u := z; cases z') (fun b z => absurd rfl z) fun z => absurd rfl z
  | none =>
    refine core (fun b => if b = a then some (.frz { cls := .type "list", data := .seq vs.toArray } (.lst (ns.map V.int))) else none) (fun b => ?_) (.inl (.inr ⟨{ cls := .type "list", data := .seq vs.toArray }, if_pos rfl⟩)) (fun b u z => ?_) (fun b z => ?_) fun _ => hk
    · by_cases hb : b = a
      · exact .inr ⟨_, _, if_pos hb⟩
      · exact .inl (if_neg hb)
    · by_cases hb : b = a
      · have z' := (if_pos hb).symm.trans z
        cases z'
        subst hb
        exact ⟨ha, by rw [List.length_map]; exact hl, vs, _, rv, ha⟩
      · have z' := (if_neg hb).symm.trans z
        cases z'
    · by_cases hb : b = a
      · exact hb
      · exact absurd (if_neg hb) z
end L2

namespace L2
open PySem PySem.Spec PyProof.Rows


/-- the goal that k_head leaves (case hc), from the law's promise. F gives the function object fd (K's own) once, then the promise over every base -/
theorem walk_of {l : PySem.W.OpenLaw} {n k : Nat} {q : Program} {loose : List Str} {XP : (Str → Option Value) → Heap → Prop} {YP : World → Heap → Prop} {d : DefRec} {K : Params → PySem.W.Frag} {CX : World → CXT} {sp : World → Sp} {x : Str}
    (hn : l.most = some n) (hn2 : n ≤ sizeLine) (hdf : d.params.defaults = []) (hr : Room k callerA)
    (hY : ∀ (w : World) (h : Heap), YP w h → (K w.params).In h)
    (F : ∀ (w : World) (mg : Str → Option Value) (fa : Addr) (h : Heap), (K w.params).In h → h.Ns mainGlobals mg → mg d.name = some (.ref fa) →
      ∃ fd : FuncData, (∀ (s : Shared) (u : Value), BindsTo s fd ⟨[u], []⟩ [(x, u)]) ∧
        ∀ base : Heap, (K w.params).In base → base.Ns mainGlobals mg → FnOk l.prog w (K w.params) mg base (CX w) k fa fd [x] (sp w))
    (hsp : ∀ (w : World) (H : Hp) (a : Addr) (ns : List Int), ns.length ≤ n → Only H → SqL (K w.params) H a (ns.map V.int) → sp w [.ref a] H (fun v _ => v = .bl true) fun _ _ _ => False)
    (hCX : ∀ (w : World) (H : Hp) (s : Shared) (e : Value) (s' : Shared), CX w [] H s (fun _ _ _ => False) e s' → False) :
    PySem.W.WalkO q loose XP YP l.row.toRowW d [] (fun f vs => PySem.call f vs) := by
  refine Att.attach_call hn hdf fun w s₀ s₁ mg mb fa o pm cd doc a vs ns G Y ho hd hcd hmg hobj hints hlen hg => ?_
  have KX := hY w _ Y
  obtain ⟨fd, hb, hF⟩ := F w mg fa _ KX G.T.g hmg
  exact law_call KX G.T.g G.T.b G.T.builtins G.T.nolimit hg hobj hints (Nat.le_trans hlen hn2) hr hF hb (fun H hO hS => hsp w H a ns hlen hO hS) fun H e s' => hCX w H s₁ e s'
end L2

/- THE LAST THEOREM (shape; LID, My.* are yours):
   My.Adr: a structure of the addresses that your layer names (classes, functions); My.Txt K t: a structure (Prop) of the equations over K;
   My.txt_mk : {K} {implicit addresses ..} (e1 : nsIn K mainGlobals "law" = some (some (.ref f))) (e2 : K.lookup f = some ⟨oc, od, .func (fnOf "law" "law" params body scope dV kV doc pm an cdv ct), sl⟩) (e3 : codeIn K cdv "law" = true) .. : ∃ t, My.Txt K t

theorem PySem.Challenge.cw_LID_holds : PySem.Challenge.rw_LID.Holds := by
  w_on; o_law; k_head; (case hw => w_witness2)
  k_fill
  refine L2.walk_of (l := PySem.Challenge.rw_LID) (n := 63) (k := 40) (x := "script") (CX := fun w => ..) (sp := fun _ => My.sp_law) rfl (by decide) rfl ⟨rfl, by decide, by decide⟩ (fun w h Y => PySem.W.kIn_of Y) ?F ?S ?C
  case F =>
    intro w mg fa h KX G hmg
    have T : ∃ t, My.Txt (L2.KOf KX) t := by
      dsimp only [L2.KOf]                          -- K must stand as «<heap const> w.params» for k_is
      refine' My.txt_mk ?e1 ?e2 ?e3 ..
      (case e1 => PySem.W.k_is)                    -- in the order: a name -> its address -> its object -> its parts
      (case e2 => PySem.W.k_is)
      ..
    obtain ⟨t, T⟩ := T
    have e0 := hmg.symm.trans (PySem.W.mg_of KX G T.law)
    cases e0                                       -- fa is the law's own address
    exact ⟨_, fun s u => .of_eq rfl, fun base kb nb => My.law_fn T kb nb⟩     -- if «.of_eq rfl» comes too early: refine' ⟨_, ?b, fun base kb nb => My.law_fn T kb nb⟩; exact fun s u => .of_eq rfl
  case S => exact fun w H a ns hl hO hS => ..
  case C => exact ..
(the tactic k_is has no namespace: write k_is) -/

/-! SHORT WORDS over the layer: a def of the text, its body, what a loop and a test want. -/
namespace L2
open PySem PySem.Spec PyProof.Rows

/-! ### the text by places -/
/-- the j-th statement of a class's body -/
def inClass (s : Stmt) (j : Nat) : Stmt := match s with
  | .ClassDef _ _ _ body _ _ _ _ _ _ _ => body.getD j (.Pass ⟨0, 0, 0, 0⟩)
  | _ => .Pass ⟨0, 0, 0, 0⟩
def defArgs (s : Stmt) : Arguments := match s with
  | .FunctionDef _ a _ _ _ _ _ _ _ _ => a
  | _ => { posonlyargs := [], args := [], vararg := none, kwonlyargs := [], kw_defaults := [], kwarg := none, defaults := [] }
def defBody (s : Stmt) : List Stmt := match s with
  | .FunctionDef _ _ b _ _ _ _ _ _ _ => b
  | _ => []
def defScope (s : Stmt) : Scope := match s with
  | .FunctionDef _ _ _ _ _ _ sc _ _ _ => sc
  | _ => { kind := .function, names := [], isGenerator := false, isCoroutine := false }

/-! ### no exception leaves a def -/
abbrev CX0 : CXT := fun _ _ _ _ _ _ => False
abbrev E0 : XK := fun _ _ _ => False
theorem pass0 {X : Cx} : Passes CX0 X E0 := fun _ _ _ _ _ _ _ h => h.elim

/-! ### a def (or method) of the text as it stands behind the top -/
structure Fun (K : PySem.W.Frag) (x qual : Str) (st : Stmt) (f : Addr) (fd : FuncData) : Prop where
  ex : ∃ (oc : Value) (od : Option Addr) (kV doc pm : Value) (an : Option Addr) (cdv ct : Value) (osl : Array (Option Value)),
    fd = PySem.W.fnOf x qual (defArgs st) (defBody st) (defScope st) .none kV doc pm an cdv ct ∧ K.lookup f = some ⟨oc, od, .func fd, osl⟩ ∧ PySem.W.codeIn K cdv qual = true
  kp : PySem.W.keepIn K (.ref f) = true
section
variable {P : Program} {w : World} {K : PySem.W.Frag} {mg : Str → Option Value} {base : Heap}
/-- THE RULE for a def: its body as a term of rules, and the reading of that term -/
theorem Fun.ok {x qual : Str} {st : Stmt} {f : Addr} {fd : FuncData} {N ps : List Str} {k : Nat} {sp : Sp} (F : Fun K x qual st f fd) (S : FnScope N ps (defScope st)) (len : ∀ vs H Q E, sp vs H Q E → vs.length = ps.length)
    (hbody : ∀ (cdv : Value) (A : Around) (outer : List Env) (s : Shared) (H : Hp) (vs : List V) (Q : VK) (E : XK), Room k (A.deeper (envOfC qual (defScope st) s.heap.objs.size f cdv)) → sp vs H Q E →
      ∃ t, PSs (cxOf CX0 P w K mg base N qual (defScope st) f cdv A outer s H E).nox (defBody st) t ∧ t { nx := fun _ H' => Q .non H', rt := Q } (start N vs) H) : FnOk P w K mg base CX0 (k + 1) f fd ps sp := by
  obtain ⟨oc, od, kV, doc, pm, an, cdv, ct, osl, rfl, lk, hcd⟩ := F.ex
  refine fn_of lk hcd S len fun A outer s H vs Q E hr hsp => ?_
  obtain ⟨t, h, q⟩ := hbody cdv A outer s H vs Q E hr hsp
  exact ⟨t, h.nox, q⟩
/-- how its arguments bind (no defaults): h is «fun _ _ _ _ _ _ us hl => match us, hl with | [_, _], _ => rfl», one _ a parameter -/
theorem Fun.binds {x qual : Str} {st : Stmt} {f : Addr} {fd : FuncData} {ps : List Str} (F : Fun K x qual st f fd)
    (h : ∀ (kV doc pm : Value) (an : Option Addr) (cdv ct : Value) (us : List Value), us.length = ps.length → bindArgs (PySem.W.fnOf x qual (defArgs st) (defBody st) (defScope st) .none kV doc pm an cdv ct) ⟨us, []⟩ = pure (ps.zip us)) : Binds K fd ps [] := by
  obtain ⟨oc, od, kV, doc, pm, an, cdv, ct, osl, rfl, lk, hcd⟩ := F.ex
  exact .all (h kV doc pm an cdv ct)
theorem fun_mk {x qual : Str} {st : Stmt} {f : Addr} {oc : Value} {od an : Option Addr} {osl : Array (Option Value)} {kV doc pm cdv ct : Value} (l : K.lookup f = some ⟨oc, od, .func (PySem.W.fnOf x qual (defArgs st) (defBody st) (defScope st) .none kV doc pm an cdv ct), osl⟩)
    (c : PySem.W.codeIn K cdv qual = true) (k : PySem.W.keepIn K (.ref f) = true) : Fun K x qual st f (PySem.W.fnOf x qual (defArgs st) (defBody st) (defScope st) .none kV doc pm an cdv ct) := ⟨⟨oc, od, kV, doc, pm, an, cdv, ct, osl, rfl, l, c⟩, k⟩
end
theorem small1000 {n : Nat} (h : n ≤ 1000) : n < sizeLine := Nat.lt_of_le_of_lt h (by decide)

/-! ### expressions in short: the name that stands in the i-th slot -/
section
variable {X : Cx}
theorem pv (i : Nat) {x : Str} {pos : Pos} (hN : X.N[i]? = some x := by rfl) (hv : Vis X.env.scope x := by first | exact Or.inl rfl | exact Or.inr (Or.inl rfl) | exact Or.inr (Or.inr rfl)) (hd : (x == ("__debug__" : Str)) = false := by decide)
    (hcd : (x == ("__classdict__" : Str)) = false := by decide) : PE X (.Name x pos) (tVar i) := pe_var hN hv hd hcd
end

/-! ### tests -/
theorem iteF {A B : Prop} (h : B) : if false = true then A else B := by
  rw [if_neg Bool.false_ne_true]
  exact h
theorem iteT {A B : Prop} (h : A) : if true = true then A else B := by
  rw [if_pos rfl]
  exact h
theorem ite2 {c A B : Prop} [Decidable c] (h1 : c → A) (h2 : ¬ c → B) : if c then A else B := by
  by_cases h : c
  · rw [if_pos h]
    exact h1 h
  · rw [if_neg h]
    exact h2 h

/-! ### heaps -/
/-- all that was tracked is as it was -/
def Same (H H' : Hp) : Prop := ∀ b o, H b = some o → H' b = some o
theorem Same.trans {H H1 H2 : Hp} (a : Same H H1) (b : Same H1 H2) : Same H H2 := fun c o h => b c o (a c o h)
theorem Same.free {H H' : Hp} (e : Same H H') {l : Addr} (h : H' l = Option.none) : H l = Option.none := by
  cases q : H l with
  | none => rfl
  | some o =>
    rw [e l o q] at h
    cases h
theorem Same.seq {K : PySem.W.Frag} {H H' : Hp} {a : Addr} {xs : List V} (e : Same H H') (h : SqL K H a xs) : SqL K H' a xs := by
  rcases h with (h | ⟨o, h⟩) | h
  · exact .inl (.inl (e _ _ h))
  · exact .inl (.inr ⟨o, e _ _ h⟩)
  · exact .inr h

end L2

namespace L2
open PySem PySem.Spec PyProof.Rows
/-! ### lists of pairs as tables -/
section
variable {κ : Type} [DecidableEq κ]



end


/-! ### a tracked dict, its keys ints and texts or tuples of these -/


section
variable {P : Program} {w : World} {H : Hp} {h : Heap} {a : Addr}
end



section
variable {X : Cx} {pins : List (Addr × Obj)} {σ : St} {H : Hp} {s : Shared} {a : Addr} {y v : V} {u r : Value} {o : Option V} {A : Around} {E : Value → Shared → Prop}


end

section
variable {X : Cx} {pins : List (Addr × Obj)} {σ : St} {H : Hp} {s : Shared} {a : Addr} {kvs : List (Key × V)} {k : Key} {u : Value} {A : Around} {E : Value → Shared → Prop}
end


/-! ### readings and rules -/



section
variable {X : Cx} {o i e value : Expr} {pos pos' tpos : Pos} {td ty tv : TE}
end


/-! ### displays -/
section
variable {X : Cx} {pos : Pos}
end




/-! ### methods -/


section
variable {X : Cx} {pins : List (Addr × Obj)} {σ : St} {H : Hp} {s : Shared} {a : Addr} {y d : V} {u r : Value} {o : Option V} {A : Around} {E : Value → Shared → Prop}
end

section
variable {X : Cx} {o e f : Expr} {apos cpos : Pos} {td ty tx : TE}
end

/-! ### dict(d): a copy -/
section
variable {X : Cx} {pins : List (Addr × Obj)} {σ : St} {H : Hp} {s : Shared} {a : Addr} {kvs : List (Key × V)} {A : Around} {E : Value → Shared → Prop}
end


section
variable {X : Cx} {pins : List (Addr × Obj)} {σ : St} {H : Hp} {s : Shared} {a : Addr} {y : V} {u : Value} {A : Around} {E : Value → Shared → Prop}
end
end L2

namespace L2
open PySem PySem.Spec PyProof.Rows
section
variable {X : Cx}
end

/-! ### a dict's pairs: keys that differ -/
section
variable {κ : Type} [DecidableEq κ]
end
end L2


namespace L2
open PySem PySem.Spec PyProof.Rows

/-! ### list comprehensions: one clause, tests, any target -/
/-- the cells that a block takes from the frame around it -/
def clo (cells : List (Str × Addr)) : List (Str × NameKind) → List (Str × Addr) → List (Str × Addr)
  | [], cs => cs
  | (n, k) :: r, cs => clo cells r (if k == NameKind.free then (match cells.lookup n with | some a => (n, a) :: cs | none => cs) else cs)
theorem clo_loop {env : Env} : ∀ (names : List (Str × NameKind)) (cs : List (Str × Addr)), (∀ y ∈ names, y.2 = .free → ∃ c, env.cells.lookup y.1 = some c) →
    (forIn names cs fun (x : Str × NameKind) (r : List (Str × Addr)) => if (x.2 == NameKind.free) = true then (do let a ← cellOf env x.1; pure (ForInStep.yield ((x.1, a) :: r))) else (pure (ForInStep.yield r) : Sem (ForInStep (List (Str × Addr)))))
      = (pure (clo env.cells names cs) : Sem (List (Str × Addr)))
  | [], cs, _ => rfl
  | (n, k) :: r, cs, h => by
    have ih := clo_loop (env := env) r
    rw [List.forIn_cons]
    unfold clo
    cases hk : (k == NameKind.free) with
    | false =>
      simp only [Bool.false_eq_true, if_false]
      show (forIn r cs _ : Sem _) = _
      exact ih cs fun y hy => h y (List.mem_cons_of_mem _ hy)
    | true =>
      obtain ⟨c, hc⟩ := h (n, k) List.mem_cons_self (by simpa using hk)
      have hc' : env.cells.lookup n = some c := hc
      have e : cellOf env n = pure c := by unfold cellOf; rw [hc']
      simp only [if_true, e, hc']
      show (forIn r ((n, c) :: cs) _ : Sem _) = _
      exact ih _ fun y hy => h y (List.mem_cons_of_mem _ hy)
theorem clo_is {scope : Scope} {env : Env} (h : ∀ y ∈ scope.names, y.2 = .free → ∃ c, env.cells.lookup y.1 = some c) : closureFor scope env = pure (clo env.cells scope.names []) := by
  unfold closureFor
  have q := clo_loop (env := env) scope.names [] h
  refine Eq.trans ?_ (congrArg (fun z : Sem (List (Str × Addr)) => z >>= fun cs => pure cs) q)
  rfl
theorem clo_mem {cells : List (Str × Addr)} : ∀ (names : List (Str × NameKind)) (cs : List (Str × Addr)), (∀ p ∈ cs, cells.lookup p.1 = some p.2) → ∀ p ∈ clo cells names cs, cells.lookup p.1 = some p.2
  | [], cs, h, p, hp => h p hp
  | (n, k) :: r, cs, h, p, hp => by
    unfold clo at hp
    refine clo_mem r _ (fun q hq => ?_) p hp
    split at hq
    · split at hq
      · rename_i a e
        rcases List.mem_cons.mp hq with rfl | hq
        · exact e
        · exact h q hq
      · exact h q hq
    · exact h q hq
theorem clo_sub {cells : List (Str × Addr)} {names : List (Str × NameKind)} {x : Str} {c : Addr} (e : (clo cells names []).lookup x = some c) : cells.lookup x = some c :=
  clo_mem names [] (fun _ z => nomatch z) (x, c) (PySem.mem_of_lookup e)
theorem clo_keeps {cells : List (Str × Addr)} : ∀ (names : List (Str × NameKind)) (cs : List (Str × Addr)) (p : Str × Addr), p ∈ cs → p ∈ clo cells names cs
  | [], cs, p, hp => hp
  | (n, k) :: r, cs, p, hp => by
    unfold clo
    refine clo_keeps r _ p ?_
    split
    · split
      · exact List.mem_cons_of_mem _ hp
      · exact hp
    · exact hp
theorem clo_has {cells : List (Str × Addr)} {x : Str} {c : Addr} (hc : cells.lookup x = some c) : ∀ (names : List (Str × NameKind)) (cs : List (Str × Addr)), (x, NameKind.free) ∈ names → (x, c) ∈ clo cells names cs
  | [], _, h => nomatch h
  | (n, k) :: r, cs, h => by
    unfold clo
    rcases List.mem_cons.mp h with e | h
    · cases e
      refine clo_keeps r _ _ ?_
      rw [hc]
      simp
    · exact clo_has hc r _ h
theorem lookup_some_of_mem {x : Str} {c : Addr} : ∀ {l : List (Str × Addr)}, (x, c) ∈ l → ∃ d, l.lookup x = some d
  | [], h => nomatch h
  | (y, d) :: r, h => by
    rw [List.lookup_cons]
    cases e : (x == y) with
    | true => exact ⟨d, rfl⟩
    | false =>
      rcases List.mem_cons.mp h with z | z
      · cases z
        simp at e
      · exact lookup_some_of_mem z
theorem relabel_look {env : Env} : ∀ {names : List (Str × NameKind)} {x : Str} {k : NameKind},
    (names.map fun (n, k) => if (k == NameKind.free && env.scope.kind == .function && env.kindOf n == some .cell) then (n, NameKind.cell) else (n, k)).lookup x = some k →
      names.lookup x = some k ∨ (k = .cell ∧ names.lookup x = some .free)
  | [], _, _, h => by simp at h
  | (n, k0) :: r, x, k, h => by
    have ih := @relabel_look env r x k
    rw [List.map_cons] at h
    rw [List.lookup_cons]
    by_cases c : (k0 == NameKind.free && env.scope.kind == .function && env.kindOf n == some .cell) = true
    · have h' := h
      simp only [c, if_true] at h'
      rw [List.lookup_cons] at h'
      cases e : (x == n) with
      | true =>
        rw [e] at h'
        have c1 : k0 = .free := by
          simp only [Bool.and_eq_true] at c
          simpa using c.1.1
        refine .inr ⟨(Option.some.inj h').symm, ?_⟩
        rw [c1]
      | false =>
        rw [e] at h'
        exact ih h'
    · have h' := h
      simp only [c, Bool.false_eq_true, if_false] at h'
      rw [List.lookup_cons] at h'
      cases e : (x == n) with
      | true =>
        rw [e] at h'
        exact .inl h'
      | false =>
        rw [e] at h'
        exact ih h'
theorem relabel_free {env : Env} : ∀ {names : List (Str × NameKind)} {x : Str}, names.lookup x = some .free →
    (names.map fun (n, k) => if (k == NameKind.free && env.scope.kind == .function && env.kindOf n == some .cell) then (n, NameKind.cell) else (n, k)).lookup x = some .cell ∨
    (names.map fun (n, k) => if (k == NameKind.free && env.scope.kind == .function && env.kindOf n == some .cell) then (n, NameKind.cell) else (n, k)).lookup x = some .free
  | [], _, h => by simp at h
  | (n, k0) :: r, x, h => by
    have ih := @relabel_free env r x
    rw [List.map_cons]
    rw [List.lookup_cons] at h
    by_cases c : (k0 == NameKind.free && env.scope.kind == .function && env.kindOf n == some .cell) = true
    · simp only [c, if_true, List.lookup_cons]
      cases e : (x == n) with
      | true => exact .inl rfl
      | false =>
        rw [e] at h
        exact ih h
    · simp only [c, Bool.false_eq_true, if_false, List.lookup_cons]
      cases e : (x == n) with
      | true =>
        rw [e] at h
        exact .inr h
      | false =>
        rw [e] at h
        exact ih h

/-- what a block's scope must be like: sc the frame's scope around it -/
def compOk (sc scope : Scope) : Bool :=
  scope.kind == .function && scope.names.all fun y => y.2 != .cell && (y.2 != .local || scope.names.lookup y.1 == some .local) && (y.2 != .free || (sc.names.lookup y.1 == some .cell || sc.names.lookup y.1 == some .free))
structure CompScope (sc scope : Scope) : Prop where
  kind : scope.kind = .function
  cell : ∀ y ∈ scope.names, y.2 ≠ .cell
  own : ∀ y ∈ scope.names, y.2 = .local → scope.names.lookup y.1 = some .local
  free : ∀ y ∈ scope.names, y.2 = .free → sc.names.lookup y.1 = some .cell ∨ sc.names.lookup y.1 = some .free
theorem CompScope.of {sc scope : Scope} (h : compOk sc scope = true) : CompScope sc scope := by
  unfold compOk at h
  rw [Bool.and_eq_true, List.all_eq_true] at h
  obtain ⟨h1, h2⟩ := h
  have h3 : ∀ y ∈ scope.names, (y.2 ≠ .cell ∧ (y.2 ≠ .local ∨ scope.names.lookup y.1 = some .local)) ∧ (y.2 ≠ .free ∨ (sc.names.lookup y.1 = some .cell ∨ sc.names.lookup y.1 = some .free)) := fun y hy => by
    have q := h2 y hy
    simpa [Bool.and_eq_true, Bool.or_eq_true] using q
  refine ⟨by simpa using h1, fun y hy => (h3 y hy).1.1, fun y hy e => ?_, fun y hy e => ?_⟩
  · exact (h3 y hy).1.2.resolve_left fun n => n e
  · exact (h3 y hy).2.resolve_left fun n => n e

/-- the context of a block -/
def cxB (X : Cx) (NC : List Str) (scope : Scope) (s3 : Shared) (H3 : Hp) (fp : List Addr) : Cx :=
  { X with N := NC, s₀ := s3, H₀ := H3, env := compEnvC scope (clo X.env.cells scope.names []) s3.heap.objs.size X.env, outer := X.stack, ex := fp, fn := fun _ => false, pn := [], xe := fun _ _ => False }
/-- the names at a block's entry: its own (none yet), then those of the frame, by their places there -/
def capt (own : Nat) (ix : List Nat) (σ : St) : St := List.replicate own none ++ ix.map fun j => (σ[j]?).getD none
/-- the caught names cs stand at the places ix of the frame -/
def Caps (X : Cx) (scope : Scope) : List Str → List Nat → Prop
  | [], [] => True
  | x :: cs, j :: js => (X.N[j]? = some x ∧ (X.env.kindOf x = some .cell ∨ X.env.kindOf x = some .free) ∧ scope.names.lookup x = some .free) ∧ Caps X scope cs js
  | _, _ => False
theorem Caps.len {X : Cx} {scope : Scope} : ∀ {cs : List Str} {js : List Nat}, Caps X scope cs js → cs.length = js.length
  | [], [], _ => rfl
  | _ :: _, _ :: _, h => by rw [List.length_cons, List.length_cons, Caps.len h.2]
  | [], _ :: _, h => h.elim
  | _ :: _, [], h => h.elim
theorem Caps.at {X : Cx} {scope : Scope} : ∀ {cs : List Str} {js : List Nat} {i : Nat} {x : Str}, Caps X scope cs js → cs[i]? = some x →
    ∃ j, js[i]? = some j ∧ X.N[j]? = some x ∧ (X.env.kindOf x = some .cell ∨ X.env.kindOf x = some .free) ∧ scope.names.lookup x = some .free
  | [], [], _, _, _, e => by simp at e
  | x :: _, j :: _, 0, _, h, e => by simp at e; subst e; exact ⟨j, rfl, h.1⟩
  | _ :: _, _ :: _, i + 1, _, h, e => by
    obtain ⟨j, e1, r⟩ := Caps.at (i := i) h.2 (by simpa using e)
    exact ⟨j, by simpa using e1, r⟩
  | [], _ :: _, _, _, h, _ => h.elim
  | _ :: _, [], _, _, h, _ => h.elim

/-- the tests of a clause -/
def tTrue : TT := fun _ H Q => Q true H
def PTs (Y : Cx) (ifs : List Expr) (t : TT) : Prop :=
  ∀ (pins : List (Addr × Obj)) (s : Shared) (σ : St) (H : Hp) (Q : Bool → Hp → Prop), Inv Y pins σ H s → t σ H Q →
    wpAny (model Y.prog Y.w) Y.A (forIn ifs true fun c r => if r = true then do let ok ← isTrue c Y.env (eval c Y.env); pure (ForInStep.yield ok) else pure (ForInStep.yield r)) (TP Y pins σ Q) Y.xe s
theorem pts_nil {Y : Cx} : PTs Y [] tTrue := fun _ _ _ H _ I h => wpAny_tests_nil ⟨H, I, h⟩
theorem pts_one {Y : Cx} {c : Expr} {t : TT} (h : PT Y c t) : PTs Y [c] t := fun pins s σ H Q I q => wpAny_tests_one (h pins s σ H Q I q)

/-- what is asked of a comprehension whose iterator has come and whose list stands at p: W the word by the turn, a measure, the list so far, the block's names, the heap; N what a turn is to reach -/
def CompW (g : TG) (tc : TT) (te : TE) (own : Nat) (ix : List Nat) (σ : St) (J : It) (p : Addr) (H1 : Hp) (QQ : Hp → Prop) : Prop :=
  ∃ W : Nat → Nat → List V → St → Hp → Prop, (∃ m, W 0 m [] (capt own ix σ) (upd H1 p (.lst []))) ∧ ∀ i m ys σ2 H2, W i m ys σ2 H2 → H2 p = some (.lst ys) ∧
    ((J.stop i H2 ∧ QQ H2) ∨ (J.go i H2 ∧ ys.length < sizeLine ∧ ∀ x H3, J.yld i H2 x H3 → ∃ N : List V → St → Hp → Prop, (∀ ys' σ' H', N ys' σ' H' → ∃ m', m' < m ∧ W (i + 1) m' ys' σ' H') ∧
      g x σ2 H3 fun σ4 H4 => tc σ4 H4 fun b H5 => if b = true then te σ4 H5 fun y H6 => H6 p = some (.lst ys) ∧ N (ys ++ [y]) σ4 (upd H6 p (.lst (ys ++ [y]))) else N ys σ4 H5))
/-- a list comprehension's reading -/
def tComp (wi : TI) (g : TG) (tc : TT) (te : TE) (own : Nat) (ix : List Nat) : TE := fun σ H Q => wi σ H fun J H1 => ∀ p, H1 p = none → CompW g tc te own ix σ J p H1 (Q (.ref p))

/-- a turn of the loop, the store of the target among it -/
theorem comp_loop {prog : Program} {w : World} {A : Around} {R : Result → Shared → Prop} {s : Shared} {elt target iter : Expr} {ifs : List Expr} {scope : Scope} {pos : Pos} {it acc : Value} {env : Env} (I : Nat → Shared → Prop)
    (turn : ∀ n s, I n s → wpAny (model prog w) A (pyNext it) (fun r s₁ => (r = none ∧ R (.ok .next) s₁) ∨ ∃ v, r = some v ∧
      wpAny (model prog w) A (letOwnedTupleGo target it v) (fun _ s₂ => wpAny (model prog w) A (assign target env v) (fun _ s₃ =>
        wpAny (model prog w) A (forIn ifs true fun c r => if r = true then do let ok ← isTrue c env (eval c env); pure (ForInStep.yield ok) else pure (ForInStep.yield r)) (fun ok s₄ =>
          (ok = true ∧ wpAny (model prog w) A (eval elt env) (fun x s₅ => wpAny (model prog w) A (call (.builtin "list.append") [acc, x]) (fun _ s₆ => ∃ m, m < n ∧ I m s₆) (fun _ _ => False) s₅) (fun _ _ => False) s₄) ∨
          (ok = false ∧ ∃ m, m < n ∧ I m s₄)) (fun _ _ => False) s₃) (fun _ _ => False) s₂) (fun _ _ => False) s₁) (fun _ _ => False) s)
    (n : Nat) (h : I n s) : codeAny (model prog w) A (.compLoop (.ListComp elt [⟨target, iter, ifs, 0⟩] scope pos) 0 it acc env) R s := by
  refine codeAny_loop rfl I (fun n s hI => ?_) n h
  show wpAny _ A ((compTurn (.ListComp elt [⟨target, iter, ifs, 0⟩] scope pos) 0 it acc env).onRaise (fun x => do noteFrame x env; theTreesLotGoes x)) _ _ s
  refine wpAny_noted ?_
  rw [compTurn_list]
  have no : ∀ (e : Value) (s' : Shared), False → notedBy (model prog w) A env (fun e s' => R (.error e) s') e s' := fun _ _ f => f.elim
  refine wpAny_bind (wpAny_standAt (wpAny_bind (wpAny_mono (turn n s hI) (fun r s₁ h₁ => ?_) no)))
  rcases h₁ with ⟨rfl, h₁⟩ | ⟨v, rfl, h₁⟩
  · exact wpAny_pure h₁
  refine wpAny_bind (wpAny_mono h₁ (fun _ s₂ h₂ => ?_) no)
  refine wpAny_bind (wpAny_mono h₂ (fun _ s₃ h₃ => ?_) no)
  refine wpAny_bind (wpAny_mono h₃ (fun ok s₄ h₄ => ?_) no)
  rcases h₄ with ⟨rfl, h₄⟩ | ⟨rfl, h₄⟩
  · refine wpAny_bind (wpAny_bind (wpAny_mono h₄ (fun x s₅ h₅ => ?_) no))
    exact wpAny_bind (wpAny_mono h₅ (fun _ s₆ h₆ => wpAny_pure (wpAny_pure ⟨rfl, h₆⟩)) no)
  · exact wpAny_pure ⟨rfl, h₄⟩

section
variable {X : Cx} {pins : List (Addr × Obj)} {σ : St} {H H' : Hp} {s s' : Shared}
/-- a block's entry: s3 the state with the new list laid, h4 the heap with the block's own names laid behind it -/
theorem block_start {NC own cs : List Str} {ix : List Nat} {scope : Scope} {fp : List Addr} {h4 : Heap} {t4 : Nat} (I : Inv X pins σ H s) (S : CompScope X.env.scope scope) (hN : NC = own ++ cs) (hc : Caps X scope cs ix)
    (hf : ∀ b ∈ fp, FpOk X pins H b) (hl : ∀ b ∈ fp, b < s.heap.objs.size) (hns : h4.Ns s.heap.objs.size fun _ => none) (hk : ∀ b o, s.heap.get? b = some o → h4.get? b = some o) :
    Inv (cxB X NC scope s H fp) [] (capt own.length ix σ) H { s with heap := h4, toks := t4 } := by
  have cs_has : ∀ y ∈ scope.names, y.2 = .free → ∃ c, X.env.cells.lookup y.1 = some c := fun y hy e => I.ok.has y.1 (S.free y hy e)
  have len := hc.len
  refine ⟨⟨I.ok.mod, S.kind, I.ok.glob, I.ok.blt, Nat.le_refl _, fun x y c e1 e2 => I.ok.inj x y c (clo_sub e1) (clo_sub e2), fun x hx => ?_, fun _ _ z => (nomatch z), I.ok.hd, I.ok.frames, .inl rfl, fun b hb => ⟨Nat.ne_of_lt (hl b hb), fun x c e => (hf b hb).2.2.2.2.1 x c (clo_sub e)⟩,
      I.bs, Nat.le_trans I.ok.bsz I.sz, fun b o e hb => ?_, fun b hb z => ?_, I.stack, I.stkFree⟩, rfl, I.bare, Un.kept hk, ⟨_, hns, fun i x v e1 e2 e3 => ?_⟩, fun x c e => ?_, I.hok.fresh (Nat.le_refl _), fun x c e => I.freeC x c (clo_sub e), fun p hp => ?_, I.hok.kept hk, ?_⟩
  · -- a cell for each caught name
    have hx' : (relabel scope X.env).names.lookup x = some .cell ∨ (relabel scope X.env).names.lookup x = some .free := hx
    have q : scope.names.lookup x = some .free := by
      rcases hx' with h | h
      · rcases relabel_look h with h | ⟨_, h⟩
        · exact absurd rfl (S.cell _ (PySem.mem_of_lookup h))
        · exact h
      · rcases relabel_look h with h | ⟨z, _⟩
        · exact h
        · cases z
    obtain ⟨c, hc'⟩ := cs_has (x, .free) (PySem.mem_of_lookup q) rfl
    exact lookup_some_of_mem (clo_has hc' scope.names [] (PySem.mem_of_lookup q))
  · rcases (hf b hb).2.2.2.1 with z | z
    · exact I.ok.noex b o e z
    · exact absurd (Nat.lt_of_lt_of_le (Heap.lt_size e) (Nat.le_trans I.ok.bsz z)) (Nat.lt_irrefl _)
  · rcases List.mem_cons.mp (I.stkSub b z) with z | z
    · exact (hf b hb).2.1 z
    · exact (hf b hb).2.2.1 z
  · -- the caught names' values
    have e1' : (own ++ cs)[i]? = some x := hN ▸ e1
    have hi : own.length ≤ i := by
      by_cases hi : own.length ≤ i
      · exact hi
      · unfold capt at e2
        rw [List.getElem?_append_left (by rw [List.length_replicate]; omega), List.getElem?_replicate, if_pos (by omega)] at e2
        cases e2
    rw [List.getElem?_append_right hi] at e1'
    obtain ⟨j, ej, en, kx, fx⟩ := hc.at e1'
    have e2' : (σ[j]?).getD none = some v := by
      unfold capt at e2
      rw [List.getElem?_append_right (by rw [List.length_replicate]; omega), List.length_replicate, List.getElem?_map, ej] at e2
      exact Option.some.inj e2
    have e2'' : σ[j]? = some (some v) := by
      cases z : σ[j]? with
      | none => rw [z] at e2'; cases e2'
      | some o => rw [z] at e2'; exact congrArg some e2'
    obtain ⟨m, _, hl'⟩ := I.loc
    obtain ⟨u, ru, l⟩ := hl' j x v en e2'' (kx.elim (fun z => .inr (.inl z)) fun z => .inr (.inr z))
    refine ⟨u, ru, .inr ⟨relabel_free fx, ?_⟩⟩
    rcases l with ⟨k, _⟩ | ⟨_, c, e, z⟩
    · rcases kx with k' | k' <;> rw [k] at k' <;> cases k'
    · obtain ⟨d, hd⟩ := lookup_some_of_mem (clo_has e scope.names [] (PySem.mem_of_lookup fx))
      have e' := clo_sub hd
      rw [e] at e'
      cases e'
      obtain ⟨o, ho, dd⟩ := z
      exact ⟨c, hd, o, hk c o ho, dd⟩
  · obtain ⟨v, o, ho, dd⟩ := I.cell x c (clo_sub e)
    exact ⟨v, o, hk c o ho, dd⟩
  · exact absurd (show p ∈ ([] : List (Addr × Obj)) from hp) (by simp)
  · show (capt own.length ix σ).length = NC.length
    rw [hN]
    unfold capt
    rw [List.length_append, List.length_append, List.length_replicate, List.length_map, len]
/-- .. and its end: the frame around it goes on -/
theorem block_end {NC : List Str} {scope : Scope} {fp : List Addr} {σ' : St} {h' : Heap} (I : Inv X pins σ H s) (hf : ∀ b ∈ fp, FpOk X pins H b) (J : Inv (cxB X NC scope s H fp) [] σ' H' s') (hs : Heap.SameBut s.heap.objs.size s'.heap h') : Inv X pins σ H' { s' with heap := h' } := by
  obtain ⟨hh, g, d, t, os⟩ := s'
  have hos : os = s.os := J.os
  subst hos
  have nC : H' s.heap.objs.size = none := J.free
  have un : Un (frs X.stack) fp H H' s.heap hh := J.base
  have out : ∀ b o, s.heap.get? b = some o → b ≠ s.heap.objs.size := fun b o e => Nat.ne_of_lt (Heap.lt_size e)
  have un' : Un (frs X.stack) fp H H' s.heap h' := ⟨fun b o e n hb hx => (hs.2 b (out b o e)).trans (un.keep b o e n hb hx), fun b o e n hb hx => let ⟨sl, q⟩ := un.slot b o e n hb hx; ⟨sl, (hs.2 b (out b o e)).trans q⟩, un.free,
    fun b o e hx => let ⟨o', q⟩ := un.there b o e hx; ⟨o', (hs.2 b (out b o e)).trans q⟩, un.tups, un.frzs, un.tbls⟩
  have hok : HOk X.prog X.w H' h' := fun b u e => by
    refine (J.hok b u e).stay (fun c v hc q => (hs.2 c ?_).trans q) (fun _ q => q) fun _ _ q => q
    rintro rfl
    rcases hc with rfl | hc
    · rw [nC] at e; cases e
    · rw [nC] at hc; cases hc
  have q := Inv.call (s := s) (h' := h') (g' := g) (d' := d) (t' := t) (ch := fp) I un' hok J.bare fun b hb => ⟨(hf b hb).2.2.2.1, (hf b hb).2.1, (hf b hb).2.2.2.2.1, (hf b hb).2.2.2.2.2⟩
  exact q
end
/-- the block from the new list on: what is wanted behind its last turn is told by fin -/
theorem comp_core {X : Cx} {elt tg iter : Expr} {ifs : List Expr} {scope : Scope} {pos : Pos} {NC own cs : List Str} {ix : List Nat} {g : TG} {tc : TT} {te : TE} (hc : X.calm = true) (S : CompScope X.env.scope scope) (hN : NC = own ++ cs) (hcap : Caps X scope cs ix)
    (hg : ∀ s3 H3 fp, PG (cxB X NC scope s3 H3 fp) tg g) (ht : ∀ s3 H3 fp, PTs (cxB X NC scope s3 H3 fp) ifs tc) (he : ∀ s3 H3 fp, PE (cxB X NC scope s3 H3 fp) elt te)
    {pins : List (Addr × Obj)} {σ : St} {H2 : Hp} {s2 : Shared} {it : Addr} {fp : List Addr} {tn : Nat → Heap → Prop} {J : It} (I2 : Inv X pins σ H2 s2) (T : Turn X.prog X.w X.K tg J fp it tn) (st2 : tn 0 s2.heap) (f2 : ∀ b ∈ fp, FpOk X pins H2 b) {QQ : Addr → Hp → Prop} {E : Value → Shared → Prop}
    {RR : Value → Addr → Result → Shared → Prop}
    (h2 : ∀ p, H2 p = none → CompW g tc te own.length ix σ J p H2 (QQ p))
    (fin : ∀ s3 H3 σ5 H5 s6, Inv X pins σ H3 s3 → (∀ b ∈ fp, FpOk X pins H3 b) → Inv (cxB X NC scope s3 H3 fp) [] σ5 H5 s6 → QQ s2.heap.objs.size H5 → RR (.ref s2.heap.objs.size) s3.heap.objs.size (.ok .next) s6) :
    wpAny (model X.prog X.w) X.A (newList []) (fun acc s3 => wpAny (model X.prog X.w) X.A (newFunctionEnv scope X.env.globals (clo X.env.cells scope.names []) [] X.env.qual none .none (some X.env)) (fun cenv s4 =>
      codeAny (model X.prog X.w) X.A (.compStart (.ListComp elt [⟨tg, iter, ifs, 0⟩] scope pos) 0 (.ref it) acc { cenv with scope := relabel scope X.env }) (RR acc cenv.locals) s4) E s3) E s2 := by
  have lt2 : ∀ b ∈ fp, b < s2.heap.objs.size := fun b hb => let ⟨_, e, _⟩ := T.obj _ _ st2 b hb; Heap.lt_size e
  obtain ⟨W, ⟨m0, w0⟩, turn⟩ := h2 _ I2.fresh
  refine wpAny_newObj_type ?_
  have I3 : Inv X pins σ (upd H2 s2.heap.objs.size (.lst [])) { s2 with heap := s2.heap.push { cls := .type "list", dict := none, data := .seq ([] : List Value).toArray } } := I2.lnew (t' := s2.toks) .nil (Nat.zero_le _)
  have f3 : ∀ b ∈ fp, FpOk X pins (upd H2 s2.heap.objs.size (.lst [])) b := fun b hb => ⟨by rw [upd_ne (Nat.ne_of_lt (lt2 b hb))]; exact (f2 b hb).1, (f2 b hb).2⟩
  have st3 : tn 0 (s2.heap.push { cls := .type "list", dict := none, data := .seq ([] : List Value).toArray }) := T.keep _ _ _ st2 fun b hb o e => Heap.get?_push_of_some _ e
  have lt3 : ∀ b ∈ fp, b < (s2.heap.push { cls := .type "list", dict := none, data := .seq ([] : List Value).toArray }).objs.size := fun b hb => by rw [Heap.size_push]; exact Nat.lt_succ_of_lt (lt2 b hb)
  refine wpAny_newFunctionEnv S.cell (fun _ z => nomatch z) (fun h4 hns hsb => ?_) S.kind
  dsimp only at hns hsb ⊢
  have hk4 : ∀ b o, (s2.heap.push { cls := .type "list", dict := none, data := .seq ([] : List Value).toArray }).get? b = some o → h4.get? b = some o := fun b o e =>
    hsb.extBut b o (Nat.ne_of_lt (Heap.lt_size e)) (Heap.get?_push_of_some _ e)
  have J0 := block_start (t4 := s2.toks + ([] : List (Str × Value)).length) I3 S hN hcap f3 lt3 hns hk4
  have st4 : tn 0 h4 := T.keep _ _ _ st3 fun b hb o e => hk4 b o e
  have fB : ∀ {H' : Hp}, (∀ b ∈ fp, H' b = none) → ∀ b ∈ fp, FpOk (cxB X NC scope { s2 with heap := s2.heap.push { cls := .type "list", dict := none, data := .seq ([] : List Value).toArray } } (upd H2 s2.heap.objs.size (.lst [])) fp) [] H' b := fun hn b hb => by
    refine ⟨hn b hb, Nat.ne_of_lt (lt3 b hb), fun z => ?_, .inl hb, fun x c e => (f3 b hb).2.2.2.2.1 x c (clo_sub e), fun p hp => absurd (show p ∈ ([] : List (Addr × Obj)) from hp) (by simp)⟩
    rcases List.mem_cons.mp (I3.stkSub b z) with z | z
    · exact (f3 b hb).2.1 z
    · exact (f3 b hb).2.2.1 z
  have loop : ∀ s4 : Shared, s4 = { s2 with heap := h4, toks := s2.toks + ([] : List (Str × Value)).length } →
      codeAny (model X.prog X.w) X.A (.compLoop (.ListComp elt [⟨tg, iter, ifs, 0⟩] scope pos) 0 (.ref it) (.ref s2.heap.objs.size) (compEnvC scope (clo X.env.cells scope.names []) (s2.heap.push { cls := .type "list", dict := none, data := .seq ([] : List Value).toArray }).objs.size X.env))
        (RR (.ref s2.heap.objs.size) (s2.heap.push { cls := .type "list", dict := none, data := .seq ([] : List Value).toArray }).objs.size) s4 := by
    rintro s4 rfl
    refine comp_loop (fun n s' => ∃ i ys σ' H', Inv (cxB X NC scope { s2 with heap := s2.heap.push { cls := .type "list", dict := none, data := .seq ([] : List Value).toArray } } (upd H2 s2.heap.objs.size (.lst [])) fp) [] σ' H' s' ∧ tn i s'.heap ∧ (∀ b ∈ fp, H' b = none) ∧ W i n ys σ' H') ?_ m0
      ⟨0, [], _, _, J0, st4, fun b hb => (f3 b hb).1, w0⟩
    rintro n s5 ⟨i, ys, σ5, H5, J5, st5, fr5, w5⟩
    obtain ⟨hp5, alt⟩ := turn i n ys σ5 H5 w5
    rcases alt with ⟨stop, qn⟩ | ⟨go, hz, step⟩
    · refine thn (T.done (cxB X NC scope _ _ fp) rfl rfl rfl hc i [] s5 σ5 H5 _ J5 (fB fr5) st5 stop) fun r s6 ⟨hr, J6⟩ => .inl ⟨hr, ?_⟩
      exact fin _ _ _ _ _ I3 f3 J6 qn
    · refine thn (T.item (cxB X NC scope _ _ fp) rfl rfl rfl hc i [] s5 σ5 H5 _ J5 (fB fr5) st5 go) fun r s6 ⟨u, hr, h6⟩ => .inr ⟨u, hr, ?_⟩
      refine thn h6 fun _ s7 ⟨x, H7, J7, r7, y7, st7, fr7⟩ => ?_
      have J7' := J7.pinned (fB fr7) (T.obj _ _ st7)
      obtain ⟨N, hN', q7⟩ := step x H7 y7
      refine thn (hg _ _ fp _ s7 σ5 H7 x u _ J7' r7 q7) fun _ s8 ⟨σ8, H8, J8, q8⟩ => ?_
      refine thn (ht _ _ fp _ s8 σ8 H8 _ J8 q8) fun ok s9 ⟨H9, J9, q9⟩ => ?_
      have again : ∀ {σa : St} {Ha : Hp} {sa : Shared} {ya : List V} {ma : Nat}, Inv (cxB X NC scope { s2 with heap := s2.heap.push { cls := .type "list", dict := none, data := .seq ([] : List Value).toArray } } (upd H2 s2.heap.objs.size (.lst [])) fp) ([] ++ pinsAt fp s7.heap) σa Ha sa → ma < n → W (i + 1) ma ya σa Ha →
          ∃ m, m < n ∧ ∃ i ys σ' H', Inv (cxB X NC scope { s2 with heap := s2.heap.push { cls := .type "list", dict := none, data := .seq ([] : List Value).toArray } } (upd H2 s2.heap.objs.size (.lst [])) fp) [] σ' H' sa ∧ tn i sa.heap ∧ (∀ b ∈ fp, H' b = none) ∧ W i m ys σ' H' := fun {σa Ha sa ya ma} Ja hm wa => by
        refine ⟨ma, hm, i + 1, ya, σa, Ha, Ja.unpinned, T.keep _ _ _ st7 fun b hb o e => (Ja.pin (b, o) (List.mem_append_right _ (List.mem_append_right _ (mem_pinsAt hb e)))).1, fun b hb => ?_, wa⟩
        obtain ⟨o, e, d⟩ := T.obj _ _ st7 b hb
        exact (Ja.pin (b, o) (List.mem_append_right _ (List.mem_append_right _ (mem_pinsAt hb e)))).2.1
      cases ok with
      | false =>
        obtain ⟨m', hm, w'⟩ := hN' _ _ _ (show N ys σ8 H9 from q9)
        exact .inr ⟨rfl, again J9 hm w'⟩
      | true =>
        refine .inl ⟨rfl, thn (he _ _ fp _ s9 σ8 H9 _ J9 q9) fun yv s10 ⟨y, H10, J10, r10, hp10, n10⟩ => ?_⟩
        obtain ⟨m', hm, w'⟩ := hN' _ _ _ n10
        refine thn (mt_append _ s10 σ8 H10 (.ref s2.heap.objs.size) [y] (.ref s2.heap.objs.size) [yv] (fun _ Hz => Hz = upd H10 s2.heap.objs.size (.lst (ys ++ [y]))) J10 rfl (.cons r10 .nil) ⟨_, ys, y, rfl, rfl, hp10, hz, rfl⟩) fun _ s11 ⟨_, H11, J11, _, e11⟩ => ?_
        subst e11
        exact again J11 hm w'
  exact codeAny_compStart_list (loop _ rfl) (T.self X.A 0 _ _ _ st4 (loop _ rfl))
/-- [elt for tg in iter if ..] -/
theorem pe_comp {X : Cx} {elt tg iter : Expr} {ifs : List Expr} {scope : Scope} {pos : Pos} {NC own cs : List Str} {ix : List Nat} {wi : TI} {g : TG} {tc : TT} {te : TE} (hc : X.calm = true) (S : CompScope X.env.scope scope) (hN : NC = own ++ cs) (hcap : Caps X scope cs ix)
    (hi : PI X tg iter wi) (hg : ∀ s3 H3 fp, PG (cxB X NC scope s3 H3 fp) tg g) (ht : ∀ s3 H3 fp, PTs (cxB X NC scope s3 H3 fp) ifs tc) (he : ∀ s3 H3 fp, PE (cxB X NC scope s3 H3 fp) elt te)
    (hs : ∀ x, foldedSetIterable iter X.env x = pure x := by intro _; rfl) : PE X (.ListComp elt [⟨tg, iter, ifs, 0⟩] scope pos) (tComp wi g tc te own.length ix) := by
  intro pins s σ H Q I h
  rw [eval_ListComp]
  have has : ∀ y ∈ scope.names, y.2 = .free → ∃ c, X.env.cells.lookup y.1 = some c := fun y hy e => I.ok.has y.1 (S.free y hy e)
  refine wpAny_comprehension_free (use := none) rfl hs (clo_is has) S.kind S.own (thn (hi pins s σ H _ I h) fun v s1 h1 => thn h1 fun itv s2 h2 => ?_)
  obtain ⟨it, fp, tn, J, H2, e, I2, T, st2, f2, h2⟩ := h2
  subst e
  refine comp_core hc S hN hcap hg ht he I2 T st2 f2 (QQ := fun p => Q (.ref p)) (RR := fun acc C => compPost (model X.prog X.w) X.A X.xe none (EP X pins σ Q) acc C) h2 fun s3 H3 σ5 H5 s6 I3 f3 J6 qn => ?_
  obtain ⟨m6, hn6, _⟩ := J6.loc
  exact ⟨m6, hn6, fun h7 hs7 => ⟨.ref s2.heap.objs.size, H5, block_end I3 f3 J6 hs7, rfl, qn⟩⟩
/-- x = [elt for ..]: the value is stored before the block's names are let go -/
theorem ps_comp {X : Cx} {elt tg iter : Expr} {ifs : List Expr} {scope : Scope} {pos py spos : Pos} {NC own cs : List Str} {ix : List Nat} {wi : TI} {g : TG} {tc : TT} {te : TE} {y : Str} {j : Nat} (hnd : X.N.Nodup) (hj : X.N[j]? = some y) (hy : X.env.scope.names.lookup y = some .local) (hc : X.calm = true) (S : CompScope X.env.scope scope) (hN : NC = own ++ cs) (hcap : Caps X scope cs ix)
    (hi : PI X tg iter wi) (hg : ∀ s3 H3 fp, PG (cxB X NC scope s3 H3 fp) tg g) (ht : ∀ s3 H3 fp, PTs (cxB X NC scope s3 H3 fp) ifs tc) (he : ∀ s3 H3 fp, PE (cxB X NC scope s3 H3 fp) elt te)
    (hsw : swapsWith (.ListComp elt [⟨tg, iter, ifs, 0⟩] scope pos) (some (.Name y py)) spos.line X.env = pure true := by rfl) (hs : ∀ x, foldedSetIterable iter X.env x = pure x := by intro _; rfl) :
    PS X (.Assign [.Name y py] (.ListComp elt [⟨tg, iter, ifs, 0⟩] scope pos) spos) (tAsg (tComp wi g tc te own.length ix) (gName j)) := by
  intro pins s σ H D I h
  rw [exec_Assign_Name_used _ _ _ _ hsw]
  refine wpAny_bind (wpAny_standAt (wpAny_bind ?_))
  show wpAny _ X.A (comprehension (.ListComp elt [⟨tg, iter, ifs, 0⟩] scope pos) scope X.env _ (newList []) false (eval iter X.env) (some (assign (.Name y py) X.env)) >>= fun _ => _) _ _ s
  have has : ∀ y ∈ scope.names, y.2 = .free → ∃ c, X.env.cells.lookup y.1 = some c := fun y hy e => I.ok.has y.1 (S.free y hy e)
  refine wpAny_bind (thn (wpAny_comprehension_free (use := some (assign (.Name y py) X.env)) (Q := fun _ s' => SP X pins D .next s') rfl hs (clo_is has) S.kind S.own (thn (hi pins s σ H _ I h) fun v s1 h1 => thn h1 fun itv s2 h2 => ?_)) fun _ s' hq => wpAny_pure (wpAny_pure hq))
  obtain ⟨it, fp, tn, J, H2, e, I2, T, st2, f2, h2⟩ := h2
  subst e
  refine comp_core hc S hN hcap hg ht he I2 T st2 f2 (QQ := fun p H' => D.nx (σ.set j (some (.ref p))) H') (RR := fun acc C => compPost (model X.prog X.w) X.A X.xe (some (assign (.Name y py) X.env)) (fun _ s' => SP X pins D .next s') acc C) h2 fun s3 H3 σ5 H5 s6 I3 f3 J6 qn => ?_
  obtain ⟨m6, hn6, _⟩ := J6.loc
  have I6 := block_end I3 f3 J6 (Heap.SameBut.refl ..)
  show wpAny _ X.A (assign (.Name y py) X.env (.ref s2.heap.objs.size)) _ _ s6
  refine wpAny_assign_Name (store_ok2 (v := .ref s2.heap.objs.size) I6 hnd hj (.inl hy) rfl (fun s7 I7 ⟨a, hs7, ha⟩ => ?_) (.inr hy))
  have hCa : s3.heap.objs.size ≠ a := by
    rcases ha with ha | ha
    · rw [ha]; exact Ne.symm (Nat.ne_of_lt I3.lt)
    · obtain ⟨v, q⟩ := I3.cell y a ha
      exact Ne.symm (Nat.ne_of_lt q.lt)
  refine ⟨m6, hn6.sameBut hs7 hCa, fun h8 hs8 => ?_⟩
  have nC : H5 s3.heap.objs.size = none := J6.free
  have I8 : Inv X pins (σ.set j (some (.ref s2.heap.objs.size))) H5 { s7 with heap := h8, toks := s7.toks } := by
    refine I7.turned (it := s3.heap.objs.size) (fun b o hb e => (hs8.2 b hb).trans e) nC (Ne.symm (Nat.ne_of_lt I3.lt)) (.inr I3.sz) (fun x c e z => ?_) (fun p hp z => ?_)
    · obtain ⟨v, q⟩ := I3.cell x c e
      exact absurd (z ▸ q.lt) (Nat.lt_irrefl _)
    · exact absurd (z ▸ Heap.lt_size (I3.pin p hp).1) (Nat.lt_irrefl _)
  exact ⟨_, H5, I8, qn⟩
end L2

namespace L2
open PySem PySem.Spec PyProof.Rows

/-! ### isinstance -/
theorem call_isinst {X : Cx} : CallR X (.builtin "isinstance") (fun xs H Q => ∃ x c cv t b, xs = [x, c] ∧ (∀ u, RelV c u → u = cv) ∧ TyOf X.K H x t ∧ PySem.W.kitOne X.K t cv = some b ∧ Q (.bl b) H) := by
  intro pins s σ H xs us Q I r h
  obtain ⟨x, c, cv, t, b, rfl, hc, ty, e, q⟩ := h
  obtain ⟨u, z, rfl, rx, rc⟩ := vals2 r
  cases hc z rc
  exact isinst_ok I rx ty e fun tk => ⟨.bl b, H, I.tok tk, rfl, q⟩
theorem ty_is {n : String} : ∀ u, RelV (.ty n) u → u = .type n := fun _ h => h

/-! ### sum -/
theorem call_sum {X : Cx} (hc : X.calm = true) : CallR X (.builtin "sum") (fun xs H Q => ∃ p, ∃ ns : List Int, xs = [.ref p] ∧ SqL X.K H p (ns.map V.int) ∧ Q (.int ns.sum) H) := by
  intro pins s σ H xs us Q I r h
  obtain ⟨p, ns, rfl, hq, q⟩ := h
  obtain ⟨u, rfl, rx⟩ := vals1 r
  cases rx
  obtain ⟨its, rv, pl, hz⟩ := I.list hq
  have hi : IntsAre its ns := intsAre_of rv
  obtain ⟨ys, ey⟩ := hi.allInts.items
  have hl : s.heap.IsList p (intItems ys) := ey ▸ pl.isList
  have es : preSum (numAt ys) ys.size = ns.sum := by
    have e1 := hi.numsOf
    have e2 : numsOf (intItems ys).toList = ns := by rw [← ey]; exact e1
    rw [nums_intItems] at e2
    rw [preSum_eq, List.take_of_length_le (by simp), e2]
  refine sum_intListG (I.ok.hd hc) hl fun h' tk t' hk => ?_
  exact ⟨.int ns.sum, H, I.kept hk, ⟨t', by rw [es]⟩, q⟩

/-! ### == and != of lists of flat items -/
def eqL : List V → List V → Bool
  | [], [] => true
  | x :: xs, y :: ys => eqV x y && eqL xs ys
  | _, _ => false
theorem eqL_len : ∀ {xs ys : List V}, xs.length ≠ ys.length → eqL xs ys = false
  | [], [], h => absurd rfl h
  | [], _ :: _, _ => rfl
  | _ :: _, [], _ => rfl
  | x :: xs, y :: ys, h => by
    unfold eqL
    rw [eqL_len (xs := xs) (ys := ys) fun e => h (by rw [List.length_cons, List.length_cons, e]), Bool.and_false]
theorem eqL_all : ∀ {xs ys : List V}, xs.length = ys.length → ∀ e : Nat → Bool, (∀ j x y, xs[j]? = some x → ys[j]? = some y → e j = eqV x y) → (List.range xs.length).all e = eqL xs ys
  | [], [], _, _, _ => rfl
  | [], _ :: _, h, _, _ => by simp at h
  | _ :: _, [], h, _, _ => by simp at h
  | x :: xs, y :: ys, h, e, he => by
    have ih := eqL_all (xs := xs) (ys := ys) (by simpa using h) (fun j => e (j + 1)) fun j a b ha hb => he (j + 1) a b (by simpa using ha) (by simpa using hb)
    unfold eqL
    rw [List.length_cons, List.range_succ_eq_map, List.all_cons, List.all_map, he 0 x y rfl rfl, ← ih]
    rfl
def eqAtJ (its js : List Value) (xs ys : List V) (j : Nat) : Bool := match xs[j]?, ys[j]? with
  | some x, some y => eqV x y
  | _, _ => true
theorem lists_at {X : Cx} {pins : List (Addr × Obj)} {s : Shared} {σ : St} {H : Hp} {A : Around} {xs ys : List V} {its js : List Value} (r1 : Vals xs its) (r2 : Vals ys js) (f1 : xs.all flatV = true) (f2 : ys.all flatV = true) (hl : xs.length = ys.length) :
    ∀ j (h1 : j < its.toArray.size) (h2 : j < js.toArray.size), SeqAt.EqAt A s its.toArray[j] js.toArray[j] (eqAtJ its js xs ys j) := fun j h1 h2 => by
  have l1 := r1.length
  have l2 := r2.length
  rw [List.size_toArray] at h1 h2
  have e1 : xs[j]? = some xs[j] := List.getElem?_eq_getElem (by omega)
  have e2 : ys[j]? = some ys[j] := List.getElem?_eq_getElem (by omega)
  obtain ⟨u, hu, ru⟩ := r1.get e1
  obtain ⟨v, hv, rv⟩ := r2.get e2
  have eu : its.toArray[j] = u := by rw [List.getElem_toArray]; exact (List.getElem?_eq_some_iff.mp hu).2
  have ev : js.toArray[j] = v := by rw [List.getElem_toArray]; exact (List.getElem?_eq_some_iff.mp hv).2
  rw [eu, ev]
  unfold eqAtJ
  rw [e1, e2]
  exact eqAt_V ru rv (List.all_eq_true.mp f1 _ (List.getElem_mem _)) (List.all_eq_true.mp f2 _ (List.getElem_mem _))
def rEqL (K : PySem.W.Frag) (neg : Bool) : R2 := fun x y H Q => ∃ a b xs ys, x = .ref a ∧ y = .ref b ∧ SqL K H a xs ∧ SqL K H b ys ∧ xs.all flatV = true ∧ ys.all flatV = true ∧ Q (.bl (if neg then !eqL xs ys else eqL xs ys)) H
theorem op_eqL {X : Cx} (hu : X.A.units < cLine) : OpR X (compareOp .Eq) (rEqL X.K false) := by
  intro pins s σ H x y v u Q I rx ry h
  obtain ⟨a, b, xs, ys, rfl, rfl, h1, h2, f1, f2, q⟩ := h
  cases rx
  cases ry
  obtain ⟨its, r1, p1, z1⟩ := I.list h1
  obtain ⟨js, r2, p2, z2⟩ := I.list h2
  have l1 := r1.length
  have l2 := r2.length
  by_cases hl : xs.length = ys.length
  · refine SeqAt.eq_listAt p1.isList p2.isList (by rw [List.size_toArray, List.size_toArray]; omega) hu (lists_at (X := X) (pins := pins) (σ := σ) (H := H) r1 r2 f1 f2 hl) ?_
    refine ⟨.bl (eqL xs ys), H, I, ?_, q⟩
    show Value.bool _ = Value.bool _
    rw [List.size_toArray, ← l1, eqL_all hl]
    intro j x y e1 e2
    unfold eqAtJ
    rw [e1, e2]
  · refine SeqAt.eq_list_lengthsAt p1.isList p2.isList (by simp only [List.size_toArray, bne_iff_ne, ne_eq]; omega) hu ?_
    exact ⟨.bl (eqL xs ys), H, I, by rw [eqL_len hl]; rfl, q⟩

/-! ### xs[::-1] -/

/-! ### xs.count(x) -/

/-! ### comprehensions over ranges and lists, by a word over the turn, the list so far, the heap -/
abbrev caps (ix : List Nat) (σ : St) : St := ix.map fun j => (σ[j]?).getD none
theorem comp_range {lo : Int} {n : Nat} {tc : TT} {te : TE} {σ : St} {ix : List Nat} {QQ : Hp → Prop} {H1 : Hp} {p : Addr} (Pv : Nat → List V → Hp → Prop) (h0 : Pv 0 [] (upd H1 p (.lst [])))
    (hp : ∀ i ys H, i ≤ n → Pv i ys H → H p = some (.lst ys) ∧ ys.length ≤ i) (hn : n ≤ sizeLine)
    (hs : ∀ i ys H, i < n → Pv i ys H → tc (some (.int (lo + i)) :: caps ix σ) H fun b H5 => if b = true then te (some (.int (lo + i)) :: caps ix σ) H5 fun y H6 => H6 p = some (.lst ys) ∧
      (some (.int (lo + i)) :: caps ix σ) = (some (.int (lo + i)) :: caps ix σ) ∧ Pv (i + 1) (ys ++ [y]) (upd H6 p (.lst (ys ++ [y]))) else (some (.int (lo + i)) :: caps ix σ) = (some (.int (lo + i)) :: caps ix σ) ∧ Pv (i + 1) ys H5)
    (hd : ∀ ys H, Pv n ys H → QQ H) :
    CompW (gName 0) tc te 1 ix σ (Itr lo n) p H1 QQ := by
  refine ⟨fun i m ys σ2 H2 => m = n - i ∧ i ≤ n ∧ (∃ o, σ2 = o :: caps ix σ) ∧ Pv i ys H2, ⟨n, by simp, Nat.zero_le _, ⟨none, rfl⟩, h0⟩, ?_⟩
  rintro i m ys σ2 H2 ⟨rfl, hi, ⟨o, rfl⟩, pv⟩
  obtain ⟨hp2, hl2⟩ := hp i ys H2 hi pv
  refine ⟨hp2, ?_⟩
  by_cases hlt : i < n
  · refine .inr ⟨hlt, by omega, fun x H3 y => ?_⟩
    obtain ⟨e, y⟩ := y
    subst e y
    exact ⟨fun ys' σ' H' => σ' = (some (.int (lo + i)) :: caps ix σ) ∧ Pv (i + 1) ys' H', fun ys' σ' H' ⟨e, q⟩ => ⟨n - (i + 1), by omega, rfl, hlt, ⟨_, e⟩, q⟩, hs i ys _ hlt pv⟩
  · have e : i = n := by omega
    subst e
    exact .inl ⟨Nat.le_refl _, hd ys H2 pv⟩
theorem comp_list {K : PySem.W.Frag} {a : Addr} {xs : List V} {tc : TT} {te : TE} {σ : St} {ix : List Nat} {QQ : Hp → Prop} {H1 : Hp} {p : Addr} (Pv : Nat → List V → Hp → Prop) (h0 : Pv 0 [] (upd H1 p (.lst [])))
    (hp : ∀ i ys H, i ≤ xs.length → Pv i ys H → H p = some (.lst ys) ∧ ys.length ≤ i ∧ SqL K H a xs) (hn : xs.length ≤ sizeLine)
    (hs : ∀ i x ys H, xs[i]? = some x → Pv i ys H → tc (some x :: caps ix σ) H fun b H5 => if b = true then te (some x :: caps ix σ) H5 fun y H6 => H6 p = some (.lst ys) ∧
      (some x :: caps ix σ) = (some x :: caps ix σ) ∧ Pv (i + 1) (ys ++ [y]) (upd H6 p (.lst (ys ++ [y]))) else (some x :: caps ix σ) = (some x :: caps ix σ) ∧ Pv (i + 1) ys H5)
    (hd : ∀ ys H, Pv xs.length ys H → QQ H) :
    CompW (gName 0) tc te 1 ix σ (Itl K a) p H1 QQ := by
  refine ⟨fun i m ys σ2 H2 => m = xs.length - i ∧ i ≤ xs.length ∧ (∃ o, σ2 = o :: caps ix σ) ∧ Pv i ys H2, ⟨xs.length, by simp, Nat.zero_le _, ⟨none, rfl⟩, h0⟩, ?_⟩
  rintro i m ys σ2 H2 ⟨rfl, hi, ⟨o, rfl⟩, pv⟩
  obtain ⟨hp2, hl2, hq2⟩ := hp i ys H2 hi pv
  refine ⟨hp2, ?_⟩
  by_cases hlt : i < xs.length
  · refine .inr ⟨⟨xs, xs[i], hq2, by simp [hlt]⟩, by omega, fun x H3 y => ?_⟩
    obtain ⟨e, y⟩ := y
    subst e
    exact ⟨fun ys' σ' H' => σ' = (some x :: caps ix σ) ∧ Pv (i + 1) ys' H', fun ys' σ' H' ⟨e, q⟩ => ⟨xs.length - (i + 1), by omega, rfl, hlt, ⟨_, e⟩, q⟩, hs i x ys _ (y xs hq2) pv⟩
  · have e : i = xs.length := by omega
    subst e
    exact .inl ⟨⟨xs, hq2, Nat.le_refl _⟩, hd ys H2 pv⟩
end L2

namespace L2
open PySem PySem.Spec PyProof.Rows

/-! ### a def of the text with its promise, in one -/
structure Cal (P : Program) (w : World) (K : PySem.W.Frag) (mg : Str → Option Value) (base : Heap) (k : Nat) (x : Str) (ps : List Str) (sp : Sp) : Prop where
  ex : ∃ f fd, FnOk P w K mg base CX0 k f fd ps sp ∧ Binds K fd ps [] ∧ PySem.W.keepIn K (.ref f) = true ∧ mg x = some (.ref f)
theorem pe_callC {X : Cx} {k : Nat} {x : Str} {ps : List Str} {sp : Sp} {e : Expr} {es : List Expr} {p pos : Pos} {t : TA} (C : Cal X.prog X.w X.K X.mg X.base k x ps sp) (hr : Room k X.A) (hg : Gl X x) (ha : PA X (e :: es) t)
    (hdb : (x == ("__debug__" : Str)) = false := by decide) (he : starEach (e :: es) X.env = (false, eval e X.env) :: starEach es X.env := by rfl) (hpl : (backTo pos (starEach es X.env)).any (·.1) = false := by rfl) :
    PE X (.Call (.Name x p) (e :: es) [] pos) (tCall sp [] E0 t) := by
  obtain ⟨f, fd, F, b, kp, hm⟩ := C.ex
  exact pe_call F hr hg hm kp b .nil pass0 ha hdb he hpl
/-- a def as it stands behind the top: how it binds, its name -/
structure Def (K : PySem.W.Frag) (mg : Str → Option Value) (x : Str) (st : Stmt) (ps : List Str) : Prop where
  ex : ∃ f fd, Fun K x x st f fd ∧ Binds K fd ps [] ∧ mg x = some (.ref f)
theorem Def.cal {P : Program} {w : World} {K : PySem.W.Frag} {mg : Str → Option Value} {base : Heap} {k : Nat} {x : Str} {st : Stmt} {ps : List Str} {sp : Sp} (D : Def K mg x st ps) (h : ∀ f fd, Fun K x x st f fd → FnOk P w K mg base CX0 k f fd ps sp) : Cal P w K mg base k x ps sp := by
  obtain ⟨f, fd, F, b, m⟩ := D.ex
  exact ⟨f, fd, h f fd F, b, F.kp, m⟩
/-- a module's constant -/
def GInt (mg : Str → Option Value) (x : Str) (i : Int) : Prop := ∃ t, mg x = some (.int i t)
def GStr (mg : Str → Option Value) (x : Str) (z : Str) : Prop := ∃ t, mg x = some (.str z t)
theorem pe_gint {X : Cx} {x : Str} {i : Int} {pos : Pos} (h : GInt X.mg x i) (hg : Gl X x) (hd : (x == ("__debug__" : Str)) = false := by decide) : PE X (.Name x pos) (tC (.int i)) := by
  obtain ⟨t, e⟩ := h
  exact pe_glob hg e ⟨t, rfl⟩ hd
theorem pe_gstr {X : Cx} {x : Str} {i : Str} {pos : Pos} (h : GStr X.mg x i) (hg : Gl X x) (hd : (x == ("__debug__" : Str)) = false := by decide) : PE X (.Name x pos) (tC (.str i)) := by
  obtain ⟨t, e⟩ := h
  exact pe_glob hg e ⟨t, rfl⟩ hd
/-- a built-in type's name -/
theorem pe_ty {X : Cx} {x : Str} {pos : Pos} (T : String) (hg : Gl X x) (hm : X.mg x = none) (hv : bootBuiltins x = some (.type T)) (hn : x ≠ "__name__" := by decide) (hd : (x == ("__debug__" : Str)) = false := by decide) : PE X (.Name x pos) (tC (.ty T)) :=
  pe_bltn (v := .ty T) hg hm hv rfl hn hd
/-- the rules that name the fragment, with it told (a block's reading may not name the block's context) -/
theorem ix_listK {X : Cx} {K : PySem.W.Frag} (h : X.K = K) : IxR X (rIxL K) := h ▸ ix_list
theorem same_new {H : Hp} {p : Addr} (h : H p = none) (o : HO) : Same H (upd H p o) := fun b u q => by rw [upd_ne (ne_of_none q h)]; exact q
theorem le_line {n : Nat} (h : n ≤ 1000) : n ≤ sizeLine := Nat.le_of_lt (small1000 h)
/-- an item of a list of ints -/
theorem at_int {ns : List Int} {i : Nat} {n : Int} (h : ns[i]? = some n) : atI (ns.map V.int) (i : Int) = some (.int n) := atI_nat (by rw [List.getElem?_map, h]; rfl)
theorem at_intI {ns : List Int} {i : Int} (h0 : 0 ≤ i) (h : i < ns.length) : atI (ns.map V.int) i = some (.int (ns.getD i.toNat 0)) := by
  have e : ((i.toNat : Nat) : Int) = i := by omega
  have q := at_int (ns := ns) (i := i.toNat) (n := ns.getD i.toNat 0) (by rw [List.getElem?_eq_getElem (by omega), List.getD_eq_getElem?_getD, List.getElem?_eq_getElem (by omega)]; rfl)
  rw [e] at q
  exact q
theorem item_int {ns : List Int} {i : Nat} {y : V} (h : (ns.map V.int)[i]? = some y) : ∃ n, ns[i]? = some n ∧ y = .int n := by
  rw [List.getElem?_map] at h
  cases e : ns[i]? with
  | none => rw [e] at h; cases h
  | some n => rw [e] at h; exact ⟨n, rfl, (Option.some.inj h).symm⟩
theorem ix_of {n : Nat} {k : Int} (h0 : 0 ≤ k) (h : k < n) : ixN n k = some k.toNat := by
  unfold ixN
  first
    | (rw [if_pos h0, if_pos h]; done)
    | (simp [h0, h]; done)
    | (simp [h0, h]; omega)
theorem room_u {k : Nat} {A : Around} (hr : Room k A) : A.units < cLine := hr.units0
example : bootBuiltins "int" = some (.type "int") := by rfl
end L2

namespace L2
open PySem PySem.Spec PyProof.Rows

/-! ### enumerate(xs), its pairs unpacked by the target -/
def Ite (K : PySem.W.Frag) (a : Addr) : It :=
  ⟨fun i H => ∃ xs x, SqL K H a xs ∧ xs[i]? = some x,
   fun i H x H' => ∃ t y, x = .ref t ∧ H t = none ∧ (∀ xs, SqL K H a xs → xs[i]? = some y) ∧ H' = upd H t (.tup [.int i, y]),
   fun i H => ∃ xs, SqL K H a xs ∧ xs.length ≤ i⟩
theorem turn_enum {P : Program} {w : World} {K : PySem.W.Frag} {elts : List Expr} {k : Nat} {tp : Pos} (a e it : Addr) (hei : e ≠ it) :
    Turn P w K (.Tuple elts k tp) (Ite K a) [e, it] e (fun i h => (∃ old, IsEnum h e it i old) ∧ h.IsListIter it a i) where
  mem := by simp
  obj := fun i h st b hb => by
    obtain ⟨⟨old, he⟩, o, ho, c, d⟩ := st
    rcases List.mem_cons.mp hb with rfl | hb
    · exact ⟨_, he, fun v z => by
        have z' : Data.fields _ = Data.cell v := z
        cases z'⟩
    · have eb : b = it := by simpa using hb
      subst eb
      exact ⟨o, ho, fun v z => by rw [d] at z; cases z⟩
  keep := fun i h h' st kk => by
    obtain ⟨⟨old, he⟩, hit⟩ := st
    exact ⟨⟨old, kk e (by simp) _ he⟩, hit.at fun o x => kk it (by simp) o x⟩
  item := by
    intro X hP hw hK hc i pins s σ H E I hf st hg
    subst hP hw hK
    obtain ⟨⟨old, he⟩, hit⟩ := st
    obtain ⟨xs, x, hq, hx⟩ := hg
    obtain ⟨its, rv, p, hz⟩ := I.list hq
    obtain ⟨u, hu, ru⟩ := rv.get hx
    obtain ⟨e0, e1, e2, e3, e4, e5⟩ := hf e (by simp)
    obtain ⟨i0, i1, i2, i3, i4, i5⟩ := hf it (by simp)
    refine wpAny_pyNext_enum_item he hit p.isList (x := u) (by simpa using hu) hei fun h1 ho hit1 hT hsz hk => ⟨_, rfl, ?_⟩
    refine wpAny_letOwnedTupleGo_enum ho fun h2 he2 hs2 => ?_
    have hs2' : Heap.SameBut e h1 h2 := hs2
    have helt : e < s.heap.objs.size := Heap.lt_size he
    have hnT : H s.heap.objs.size = none := I.hok.fresh (Nat.le_refl _)
    have up : ∀ b o, b ≠ e → b ≠ it → s.heap.get? b = some o → h2.get? b = some o := fun b o h3 h4 q => (hs2'.2 b h3).trans (hk b o h3 h4 q)
    have nch : ∀ b, b ∉ [e, it] → b ≠ e ∧ b ≠ it := fun b hb => ⟨fun z => hb (by simp [z]), fun z => hb (by simp [z])⟩
    have ntr : ∀ b o, H b = some o → b ≠ e ∧ b ≠ it := fun b o q => ⟨fun z => by (rw [z, e0] at q; cases q), fun z => by (rw [z, i0] at q; cases q)⟩
    have htup : h2.get? s.heap.objs.size = some { cls := .type "tuple", data := .seq #[.int i s.toks, u] } := (hs2'.2 _ (Nat.ne_of_gt helt)).trans hT
    have I1 : Inv X pins σ (upd H s.heap.objs.size (.tup [.int i, x])) { s with heap := h2, gens := s.gens, drawn := s.drawn, toks := s.toks + 1 } := by
      refine I.step (ch := [e, it]) (fun b hb => ?_) (fun b o _ _ hb q _ => up b o (nch b hb).1 (nch b hb).2 q) (fun b o _ _ hb q _ => ⟨o.slots, up b o (nch b hb).1 (nch b hb).2 q⟩) (fun b o _ q n => by rw [upd_ne (Nat.ne_of_lt (Heap.lt_size q))]; exact n)
        (fun b o hb q => ⟨o, up b o (nch b hb).1 (nch b hb).2 q⟩) (fun b xs q => by rw [upd_ne (ne_of_none q hnT)]; exact q) (fun b o u q => by rw [upd_ne (ne_of_none q hnT)]; exact q) (fun b ps q => ⟨#[], by rw [upd_ne (ne_of_none q hnT), q]; simp⟩)
        (fun m hm => ?_) (fun b o q => ?_) I.bare
      · rcases List.mem_cons.mp hb with rfl | hb
        · exact ⟨e3, e1, e4, e5⟩
        · have eb : b = it := by simpa using hb
          subst eb
          exact ⟨i3, i1, i4, i5⟩
      · obtain ⟨o, es, ep, hoL, r⟩ := hm
        exact ⟨o, es, ep, up _ o (Ne.symm e1) (Ne.symm i1) hoL, r⟩
      · by_cases hb : b = s.heap.objs.size
        · subst hb
          rw [upd_same] at q
          cases q
          exact ⟨le_line (by show 2 ≤ 1000; decide), [.int i s.toks, u], .cons ⟨_, rfl⟩ (.cons ru .nil), _, htup, rfl, _, rfl⟩
        · rw [upd_ne hb] at q
          refine (I.hok b o q).stay (fun c v hc2 q2 => ?_) (fun c q2 => by rw [upd_ne (ne_of_none q2 hnT)]; exact q2) (fun c xs q2 => by rw [upd_ne (ne_of_none q2 hnT)]; exact q2)
          rcases hc2 with rfl | hc2
          · exact up _ v (ntr _ _ q).1 (ntr _ _ q).2 q2
          · exact up _ v (ntr _ _ hc2).1 (ntr _ _ hc2).2 q2
    refine ⟨.ref s.heap.objs.size, _, I1, rfl, ⟨_, x, rfl, hnT, fun ys hy => by rw [I.list_inj hy hq]; exact hx, rfl⟩, ⟨⟨u, ?_⟩, ?_⟩, fun b hb => ?_⟩
    · have ei : ((i + 1 : Nat) : Int) = (i : Int) + 1 := by omega
      rw [ei]
      exact he2
    · exact hit1.at fun o q => (hs2'.2 it hei.symm).trans q
    · have hbl : b < s.heap.objs.size := by
        rcases List.mem_cons.mp hb with rfl | hb
        · exact helt
        · have eb : b = it := by simpa using hb
          subst eb
          obtain ⟨o, q, _⟩ := hit
          exact Heap.lt_size q
      rw [upd_ne (Nat.ne_of_lt hbl)]
      exact (hf b hb).1
  done := by
    intro X hP hw hK hc i pins s σ H E I hf st hg
    subst hP hw hK
    obtain ⟨⟨old, he⟩, hit⟩ := st
    obtain ⟨xs, hq, hx⟩ := hg
    obtain ⟨its, rv, p, hz⟩ := I.list hq
    obtain ⟨i0, i1, i2, i3, i4, i5⟩ := hf it (by simp)
    have hl := rv.length
    exact wpAny_pyNext_enum_end (I.ok.hd hc) he hit p.isList (by simp; omega) fun h' eb => ⟨rfl, I.turned (t' := s.toks) (fun b o hb q => eb b o hb q) i0 i1 i3 i4 i5⟩
  self := fun _ _ _ _ _ st h => by
    obtain ⟨⟨old, he⟩, _⟩ := st
    exact wpAny_pyIter_enum he h
def iEnum (K : PySem.W.Frag) (ta : TA) : TI := fun σ H R => ta σ H fun vs H1 => ∃ a, vs = [.ref a] ∧ (∃ xs, SqL K H1 a xs) ∧ R (Ite K a) H1
theorem pi_enum {X : Cx} {a : Expr} {ta : TA} {p pos tp : Pos} {elts : List Expr} {k : Nat} (hg : Gl X "enumerate") (hm : X.mg "enumerate" = none) (ha : PA X [a] ta) (hs : starEach [a] X.env = [(false, eval a X.env)] := by rfl) :
    PI X (.Tuple elts k tp) (.Call (.Name "enumerate" p) [a] [] pos) (iEnum X.K ta) := by
  intro pins s σ H R I h
  refine Call_ (ld_blt I hg hm (show bootBuiltins "enumerate" = some (.type "enumerate") from rfl) (PyProof.Rows.callWith_type1 (thn (ha pos pins s σ H _ I h) fun us s1 ⟨vs, H1, I1, r1, q1⟩ => ?_) hs rfl))
  obtain ⟨a, ev, ⟨xs, hq⟩, q⟩ := q1
  subst ev
  obtain ⟨u, rfl, rx⟩ := vals1 r1
  cases rx
  obtain ⟨its, rv, pl, hz⟩ := I1.list hq
  refine call_enumerate_list pl.isList fun h' he hit hsz hk => ?_
  refine wpAny_pyIter_enum he ?_
  have I2 : Inv X pins σ H1 { s1 with heap := h' } := I1.kept (t' := s1.toks) hk
  refine ⟨_, [s1.heap.objs.size + 1, s1.heap.objs.size], _, _, H1, rfl, I2, turn_enum a _ _ (Nat.succ_ne_self _), ⟨⟨_, he⟩, hit⟩, fun b hb => ?_, q⟩
  rcases List.mem_cons.mp hb with rfl | hb
  · exact I1.fpOk (Nat.le_succ _) (I1.hok.fresh (Nat.le_succ _))
  · have eb : b = s1.heap.objs.size := by simpa using hb
    subst eb
    exact I1.fpOk (Nat.le_refl _) (I1.hok.fresh (Nat.le_refl _))
theorem pg_tupK {X : Cx} {K : PySem.W.Frag} {es : List Expr} {k : Nat} {t : TGs} {n : Nat} {pos : Pos} (hK : X.K = K) (hc : X.calm = true) (h : PGs X es t)
    (hn : (assignEach es X.env).length = n := by rfl) (hst : (assignEach es X.env).findIdx? (·.1) = none := by rfl) : PG X (.Tuple es k pos) (gTup K n t) := hK ▸ pg_tup hc h hn hst
theorem comp_enum {K K' : PySem.W.Frag} {a : Addr} {xs : List V} {tc : TT} {te : TE} {σ : St} {ix : List Nat} {QQ : Hp → Prop} {H1 : Hp} {p : Addr} (Pv : Nat → List V → Hp → Prop) (h0 : Pv 0 [] (upd H1 p (.lst [])))
    (hp : ∀ i ys H, i ≤ xs.length → Pv i ys H → H p = some (.lst ys) ∧ ys.length ≤ i ∧ SqL K H a xs) (hn : xs.length ≤ sizeLine)
    (hs : ∀ i x ys H t, xs[i]? = some x → Pv i ys H → H t = none → tc (some (.int i) :: some x :: caps ix σ) (upd H t (.tup [.int i, x])) fun b H5 => if b = true then te (some (.int i) :: some x :: caps ix σ) H5 fun y H6 => H6 p = some (.lst ys) ∧
      (some (.int i) :: some x :: caps ix σ) = (some (.int i) :: some x :: caps ix σ) ∧ Pv (i + 1) (ys ++ [y]) (upd H6 p (.lst (ys ++ [y]))) else (some (.int i) :: some x :: caps ix σ) = (some (.int i) :: some x :: caps ix σ) ∧ Pv (i + 1) ys H5)
    (hd : ∀ ys H, Pv xs.length ys H → QQ H) :
    CompW (gTup K' 2 (gCons (gName 0) (gCons (gName 1) gNil))) tc te 2 ix σ (Ite K a) p H1 QQ := by
  refine ⟨fun i m ys σ2 H2 => m = xs.length - i ∧ i ≤ xs.length ∧ (∃ o o', σ2 = o :: o' :: caps ix σ) ∧ Pv i ys H2, ⟨xs.length, by simp, Nat.zero_le _, ⟨none, none, rfl⟩, h0⟩, ?_⟩
  rintro i m ys σ2 H2 ⟨rfl, hi, ⟨o, o', rfl⟩, pv⟩
  obtain ⟨hp2, hl2, hq2⟩ := hp i ys H2 hi pv
  refine ⟨hp2, ?_⟩
  by_cases hlt : i < xs.length
  · refine .inr ⟨⟨xs, xs[i], hq2, by simp [hlt]⟩, by omega, fun x H3 y => ?_⟩
    obtain ⟨t, z, ex, ht, hz, e3⟩ := y
    subst ex e3
    refine ⟨fun ys' σ' H' => σ' = (some (.int i) :: some z :: caps ix σ) ∧ Pv (i + 1) ys' H', fun ys' σ' H' ⟨e, q⟩ => ⟨xs.length - (i + 1), by omega, rfl, hlt, ⟨_, _, e⟩, q⟩, ?_⟩
    exact ⟨t, _, rfl, SqT.of upd_same, rfl, _, _, rfl, _, _, rfl, rfl, hs i z ys H2 t (hz xs hq2) pv ht⟩
  · have e : i = xs.length := by omega
    subst e
    exact .inl ⟨⟨xs, hq2, Nat.le_refl _⟩, hd ys H2 pv⟩
end L2

namespace L2
open PySem PySem.Spec PyProof.Rows
/-! ### a method, a class of the text with their promises, in one -/
structure MCal (P : Program) (w : World) (K : PySem.W.Frag) (mg : Str → Option Value) (base : Heap) (k : Nat) (C : Addr) (m : Str) (ps : List Str) (sp : Sp) : Prop where
  ex : ∃ f fd, FnOk P w K mg base CX0 k f fd ps sp ∧ Binds K fd ps [] ∧ Meth K C m f
  cl : Cls K C
theorem pe_methC {X : Cx} {k : Nat} {C : Addr} {m : Str} {ps : List Str} {sp : Sp} {e o : Expr} {es : List Expr} {apos pos : Pos} {ta : TE} {t : TA} {pl : Sem Bool} (M : MCal X.prog X.w X.K X.mg X.base k C m ps sp) (hr : Room k X.A) (he : PE X o ta) (ha : PA X (e :: es) t)
    (hst : starEach (e :: es) X.env = (false, eval e X.env) :: starEach es X.env := by rfl) (hpl : (backTo pos (starEach es X.env)).any (·.1) = false := by rfl)
    (ht : eval (.Call (.Attribute o m apos) (e :: es) [] pos) X.env = (do
      let ov ← eval o X.env
      standAt apos.atName
      let (f, first) ← holding [ov] (getMethod ov m pl)
      callWith pos f first (backTo pos (starEach (e :: es) X.env)) (backToKw pos (keywordEach [] X.env))) := by rfl) :
    PE X (.Call (.Attribute o m apos) (e :: es) [] pos) (tMeth C m sp [] E0 ta t) := by
  obtain ⟨f, fd, F, b, hm⟩ := M.ex
  exact pe_meth he M.cl hm F hr b .nil pass0 ha hst hpl ht
structure KCal (P : Program) (w : World) (K : PySem.W.Frag) (mg : Str → Option Value) (base : Heap) (k : Nat) (x : Str) (C : Addr) (ps : List Str) (sp : Sp) : Prop where
  ex : ∃ f fd, Mk K C f ∧ FnOk P w K mg base CX0 k f fd ps sp ∧ Binds K fd ps [] ∧ mg x = some (.ref C)
theorem pe_makeC {X : Cx} {k : Nat} {x : Str} {C : Addr} {ps : List Str} {sp : Sp} {e : Expr} {es : List Expr} {p pos : Pos} {t : TA} (M : KCal X.prog X.w X.K X.mg X.base k x C ps sp) (hr : Room (k + 1) X.A) (hg : Gl X x) (ha : PA X (e :: es) t)
    (hdb : (x == ("__debug__" : Str)) = false := by decide) (he : starEach (e :: es) X.env = (false, eval e X.env) :: starEach es X.env := by rfl) (hpl : (backTo pos (starEach es X.env)).any (·.1) = false := by rfl) :
    PE X (.Call (.Name x p) (e :: es) [] pos) (tMake C sp [] E0 t) := by
  obtain ⟨f, fd, mk, F, b, hm⟩ := M.ex
  exact pe_make mk F hr hg hm b .nil pass0 ha hdb he hpl
end L2

namespace L2
open PySem PySem.Spec PyProof.Rows
/-! ### range(lo, hi) of any ints -/
/-! ### min(xs) of ints: one of them -/
theorem call_min1 {X : Cx} (hc : X.calm = true) : CallR X (.builtin "min") (fun xs H Q => ∃ p, ∃ ns : List Int, xs = [.ref p] ∧ SqL X.K H p (ns.map V.int) ∧ ns ≠ [] ∧ ∀ m ∈ ns, Q (.int m) H) := by
  intro pins s σ H xs us Q I r h
  obtain ⟨p, ns, rfl, hq, hne, q⟩ := h
  obtain ⟨u, rfl, rx⟩ := vals1 r
  cases rx
  obtain ⟨its, rv, pl, hz⟩ := I.list hq
  have hi : IntsAre its ns := intsAre_of rv
  obtain ⟨ys, ey⟩ := hi.allInts.items
  have hl : s.heap.IsList p (intItems ys) := ey ▸ pl.isList
  have lenI : its.length = ns.length := hi.length
  have hy : ys.size = ns.length := by
    have z := congrArg Array.size ey
    rw [List.size_toArray] at z
    unfold intItems at z
    rw [Array.size_map] at z
    omega
  have hpos : 0 < ns.length := List.length_pos_iff.mpr hne
  refine min_intList (I.ok.hd hc) hl (by omega) fun v h' tk hv hk => ?_
  rw [← ey] at hv
  have hv' : ∃ j, its[j]? = some v := ⟨_, by simpa using hv⟩
  obtain ⟨j, hj⟩ := hv'
  have hlt : j < ns.length := by have := (List.getElem?_eq_some_iff.mp hj).1; omega
  obtain ⟨u, hu, ru⟩ := rv.get (i := j) (x := .int ns[j]) (by rw [List.getElem?_map, List.getElem?_eq_getElem hlt]; rfl)
  rw [hj] at hu
  cases hu
  exact ⟨.int ns[j], H, I.kept hk, ru, q _ (List.getElem_mem _)⟩
end L2

namespace L2
open PySem PySem.Spec PyProof.Rows

/-! ### exceptions of own classes: how one lies, flies, is caught -/
section
variable {X : Cx} {pins : List (Addr × Obj)} {σ : St} {H H' : Hp} {s : Shared} {h' : Heap}


end

/-! ### behind a call that raised -/
section
variable {X : Cx} {k : Nat} {f : Addr} {fd : FuncData} {ps : List Str} {sp : Sp} {x : Str} {p pos : Pos} {e : Expr} {es : List Expr} {t : TA} {W : St → XK}
end

/-! ### raise C(..) -/

/-! ### try: one clause, an own class -/
section
variable {X : Cx} {pins pins' pn : List (Addr × Obj)} {σ : St} {H : Hp} {s : Shared} {E : Value → Shared → Prop} {e : Addr}

end

section
variable {X : Cx} {x n : Str} {Ch : Addr} {i : Nat} {body suite : List Stmt} {b₀ : Stmt} {tb : (St → XK) → TS} {ts : TS} {np hpos pos : Pos}
end
end L2

namespace L2
open PySem PySem.Spec PyProof.Rows
/-! ### defs that may be called while an exception is handled (nothing in them walks or raises) -/
structure RoomB (k : Nat) (A : Around) : Prop where
  dp : A.depth + 3 * k + 5 < recursionLimit
  un : A.units + 16 * k + 200 < cLine
structure FnOkH (P : Program) (w : World) (K : PySem.W.Frag) (mg : Str → Option Value) (base : Heap) (k : Nat) (f : Addr) (fd : FuncData) (ps : List Str) (sp : Sp) : Prop where
  len : ∀ vs H Q E, sp vs H Q E → vs.length = ps.length
  run : ∀ (A : Around) (outer : List Env) (s : Shared) (H : Hp) (args : Args) (us : List Value) (vs : List V) (Q : VK) (E : XK), RoomB k A → Env0 P w K mg base A outer s H → BindsTo s fd args (ps.zip us) → Vals vs us → sp vs H Q E →
    codeAny (model P w) A (.call (.ref f) args) (CR CX0 outer P w H s Q E) s
structure CalH (P : Program) (w : World) (K : PySem.W.Frag) (mg : Str → Option Value) (base : Heap) (k : Nat) (x : Str) (ps : List Str) (sp : Sp) : Prop where
  ex : ∃ f fd, FnOkH P w K mg base k f fd ps sp ∧ Binds K fd ps [] ∧ PySem.W.keepIn K (.ref f) = true ∧ mg x = some (.ref f)
section
variable {X : Cx} {k : Nat} {f : Addr} {fd : FuncData} {ps : List Str} {sp : Sp} {x : Str} {p pos : Pos} {e : Expr} {es : List Expr} {t : TA}
theorem pe_callH (C : CalH X.prog X.w X.K X.mg X.base k x ps sp) (hr : RoomB k X.A) (hg : Gl X x) (ha : PA X (e :: es) t)
    (hdb : (x == ("__debug__" : Str)) = false := by decide) (he : starEach (e :: es) X.env = (false, eval e X.env) :: starEach es X.env := by rfl) (hpl : (backTo pos (starEach es X.env)).any (·.1) = false := by rfl) :
    PE X (.Call (.Name x p) (e :: es) [] pos) (tCall sp [] E0 t) := by
  intro pins s σ H Q I h
  obtain ⟨f, fd, F, b, kp, hm⟩ := C.ex
  refine wpAny_Call_Name_kw (ld_glob I hg hm ?_ hdb)
  refine PySem.W.callWith_K (h₀ := X.base) I.ok.mod.kin kp (thn (ha pos pins s σ H _ I h) fun us s1 ⟨vs, H1, I1, r, q⟩ => ⟨I1.kIn, ?_⟩) he hpl
  have q : sp vs H1 Q E0 := by
    have q' : sp (vs ++ []) H1 Q E0 := q
    rw [List.append_nil] at q'
    exact q'
  have hl : (us ++ []).length = ps.length := by rw [List.append_nil, ← r.length]; exact F.len _ _ _ _ q
  have b' := b s1 us I1.kIn hl
  rw [List.append_nil] at b'
  refine wpAny_call (codeAny_mono (F.run X.A X.stack s1 H1 ⟨us, []⟩ us vs Q E0 hr I1.env0 b' r q) fun y s' hq => ?_)
  cases y with
  | error v => exact False.elim hq
  | ok fl =>
    cases fl with
    | ret u => exact I1.after hq
    | next => exact False.elim hq
    | brk => exact False.elim hq
    | cont => exact False.elim hq
end
end L2

namespace L2
open PySem PySem.Spec PyProof.Rows

/-! ### texts by their codes -/
def tx (l : List Nat) : Str := ⟨l.toArray⟩
theorem tx_len (l : List Nat) : (tx l).length = l.length := by simp [tx, Str.length]
theorem tx_of (x : Str) : tx x.cps.toList = x := by cases x; rfl

/-! ### pieces at a sign -/
def cutAt (c : Nat) : List Nat → List (List Nat)
  | [] => [[]]
  | x :: l => if x = c then [] :: cutAt c l else match cutAt c l with
    | [] => [[x]]
    | p :: r => (x :: p) :: r
theorem cutAt_ne (c : Nat) : ∀ l, cutAt c l ≠ []
  | [] => by simp [cutAt]
  | x :: l => by
    unfold cutAt
    split
    · simp
    · cases cutAt c l <;> simp

/-! ### methods of texts -/
section
variable {X : Cx}
/-- c in z, of one sign c -/
theorem op_notIn1 : OpR X (compareOp .NotIn) (fun x y H Q => ∃ c z, x = .str (tx [c]) ∧ y = .str z ∧ Q (.bl (!decide (c ∈ z.cps.toList))) H) := by
  intro pins s σ H x y v u Q I rx ry h
  obtain ⟨c, z, rfl, rfl, q⟩ := h
  refine op_notIn_str pins s σ H _ _ v u Q I rx ry ⟨tx [c], z, rfl, rfl, ?_⟩
  rw [show (!(Builtin.Str.occurrences z (tx [c]) 0 z.length 1).isEmpty) = decide (c ∈ z.cps.toList) from StrLaws.found_one z c]
  exact q

/-! ### for sign in text -/
def Its (x : Str) : It := ⟨fun i _ => i < x.cps.size, fun i H v H' => H' = H ∧ ∃ c, x.cps[i]? = some c ∧ v = .str (tx [c]), fun i _ => x.cps.size ≤ i⟩
theorem turn_strA {P : Program} {w : World} {K : PySem.W.Frag} {tg : Expr} (x : Str) (t : Tok) (it : Addr) : Turn P w K tg (Its x) [it] it (fun i h => h.IsStrIter it "str_ascii_iterator" x t i) where
  mem := by simp
  obj := fun i h st b hb => by
    have e : b = it := by simpa using hb
    subst e
    obtain ⟨o, e, c, d⟩ := st
    exact ⟨o, e, fun v z => by rw [d] at z; cases z⟩
  keep := fun i h h' st k => by
    obtain ⟨o, e, c, d⟩ := st
    exact ⟨o, k it (by simp) o e, c, d⟩
  item := by
    intro X hP hw hK hc i pins s σ H E I hf st hg
    subst hP hw hK
    obtain ⟨f0, f1, f2, f3, f4, f5⟩ := hf it (by simp)
    have hi : i < x.cps.size := hg
    refine wpAny_pyNext_ascii_item st (c := x.cps[i]) (by simp [hi]) fun h' st' sb => ?_
    have I1 : Inv X pins σ H { s with heap := h', toks := s.toks + 1 } := I.turned (fun b o hb e => (sb.2 b hb).trans e) f0 f1 f3 f4 f5
    obtain ⟨o, e, c, d⟩ := id st'
    exact ⟨_, rfl, go_of (s := { s with heap := h', toks := s.toks + 1 }) e c d (by decide) ⟨.str (tx [x.cps[i]]), H, I1, ⟨_, rfl⟩, ⟨rfl, _, by simp [hi], rfl⟩, st', fun b hb => (hf b hb).1⟩⟩
  done := by
    intro X hP hw hK hc i pins s σ H E I hf st hg
    subst hP hw hK
    obtain ⟨f0, f1, f2, f3, f4, f5⟩ := hf it (by simp)
    have hi : x.cps.size ≤ i := hg
    exact wpAny_pyNext_ascii_end (I.ok.hd hc) st (by simp; omega) fun h' eb => ⟨rfl, I.turned (t' := s.toks) (fun b o hb e => eb b o hb e) f0 f1 f3 f4 f5⟩
  self := fun _ _ _ _ _ st h => wpAny_pyIter_striter_ascii st h
theorem turn_strW {P : Program} {w : World} {K : PySem.W.Frag} {tg : Expr} (x : Str) (t : Tok) (it : Addr) : Turn P w K tg (Its x) [it] it (fun i h => h.IsStrIter it "str_iterator" x t i) where
  mem := by simp
  obj := fun i h st b hb => by
    have e : b = it := by simpa using hb
    subst e
    obtain ⟨o, e, c, d⟩ := st
    exact ⟨o, e, fun v z => by rw [d] at z; cases z⟩
  keep := fun i h h' st k => by
    obtain ⟨o, e, c, d⟩ := st
    exact ⟨o, k it (by simp) o e, c, d⟩
  item := by
    intro X hP hw hK hc i pins s σ H E I hf st hg
    subst hP hw hK
    obtain ⟨f0, f1, f2, f3, f4, f5⟩ := hf it (by simp)
    have hi : i < x.cps.size := hg
    refine wpAny_pyNext_wide_item st (c := x.cps[i]) (by simp [hi]) fun h' st' sb => ?_
    have I1 : Inv X pins σ H { s with heap := h', toks := s.toks + 1 } := I.turned (fun b o hb e => (sb.2 b hb).trans e) f0 f1 f3 f4 f5
    obtain ⟨o, e, c, d⟩ := id st'
    exact ⟨_, rfl, go_of (s := { s with heap := h', toks := s.toks + 1 }) e c d (by decide) ⟨.str (tx [x.cps[i]]), H, I1, ⟨_, rfl⟩, ⟨rfl, _, by simp [hi], rfl⟩, st', fun b hb => (hf b hb).1⟩⟩
  done := by
    intro X hP hw hK hc i pins s σ H E I hf st hg
    subst hP hw hK
    obtain ⟨f0, f1, f2, f3, f4, f5⟩ := hf it (by simp)
    have hi : x.cps.size ≤ i := hg
    exact wpAny_pyNext_wide_end (I.ok.hd hc) st (by simp; omega) fun h' eb => ⟨rfl, I.turned (t' := s.toks) (fun b o hb e => eb b o hb e) f0 f1 f3 f4 f5⟩
  self := fun _ _ _ _ _ st h => wpAny_pyIter_striter_wide st h
def iStr (tl : TE) : TI := fun σ H R => tl σ H fun x H1 => ∃ z, x = .str z ∧ R (Its z) H1
theorem pi_str {tg l : Expr} {tl : TE} (hl : PE X l tl) : PI X tg l (iStr tl) := by
  intro pins s σ H R I h
  refine thn (hl pins s σ H _ I h) fun v s1 ⟨x, H1, I1, r1, q1⟩ => ?_
  obtain ⟨z, e, q⟩ := q1
  subst e
  obtain ⟨t, rfl⟩ := r1
  have fp : ∀ b ∈ [s1.heap.objs.size], FpOk X pins H1 b := fun b hb => by
    have e : b = s1.heap.objs.size := by simpa using hb
    subst e
    exact I1.fpOk (Nat.le_refl _) (I1.hok.fresh (Nat.le_refl _))
  cases ha : z.cps.all (· < 128) with
  | true => exact wpAny_pyIter_ascii ha ⟨s1.heap.objs.size, [s1.heap.objs.size], _, _, H1, rfl, I1.kept (t' := s1.toks) fun b o e => Heap.get?_push_of_some _ e, turn_strA z t _, ⟨_, Heap.get?_push_size _ rfl, rfl, rfl⟩, fp, q⟩
  | false => exact wpAny_pyIter_wide ha ⟨s1.heap.objs.size, [s1.heap.objs.size], _, _, H1, rfl, I1.kept (t' := s1.toks) fun b o e => Heap.get?_push_of_some _ e, turn_strW z t _, ⟨_, Heap.get?_push_size _ rfl, rfl, rfl⟩, fp, q⟩
theorem for_str {l : List Nat} {g : TG} {tb : TS} {D : Ends} {σ : St} {H : Hp} (Pv : Nat → St → Hp → Prop) (h0 : Pv 0 σ H)
    (hs : ∀ i c σ H, l[i]? = some c → Pv i σ H → g (.str (tx [c])) σ H fun σ2 H2 => tb { D with nx := Pv (i + 1), ct := Pv (i + 1), bk := D.nx } σ2 H2) (hd : ∀ σ H, Pv l.length σ H → D.nx σ H) :
    ∃ W : Nat → Nat → St → Hp → Prop, (∃ m, W 0 m σ H) ∧ ∀ i m σ H, W i m σ H →
      ((Its (tx l)).stop i H ∧ D.nx σ H) ∨ ((Its (tx l)).go i H ∧ ∃ N : St → Hp → Prop, (∀ σ' H', N σ' H' → ∃ m', m' < m ∧ W (i + 1) m' σ' H') ∧ ∀ x H', (Its (tx l)).yld i H x H' → g x σ H' fun σ2 H2 => tb { D with nx := N, ct := N, bk := D.nx } σ2 H2) := by
  have hz : (tx l).cps.size = l.length := by simp [tx]
  refine ⟨fun i m σ H => m = l.length - i ∧ i ≤ l.length ∧ Pv i σ H, ⟨l.length, by simp, Nat.zero_le _, h0⟩, ?_⟩
  rintro i m σ H ⟨rfl, hi, p⟩
  by_cases hlt : i < l.length
  · refine .inr ⟨by show i < (tx l).cps.size; omega, Pv (i + 1), fun σ' H' p' => ⟨l.length - (i + 1), by omega, rfl, hlt, p'⟩, fun x H' y => ?_⟩
    obtain ⟨e, c, hc, y⟩ := y
    subst e y
    exact hs i c σ _ (by simpa [tx] using hc) p
  · have e : i = l.length := by omega
    subst e
    exact .inl ⟨by show (tx l).cps.size ≤ l.length; omega, hd σ H p⟩

/-! ### f-strings of plain fields -/
end
end L2

namespace L2
open PySem PySem.Spec PyProof.Rows
/-! ### isinstance of an exception of an own class -/
section
variable {prog : Program} {w : World} {A : Around} {E : Value → Shared → Prop} {K : PySem.W.Frag} {x D : Addr} {ox : Obj} {od : Option Obj}
end
/-! ### a class whose __init__ may raise -/
section
variable {X : Cx} {k : Nat} {f C : Addr} {fd : FuncData} {ps : List Str} {sp : Sp} {x : Str} {p pos : Pos} {e : Expr} {es : List Expr} {t : TA} {W : St → XK}
end
/-! ### == of two lists with the very same items -/
end L2

namespace L2
open PySem PySem.Spec PyProof.Rows
/-! ### exceptions of own classes as values: made by hand, kept, asked for what they keep -/
section
variable {X : Cx} {x : Str} {C f : Addr} {p pos : Pos} {e : Expr} {es : List Expr} {t : TA}
end
/-! ### a class of the text whose __init__ is a def of its own -/
section
variable {prog : Program} {w : World} {A : Around} {Ex : Value → Shared → Prop} {hp : Heap} {gs : Array GenState} {dr : Drawn} {tk : Nat} {os : OsState}
variable {nm q : Str} {C N fI : Addr} {bs bm bmB : List Value} {hdct : Bool} {sn : List Str} {sub : List Value} {ab : Bool} {col : Option Bool} {dd : Option Addr} {k0 k1 k2 k3 k5 : Option Value} {B newId initId : String} {mN : Str → Option Value} {us : List Value} {oI : Obj}
theorem exc_type_call {Q : Fin → Shared → Prop} (FB : ExcBaseFacts B newId initId bmB) (T : OwnTail hp bmB bm) (cO : hp.get? C = some (excClassObj nm q C N bs bm hdct sn sub ab col dd k0 k1 k2 k3 k5 newId)) (nN : hp.Ns N mN)
    (iN : mN "__init__" = some (.ref fI)) (fO : hp.get? fI = some oI) (fC : oI.cls = .type "function") (sz : us.length ≤ sizeLine)
    (k : ∀ h1 e, Heap.MadeExcOf hp h1 e (.ref C) us → wpAny (model prog w) A (call (.ref fI) (.ref e :: us)) (fun r s1 => r = .none ∧ Q (.done (.ret (.ref e))) s1) Ex ⟨h1, gs, dr, tk, os⟩) :
    wpAny (model prog w) A (Builtin.«type.__call__» ⟨.ref C :: us, []⟩) Q Ex ⟨hp, gs, dr, tk, os⟩ := by
  repeat (first | with_reducible refine wpAny_loadPart_at cO ?_ | with_reducible refine wpAny_madeBy_exc cO ?_ | wp_step)
  refine codeAny_call_builtin_code (Code.quiet_builtin _ FB.quiet) (wpAny_check_new_subT FB T cO (codeAny_exc_new_subT FB T cO ?_ sz))
  show wpAny _ _ _ _ _ _
  have keep : ∀ b o, hp.get? b = some o → ((hp.push { cls := .type "tuple", data := .seq us.toArray }).push { cls := .ref C, data := .fields #[.ref hp.objs.size, .none, .none, .none, .bool false, .none] }).get? b = some o :=
    fun b o z => Heap.get?_push_of_some _ (Heap.get?_push_of_some _ z)
  have cO1 := keep _ _ cO
  have new : ((hp.push { cls := .type "tuple", data := .seq us.toArray }).push { cls := .ref C, data := .fields #[.ref hp.objs.size, .none, .none, .none, .bool false, .none] }).get? (hp.objs.size + 1)
      = some { cls := .ref C, data := .fields #[.ref hp.objs.size, .none, .none, .none, .bool false, .none] } := by heap_get
  have inC : (Value.ref C :: bm).contains (.ref C) = true := by simp
  unfold isInstance
  repeat (first | with_reducible refine wpAny_loadPart_at new ?_ | (with_reducible refine wpAny_isSubtype_exc cO1 ?_; rw [inC]) | wp_step)
  show wpAny _ _ (typeLookup (.ref C) _) _ _ _
  refine wpAny_typeLookup_tail cO1 (nN.keeps keep) (T.keeps keep) FB.mroIs FB.init.lookup ?_
  rw [iN]
  refine wpAny_holding (wpAny_bind ?_)
  unfold bindSpecial
  refine wpAny_bind (wpAny_typeOf (T := "function") ⟨_, keep _ _ fO, fC⟩ ?_)
  rw [if_pos (by decide)]
  refine wpAny_pure (wpAny_bind (wpAny_mono (k _ (hp.objs.size + 1) ⟨keep, Heap.get?_none_of_le (Nat.le_succ _), hp.objs.size, new, Heap.get?_none_of_le (Nat.le_refl _), ?_⟩) (fun r s1 hr => ?_) fun _ _ z => z))
  · exact Heap.get?_push_of_some _ (Heap.get?_push_at rfl rfl)
  · obtain ⟨rfl, hQ⟩ := hr
    wp_walk
    exact hQ
theorem exc_call {Q : Value → Shared → Prop} (FB : ExcBaseFacts B newId initId bmB) (T : OwnTail hp bmB bm) (cO : hp.get? C = some (excClassObj nm q C N bs bm hdct sn sub ab col dd k0 k1 k2 k3 k5 newId)) (nN : hp.Ns N mN)
    (iN : mN "__init__" = some (.ref fI)) (fO : hp.get? fI = some oI) (fC : oI.cls = .type "function") (sz : us.length ≤ sizeLine)
    (k : ∀ h1 e, Heap.MadeExcOf hp h1 e (.ref C) us → wpAny (model prog w) (A.under (.builtin "type.__call__" ⟨.ref C :: us, []⟩)) (call (.ref fI) (.ref e :: us)) (fun r s1 => r = .none ∧ Q (.ref e) s1) Ex ⟨h1, gs, dr, tk, os⟩) :
    wpAny (model prog w) A (call (.ref C) us) Q Ex ⟨hp, gs, dr, tk, os⟩ := by
  have l1 := tc_lookup
  have l2 := tc_bind (.ref C)
  have isT : (⟨hp, gs, dr, tk, os⟩ : Shared).TypeIs (.ref C) "type" := ⟨_, cO, rfl⟩
  refine wpAny_call (codeAny_of_tree ?_)
  show wpAny _ _ (callAny (.ref C) _) _ _ _
  repeat (any_goals (first | assumption | with_reducible refine wpAny_loadPart_at cO ?_ | wp_step))
  refine ⟨rfl, codeAny_call_builtin_at (Code.quiet_builtin _ (by decide +kernel)) entry_typeCall (wpAny_check_type_call_sub cO (exc_type_call FB T cO nN iN fO fC sz fun h1 e m => ?_))⟩
  exact k h1 e m
end
section
variable {prog : Program} {w : World} {A : Around} {E : Value → Shared → Prop} {K : PySem.W.Frag} {x D : Addr} {ox : Obj} {od : Option Obj}
end
end L2

namespace L2
open PySem PySem.Spec PyProof.Rows
/-! ### exceptions that keep values: the rules -/
section
variable {X : Cx} {pins : List (Addr × Obj)} {σ : St} {H : Hp} {s : Shared} {e : Addr}
end
section
variable {X : Cx} {x f : Str} {C g : Addr} {p pos apos : Pos} {e o value : Expr} {es : List Expr} {t : TA} {ta tv : TE}
end
end L2

namespace L2
open PySem PySem.Spec PyProof.Rows
/-! ### more on texts and tuples -/
section
variable {X : Cx}
end
end L2

namespace L2
open PySem PySem.Spec PyProof.Rows
/-! ### things of things: == and != over lists and tuples of lists and tuples -/
inductive D where
  | at (v : V)
  | seq (t : Bool) (ds : List D)
mutual
def Rep (K : PySem.W.Frag) (H : Hp) : D → V → Prop
  | .at v, x => x = v ∧ flatV v = true
  | .seq t ds, x => ∃ a xs, x = .ref a ∧ (t = true → SqT K H a xs) ∧ (t = false → SqL K H a xs) ∧ Reps K H ds xs
def Reps (K : PySem.W.Frag) (H : Hp) : List D → List V → Prop
  | [], xs => xs = []
  | d :: ds, xs => ∃ y ys, xs = y :: ys ∧ Rep K H d y ∧ Reps K H ds ys
end
mutual
def eqD : D → D → Bool
  | .at v, .at u => eqV v u
  | .seq t ds, .seq u es => t == u && eqDs ds es
  | _, _ => false
def eqDs : List D → List D → Bool
  | [], [] => true
  | d :: ds, e :: es => eqD d e && eqDs ds es
  | _, _ => false
end
mutual
def dep : D → Nat
  | .at _ => 0
  | .seq _ ds => deps ds + 1
def deps : List D → Nat
  | [] => 0
  | d :: ds => max (dep d) (deps ds)
end
theorem Reps.len {K : PySem.W.Frag} {H : Hp} : ∀ {ds : List D} {xs : List V}, Reps K H ds xs → ds.length = xs.length
  | [], xs, h => by unfold Reps at h; subst h; rfl
  | d :: ds, xs, h => by
    unfold Reps at h
    obtain ⟨y, ys, rfl, _, h⟩ := h
    rw [List.length_cons, List.length_cons, Reps.len h]
def eAt (ds es : List D) (j : Nat) : Bool := match ds[j]?, es[j]? with
  | some d, some e => eqD d e
  | _, _ => true
theorem eqDs_len : ∀ {ds es : List D}, ds.length ≠ es.length → eqDs ds es = false
  | [], [], h => absurd rfl h
  | [], _ :: _, _ => by unfold eqDs; rfl
  | _ :: _, [], _ => by unfold eqDs; rfl
  | d :: ds, e :: es, h => by
    unfold eqDs
    rw [eqDs_len (ds := ds) (es := es) fun q => h (by rw [List.length_cons, List.length_cons, q]), Bool.and_false]
theorem eqDs_all : ∀ {ds es : List D}, ds.length = es.length → (List.range ds.length).all (eAt ds es) = eqDs ds es
  | [], [], _ => by unfold eqDs; rfl
  | [], _ :: _, h => by simp at h
  | _ :: _, [], h => by simp at h
  | d :: ds, e :: es, h => by
    have ih := eqDs_all (ds := ds) (es := es) (by simpa using h)
    unfold eqDs
    rw [List.length_cons, List.range_succ_eq_map, List.all_cons, List.all_map, ← ih]
    rfl
theorem eqV_refl {v : V} (h : flatV v = true) : eqV v v = true := by
  cases v <;> first | exact absurd (show false = true from h) Bool.false_ne_true | rfl | simp [eqV]
section
variable {X : Cx} {pins : List (Addr × Obj)} {σ : St} {H : Hp} {s : Shared}
theorem not_both {a : Addr} {xs ys : List V} (I : Inv X pins σ H s) (h1 : SqL X.K H a xs) (h2 : SqT X.K H a ys) : False := by
  obtain ⟨its, _, p, _⟩ := I.list h1
  obtain ⟨js, _, q, _⟩ := I.tuple h2
  exact SeqAt.ne_of_list_tuple p.isList q rfl
mutual
/-- the same thing told twice -/
theorem rep_same (I : Inv X pins σ H s) : ∀ (d e : D) (x : V), Rep X.K H d x → Rep X.K H e x → eqD d e = true
  | .at v, .at u, x, h1, h2 => by
    unfold Rep at h1 h2
    obtain ⟨rfl, f⟩ := h1
    obtain ⟨rfl, _⟩ := h2
    unfold eqD
    exact eqV_refl f
  | .at v, .seq t ds, x, h1, h2 => by
    unfold Rep at h1 h2
    obtain ⟨rfl, f⟩ := h1
    obtain ⟨a, xs, rfl, _⟩ := h2
    exact absurd (show false = true from f) Bool.false_ne_true
  | .seq t ds, .at u, x, h1, h2 => by
    unfold Rep at h1 h2
    obtain ⟨rfl, f⟩ := h2
    obtain ⟨a, xs, rfl, _⟩ := h1
    exact absurd (show false = true from f) Bool.false_ne_true
  | .seq t ds, .seq u es, x, h1, h2 => by
    unfold Rep at h1 h2
    obtain ⟨a, xs, rfl, t1, l1, r1⟩ := h1
    obtain ⟨b, ys, e, t2, l2, r2⟩ := h2
    cases e
    unfold eqD
    cases t with
    | true =>
      cases u with
      | true =>
        have e := I.tuple_inj (t1 rfl) (t2 rfl)
        subst e
        rw [reps_same I ds es xs r1 r2]
        rfl
      | false => exact (not_both I (l2 rfl) (t1 rfl)).elim
    | false =>
      cases u with
      | true => exact (not_both I (l1 rfl) (t2 rfl)).elim
      | false =>
        have e := I.list_inj (l1 rfl) (l2 rfl)
        subst e
        rw [reps_same I ds es xs r1 r2]
        rfl
theorem reps_same (I : Inv X pins σ H s) : ∀ (ds es : List D) (xs : List V), Reps X.K H ds xs → Reps X.K H es xs → eqDs ds es = true
  | [], [], _, _, _ => by unfold eqDs; rfl
  | [], e :: es, xs, h1, h2 => by
    unfold Reps at h1 h2
    subst h1
    obtain ⟨_, _, e, _⟩ := h2
    cases e
  | d :: ds, [], xs, h1, h2 => by
    unfold Reps at h1 h2
    subst h2
    obtain ⟨_, _, e, _⟩ := h1
    cases e
  | d :: ds, e :: es, xs, h1, h2 => by
    unfold Reps at h1 h2
    obtain ⟨y, ys, rfl, h1, r1⟩ := h1
    obtain ⟨z, zs, e, h2, r2⟩ := h2
    cases e
    unfold eqDs
    rw [rep_same I d _ y h1 h2, reps_same I ds es ys r1 r2]
    rfl
end
theorem flat_list {A : Around} {v : V} {u : Value} {a : Addr} {its : Array Value} (f : flatV v = true) (r : RelV v u) (p : s.heap.IsList a its) (hu : A.units < cLine) : SeqAt.EqAt A s u (.ref a) false := by
  cases v with
  | non => cases r; exact .none_list p hu
  | bl b => cases r; exact .bool_list b p hu
  | int i => obtain ⟨t, rfl⟩ := r; exact .int_list i t p hu
  | str i => obtain ⟨t, rfl⟩ := r; exact .str_list i t p hu
  | _ => exact absurd (show false = true from f) Bool.false_ne_true
theorem flat_tup {A : Around} {v : V} {u : Value} {a : Addr} {its : Array Value} (f : flatV v = true) (r : RelV v u) (p : s.heap.IsTuple a its) (hu : A.units < cLine) : SeqAt.EqAt A s u (.ref a) false := by
  cases v with
  | non => cases r; exact .none_tuple p hu
  | bl b => cases r; exact .bool_tuple b p hu
  | int i => obtain ⟨t, rfl⟩ := r; exact .int_tuple i t p hu
  | str i => obtain ⟨t, rfl⟩ := r; exact .str_tuple i t p hu
  | _ => exact absurd (show false = true from f) Bool.false_ne_true
theorem list_flat {A : Around} {v : V} {u : Value} {a : Addr} {its : Array Value} (f : flatV v = true) (r : RelV v u) (p : s.heap.IsList a its) (hu : A.units < cLine) : SeqAt.EqAt A s (.ref a) u false := by
  cases v with
  | non => cases r; exact .list_none p hu
  | bl b => cases r; exact .list_bool b p hu
  | int i => obtain ⟨t, rfl⟩ := r; exact .list_int i t p hu
  | str i => obtain ⟨t, rfl⟩ := r; exact .list_str i t p hu
  | _ => exact absurd (show false = true from f) Bool.false_ne_true
theorem tup_flat {A : Around} {v : V} {u : Value} {a : Addr} {its : Array Value} (f : flatV v = true) (r : RelV v u) (p : s.heap.IsTuple a its) (hu : A.units < cLine) : SeqAt.EqAt A s (.ref a) u false := by
  cases v with
  | non => cases r; exact .tuple_none p hu
  | bl b => cases r; exact .tuple_bool b p hu
  | int i => obtain ⟨t, rfl⟩ := r; exact .tuple_int i t p hu
  | str i => obtain ⟨t, rfl⟩ := r; exact .tuple_str i t p hu
  | _ => exact absurd (show false = true from f) Bool.false_ne_true
theorem at_of {A : Around} {its js : List Value} {e : Nat → Bool} (h : ∀ j u v, its[j]? = some u → js[j]? = some v → SeqAt.EqAt A s u v (e j)) : ∀ j (h1 : j < its.toArray.size) (h2 : j < js.toArray.size), SeqAt.EqAt A s its.toArray[j] js.toArray[j] (e j) := fun j h1 h2 => by
  rw [List.size_toArray] at h1 h2
  rw [List.getElem_toArray, List.getElem_toArray]
  exact h j _ _ (List.getElem?_eq_getElem h1) (List.getElem?_eq_getElem h2)
/-- two lists, two tuples, by their items -/
theorem rc_lists {A : Around} {a b : Addr} {xs ys : List V} {ds es : List D} (I : Inv X pins σ H s) (hu : A.units < cLine) (h1 : SqL X.K H a xs) (h2 : SqL X.K H b ys) (r1 : Reps X.K H ds xs) (r2 : Reps X.K H es ys)
    (h : ∀ its js, Vals xs its → Vals ys js → ∀ j u v, its[j]? = some u → js[j]? = some v → SeqAt.EqAt A.in1 s u v (eAt ds es j)) : SeqAt.RcAt A s (.ref a) (.ref b) (eqDs ds es) ∧ SeqAt.RcNeAt A s (.ref a) (.ref b) (!eqDs ds es) := by
  obtain ⟨its, q1, p1, z1⟩ := I.list h1
  obtain ⟨js, q2, p2, z2⟩ := I.list h2
  have l1 := q1.length
  have l2 := q2.length
  have m1 := r1.len
  have m2 := r2.len
  by_cases hl : ds.length = es.length
  · rw [← eqDs_all hl, show ds.length = its.toArray.size by rw [List.size_toArray]; omega]
    have hz : its.toArray.size = js.toArray.size := by rw [List.size_toArray, List.size_toArray]; omega
    exact ⟨SeqAt.RcAt.lists p1.isList p2.isList hz hu (at_of (h its js q1 q2)), SeqAt.RcNeAt.lists p1.isList p2.isList hz hu (at_of (h its js q1 q2))⟩
  · rw [eqDs_len hl]
    have hz : (its.toArray.size != js.toArray.size) = true := by simp only [List.size_toArray, bne_iff_ne, ne_eq]; omega
    exact ⟨SeqAt.RcAt.lists_lengths p1.isList p2.isList hz hu, SeqAt.RcNeAt.lists_lengths p1.isList p2.isList hz hu⟩
theorem rc_tups {A : Around} {a b : Addr} {xs ys : List V} {ds es : List D} (I : Inv X pins σ H s) (hu : A.units < cLine) (h1 : SqT X.K H a xs) (h2 : SqT X.K H b ys) (r1 : Reps X.K H ds xs) (r2 : Reps X.K H es ys)
    (h : ∀ its js, Vals xs its → Vals ys js → ∀ j u v, its[j]? = some u → js[j]? = some v → SeqAt.EqAt A.in1 s u v (eAt ds es j)) : SeqAt.RcAt A s (.ref a) (.ref b) (eqDs ds es) ∧ SeqAt.RcNeAt A s (.ref a) (.ref b) (!eqDs ds es) := by
  obtain ⟨its, q1, p1, z1⟩ := I.tuple h1
  obtain ⟨js, q2, p2, z2⟩ := I.tuple h2
  have l1 := q1.length
  have l2 := q2.length
  have m1 := r1.len
  have m2 := r2.len
  have e : ((List.range (min its.toArray.size js.toArray.size)).all (eAt ds es) && its.toArray.size == js.toArray.size) = eqDs ds es := by
    rw [List.size_toArray, List.size_toArray]
    by_cases hl : ds.length = es.length
    · rw [← eqDs_all hl, show min its.length js.length = ds.length by omega, show its.length = js.length by omega]
      simp
    · rw [eqDs_len hl]
      have : (its.length == js.length) = false := by simp; omega
      rw [this, Bool.and_false]
  rw [← e]
  exact ⟨SeqAt.RcAt.tuples p1 p2 hu (at_of (h its js q1 q2)), SeqAt.RcNeAt.tuples p1 p2 hu (at_of (h its js q1 q2))⟩
mutual
theorem rep_at (I : Inv X pins σ H s) : ∀ (d e : D) (A : Around) (x y : V) (u v : Value), A.units + dep d + dep e < cLine → Rep X.K H d x → Rep X.K H e y → RelV x u → RelV y v → SeqAt.EqAt A s u v (eqD d e)
  | .at a, .at b, A, x, y, u, v, hu, h1, h2, ru, rv => by
    unfold Rep at h1 h2
    obtain ⟨rfl, f⟩ := h1
    obtain ⟨rfl, g⟩ := h2
    unfold eqD
    exact eqAt_V ru rv f g
  | .at a, .seq t es, A, x, y, u, v, hu, h1, h2, ru, rv => by
    unfold Rep at h1 h2
    obtain ⟨rfl, f⟩ := h1
    obtain ⟨b, ys, rfl, t2, l2, _⟩ := h2
    cases rv
    unfold eqD
    cases t with
    | true => obtain ⟨_, _, p, _⟩ := I.tuple (t2 rfl); exact flat_tup f ru p (by omega)
    | false => obtain ⟨_, _, p, _⟩ := I.list (l2 rfl); exact flat_list f ru p.isList (by omega)
  | .seq t ds, .at b, A, x, y, u, v, hu, h1, h2, ru, rv => by
    unfold Rep at h1 h2
    obtain ⟨rfl, f⟩ := h2
    obtain ⟨a, xs, rfl, t1, l1, _⟩ := h1
    cases ru
    unfold eqD
    cases t with
    | true => obtain ⟨_, _, p, _⟩ := I.tuple (t1 rfl); exact tup_flat f rv p (by omega)
    | false => obtain ⟨_, _, p, _⟩ := I.list (l1 rfl); exact list_flat f rv p.isList (by omega)
  | .seq t ds, .seq t' es, A, x, y, u, v, hu, h1, h2, ru, rv => by
    have k1 := h1
    have k2 := h2
    unfold Rep at h1 h2
    obtain ⟨a, xs, rfl, t1, l1, r1⟩ := h1
    obtain ⟨b, ys, rfl, t2, l2, r2⟩ := h2
    cases ru
    cases rv
    unfold dep at hu
    have hu' : A.in1.units + deps ds + deps es < cLine := by rw [Around.in1_units]; omega
    have hu0 : A.units < cLine := by omega
    by_cases hab : a = b
    · subst hab
      rw [rep_same I _ _ _ k1 k2]
      exact .same _
    · unfold eqD
      cases t with
      | true =>
        cases t' with
        | true => exact .of_refs hab (rc_tups I hu0 (t1 rfl) (t2 rfl) r1 r2 (reps_at I ds es A.in1 xs ys hu' r1 r2)).1
        | false =>
          obtain ⟨_, _, p, _⟩ := I.tuple (t1 rfl)
          obtain ⟨_, _, q, _⟩ := I.list (l2 rfl)
          exact .tuple_list p q.isList hu0
      | false =>
        cases t' with
        | true =>
          obtain ⟨_, _, p, _⟩ := I.list (l1 rfl)
          obtain ⟨_, _, q, _⟩ := I.tuple (t2 rfl)
          exact .list_tuple p.isList q hu0
        | false => exact .of_refs hab (rc_lists I hu0 (l1 rfl) (l2 rfl) r1 r2 (reps_at I ds es A.in1 xs ys hu' r1 r2)).1
theorem reps_at (I : Inv X pins σ H s) : ∀ (ds es : List D) (A : Around) (xs ys : List V), A.units + deps ds + deps es < cLine → Reps X.K H ds xs → Reps X.K H es ys →
    ∀ its js, Vals xs its → Vals ys js → ∀ j u v, its[j]? = some u → js[j]? = some v → SeqAt.EqAt A s u v (eAt ds es j)
  | [], es, A, xs, ys, hu, h1, h2, its, js, q1, q2, j, u, v, e1, e2 => by
    unfold Reps at h1
    subst h1
    cases q1
    simp at e1
  | d :: ds, [], A, xs, ys, hu, h1, h2, its, js, q1, q2, j, u, v, e1, e2 => by
    unfold Reps at h2
    subst h2
    cases q2
    simp at e2
  | d :: ds, e :: es, A, xs, ys, hu, h1, h2, its, js, q1, q2, j, u, v, e1, e2 => by
    unfold Reps at h1 h2
    obtain ⟨y, ys', rfl, k1, r1⟩ := h1
    obtain ⟨z, zs', rfl, k2, r2⟩ := h2
    unfold deps at hu
    cases q1 with
    | cons ru t1 =>
      cases q2 with
      | cons rv t2 =>
        cases j with
        | zero =>
          simp only [List.getElem?_cons_zero, Option.some.injEq] at e1 e2
          subst e1 e2
          exact rep_at I d e A y z _ _ (by omega) k1 k2 ru rv
        | succ j =>
          simp only [List.getElem?_cons_succ] at e1 e2
          exact reps_at I ds es A ys' zs' (by omega) r1 r2 _ _ t1 t2 j u v e1 e2
end
end
section
variable {X : Cx}
/-- == and != of two lists or two tuples -/
def rEqD (K : PySem.W.Frag) (neg : Bool) : R2 := fun x y H Q => ∃ t ds es, Rep K H (.seq t ds) x ∧ Rep K H (.seq t es) y ∧ deps ds + deps es ≤ 40 ∧ Q (.bl (if neg then !eqDs ds es else eqDs ds es)) H
theorem op_D {X : Cx} (neg : Bool) (hu : X.A.units + 64 < cLine) : OpR X (compareOp (if neg then .NotEq else .Eq)) (rEqD X.K neg) := by
  intro pins s σ H x y v u Q I rx ry h
  obtain ⟨t, ds, es, h1, h2, hd, q⟩ := h
  unfold Rep at h1 h2
  obtain ⟨a, xs, rfl, t1, l1, r1⟩ := h1
  obtain ⟨b, ys, rfl, t2, l2, r2⟩ := h2
  cases rx
  cases ry
  have hu' : X.A.in1.units + deps ds + deps es < cLine := by rw [Around.in1_units]; omega
  have hu0 : X.A.units < cLine := by omega
  have z : SeqAt.RcAt X.A s (.ref a) (.ref b) (eqDs ds es) ∧ SeqAt.RcNeAt X.A s (.ref a) (.ref b) (!eqDs ds es) := by
    cases t with
    | true => exact rc_tups I hu0 (t1 rfl) (t2 rfl) r1 r2 (reps_at I ds es X.A.in1 xs ys hu' r1 r2)
    | false => exact rc_lists I hu0 (l1 rfl) (l2 rfl) r1 r2 (reps_at I ds es X.A.in1 xs ys hu' r1 r2)
  cases neg with
  | true => exact z.2 X.prog X.w _ _ ⟨.bl (!eqDs ds es), H, I, rfl, q⟩
  | false => exact z.1 X.prog X.w _ _ ⟨.bl (eqDs ds es), H, I, rfl, q⟩
theorem op_eqD {K : PySem.W.Frag} (hu : X.A.units + 64 < cLine) (hK : X.K = K := by rfl) : OpR X (compareOp .Eq) (rEqD K false) := hK ▸ op_D false hu
theorem op_neD {K : PySem.W.Frag} (hu : X.A.units + 64 < cLine) (hK : X.K = K := by rfl) : OpR X (compareOp .NotEq) (rEqD K true) := hK ▸ op_D true hu
theorem room_64 {k : Nat} {A : Around} (hr : Room k A) : A.units + 64 < cLine := hr.units
/-! ### xs[lo::k]: some items of the list -/
/-- index of a tuple, K told -/
theorem ix_tupK {K : PySem.W.Frag} (h : X.K = K) : IxR X (rIxT K) := h ▸ ix_tup
end
end L2

namespace L2
open PySem PySem.Spec PyProof.Rows
/-! ### B.m(self, ..): a method called by its class; methods of objects of several classes -/
structure BMeth (K : PySem.W.Frag) (B : Addr) (m : Str) (f : Addr) : Prop where
  ga : PySem.W.specialIn K (.ref B) "__getattribute__" = some (some (.builtin "type.__getattribute__"))
  rd : PySem.W.readsIn K B (.type "type") = true
  fc : PySem.W.findCls K (.ref B) (.type "type") m = some (.val (.ref f))
  kp : PySem.W.keepIn K (.ref f) = true
section
variable {X : Cx} {k : Nat} {m x : Str} {ps : List Str} {sp : Sp} {e : Expr} {es : List Expr} {p apos pos : Pos} {t : TA} {W : St → XK}
theorem getmeth_cls {A : Around} {E : Value → Shared → Prop} {pins : List (Addr × Obj)} {σ : St} {H : Hp} {s : Shared} {B g : Addr} {pl : Sem Bool} {Q : Value × List Value → Shared → Prop} (I : Inv X pins σ H s) (Z : BMeth X.K B m g) (h : Q (.ref g, []) { s with toks := s.toks + 1 }) :
    wpAny (model X.prog X.w) A (getMethod (.ref B) m pl) Q E s := PySem.W.method_cls I.kIn Z.ga (PySem.W.cls_value I.kIn Z.rd Z.fc rfl h)
structure BCal (P : Program) (w : World) (K : PySem.W.Frag) (mg : Str → Option Value) (base : Heap) (k : Nat) (x m : Str) (ps : List Str) (sp : Sp) : Prop where
  ex : ∃ B f fd, FnOk P w K mg base CX0 k f fd ps sp ∧ Binds K fd ps [] ∧ BMeth K B m f ∧ mg x = some (.ref B)
theorem pe_baseC {pl : Sem Bool} (C : BCal X.prog X.w X.K X.mg X.base k x m ps sp) (hr : Room k X.A) (hg : Gl X x) (ha : PA X (e :: es) t) (hdb : (x == ("__debug__" : Str)) = false := by decide)
    (hst : starEach (e :: es) X.env = (false, eval e X.env) :: starEach es X.env := by rfl) (hpl : (backTo pos (starEach es X.env)).any (·.1) = false := by rfl)
    (ht : eval (.Call (.Attribute (.Name x p) m apos) (e :: es) [] pos) X.env = (do
      let ov ← eval (.Name x p) X.env
      standAt apos.atName
      let (f, first) ← holding [ov] (getMethod ov m pl)
      callWith pos f first (backTo pos (starEach (e :: es) X.env)) (backToKw pos (keywordEach [] X.env))) := by rfl) :
    PE X (.Call (.Attribute (.Name x p) m apos) (e :: es) [] pos) (tCall sp [] E0 t) := by
  intro pins s σ H Q I h
  obtain ⟨B, f, fd, F, b, Z, hm⟩ := C.ex
  refine PySem.W.methodCall_KW (pl := pl) (ld_glob I hg hm ?_ hdb) ht
  refine getmeth_cls I Z ?_
  have I' := I.tok (s.toks + 1)
  refine PySem.W.callWith_K (first := []) (h₀ := X.base) I.ok.mod.kin Z.kp (thn (ha pos pins _ σ H _ I' h) fun us s2 ⟨vs, H2, I2, r, q2⟩ => ⟨I2.kIn, ?_⟩) hst hpl
  exact run_fn (us := us) (vs := vs) F hr b .nil pass0 I2 r q2
/-- o.m(..), o of one of several classes -/
def tMethD (Fam : Addr → Prop) (m : Str) (sp : Addr → Sp) (ta : TE) (t : TA) : TE := fun σ H Q => ta σ H fun x H1 => ∃ a C dx fs, x = .ref a ∧ H1 a = some (.ins C dx fs) ∧ Fam C ∧ fs.lookup m = none ∧ t σ H1 fun vs H2 => sp C (.ref a :: vs) H2 Q E0
structure MFam (P : Program) (w : World) (K : PySem.W.Frag) (mg : Str → Option Value) (base : Heap) (k : Nat) (Fam : Addr → Prop) (m : Str) (ps : List Str) (sp : Addr → Sp) : Prop where
  ex : ∀ C, Fam C → MCal P w K mg base k C m ps (sp C)
theorem pe_methD {Fam : Addr → Prop} {spC : Addr → Sp} {o : Expr} {ta : TE} {pl : Sem Bool} (M : MFam X.prog X.w X.K X.mg X.base k Fam m ps spC) (hr : Room k X.A) (he : PE X o ta) (ha : PA X (e :: es) t)
    (hst : starEach (e :: es) X.env = (false, eval e X.env) :: starEach es X.env := by rfl) (hpl : (backTo pos (starEach es X.env)).any (·.1) = false := by rfl)
    (ht : eval (.Call (.Attribute o m apos) (e :: es) [] pos) X.env = (do
      let ov ← eval o X.env
      standAt apos.atName
      let (f, first) ← holding [ov] (getMethod ov m pl)
      callWith pos f first (backTo pos (starEach (e :: es) X.env)) (backToKw pos (keywordEach [] X.env))) := by rfl) :
    PE X (.Call (.Attribute o m apos) (e :: es) [] pos) (tMethD Fam m spC ta t) := by
  intro pins s σ H Q I h
  refine PySem.W.methodCall_KW (pl := pl) (thn (he pins s σ H _ I h) fun u s1 ⟨x, H1, I1, rx, a, C, dx, fs, ex, ea, hF, l, q⟩ => ?_) ht
  subst ex
  obtain rfl : u = Value.ref a := rx
  obtain ⟨f, fd, F, b, hm⟩ := (M.ex C hF).ex
  refine getmeth_ok I1 ea (M.ex C hF).cl hm l ?_
  refine PySem.W.callWith_K (first := [.ref a]) (h₀ := X.base) I.ok.mod.kin hm.kp (thn (ha pos pins s1 σ H1 _ I1 q) fun us s2 ⟨vs, H2, I2, r, q2⟩ => ⟨I2.kIn, ?_⟩) hst hpl
  exact run_fn (us := .ref a :: us) (vs := .ref a :: vs) F hr b .nil pass0 I2 (.cons rfl r) (by rw [List.append_nil]; exact q2)
end
/-! ### a tuple of the module -/
def GTup (K : PySem.W.Frag) (mg : Str → Option Value) (x : Str) (xs : List V) : Prop := ∃ a, mg x = some (.ref a) ∧ ∀ H, SqT K H a xs
theorem pe_gtup {X : Cx} {x : Str} {xs : List V} {pos : Pos} (h : GTup X.K X.mg x xs) (hg : Gl X x) (hd : (x == ("__debug__" : Str)) = false := by decide) : PE X (.Name x pos) (fun _ H Q => ∀ a, SqT X.K H a xs → Q (.ref a) H) := by
  obtain ⟨a, e, hs⟩ := h
  exact fun _ _ _ H _ I q => ld_glob I hg e ⟨.ref a, H, I, rfl, q a (hs H)⟩ hd
/-! ### range(a, b, c), c above nought -/
/-! ### a op1 b op2 c op3 d -/
end L2

namespace L2
open PySem PySem.Spec PyProof.Rows
section
variable {X : Cx}
end
end L2

namespace L2
open PySem PySem.Spec PyProof.Rows
/-! ### C() where there is no __init__ but object's -/
structure Mk0 (K : PySem.W.Frag) (mg : Str → Option Value) (x : Str) (C : Addr) : Prop where
  makes : PySem.W.makesIn K C = true
  init : PySem.W.findIn K (.ref C) "__init__" = some (some (.builtin "object.__init__"))
  kp : PySem.W.keepIn K (.ref C) = true
  at_ : mg x = some (.ref C)
def tNew (C : Addr) : TE := fun _ H Q => ∀ y dx, H y = none → H dx = none → dx ≠ y → Q (.ref y) (upd (upd H dx (.own y)) y (.ins C dx []))
theorem pe_new0 {X : Cx} {x : Str} {C : Addr} {p pos : Pos} (M : Mk0 X.K X.mg x C) (hg : Gl X x) (hdb : (x == ("__debug__" : Str)) = false := by decide) : PE X (.Call (.Name x p) [] [] pos) (tNew C) := by
  intro pins s σ H Q I h
  refine wpAny_Call_Name_kw (ld_glob I hg M.at_ ?_ hdb)
  refine PySem.W.callWith_K0 I.kIn M.kp (wpAny_call (make_map0 I.kIn M.makes M.init (fun self => PySem.W.Looks.of_pure (PySem.W.oi_bind self)) ?_))
  have hq := h (s.heap.objs.size + 1) s.heap.objs.size (I.hok.fresh (Nat.le_succ _)) (I.hok.fresh (Nat.le_refl _)) (Nat.ne_of_lt (Nat.lt_succ_self _))
  have I2 := Inv.made (C := C) I
  have Y := PySem.W.makes_of (M := model X.prog X.w) I.kIn M.makes
  have ob : ((s.heap.push PySem.W.emptyDict).push (PySem.W.instObj C s.heap.objs.size)).get? (s.heap.objs.size + 1) = some (PySem.W.instObj C s.heap.objs.size) := by
    have e : (s.heap.push PySem.W.emptyDict).objs.size = s.heap.objs.size + 1 := by rw [Heap.size_push]
    rw [← e]
    exact Heap.get?_push_size _ rfl
  have t1 : PySem.W.Looks (model X.prog X.w) ((s.heap.push PySem.W.emptyDict).push (PySem.W.instObj C s.heap.objs.size)) (typeOf (.ref (s.heap.objs.size + 1))) (.ref C) := (PySem.W.Looks.ld ob).andThen .now
  have t2 : PySem.W.Looks (model X.prog X.w) ((s.heap.push PySem.W.emptyDict).push (PySem.W.instObj C s.heap.objs.size)) (isInstance (.ref (s.heap.objs.size + 1)) (.type "object")) true := t1.andThen (Y.top.keeps fun b o e => Heap.get?_push_of_some _ (Heap.get?_push_of_some _ e))
  obtain ⟨hh, g, d, t, os⟩ := s
  refine codeAny_call_builtin PySem.W.oi_plain PySem.W.entry_oi (@PySem.W.check_slot (model X.prog X.w) _ _ _ "object.__init__" "object" "__init__" (.ref (hh.objs.size + 1)) [] [] _ PySem.W.oi_kind PySem.W.oi_split t2 (PySem.W.oi_args (.ref (hh.objs.size + 1))) ?_)
  rw [PySem.W.oi_run]
  exact wpAny_pure (And.intro rfl ⟨V.ref (hh.objs.size + 1), _, I2, rfl, hq⟩)
end L2

namespace L2
open PySem PySem.Spec PyProof.Rows
/-! ### x (not) in a tuple of texts, for x of any kind; z.upper() -/
end L2

namespace L2
open PySem PySem.Spec PyProof.Rows

/-! ### for .. in reversed(xs), a list that stays -/
end L2

/-! Sorting by a tree of questions: what comes out is in order. -/
namespace CRS
open PySem PySem.W PyProof.Rows
section
variable {lt : Nat → Nat → Bool} {V : Nat → Prop}
end
section
variable {O : KeyOrd} {key : Nat → O.α} {N : Nat}
variable {β : Type}
end
end CRS

namespace L2
open PySem PySem.Spec PyProof.Rows PySem.W

/-! ### sorting lists of tuples of ints -/

section
variable {prog : Program} {w : World} {A : Around} {E : Value → Shared → Prop} {s : Shared}
/-! #### tuples of ints -/
end
theorem ints_rel : ∀ {r : List Int} {us : List Value}, Vals (r.map V.int) us → IntsAre us r
  | [], _, .nil => .nil
  | a :: r, _, .cons ⟨t, e⟩ rr => by subst e; exact .cons a t (ints_rel rr)
section
variable {X : Cx}
end
section
variable {X : Cx}
/-! ### the truth of a list in a test -/
def tTru (K : PySem.W.Frag) (t : TE) : TT := fun σ H Q => t σ H fun x H1 => ∃ k, TruV K x H1 k ∧ Q k H1
theorem pt_tru {e : Expr} {t : TE} (h : PE X e t) (he : ∀ whole, isTrue e X.env whole = (do let v ← whole; standAt e.pos; holding [v] (truthy v)) := by intro _; rfl) : PT X e (tTru X.K t) := by
  intro pins s σ H Q I hw
  exact isTrue_plain (thn (h pins s σ H _ I hw) fun v s1 ⟨x, H1, I1, r1, q1⟩ => tru_ok pins s1 σ H1 x v Q I1 r1 q1) (he _)
end
end L2

namespace L2
open PySem PySem.Spec PyProof.Rows
/-! ### a def with default arguments, all of its arguments given -/
structure FunD (K : PySem.W.Frag) (x qual : Str) (st : Stmt) (f : Addr) (fd : FuncData) : Prop where
  ex : ∃ (oc : Value) (od : Option Addr) (dV kV doc pm : Value) (an : Option Addr) (cdv ct : Value) (osl : Array (Option Value)),
    fd = PySem.W.fnOf x qual (defArgs st) (defBody st) (defScope st) dV kV doc pm an cdv ct ∧ K.lookup f = some ⟨oc, od, .func fd, osl⟩ ∧ PySem.W.codeIn K cdv qual = true
  kp : PySem.W.keepIn K (.ref f) = true
section
variable {P : Program} {w : World} {K : PySem.W.Frag} {mg : Str → Option Value} {base : Heap}
theorem FunD.ok {x qual : Str} {st : Stmt} {f : Addr} {fd : FuncData} {N ps : List Str} {k : Nat} {sp : Sp} (F : FunD K x qual st f fd) (S : FnScope N ps (defScope st)) (len : ∀ vs H Q E, sp vs H Q E → vs.length = ps.length)
    (hbody : ∀ (cdv : Value) (A : Around) (outer : List Env) (s : Shared) (H : Hp) (vs : List V) (Q : VK) (E : XK), Room k (A.deeper (envOfC qual (defScope st) s.heap.objs.size f cdv)) → sp vs H Q E →
      ∃ t, PSs (cxOf CX0 P w K mg base N qual (defScope st) f cdv A outer s H E).nox (defBody st) t ∧ t { nx := fun _ H' => Q .non H', rt := Q } (start N vs) H) : FnOk P w K mg base CX0 (k + 1) f fd ps sp := by
  obtain ⟨oc, od, dV, kV, doc, pm, an, cdv, ct, osl, e, lk, hcd⟩ := F.ex
  subst e
  refine fn_of lk hcd S len fun A outer s H vs Q E hr hsp => ?_
  obtain ⟨t, h, q⟩ := hbody cdv A outer s H vs Q E hr hsp
  exact ⟨t, h.nox, q⟩
theorem funD_mk {x qual : Str} {st : Stmt} {f : Addr} {oc : Value} {od an : Option Addr} {osl : Array (Option Value)} {dV kV doc pm cdv ct : Value} (l : K.lookup f = some ⟨oc, od, .func (PySem.W.fnOf x qual (defArgs st) (defBody st) (defScope st) dV kV doc pm an cdv ct), osl⟩)
    (c : PySem.W.codeIn K cdv qual = true) (k : PySem.W.keepIn K (.ref f) = true) : FunD K x qual st f (PySem.W.fnOf x qual (defArgs st) (defBody st) (defScope st) dV kV doc pm an cdv ct) := ⟨⟨oc, od, dV, kV, doc, pm, an, cdv, ct, osl, rfl, l, c⟩, k⟩
end
end L2
namespace L2
open PySem PySem.Spec PyProof.Rows
/-- for i, x in enumerate(xs), a list that the body leaves as it is -/
theorem for_enum {K K' : PySem.W.Frag} {a : Addr} {xs : List V} {i1 i2 : Nat} {tb : TS} {D : Ends} {σ : St} {H : Hp} (Pv : Nat → St → Hp → Prop) (h0 : Pv 0 σ H) (hl : ∀ i σ H, i ≤ xs.length → Pv i σ H → SqL K H a xs)
    (hs : ∀ i x σ H t, xs[i]? = some x → Pv i σ H → H t = none → tb { D with nx := Pv (i + 1), ct := Pv (i + 1), bk := D.nx } ((σ.set i1 (some (.int i))).set i2 (some x)) (upd H t (.tup [.int i, x]))) (hd : ∀ σ H, Pv xs.length σ H → D.nx σ H) :
    ∃ W : Nat → Nat → St → Hp → Prop, (∃ m, W 0 m σ H) ∧ ∀ i m σ H, W i m σ H →
      ((Ite K a).stop i H ∧ D.nx σ H) ∨ ((Ite K a).go i H ∧ ∃ N : St → Hp → Prop, (∀ σ' H', N σ' H' → ∃ m', m' < m ∧ W (i + 1) m' σ' H') ∧ ∀ x H', (Ite K a).yld i H x H' → gTup K' 2 (gCons (gName i1) (gCons (gName i2) gNil)) x σ H' fun σ2 H2 => tb { D with nx := N, ct := N, bk := D.nx } σ2 H2) := by
  refine ⟨fun i m σ H => m = xs.length - i ∧ i ≤ xs.length ∧ Pv i σ H, ⟨xs.length, by simp, Nat.zero_le _, h0⟩, ?_⟩
  rintro i m σ H ⟨rfl, hi, p⟩
  have q := hl i σ H hi p
  by_cases hlt : i < xs.length
  · refine .inr ⟨⟨xs, xs[i], q, by simp [hlt]⟩, Pv (i + 1), fun σ' H' p' => ⟨xs.length - (i + 1), by omega, rfl, hlt, p'⟩, fun x H' y => ?_⟩
    obtain ⟨t, z, ex, ht, hz, e3⟩ := y
    subst ex e3
    exact ⟨t, _, rfl, SqT.of upd_same, rfl, _, _, rfl, _, _, rfl, rfl, hs i z σ H t (hz xs q) p ht⟩
  · obtain rfl : i = xs.length := by omega
    exact .inl ⟨⟨xs, q, Nat.le_refl _⟩, hd σ H p⟩
end L2

namespace L2
open PySem PySem.Spec PyProof.Rows

/-! ### zip(xs, ys), its pairs unpacked by the target -/
def Itz (K : PySem.W.Frag) (a b : Addr) : It :=
  ⟨fun i H => ∃ xs ys x y, SqL K H a xs ∧ SqL K H b ys ∧ xs[i]? = some x ∧ ys[i]? = some y,
   fun i H v H' => ∃ t x y, v = .ref t ∧ H t = none ∧ (∀ xs, SqL K H a xs → xs[i]? = some x) ∧ (∀ ys, SqL K H b ys → ys[i]? = some y) ∧ H' = upd H t (.tup [x, y]),
   fun i H => ∃ xs ys, SqL K H a xs ∧ SqL K H b ys ∧ (xs.length ≤ i ∨ ys.length ≤ i)⟩
/-- the objects of a zip lie apart -/
structure Zp (z u o i j : Addr) : Prop where
  uz : u ≠ z
  oz : o ≠ z
  iz : i ≠ z
  jz : j ≠ z
  uo : u ≠ o
  ui : u ≠ i
  uj : u ≠ j
  oi : o ≠ i
  oj : o ≠ j
  ij : i ≠ j
theorem zp_new (n : Nat) : Zp (n + 4) (n + 2) (n + 3) n (n + 1) :=
  ⟨Nat.ne_of_lt (by omega), Nat.ne_of_lt (by omega), Nat.ne_of_lt (by omega), Nat.ne_of_lt (by omega), Nat.ne_of_lt (by omega), Nat.ne_of_gt (by omega), Nat.ne_of_gt (by omega), Nat.ne_of_gt (by omega), Nat.ne_of_gt (by omega), Nat.ne_of_lt (by omega)⟩
def ZipSt (a b z u o i j : Addr) (k : Nat) (h : Heap) : Prop := IsZip h z u o .none ∧ IsPair h u (.ref i) (.ref j) ∧ (∃ x y, IsPair h o x y) ∧ h.IsListIter i a k ∧ h.IsListIter j b k
theorem zip_apart {a b z u o i j : Addr} {k : Nat} {h : Heap} {xs ys : Array Value} (D : Zp z u o i j) (st : ZipSt a b z u o i j k h) (ha : h.IsList a xs) (hb : h.IsList b ys) : ZipApart z u o i j a b := by
  obtain ⟨hz, hu, ⟨x, y, ho⟩, ⟨oi, ei, ci, _⟩, ⟨oj, ej, cj, _⟩⟩ := st
  have ne : ∀ {c d : Addr} {p q : Obj} {zs : Array Value}, h.IsList c zs → h.get? d = some q → q.cls ≠ .type "list" → c ≠ d := fun {c d p q zs} hl hd hn e => by
    obtain ⟨p', hp, hc, _⟩ := hl
    rw [e, hd] at hp
    cases hp
    exact hn hc
  have nz : (Value.type "zip") ≠ .type "list" := by decide +kernel
  have nt : (Value.type "tuple") ≠ .type "list" := by decide +kernel
  have ni : (Value.type "list_iterator") ≠ .type "list" := by decide +kernel
  have hci : oi.cls ≠ .type "list" := by rw [ci]; exact ni
  have hcj : oj.cls ≠ .type "list" := by rw [cj]; exact ni
  constructor <;> first
    | exact D.uz | exact D.oz | exact D.iz | exact D.jz | exact D.uo | exact D.ui | exact D.uj | exact D.oi | exact D.oj | exact D.ij
    | exact ne (p := oi) ha hz nz | exact ne (p := oi) hb hz nz | exact ne (p := oi) ha ho nt | exact ne (p := oi) hb ho nt | exact ne (p := oi) ha hu nt | exact ne (p := oi) hb hu nt
    | exact ne (p := oi) ha ei hci | exact ne (p := oi) hb ei hci | exact ne (p := oi) ha ej hcj | exact ne (p := oi) hb ej hcj
theorem turn_zip {P : Program} {w : World} {K : PySem.W.Frag} {elts : List Expr} {n : Nat} {tp : Pos} (a b z u o i j : Addr) (D : Zp z u o i j) :
    Turn P w K (.Tuple elts n tp) (Itz K a b) [z, u, o, i, j] z (ZipSt a b z u o i j) where
  mem := by simp
  obj := fun k h st c hc => by
    obtain ⟨hz, hu, ⟨x, y, ho⟩, ⟨oi, ei, ci, di⟩, ⟨oj, ej, cj, dj⟩⟩ := st
    simp only [List.mem_cons, List.not_mem_nil, or_false] at hc
    rcases hc with rfl | rfl | rfl | rfl | rfl
    · exact ⟨_, hz, fun v q => by
        have q' : Data.fields _ = Data.cell v := q
        cases q'⟩
    · exact ⟨_, hu, fun v q => by
        have q' : Data.seq _ _ = Data.cell v := q
        cases q'⟩
    · exact ⟨_, ho, fun v q => by
        have q' : Data.seq _ _ = Data.cell v := q
        cases q'⟩
    · exact ⟨oi, ei, fun v q => by rw [di] at q; cases q⟩
    · exact ⟨oj, ej, fun v q => by rw [dj] at q; cases q⟩
  keep := fun k h h' st kk => by
    obtain ⟨hz, hu, ⟨x, y, ho⟩, h1, h2⟩ := st
    exact ⟨kk z (by simp) _ hz, kk u (by simp) _ hu, ⟨x, y, kk o (by simp) _ ho⟩, h1.at fun ob e => kk i (by simp) ob e, h2.at fun ob e => kk j (by simp) ob e⟩
  item := by
    intro X hP hw hK hc k pins s σ H E I hf st hg
    subst hP hw hK
    obtain ⟨xs, ys, x, y, hq1, hq2, hx, hy⟩ := hg
    obtain ⟨its, rv, p, hz⟩ := I.list hq1
    obtain ⟨jts, rv', p', hz'⟩ := I.list hq2
    obtain ⟨v, hv, ru⟩ := rv.get hx
    obtain ⟨v', hv', ru'⟩ := rv'.get hy
    have DD := zip_apart D st p.isList p'.isList
    obtain ⟨sz, su, ⟨x0, y0, so⟩, s1, s2⟩ := id st
    have fz := hf z (by simp)
    have fu := hf u (by simp)
    have fo := hf o (by simp)
    have fi := hf i (by simp)
    have fj := hf j (by simp)
    refine wpAny_pyNext_zip_item DD sz su so s1 s2 p.isList p'.isList (x := v) (y := v') (by simpa using hv) (by simpa using hv') fun h1 a1 a2 a3 a4 a5 a6 hk => ⟨_, rfl, ?_⟩
    refine wpAny_letOwnedTupleGo_zip a1 fun h2 hz2 hs2 => ?_
    have hs2' : Heap.SameBut z h1 h2 := hs2
    have hzlt : z < s.heap.objs.size := Heap.lt_size sz
    have hnT : H s.heap.objs.size = none := I.hok.fresh (Nat.le_refl _)
    have up : ∀ c ob, c ≠ z → c ≠ o → c ≠ i → c ≠ j → s.heap.get? c = some ob → h2.get? c = some ob := fun c ob c1 c2 c3 c4 q => (hs2'.2 c c1).trans (hk c ob c1 c2 c3 c4 q)
    have nch : ∀ c, c ∉ [z, o, i, j] → c ≠ z ∧ c ≠ o ∧ c ≠ i ∧ c ≠ j := fun c hc => by
      simp only [List.mem_cons, List.not_mem_nil, or_false, not_or] at hc
      exact hc
    have ntr : ∀ c ob, H c = some ob → c ≠ z ∧ c ≠ o ∧ c ≠ i ∧ c ≠ j := fun c ob q =>
      ⟨fun e => by (rw [e, fz.1] at q; cases q), fun e => by (rw [e, fo.1] at q; cases q), fun e => by (rw [e, fi.1] at q; cases q), fun e => by (rw [e, fj.1] at q; cases q)⟩
    have up2 : ∀ c ob, c ∉ [z, o, i, j] → s.heap.get? c = some ob → h2.get? c = some ob := fun c ob hc q => up c ob (nch c hc).1 (nch c hc).2.1 (nch c hc).2.2.1 (nch c hc).2.2.2 q
    have up3 : ∀ c ob ob', H c = some ob' → s.heap.get? c = some ob → h2.get? c = some ob := fun c ob ob' hc q => up c ob (ntr c ob' hc).1 (ntr c ob' hc).2.1 (ntr c ob' hc).2.2.1 (ntr c ob' hc).2.2.2 q
    have htup : h2.get? s.heap.objs.size = some { cls := .type "tuple", data := .seq #[v, v'] } := (hs2'.2 _ (Nat.ne_of_gt hzlt)).trans a5
    have I1 : Inv X pins σ (upd H s.heap.objs.size (.tup [x, y])) { s with heap := h2, gens := s.gens, drawn := s.drawn, toks := s.toks } := by
      refine I.step (ch := [z, o, i, j]) (fun c hc => ?_) (fun c ob _ _ hc q _ => up2 c ob hc q) (fun c ob _ _ hc q _ => ⟨ob.slots, up2 c ob hc q⟩) (fun c ob _ q n => by rw [upd_ne (Nat.ne_of_lt (Heap.lt_size q))]; exact n)
        (fun c ob hc q => ⟨ob, up2 c ob hc q⟩) (fun c xs q => by rw [upd_ne (ne_of_none q hnT)]; exact q) (fun c ob u q => by rw [upd_ne (ne_of_none q hnT)]; exact q) (fun c ps q => ⟨#[], by rw [upd_ne (ne_of_none q hnT), q]; simp⟩)
        (fun m hm => ?_) (fun c ob q => ?_) I.bare
      · simp only [List.mem_cons, List.not_mem_nil, or_false] at hc
        rcases hc with rfl | rfl | rfl | rfl
        · exact ⟨fz.2.2.2.1, fz.2.1, fz.2.2.2.2.1, fz.2.2.2.2.2⟩
        · exact ⟨fo.2.2.2.1, fo.2.1, fo.2.2.2.2.1, fo.2.2.2.2.2⟩
        · exact ⟨fi.2.2.2.1, fi.2.1, fi.2.2.2.2.1, fi.2.2.2.2.2⟩
        · exact ⟨fj.2.2.2.1, fj.2.1, fj.2.2.2.2.1, fj.2.2.2.2.2⟩
      · obtain ⟨ob, es, ep, hoL, r⟩ := hm
        exact ⟨ob, es, ep, up _ ob (Ne.symm fz.2.1) (Ne.symm fo.2.1) (Ne.symm fi.2.1) (Ne.symm fj.2.1) hoL, r⟩
      · by_cases hb : c = s.heap.objs.size
        · subst hb
          rw [upd_same] at q
          cases q
          exact ⟨le_line (by show 2 ≤ 1000; decide), [v, v'], .cons ru (.cons ru' .nil), _, htup, rfl, _, rfl⟩
        · rw [upd_ne hb] at q
          refine (I.hok c ob q).stay (fun d w' hd q2 => ?_) (fun d q2 => by rw [upd_ne (ne_of_none q2 hnT)]; exact q2) (fun d zs q2 => by rw [upd_ne (ne_of_none q2 hnT)]; exact q2)
          rcases hd with rfl | hd
          · exact up3 _ w' _ q q2
          · exact up3 _ w' _ hd q2
    refine ⟨.ref s.heap.objs.size, _, I1, rfl, ⟨_, x, y, rfl, hnT, fun zs hy' => by rw [I.list_inj hy' hq1]; exact hx, fun zs hy' => by rw [I.list_inj hy' hq2]; exact hy, rfl⟩, ⟨hz2, ?_, ⟨v, v', ?_⟩, ?_, ?_⟩, fun c hc => ?_⟩
    · exact (hs2'.2 u D.uz).trans (hk u _ D.uz D.uo D.ui D.uj su)
    · exact (hs2'.2 o D.oz).trans a2
    · exact a3.at fun ob q => (hs2'.2 i D.iz).trans q
    · exact a4.at fun ob q => (hs2'.2 j D.jz).trans q
    · have hl : c < s.heap.objs.size := by
        simp only [List.mem_cons, List.not_mem_nil, or_false] at hc
        rcases hc with rfl | rfl | rfl | rfl | rfl
        · exact Heap.lt_size sz
        · exact Heap.lt_size su
        · exact Heap.lt_size so
        · obtain ⟨_, q, _⟩ := s1; exact Heap.lt_size q
        · obtain ⟨_, q, _⟩ := s2; exact Heap.lt_size q
      rw [upd_ne (Nat.ne_of_lt hl)]
      exact (hf c hc).1
  done := by
    intro X hP hw hK hc k pins s σ H E I hf st hg
    subst hP hw hK
    obtain ⟨xs, ys, hq1, hq2, hle⟩ := hg
    obtain ⟨its, rv, p, hz⟩ := I.list hq1
    obtain ⟨jts, rv', p', hz'⟩ := I.list hq2
    have DD := zip_apart D st p.isList p'.isList
    obtain ⟨sz, su, ⟨x0, y0, so⟩, s1, s2⟩ := id st
    have fz := hf z (by simp)
    have fo := hf o (by simp)
    have fi := hf i (by simp)
    have fj := hf j (by simp)
    have hl := rv.length
    have hl' := rv'.length
    refine wpAny_pyNext_zip_end (I.ok.hd hc) DD sz su so s1 s2 p.isList p'.isList ?_ fun h' hk => ⟨rfl, ?_⟩
    · rcases hle with e | e
      · exact .inl (by simp; omega)
      · exact .inr (by simp; omega)
    · have nch : ∀ c, c ∉ [z, o, i, j] → c ≠ z ∧ c ≠ o ∧ c ≠ i ∧ c ≠ j := fun c hc => by
        simp only [List.mem_cons, List.not_mem_nil, or_false, not_or] at hc
        exact hc
      have ntr : ∀ c ob, H c = some ob → c ≠ z ∧ c ≠ o ∧ c ≠ i ∧ c ≠ j := fun c ob q =>
        ⟨fun e => by (rw [e, fz.1] at q; cases q), fun e => by (rw [e, fo.1] at q; cases q), fun e => by (rw [e, fi.1] at q; cases q), fun e => by (rw [e, fj.1] at q; cases q)⟩
      have up2 : ∀ c ob, c ∉ [z, o, i, j] → s.heap.get? c = some ob → h'.get? c = some ob := fun c ob hc q => hk c ob (nch c hc).1 (nch c hc).2.1 (nch c hc).2.2.1 (nch c hc).2.2.2 q
      have up3 : ∀ c ob ob', H c = some ob' → s.heap.get? c = some ob → h'.get? c = some ob := fun c ob ob' hc q => hk c ob (ntr c ob' hc).1 (ntr c ob' hc).2.1 (ntr c ob' hc).2.2.1 (ntr c ob' hc).2.2.2 q
      refine I.step (H' := H) (ch := [z, o, i, j]) (fun c hc => ?_) (fun c ob _ _ hc q _ => up2 c ob hc q) (fun c ob _ _ hc q _ => ⟨ob.slots, up2 c ob hc q⟩) (fun c ob _ q n => n)
        (fun c ob hc q => ⟨ob, up2 c ob hc q⟩) (fun c xs q => q) (fun c ob u q => q) (fun c ps q => ⟨#[], by rw [q]; simp⟩)
        (fun m hm => ?_) (fun c ob q => ?_) I.bare
      · simp only [List.mem_cons, List.not_mem_nil, or_false] at hc
        rcases hc with rfl | rfl | rfl | rfl
        · exact ⟨fz.2.2.2.1, fz.2.1, fz.2.2.2.2.1, fz.2.2.2.2.2⟩
        · exact ⟨fo.2.2.2.1, fo.2.1, fo.2.2.2.2.1, fo.2.2.2.2.2⟩
        · exact ⟨fi.2.2.2.1, fi.2.1, fi.2.2.2.2.1, fi.2.2.2.2.2⟩
        · exact ⟨fj.2.2.2.1, fj.2.1, fj.2.2.2.2.1, fj.2.2.2.2.2⟩
      · obtain ⟨ob, es, ep, hoL, r⟩ := hm
        exact ⟨ob, es, ep, hk _ ob (Ne.symm fz.2.1) (Ne.symm fo.2.1) (Ne.symm fi.2.1) (Ne.symm fj.2.1) hoL, r⟩
      · refine (I.hok c ob q).stay (fun d w' hd q2 => ?_) (fun d q2 => q2) (fun d zs q2 => q2)
        rcases hd with rfl | hd
        · exact up3 _ w' _ q q2
        · exact up3 _ w' _ hd q2
  self := fun _ _ _ _ _ st h => wpAny_pyIter_zip st.1 h
def iZip (K : PySem.W.Frag) (ta : TA) : TI := fun σ H R => ta σ H fun vs H1 => ∃ a b, vs = [.ref a, .ref b] ∧ (∃ xs, SqL K H1 a xs) ∧ (∃ ys, SqL K H1 b ys) ∧ R (Itz K a b) H1
theorem pi_zip {X : Cx} {e1 e2 : Expr} {ta : TA} {p pos tp : Pos} {elts : List Expr} {n : Nat} (hg : Gl X "zip") (hm : X.mg "zip" = none) (ha : PA X [e1, e2] ta) (hs : starEach [e1, e2] X.env = [(false, eval e1 X.env), (false, eval e2 X.env)] := by rfl) (hs2 : starEach [e2] X.env = [(false, eval e2 X.env)] := by rfl) :
    PI X (.Tuple elts n tp) (.Call (.Name "zip" p) [e1, e2] [] pos) (iZip X.K ta) := by
  intro pins s σ H R I h
  refine Call_ (ld_blt I hg hm (show bootBuiltins "zip" = some (.type "zip") from rfl) (PyProof.Rows.callWith_type1 (thn (ha pos pins s σ H _ I h) fun us s1 ⟨vs, H1, I1, r1, q1⟩ => ?_) (by rw [hs, hs2]) (by rw [hs2]; rfl)))
  obtain ⟨a, b, ev, ⟨xs, hq1⟩, ⟨ys, hq2⟩, q⟩ := q1
  subst ev
  cases r1 with
  | cons ra rr =>
    cases rr with
    | cons rb rr =>
      cases rr
      cases ra
      cases rb
      obtain ⟨its, rv, pl, hz⟩ := I1.list hq1
      obtain ⟨jts, rv', pl', hz'⟩ := I1.list hq2
      refine call_zip_2 pl.isList pl'.isList fun h' b1 b2 b3 b4 b5 b6 hk => ?_
      refine wpAny_pyIter_zip b1 ?_
      have I2 : Inv X pins σ H1 { s1 with heap := h' } := I1.kept (t' := s1.toks) hk
      refine ⟨_, [s1.heap.objs.size + 4, s1.heap.objs.size + 2, s1.heap.objs.size + 3, s1.heap.objs.size, s1.heap.objs.size + 1], _, _, H1, rfl, I2, turn_zip a b (s1.heap.objs.size + 4) (s1.heap.objs.size + 2) (s1.heap.objs.size + 3) s1.heap.objs.size (s1.heap.objs.size + 1) (zp_new _), ⟨b1, b2, ⟨_, _, b3⟩, b4, b5⟩, fun c hc => ?_, q⟩
      have le : s1.heap.objs.size ≤ c := by
        simp only [List.mem_cons, List.not_mem_nil, or_false] at hc
        rcases hc with rfl | rfl | rfl | rfl | rfl <;> omega
      exact I1.fpOk le (I1.hok.fresh le)
/-- for x, y in zip(xs, ys), lists that stay -/
theorem for_zip {K K' : PySem.W.Frag} {a b : Addr} {xs ys : List V} {i1 i2 : Nat} {tb : TS} {D : Ends} {σ : St} {H : Hp} (Pv : Nat → St → Hp → Prop) (h0 : Pv 0 σ H) (hl : ∀ i σ H, i ≤ min xs.length ys.length → Pv i σ H → SqL K H a xs ∧ SqL K H b ys)
    (hs : ∀ i x y σ H t, xs[i]? = some x → ys[i]? = some y → Pv i σ H → H t = none → tb { D with nx := Pv (i + 1), ct := Pv (i + 1), bk := D.nx } ((σ.set i1 (some x)).set i2 (some y)) (upd H t (.tup [x, y]))) (hd : ∀ σ H, Pv (min xs.length ys.length) σ H → D.nx σ H) :
    ∃ W : Nat → Nat → St → Hp → Prop, (∃ m, W 0 m σ H) ∧ ∀ i m σ H, W i m σ H →
      ((Itz K a b).stop i H ∧ D.nx σ H) ∨ ((Itz K a b).go i H ∧ ∃ N : St → Hp → Prop, (∀ σ' H', N σ' H' → ∃ m', m' < m ∧ W (i + 1) m' σ' H') ∧ ∀ x H', (Itz K a b).yld i H x H' → gTup K' 2 (gCons (gName i1) (gCons (gName i2) gNil)) x σ H' fun σ2 H2 => tb { D with nx := N, ct := N, bk := D.nx } σ2 H2) := by
  refine ⟨fun i m σ H => m = min xs.length ys.length - i ∧ i ≤ min xs.length ys.length ∧ Pv i σ H, ⟨min xs.length ys.length, rfl, Nat.zero_le _, h0⟩, ?_⟩
  rintro i m σ H ⟨rfl, hi, p⟩
  obtain ⟨q1, q2⟩ := hl i σ H hi p
  by_cases hlt : i < min xs.length ys.length
  · have l1 : i < xs.length := by omega
    have l2 : i < ys.length := by omega
    refine .inr ⟨⟨xs, ys, xs[i], ys[i], q1, q2, by simp [l1], by simp [l2]⟩, Pv (i + 1), fun σ' H' p' => ⟨min xs.length ys.length - (i + 1), by omega, rfl, by omega, p'⟩, fun v H' y => ?_⟩
    obtain ⟨t, x, z, ex, ht, hx, hz, e3⟩ := y
    subst ex e3
    exact ⟨t, _, rfl, SqT.of upd_same, rfl, _, _, rfl, _, _, rfl, rfl, hs i x z σ H t (hx xs q1) (hz ys q2) p ht⟩
  · obtain rfl : i = min xs.length ys.length := by omega
    exact .inl ⟨⟨xs, ys, q1, q2, by omega⟩, hd σ H p⟩
end L2

namespace L2
open PySem PySem.Spec PyProof.Rows
/-! ### a text told several times -/
/-! ### a class whose __init__ has defaults, some of its arguments given -/
structure KCalD (P : Program) (w : World) (K : PySem.W.Frag) (mg : Str → Option Value) (base : Heap) (k : Nat) (x : Str) (C : Addr) (ps : List Str) (dvs : List V) (sp : Sp) : Prop where
  ex : ∃ f fd ds, Mk K C f ∧ FnOk P w K mg base CX0 k f fd ps sp ∧ Binds K fd ps ds ∧ Vals dvs ds ∧ mg x = some (.ref C)
theorem pe_makeD {X : Cx} {k : Nat} {x : Str} {C : Addr} {ps : List Str} {dvs : List V} {sp : Sp} {e : Expr} {es : List Expr} {p pos : Pos} {t : TA} (M : KCalD X.prog X.w X.K X.mg X.base k x C ps dvs sp) (hr : Room (k + 1) X.A) (hg : Gl X x) (ha : PA X (e :: es) t)
    (hdb : (x == ("__debug__" : Str)) = false := by decide) (he : starEach (e :: es) X.env = (false, eval e X.env) :: starEach es X.env := by rfl) (hpl : (backTo pos (starEach es X.env)).any (·.1) = false := by rfl) :
    PE X (.Call (.Name x p) (e :: es) [] pos) (tMake C sp dvs E0 t) := by
  obtain ⟨f, fd, ds, mk, F, b, hd, hm⟩ := M.ex
  exact pe_make mk F hr hg hm b hd pass0 ha hdb he hpl
end L2

namespace L2
open PySem PySem.Spec PyProof.Rows
/-! ### raising while an exception is handled -/
section
variable {prog : Program} {w : World} {A : Around} {E : Value → Shared → Prop} {s : Shared}
end
/-! ### contexts in which something may be handled -/
section
variable {X : Cx} {pins : List (Addr × Obj)} {σ : St} {H : Hp} {s : Shared}
end
end L2

namespace L2
open PySem PySem.Spec PyProof.Rows
/-! ### defs that may be called whether or not an exception is handled; they may walk texts, and raise -/
section
variable {P : Program} {w : World} {K : PySem.W.Frag} {mg : Str → Option Value} {base : Heap} {N ps : List Str} {qual : Str} {scope : Scope} {f : Addr} {cd : Value} {A : Around} {outer : List Env} {s0 : Shared} {H0 : Hp} {E : XK} {k : Nat} {sp : Sp} {x : Str} {st : Stmt} {fd : FuncData}
end
section
variable {X : Cx} {k : Nat} {f : Addr} {fd : FuncData} {ps : List Str} {sp : Sp} {x : Str} {p pos : Pos} {e : Expr} {es : List Expr} {t : TA} {W : St → XK}
end
/-! ### raise C(..), whatever is handled -/
section
variable {prog : Program} {w : World} {A : Around} {E : Value → Shared → Prop} {env : Env}
variable {nm q : Str} {C N : Addr} {bs bm bmB : List Value} {hdct : Bool} {sn : List Str} {sub : List Value} {ab : Bool} {col : Option Bool} {dd : Option Addr} {k0 k1 k2 k3 k5 : Option Value} {B newId initId : String}
end
/-! ### try, one clause: the suite may call what raises -/
section
variable {X : Cx} {x n : Str} {Ch : Addr} {i : Nat} {body suite : List Stmt} {b₀ : Stmt} {tb : (St → XK) → TS} {ts : TS} {np hpos pos : Pos} {pins : List (Addr × Obj)} {σ : St} {H : Hp} {s : Shared} {e : Addr} {oe : Obj}
end
end L2

namespace L2
open PySem PySem.Spec PyProof.Rows PySem.W

/-! ### an untracked thing of ours is tracked -/
section
variable {X : Cx} {pins : List (Addr × Obj)} {σ : St} {H H' : Hp} {s : Shared}
end

/-! ### a call of a lambda -/

/-! ### a lambda is made -/
section
variable {X : Cx} {pins : List (Addr × Obj)} {σ : St} {H : Hp} {s : Shared}
end

/-! ### sorted with a key -/
section
variable {prog : Program} {w : World} {A : Around} {E : Value → Shared → Prop} {s : Shared}
end
section
variable {X : Cx} {pins : List (Addr × Obj)} {σ : St} {H : Hp} {s : Shared}
end
end L2

namespace L2
open PySem PySem.Spec PyProof.Rows PySem.W

/-! ### xs.insert(i, y) -/
section
variable {X : Cx}
end

/-! ### x not in a list of things of things -/

/-! ### the head, where a code's table may grow -/
end L2

namespace CRL
open PySem L2
/-! ### tuples stay -/
def Tst (H H' : Hp) : Prop := ∀ t xs, H t = some (.tup xs) → H' t = some (.tup xs)
theorem tst_same {H H' : Hp} (s : Same H H') : Tst H H' := fun t xs h => s t _ h
theorem tst_lst {H : Hp} {l : Addr} {xs : List V} (h : H l = some (.lst xs)) (o : HO) : Tst H (upd H l o) := fun t zs z => by
  rw [upd_ne (ne_of z h (by intro e; cases e))]
  exact z
/-! ### rows that wait -/
inductive Rw where
  | at (v : V)
  | pr (k : Int) (s : Str)
def RwAt (H : Hp) : Rw → V → Prop
  | .at u, v => v = u ∧ flatV u = true
  | .pr k s, v => ∃ t, v = .ref t ∧ H t = some (.tup [.int k, .str s])
def dRw : Rw → D
  | .at v => .at v
  | .pr k s => .seq true [.at (.int k), .at (.str s)]
abbrev Ent := Int × Int × Int × Rw
abbrev Tr := Int × Int × Int
def EnAt (H : Hp) (x : V) (e : Ent) : Prop := ∃ t v, x = .ref t ∧ H t = some (.tup [.int e.1, .int e.2.1, .int e.2.2.1, v]) ∧ RwAt H e.2.2.2 v
def Ens (H : Hp) : List V → List Ent → Prop
  | [], [] => True
  | x :: xs, e :: es => EnAt H x e ∧ Ens H xs es
  | _, _ => False
theorem RwAt.mono {H H' : Hp} (s : Tst H H') : ∀ {r : Rw} {v : V}, RwAt H r v → RwAt H' r v
  | .at _, _, h => h
  | .pr _ _, _, ⟨t, e, h⟩ => ⟨t, e, s _ _ h⟩
theorem EnAt.mono {H H' : Hp} (s : Tst H H') {x : V} {e : Ent} (h : EnAt H x e) : EnAt H' x e := by
  obtain ⟨t, v, ex, h, r⟩ := h
  exact ⟨t, v, ex, s _ _ h, r.mono s⟩
theorem Ens.mono {H H' : Hp} (s : Tst H H') : ∀ {xs : List V} {es : List Ent}, Ens H xs es → Ens H' xs es
  | [], [], _ => trivial
  | [], _ :: _, h => h.elim
  | _ :: _, [], h => h.elim
  | x :: xs, p :: ps, ⟨z, r⟩ => ⟨z.mono s, Ens.mono s r⟩
def dE (e : Ent) : D := .seq true [.at (.int e.1), .at (.int e.2.1), .at (.int e.2.2.1), dRw e.2.2.2]
theorem rep_row {K : PySem.W.Frag} {H : Hp} : ∀ {r : Rw} {v : V}, RwAt H r v → Rep K H (dRw r) v
  | .at u, v, h => by unfold dRw Rep; exact h
  | .pr k s, v, ⟨t, e, h⟩ => by
    unfold dRw Rep
    refine ⟨t, _, e, fun _ => SqT.of h, fun z => (nomatch z), ?_⟩
    unfold Reps
    refine ⟨_, _, rfl, ?_, ?_⟩
    · unfold Rep; exact ⟨rfl, rfl⟩
    unfold Reps
    refine ⟨_, _, rfl, ?_, ?_⟩
    · unfold Rep; exact ⟨rfl, rfl⟩
    unfold Reps
    rfl
theorem EnAt.rep {K : PySem.W.Frag} {H : Hp} {x : V} {e : Ent} (h : EnAt H x e) : Rep K H (dE e) x := by
  obtain ⟨t, v, ex, h, r⟩ := h
  unfold dE Rep
  refine ⟨t, _, ex, fun _ => SqT.of h, fun z => (nomatch z), ?_⟩
  unfold Reps
  refine ⟨_, _, rfl, ?_, ?_⟩
  · unfold Rep; exact ⟨rfl, rfl⟩
  unfold Reps
  refine ⟨_, _, rfl, ?_, ?_⟩
  · unfold Rep; exact ⟨rfl, rfl⟩
  unfold Reps
  refine ⟨_, _, rfl, ?_, ?_⟩
  · unfold Rep; exact ⟨rfl, rfl⟩
  unfold Reps
  refine ⟨_, _, rfl, rep_row r, ?_⟩
  unfold Reps
  rfl
theorem Ens.rep {K : PySem.W.Frag} {H : Hp} : ∀ {xs : List V} {es : List Ent}, Ens H xs es → Reps K H (es.map dE) xs
  | [], [], _ => by rw [List.map_nil]; unfold Reps; rfl
  | [], _ :: _, h => h.elim
  | _ :: _, [], h => h.elim
  | x :: xs, p :: ps, ⟨z, r⟩ => by
    rw [List.map_cons]
    unfold Reps
    exact ⟨x, xs, rfl, z.rep, r.rep⟩
theorem row_same {H : Hp} : ∀ {r : Rw} {v : V}, RwAt H r v → eqD (dRw r) (dRw r) = true
  | .at u, v, ⟨_, f⟩ => by unfold dRw eqD; exact eqV_refl f
  | .pr k s, v, _ => by
    unfold dRw eqD eqDs eqDs eqDs eqD
    show (true == true && (eqV (.int k) (.int k) && (eqV (.str s) (.str s) && true))) = true
    rw [eqV_refl rfl, eqV_refl rfl]
    rfl
theorem Ens.same {H : Hp} : ∀ {xs : List V} {es : List Ent}, Ens H xs es → eqDs (es.map dE) (es.map dE) = true
  | [], [], _ => by rw [List.map_nil]; unfold eqDs; rfl
  | [], _ :: _, h => h.elim
  | _ :: _, [], h => h.elim
  | x :: xs, p :: ps, ⟨⟨t, v, _, _, z⟩, r⟩ => by
    rw [List.map_cons]
    have e1 : eqD (dE p) (dE p) = true := by
      unfold dE eqD eqDs eqDs eqDs eqDs eqDs
      rw [row_same z]
      unfold eqD
      rw [eqV_refl rfl, eqV_refl rfl, eqV_refl rfl]
      rfl
    unfold eqDs
    rw [e1, r.same]
    rfl
theorem dE_dep : ∀ es : List Ent, deps (es.map dE) ≤ 2
  | [] => by rw [List.map_nil]; unfold deps; omega
  | p :: ps => by
    rw [List.map_cons]
    unfold deps
    have := dE_dep ps
    have e : dep (dE p) ≤ 2 := by
      obtain ⟨a, b, c, r⟩ := p
      cases r with
      | «at» v =>
        unfold dE dRw dep deps deps deps deps deps dep
        decide
      | pr k s =>
        unfold dE dRw dep deps deps deps deps deps dep deps deps deps dep
        decide
    omega
/-- lists of such rows are compared -/
theorem eq_Ens {K : PySem.W.Frag} {H : Hp} {x y : Addr} {xs ys : List V} {es : List Ent} {Q : VK} (hx : H x = some (.lst xs)) (hy : H y = some (.lst ys)) (h1 : Ens H xs es) (h2 : Ens H ys es) (q : Q (.bl true) H) : rEqD K false (.ref x) (.ref y) H Q := by
  have d := dE_dep es
  refine ⟨false, es.map dE, es.map dE, ?_, ?_, by omega, ?_⟩
  · unfold Rep; exact ⟨x, xs, rfl, fun z => (nomatch z), fun _ => SqL.of hx, h1.rep⟩
  · unfold Rep; exact ⟨y, ys, rfl, fun z => (nomatch z), fun _ => SqL.of hy, h2.rep⟩
  · show Q (.bl (eqDs (es.map dE) (es.map dE))) H
    rw [h1.same]
    exact q
/-! ### their order -/
/-! ### triples -/
def Trs (H : Hp) : List V → List Tr → Prop
  | [], [] => True
  | x :: xs, p :: ps => (∃ t, x = .ref t ∧ H t = some (.tup [.int p.1, .int p.2.1, .int p.2.2])) ∧ Trs H xs ps
  | _, _ => False
theorem Trs.len {H : Hp} : ∀ {xs : List V} {ps : List Tr}, Trs H xs ps → xs.length = ps.length
  | [], [], _ => rfl
  | [], _ :: _, h => h.elim
  | _ :: _, [], h => h.elim
  | x :: xs, p :: ps, h => by rw [List.length_cons, List.length_cons, Trs.len h.2]
theorem Trs.mono {H H' : Hp} (s : Tst H H') : ∀ {xs : List V} {ps : List Tr}, Trs H xs ps → Trs H' xs ps
  | [], [], _ => trivial
  | [], _ :: _, h => h.elim
  | _ :: _, [], h => h.elim
  | x :: xs, p :: ps, ⟨⟨t, e, h⟩, r⟩ => ⟨⟨t, e, s _ _ h⟩, Trs.mono s r⟩
theorem Trs.get {H : Hp} : ∀ {xs : List V} {ps : List Tr} {i : Nat} {x : V}, Trs H xs ps → xs[i]? = some x → ∃ t p, ps[i]? = some p ∧ x = .ref t ∧ H t = some (.tup [.int p.1, .int p.2.1, .int p.2.2])
  | [], [], _, _, _, e => by simp at e
  | [], _ :: _, _, _, h, _ => h.elim
  | _ :: _, [], _, _, h, _ => h.elim
  | x :: xs, p :: ps, 0, y, ⟨⟨t, e, h⟩, r⟩, q => by
    simp at q
    subst q
    exact ⟨t, p, rfl, e, h⟩
  | x :: xs, p :: ps, i + 1, y, ⟨_, r⟩, q => by
    obtain ⟨t, p', h1, h2⟩ := Trs.get (i := i) r (by simpa using q)
    exact ⟨t, p', by simpa using h1, h2⟩
theorem Trs.snoc {H : Hp} : ∀ {xs : List V} {ps : List Tr} {t : Addr} {a b c : Int}, Trs H xs ps → H t = some (.tup [.int a, .int b, .int c]) → Trs H (xs ++ [.ref t]) (ps ++ [(a, b, c)])
  | [], [], t, _, _, _, _, h => ⟨⟨t, rfl, h⟩, trivial⟩
  | [], _ :: _, _, _, _, _, r, _ => r.elim
  | _ :: _, [], _, _, _, _, r, _ => r.elim
  | x :: xs, p :: ps, _, _, _, _, ⟨z, r⟩, h => ⟨z, Trs.snoc r h⟩
def dTr (p : Tr) : D := .seq true [.at (.int p.1), .at (.int p.2.1), .at (.int p.2.2)]
theorem rep_tr {K : PySem.W.Frag} {H : Hp} {t : Addr} {a b c : Int} (h : H t = some (.tup [.int a, .int b, .int c])) : Rep K H (dTr (a, b, c)) (.ref t) := by
  unfold dTr Rep
  refine ⟨t, _, rfl, fun _ => SqT.of h, fun z => (nomatch z), ?_⟩
  unfold Reps
  refine ⟨_, _, rfl, ?_, ?_⟩
  · unfold Rep; exact ⟨rfl, rfl⟩
  unfold Reps
  refine ⟨_, _, rfl, ?_, ?_⟩
  · unfold Rep; exact ⟨rfl, rfl⟩
  unfold Reps
  refine ⟨_, _, rfl, ?_, ?_⟩
  · unfold Rep; exact ⟨rfl, rfl⟩
  unfold Reps
  rfl
theorem Trs.rep {K : PySem.W.Frag} {H : Hp} : ∀ {xs : List V} {ps : List Tr}, Trs H xs ps → Reps K H (ps.map dTr) xs
  | [], [], _ => by rw [List.map_nil]; unfold Reps; rfl
  | [], _ :: _, h => h.elim
  | _ :: _, [], h => h.elim
  | x :: xs, p :: ps, ⟨⟨t, e, h⟩, r⟩ => by
    rw [List.map_cons]
    unfold Reps
    exact ⟨x, xs, rfl, e ▸ rep_tr h, r.rep⟩
theorem dTr_dep : ∀ ps : List Tr, deps (ps.map dTr) ≤ 1
  | [] => by rw [List.map_nil]; unfold deps; omega
  | p :: ps => by
    rw [List.map_cons]
    unfold deps
    have := dTr_dep ps
    have e : dep (dTr p) = 1 := by
      unfold dTr dep deps deps deps deps dep
      rfl
    omega
/-! ### lists of one's own, apart from one another -/
/-! ### the lambda's code -/
/-! ### the rows' keeper -/
end CRL

namespace L2
open PySem PySem.Spec PyProof.Rows PySem.W
/-! ### promises put together -/
section
variable {P : Program} {w : World} {K : PySem.W.Frag} {mg : Str → Option Value} {base : Heap} {k : Nat} {f : Addr} {fd : FuncData} {ps : List Str} {sp sp1 sp2 : Sp}
end
/-! ### a class whose __init__ has defaults and may raise -/
section
variable {X : Cx} {k : Nat} {f C : Addr} {fd : FuncData} {ps : List Str} {sp : Sp} {x : Str} {p pos : Pos} {e : Expr} {es : List Expr} {t : TA} {W : St → XK} {dvs : List V} {ds : List Value}
end
/-! ### xs.index(y), y is there -/
/-! ### != of two lists of lists, each with the very same items -/
end L2

/-! Sets of ints made from lists: their tables stay in order. -/
namespace CST
open PySem
/-- rising places -/
abbrev Rs (xs : Array Nat) : Prop := xs.toList.Pairwise (· < ·)
theorem rs_lt {xs : Array Nat} (h : Rs xs) {i k : Nat} (hik : i < k) (hk : k < xs.size) : xs[i]'(by omega) < xs[k] := by
  have := List.pairwise_iff_getElem.mp h i k (by simpa using (by omega : i < xs.size)) (by simpa using hk) hik
  simpa using this
/-- what the search for a place finds -/
structure Bel (xs : Array Nat) (j p : Nat) : Prop where
  le : p ≤ xs.size
  lo : ∀ i (h : i < xs.size), i < p → xs[i] < j
  hi : ∀ i (h : i < xs.size), p ≤ i → j ≤ xs[i]
theorem below_go {xs : Array Nat} {j : Nat} (r : Rs xs) : ∀ (f lo hi : Nat), hi - lo ≤ f → lo ≤ hi → hi ≤ xs.size → (∀ i (h : i < xs.size), i < lo → xs[i] < j) → (∀ i (h : i < xs.size), hi ≤ i → j ≤ xs[i]) → Bel xs j (SetTable.below.go xs j f lo hi)
  | 0, lo, hi, h0, h1, h2, a, b => by
    have e : lo = hi := by omega
    subst e
    unfold SetTable.below.go
    exact ⟨h2, a, b⟩
  | f + 1, lo, hi, h0, h1, h2, a, b => by
    unfold SetTable.below.go
    by_cases c : lo < hi
    · rw [if_pos c]
      have hm : (lo + hi) / 2 < xs.size := by omega
      have e : xs.getD ((lo + hi) / 2) j = xs[(lo + hi) / 2] := by simp [Array.getD, hm]
      dsimp only
      rw [e]
      by_cases d : xs[(lo + hi) / 2] < j
      · rw [if_pos d]
        refine below_go r f _ hi (by omega) (by omega) h2 (fun i h hi' => ?_) b
        by_cases q : i = (lo + hi) / 2
        · subst q; exact d
        · exact Nat.lt_trans (rs_lt r (by omega) hm) d
      · rw [if_neg d]
        refine below_go r f lo _ (by omega) (by omega) (by omega) a (fun i h hi' => ?_)
        by_cases q : i = (lo + hi) / 2
        · subst q; omega
        · have := rs_lt r (i := (lo + hi) / 2) (k := i) (by omega) h
          omega
    · rw [if_neg c]
      have e : lo = hi := by omega
      subst e
      exact ⟨h2, a, b⟩
theorem below_ok {xs : Array Nat} {j : Nat} (r : Rs xs) : Bel xs j (SetTable.below xs j) := by
  unfold SetTable.below
  exact below_go r _ _ _ (by omega) (Nat.zero_le _) (Nat.le_refl _) (fun i _ h => absurd h (Nat.not_lt_zero _)) (fun i h h' => absurd h' (by omega))
/-- a table of such a set -/
structure Good (by_ : Bool) (t : SetTable) : Prop where
  rs : Rs t.place
  dm : t.dummies = #[]
  ld : by_ = false → t.led = true
theorem good_fresh (b : Bool) : Good b (.fresh 0 0 (!b)) := ⟨List.Pairwise.nil, rfl, fun h => by rw [h]; rfl⟩
theorem good_standIn {b : Bool} {t : SetTable} (g : Good b t) (n : Nat) : Good b (t.standIn n) := by
  refine ⟨?_, rfl, g.ld⟩
  show (Array.range n).toList.Pairwise (· < ·)
  rw [Array.toList_range]
  exact List.pairwise_lt_range
theorem good_plain {b : Bool} {t : SetTable} (g : Good b t) (p : Bool) : Good b { t with plain := p } := ⟨g.rs, g.dm, g.ld⟩
theorem has_none (j : Nat) : SetTable.has #[] j = false := by
  unfold SetTable.has
  have : (#[] : Array Nat)[SetTable.below #[] j]? = none := by simp
  rw [this]
  rfl
theorem slot_cases {t : SetTable} {j : Nat} (dm : t.dummies = #[]) : t.slot j = .empty ∨ ∃ i, t.slot j = .live i := by
  unfold SetTable.slot
  dsimp only
  by_cases c : (t.place[SetTable.below t.place j]? == some j) = true
  · rw [if_pos c]; exact .inr ⟨_, rfl⟩
  · rw [if_neg c, dm, has_none]
    exact .inl rfl
theorem slot_empty {t : SetTable} {j : Nat} (r : Rs t.place) (h : t.slot j = .empty) : ∀ i (hi : i < t.place.size), t.place[i] ≠ j := fun i hi e => by
  have b := below_ok (j := j) r
  have hp : SetTable.below t.place j ≤ i := by
    rcases Nat.lt_or_ge i (SetTable.below t.place j) with z | z
    · have := b.lo i hi z; omega
    · exact z
  have hps : SetTable.below t.place j < t.place.size := by omega
  have e2 : t.place[SetTable.below t.place j] = j := by
    have h1 := b.hi _ hps (Nat.le_refl _)
    rcases Nat.lt_or_eq_of_le hp with z | z
    · have := rs_lt r z hi; omega
    · have : t.place[SetTable.below t.place j] = t.place[i] := by congr 1
      omega
  unfold SetTable.slot at h
  dsimp only at h
  have c : (t.place[SetTable.below t.place j]? == some j) = true := by
    rw [Array.getElem?_eq_getElem hps, e2]
    simp
  rw [if_pos c] at h
  cases h
theorem probe_go {t : SetTable} {ha : Nat → Int} {h : Int} (dm : t.dummies = #[]) : ∀ (f : Nat) (p : SetTable.Probe) (j : Nat) (d : Option Nat), p.dummy = none → SetTable.probe.go t ha h f p = some (.empty j d) → d = none ∧ t.slot j = .empty
  | 0, p, j, d, _, e => by unfold SetTable.probe.go at e; cases e
  | f + 1, p, j, d, hp, e => by
    unfold SetTable.probe.go at e
    have adv : (t.advance p).dummy = none := by
      unfold SetTable.advance
      split
      · exact hp
      · exact hp
    rcases slot_cases (t := t) (j := p.j) dm with z | ⟨i, z⟩
    · rw [z] at e
      dsimp only at e
      injection e with e
      injection e with e1 e2
      subst e1
      exact ⟨e2 ▸ hp, z⟩
    · rw [z] at e
      dsimp only at e
      split at e
      · injection e with e; cases e
      · exact probe_go dm f _ j d adv e
theorem put_rs {t : SetTable} {j : Nat} (r : Rs t.place) (h : ∀ i (hi : i < t.place.size), t.place[i] ≠ j) : Rs (t.put j).1.place := by
  have b := below_ok (j := j) r
  show (SetTable.insertAt t.place (SetTable.below t.place j) j).toList.Pairwise (· < ·)
  rw [SetTable.toList_insertAt]
  have e1 : ∀ x ∈ t.place.toList.take (SetTable.below t.place j), x < j := fun x hx => by
    obtain ⟨i, hi, ei⟩ := List.getElem_of_mem hx
    rw [List.getElem_take] at ei
    have hi' : i < SetTable.below t.place j ∧ i < t.place.size := by
      rw [List.length_take, Array.length_toList] at hi; omega
    have := b.lo i hi'.2 hi'.1
    rw [← ei]
    simpa using this
  have e2 : ∀ x ∈ t.place.toList.drop (SetTable.below t.place j), j < x := fun x hx => by
    obtain ⟨i, hi, ei⟩ := List.getElem_of_mem hx
    rw [List.getElem_drop] at ei
    have hi' : SetTable.below t.place j + i < t.place.size := by
      rw [List.length_drop, Array.length_toList] at hi; omega
    have h1 := b.hi _ hi' (Nat.le_add_right _ _)
    have h2 := h _ hi'
    rw [← ei]
    have : j < t.place[SetTable.below t.place j + i] := by omega
    simpa using this
  refine List.pairwise_append.mpr ⟨r.sublist (List.take_sublist _ _), List.pairwise_cons.mpr ⟨e2, r.sublist (List.drop_sublist _ _)⟩, fun a ha b' hb => ?_⟩
  rcases List.mem_cons.mp hb with z | z
  · rw [z]; exact e1 a ha
  · exact Nat.lt_trans (e1 a ha) (e2 b' z)
theorem good_put {b : Bool} {t : SetTable} {j : Nat} (g : Good b t) (h : t.slot j = .empty) : Good b (t.put j).1 := by
  refine ⟨put_rs g.rs (slot_empty g.rs h), ?_, g.ld⟩
  show (if SetTable.has t.dummies j then _ else t.dummies) = #[]
  rw [g.dm, has_none]
  rfl
theorem good_layNew {b : Bool} {t : SetTable} (g : Good b t) (es : Array (Int × Value)) (h : Int) (x : Value) : Good b (layNew t es h x).2.1 ∧ (layNew t es h x).2.2.1 = false := by
  unfold layNew
  cases e : t.freeSlot h with
  | none => exact ⟨good_standIn g _, rfl⟩
  | some p =>
    obtain ⟨sl, wd⟩ := p
    unfold SetTable.freeSlot at e
    split at e
    · rename_i j d hp
      injection e with e
      injection e with e1 e2
      obtain ⟨hd, hs⟩ := probe_go g.dm _ _ j d rfl hp
      subst hd
      dsimp only at e1 e2 ⊢
      have e1' : j = sl := e1
      subst e1'
      refine ⟨?_, e2.symm⟩
      unfold SetTable.orStandIn
      split
      · exact good_put g hs
      · exact good_standIn (good_put g hs) _
    · cases e
theorem live_sub (o : Nat → Option Nat) : ∀ l : List Nat, ((l.filterMap fun j => (o j).map (j, ·)).map (·.1)).Sublist l
  | [] => List.Sublist.slnil
  | j :: l => by
    rw [List.filterMap_cons]
    cases e : o j with
    | none => exact (live_sub o l).cons j
    | some k => exact (live_sub o l).cons₂ j
theorem good_relayAll {b : Bool} {t : SetTable} (g : Good b t) (es : Array (Int × Value)) (wanted : Nat) : Good b (relayAll t es wanted).2.1 := by
  unfold relayAll
  cases e : t.relaid (es.map (·.1)) wanted with
  | none => exact good_standIn g _
  | some p =>
    obtain ⟨t', order⟩ := p
    dsimp only
    split
    · unfold SetTable.relaid SetTable.laid at e
      cases e2 : SetTable.layClean (SetTable.sizeAbove wanted - 1) (es.map (·.1)) with
      | none => rw [e2] at e; cases e
      | some owner =>
        rw [e2] at e
        have e3 := Option.some.inj e
        injection e3 with e4 _
        subst e4
        refine ⟨?_, rfl, g.ld⟩
        show (List.toArray _).toList.Pairwise (· < ·)
        rw [List.toList_toArray]
        exact List.pairwise_lt_range.sublist (live_sub _ _)
    · exact good_standIn g _
/-! ### the set, by its members in their order -/
section
variable {prog : Program} {w : World} {K : Type} [DecidableEq K] (knd : KeyKind prog w K)
def Mem (e : Int × Value) (k : K) : Prop := knd.is k e.2 = true ∧ e.1 = knd.hash k ∧ e.2.scannable = true
def GSet (h : Heap) (a : Addr) (ks : List K) : Prop := ∃ o es ep t, h.get? a = some o ∧ o.ExactSet ∧ o.data = .set es ep t ∧ Paired (Mem knd) es.toList ks ∧ ks.Nodup ∧ es.size < scanBound ∧ t.fits es.size = true ∧ Good (w.params.followText "set-order") t
variable {knd}
variable {A : Around} {E : Value → Shared → Prop} {s : Shared}
theorem paired_perm {α β : Type} {F : α → β → Prop} : ∀ {l l' : List α} {ks : List β}, l'.Perm l → Paired F l ks → ∃ ks', ks'.Perm ks ∧ Paired F l' ks' := by
  intro l l' ks p
  have q := p.symm
  clear p
  induction q generalizing ks with
  | nil => intro h; exact ⟨ks, List.Perm.refl _, h⟩
  | cons x _ ih =>
    intro h
    cases h with
    | cons r t =>
      obtain ⟨ks', p', h'⟩ := ih t
      exact ⟨_, p'.cons _, .cons r h'⟩
  | swap x y l =>
    intro h
    cases h with
    | cons r t =>
      cases t with
      | cons r2 t2 => exact ⟨_, List.Perm.swap _ _ _, .cons r2 (.cons r t2)⟩
  | trans _ _ ih1 ih2 =>
    intro h
    obtain ⟨k1, p1, h1⟩ := ih1 h
    obtain ⟨k2, p2, h2⟩ := ih2 h1
    exact ⟨k2, p2.trans p1, h2⟩
theorem paired_snoc {α β : Type} {F : α → β → Prop} {a : α} {b : β} (r : F a b) : ∀ {l : List α} {ks : List β}, Paired F l ks → Paired F (l ++ [a]) (ks ++ [b])
  | _, _, .nil => .cons r .nil
  | _, _, .cons q t => .cons q (paired_snoc r t)
theorem paired_mem {α β : Type} {F : α → β → Prop} : ∀ {l : List α} {ks : List β}, Paired F l ks → ∀ a ∈ l, ∃ b ∈ ks, F a b
  | _, _, .nil, _, h => nomatch h
  | _, _, .cons q t, a, h => by
    rcases List.mem_cons.mp h with z | z
    · subst z; exact ⟨_, List.mem_cons_self, q⟩
    · obtain ⟨b, hb, r⟩ := paired_mem t a z
      exact ⟨b, List.mem_cons_of_mem _ hb, r⟩
theorem paired_mem' {α β : Type} {F : α → β → Prop} : ∀ {l : List α} {ks : List β}, Paired F l ks → ∀ b ∈ ks, ∃ a ∈ l, F a b
  | _, _, .nil, _, h => nomatch h
  | _, _, .cons q t, a, h => by
    rcases List.mem_cons.mp h with z | z
    · subst z; exact ⟨_, List.mem_cons_self, q⟩
    · obtain ⟨b, hb, r⟩ := paired_mem' t a z
      exact ⟨b, List.mem_cons_of_mem _ hb, r⟩
theorem elems {l : List (Int × Value)} {ks : List K} (h : Paired (Mem knd) l ks) : ElemsOf knd l := fun e he => by
  obtain ⟨k, _, r1, r2, r3⟩ := paired_mem h e he
  exact ⟨⟨k, r1, r2⟩, r3⟩
theorem find_key {l : List (Int × Value)} {ks : List K} {k : K} (h : Paired (Mem knd) l ks) : (l.findIdx? fun e => knd.is k e.2) = none ↔ k ∉ ks := by
  rw [List.findIdx?_eq_none_iff]
  constructor
  · intro z hk
    obtain ⟨e, he, r⟩ := paired_mem' h k hk
    have := z e he
    rw [r.1] at this
    cases this
  · intro z e he
    obtain ⟨k', hk', r⟩ := paired_mem h e he
    cases c : knd.is k e.2 with
    | false => rfl
    | true => exact absurd (knd.inj _ _ _ c r.1 ▸ hk') z
theorem stored {h : Heap} {a : Addr} {o : Obj} {es es' : Array (Int × Value)} {ep : Nat} {t t' : SetTable} {ks : List K} (ho : h.get? a = some o) (hex : o.ExactSet) (hd : o.data = .set es ep t) (hp : Paired (Mem knd) es'.toList ks) (nd : ks.Nodup) (hb : es'.size < scanBound) (hf : t'.fits es'.size = true)
    (g : Good (w.params.followText "set-order") t') : (h.update a (Obj.putSet es' t')).get? a = some { o with data := .set es' (ep + 1) t' } ∧ GSet knd (h.update a (Obj.putSet es' t')) a ks := by
  have hg : (h.update a (Obj.putSet es' t')).get? a = some { o with data := .set es' (ep + 1) t' } := by
    have q := Heap.get?_update_self (Obj.putSet es' t') ho (by rw [putSet_of es' t' hd]; rfl)
    rwa [putSet_of es' t' hd] at q
  exact ⟨hg, _, es', ep + 1, t', hg, hex, rfl, hp, nd, hb, hf, g⟩
theorem add_tail {a : Addr} {o : Obj} {es es1 : Array (Int × Value)} {ep : Nat} {t t2 : SetTable} {ks1 : List K} (ho : s.heap.get? a = some o) (hex : o.ExactSet) (hd : o.data = .set es ep t) (hp : Paired (Mem knd) es1.toList ks1) (nd : ks1.Nodup) (hb : es1.size < scanBound) (hf : t2.fits es1.size = true)
    (g : Good (w.params.followText "set-order") t2) {wd : Bool} {gw : Bool → Sem Unit} (hgw : ∀ (b : Bool) (s₁ : Shared) (Q' : Unit → Shared → Prop), Q' () s₁ → wpAny (model prog w) A (gw b) Q' E s₁) {R : Option Bool → Shared → Prop}
    (h : ∀ h' ks', Heap.SameBut a s.heap h' → GSet knd h' a ks' → ks'.Perm ks1 → R (some true) { s with heap := h' }) :
    wpAny (model prog w) A (do
      storeSet a es1 t2
      if (!wd && t2.tooFull) = true then do
        gw (relayAll t2 es1 (SetTable.grown es1.size)).2.2
        storeSet a (relayAll t2 es1 (SetTable.grown es1.size)).1 (relayAll t2 es1 (SetTable.grown es1.size)).2.1
        pure (some true)
      else pure (some true)) R E s := by
  obtain ⟨ho1, G1⟩ := stored (knd := knd) ho hex hd hp nd hb hf g
  have sb := Heap.SameBut.update s.heap a (Obj.putSet es1 t2)
  refine wpAny_bind (wpAny_storeSet_of ho hd ?_ (fits_of_scanBound hb))
  by_cases c : (!wd && t2.tooFull) = true
  · rw [if_pos c]
    have p2 := relayAll_perm t2 es1 (SetTable.grown es1.size)
    have f2 := relayAll_fits t2 es1 (SetTable.grown es1.size)
    have g2 := good_relayAll g es1 (SetTable.grown es1.size)
    generalize relayAll t2 es1 (SetTable.grown es1.size) = Y at p2 f2 g2
    obtain ⟨es2, t3, gv⟩ := Y
    dsimp only at p2 f2 g2
    have z2 : es2.size = es1.size := by rw [← Array.length_toList, p2.length_eq, Array.length_toList]
    obtain ⟨ks2, q2, hp2⟩ := paired_perm p2 hp
    refine wpAny_bind (hgw _ _ _ (wpAny_bind (wpAny_storeSet_of ho1 rfl ?_ (fits_of_scanBound (by rw [z2]; exact hb)))))
    obtain ⟨_, G2⟩ := stored (knd := knd) ho1 hex rfl hp2 (q2.nodup_iff.mpr nd) (by rw [z2]; exact hb) f2 g2
    exact wpAny_pure (h _ ks2 (sb.trans (Heap.SameBut.update _ a _)) G2 q2)
  · rw [if_neg c]
    exact wpAny_pure (h _ ks1 sb G1 (List.Perm.refl _))
theorem add_g {a : Addr} {ks : List K} {k : K} {x : Value} {Q : Bool → Shared → Prop} (hkey : knd.is k x = true) (hsc : x.scannable = true) (hS : GSet knd s.heap a ks) (hroom : ks.length + 1 < scanBound)
    (h : ∀ b h' ks', Heap.SameBut a s.heap h' → GSet knd h' a ks' → ks'.Perm (if k ∈ ks then ks else ks ++ [k]) → Q b { s with heap := h' }) :
    wpAny (model prog w) A (setAddHashed a x (knd.hash k)) Q E s := by
  obtain ⟨o, es, ep, t, ho, hex, hd, hp, nd, hb, hf, g⟩ := id hS
  have hel := elems hp
  have lk : es.size = ks.length := by rw [← Array.length_toList]; exact Paired.length hp
  unfold setAddHashed setAddHashedIn
  refine wpAny_holding (wpAny_bind (wpAny_setState_of ho hd hf ?_))
  dsimp only
  rw [byScan_of hsc hb hel]
  simp only [↓reduceIte]
  unfold setAddByScan
  refine wpAny_bind (wpAny_bind (wpAny_rule (wpAny_bind (wpAny_setScan_of hkey ho hd hf hel ?_))))
  cases hr : List.findIdx? (fun e => knd.is k e.2) es.toList with
  | some j =>
    have hk : k ∈ ks := Classical.byContradiction fun z => by rw [(find_key hp).mpr z] at hr; cases hr
    dsimp only
    refine wpAny_pure (wpAny_pure ?_)
    have e : s = { s with heap := s.heap } := by cases s; rfl
    rw [e]
    exact h false s.heap ks (Heap.SameBut.refl a s.heap) hS (by rw [if_pos hk])
  | none =>
    have hk : k ∉ ks := (find_key hp).mp hr
    dsimp only
    have p1 := layNew_perm t es (knd.hash k) x
    have f1 := layNew_fits t es (knd.hash k) x
    have g1 := (good_layNew g es (knd.hash k) x).1
    generalize layNew t es (knd.hash k) x = Y at p1 f1 g1 ⊢
    obtain ⟨es1, t1, wd, gv⟩ := Y
    dsimp only at p1 f1 g1 ⊢
    rw [Array.toList_push] at p1
    obtain ⟨ks1, q1, hp1⟩ := paired_perm p1 (paired_snoc (show Mem knd (knd.hash k, x) k from ⟨hkey, rfl, hsc⟩) hp)
    have nd1 : ks1.Nodup := q1.nodup_iff.mpr (List.nodup_append.mpr ⟨nd, by simp, fun a ha b hb' => by rw [List.mem_singleton] at hb'; subst hb'; rintro rfl; exact hk ha⟩)
    have b1 : es1.size < scanBound := by rw [← Array.length_toList, p1.length_eq, List.length_append, Array.length_toList, lk]; exact hroom
    have fin : ∀ h' ks', Heap.SameBut a s.heap h' → GSet knd h' a ks' → ks'.Perm ks1 → Q true { s with heap := h' } := fun h' ks' sb G p => h true h' ks' sb G (by rw [if_neg hk]; exact p.trans q1)
    have gw : ∀ (b : Bool) (s₁ : Shared) (Q' : Unit → Shared → Prop), Q' () s₁ → wpAny (model prog w) A (match b with | true => rule "set.scan.the-table-gave-way" | false => pure ()) Q' E s₁ :=
      fun b s₁ Q' hq => by cases b <;> first | exact wpAny_pure hq | exact wpAny_rule hq
    refine wpAny_bind (gw _ _ _ ?_)
    split
    · refine wpAny_bind ?_
      rw [hashByValue_scannable 8 hsc]
      refine wpAny_pure ?_
      refine add_tail (ks1 := ks1) (knd := knd) ho hex hd hp1 nd1 b1 ?_ ?_ gw fun h' ks' sb G p => ?_
      · split
        · exact f1
        · exact SetTable.fits_plain_off f1
      · split
        · exact g1
        · exact good_plain g1 _
      · exact wpAny_pure (fin h' ks' sb G p)
    · refine wpAny_bind (wpAny_pure ?_)
      simp only [↓reduceIte]
      exact add_tail (ks1 := ks1) (knd := knd) ho hex hd hp1 nd1 b1 f1 g1 gw fun h' ks' sb G p => wpAny_pure (fin h' ks' sb G p)
end
end CST

namespace CST
open PySem
/-! ### the set's iterator: facts of the table -/
theorem slot_sin : Slot "set_iterator" "__next__" "set_iterator.__next__" :=
  .of (owner := "set_iterator") (n := "__next__") (by rw [typeLookup_type, builtinLookup_eq_fast]; kernel_rfl) (by decide +kernel) (by decide +kernel) (by decide +kernel) (by first | exact .inl (by decide +kernel) | exact .inr (by decide +kernel)) (by rw [isSubtype_type]; kernel_rfl)
theorem entry_sin : entryFor table "set_iterator.__next__" = some Builtin.«set_iterator.__next__» := entryFor_of_fast (by kernel_rfl)
theorem args_sin (a : Value) : argsOk "set_iterator.__next__" ⟨[a], []⟩ := by unfold argsOk; kernel_rfl
theorem slot_sii : Slot "set_iterator" "__iter__" "set_iterator.__iter__" :=
  .of (owner := "set_iterator") (n := "__iter__") (by rw [typeLookup_type, builtinLookup_eq_fast]; kernel_rfl) (by decide +kernel) (by decide +kernel) (by decide +kernel) (by first | exact .inl (by decide +kernel) | exact .inr (by decide +kernel)) (by rw [isSubtype_type]; kernel_rfl)
theorem args_sii (a : Value) : argsOk "set_iterator.__iter__" ⟨[a], []⟩ := by unfold argsOk; kernel_rfl
theorem entry_sii : entryFor table "set_iterator.__iter__" = some Builtin.«dict_keyiterator.__iter__» :=
  entryFor_alias (id' := "dict_keyiterator.__iter__") (by kernel_rfl) rfl (by decide +kernel) (by kernel_rfl)
theorem entry_si : entryFor table "set.__iter__" = some Builtin.«frozenset.__iter__» :=
  entryFor_alias (id' := "frozenset.__iter__") (by kernel_rfl) rfl (by decide +kernel) (by kernel_rfl)
end CST

namespace CST
open PySem
/-! ### a set's iterator: its turns -/
def It5 (h : Heap) (I : Addr) (first : Value) (i : Nat) (a : Addr) (n ep : Nat) : Prop := h.get? I = some { cls := .type "set_iterator", dict := none, data := .fields #[first, rawInt i, .ref a, rawInt n, rawInt ep], slots := #[] }
section
variable {prog : Program} {w : World} {A : Around} {E : Value → Shared → Prop} {s : Shared} {I a : Addr} {i n ep slot nx : Nat} {x : Value} {o : Obj} {es : Array (Int × Value)} {t : SetTable} {Q : Option Value → Shared → Prop}
theorem next_int (hit : It5 s.heap I (rawInt slot) i a n ep) (ho : s.heap.get? a = some o) (hd : o.data = .set es ep t) (hf : t.fits es.size = true) (hn : es.size = n)
    (hx : ∀ (A' : Around) (Q' : Option (Value × Nat) → Shared → Prop) (E' : Value → Shared → Prop), Q' (some (x, nx)) s → wpAny (model prog w) A' (setNext a slot i ep) Q' E' s)
    (h : ∀ h', It5 h' I (rawInt nx) (i + 1) a n ep → Heap.SameBut I s.heap h' → Q (some x) { s with heap := h' }) : wpAny (model prog w) A (pyNext (.ref I)) Q E s := by
  have ty : s.TypeIs (.ref I) "set_iterator" := ⟨_, hit, rfl⟩
  unfold pyNext
  refine wpAny_bind (wpAny_attempt (wpAny_callSpecial?_slot (name := Str.ofString "__next__") ty slot_sin (wpAny_call_entry slot_sin ty entry_sin ?_ (args_sin _))))
  unfold Builtin.«set_iterator.__next__»
  refine wpAny_bind (m := slotArgs "__next__" 0 _) (wpAny_pure (wpAny_bind (wpAny_fieldsOf hit rfl ?_)))
  dsimp only [rawInt]
  refine wpAny_bind (wpAny_setEntries_of ho hd hf ?_)
  rw [hn]
  rw [if_neg (by simp)]
  refine wpAny_bind (hx _ _ _ ?_)
  dsimp only
  refine wpAny_bind (wpAny_setField_rec hit (by simp) fun h1 e1 sb1 => ?_)
  refine wpAny_bind (wpAny_setField_rec e1 (by simp) fun h2 e2 sb2 => ?_)
  refine wpAny_pure ⟨_, rfl, wpAny_pure (h h2 ?_ (sb1.trans sb2))⟩
  unfold It5
  rw [e2]
  simp [rawInt]
end
end CST

namespace CST
open PySem
/-! ### what the set's iterator tells next -/
theorem erase_perm {α : Type} : ∀ {l : List α} {i : Nat} (h : i < l.length), (l[i] :: l.eraseIdx i).Perm l
  | [], _, h => absurd h (Nat.not_lt_zero _)
  | x :: l, 0, _ => List.Perm.refl _
  | x :: l, i + 1, h => (List.Perm.swap x _ _).trans ((erase_perm (l := l) (i := i) (by simpa using h)).cons x)
theorem pick_go {α : Type} (f : Nat → Nat) : ∀ (m k : Nat) (l : List α) (out : Array α), l.length = m → (pickOrder.go f m k l out).toList.Perm (out.toList ++ l)
  | 0, k, l, out, h => by
    have e : l = [] := List.length_eq_zero_iff.mp h
    subst e
    unfold pickOrder.go
    rw [List.append_nil]
  | m + 1, k, l, out, h => by
    have hl : f k % l.length < l.length := Nat.mod_lt _ (by omega)
    unfold pickOrder.go
    rw [List.getElem?_eq_getElem hl]
    dsimp only
    refine (pick_go f m (k + 1) _ _ (by rw [List.length_eraseIdx, if_pos hl]; omega)).trans ?_
    rw [Array.toList_push, List.append_assoc]
    exact (erase_perm hl).append_left _
theorem pick_perm {α : Type} (f : Nat → Nat) (xs : Array α) : (pickOrder f xs).toList.Perm xs.toList := by
  unfold pickOrder
  exact (pick_go f xs.size 0 xs.toList #[] Array.length_toList).trans (by simp)
/-- the slot behind the first i places -/
def slotAt (p : Array Nat) (i : Nat) : Nat := if i = 0 then 0 else p.getD (i - 1) 0 + 1
theorem below_slot {p : Array Nat} (r : Rs p) {i : Nat} (hi : i ≤ p.size) : SetTable.below p (slotAt p i) = i := by
  have b := below_ok (j := slotAt p i) r
  unfold slotAt at b ⊢
  by_cases c : i = 0
  · rw [if_pos c] at b ⊢
    rw [c]
    rcases Nat.eq_zero_or_pos (SetTable.below p 0) with z | z
    · exact z
    · have h0 : 0 < p.size := Nat.lt_of_lt_of_le z b.le
      exact absurd (b.lo 0 h0 z) (Nat.not_lt_zero _)
  · rw [if_neg c] at b ⊢
    have hp : i - 1 < p.size := by omega
    have e : p.getD (i - 1) 0 = p[i - 1] := by simp [Array.getD, hp]
    rw [e] at b ⊢
    rcases Nat.lt_trichotomy (SetTable.below p (p[i - 1] + 1)) i with z | z | z
    · have := b.hi (i - 1) hp (by omega)
      omega
    · exact z
    · have hs : i < p.size := Nat.lt_of_lt_of_le z b.le
      have h1 := b.lo i hs z
      have h2 := rs_lt r (i := i - 1) (k := i) (by omega) hs
      omega
end CST

namespace CST
open PySem
section
variable {prog : Program} {w : World} {A : Around} {E : Value → Shared → Prop} {s : Shared} {a : Addr} {o : Obj} {es : Array (Int × Value)} {ep : Nat} {t : SetTable}
/-! ### what setNext tells -/
theorem by_text {Q : Bool → Shared → Prop} (h : Q (w.params.followText "set-order") s) : wpAny (model prog w) A setsByText Q E s := by
  unfold setsByText
  exact wpAny_bind (wpAny_askSetting (wpAny_pure h))
theorem next_text {slot i : Nat} {Q : Option (Value × Nat) → Shared → Prop} (bt : w.params.followText "set-order" = true) (ho : s.heap.get? a = some o) (hd : o.data = .set es ep t) (hf : t.fits es.size = true)
    (h : Q (((pickOrder (w.params.setOrder a ep) es)[i]?).map fun e => (e.2, slot)) s) : wpAny (model prog w) A (setNext a slot i ep) Q E s := by
  unfold setNext
  refine wpAny_bind (wpAny_setState_of ho hd hf ?_)
  dsimp only
  refine wpAny_bind (by_text ?_)
  rw [bt, if_pos rfl, if_neg (by simp)]
  refine wpAny_bind ?_
  unfold setWalk
  refine wpAny_bind (wpAny_setState_of ho hd hf ?_)
  dsimp only
  refine wpAny_bind (by_text ?_)
  rw [bt, if_pos rfl]
  exact wpAny_bind (wpAny_askSetting (wpAny_pure (wpAny_pure h)))
theorem next_plain {slot i : Nat} {Q : Option (Value × Nat) → Shared → Prop} (bt : w.params.followText "set-order" = false) (ho : s.heap.get? a = some o) (hd : o.data = .set es ep t) (hf : t.fits es.size = true) (hl : t.led = true) (hp : (!t.plain && decide (es.size > 1)) = false)
    (h : Q (match es[SetTable.below t.place slot]?, t.place[SetTable.below t.place slot]? with
      | some (_, x), some j => some (x, j + 1)
      | _, _ => none) s) : wpAny (model prog w) A (setNext a slot i ep) Q E s := by
  unfold setNext
  refine wpAny_bind (wpAny_setState_of ho hd hf ?_)
  dsimp only
  refine wpAny_bind (by_text ?_)
  rw [bt, if_neg Bool.false_ne_true]
  show wpAny _ _ (if (!t.plain && decide (es.size > 1)) = true then _ else _) _ _ _
  rw [hp, if_neg Bool.false_ne_true]
  refine wpAny_bind ?_
  show wpAny _ _ (if (!t.led && !es.isEmpty) = true then unsupported "set:maker-not-led" else pure ()) _ _ _
  rw [hl, if_neg (by simp)]
  exact wpAny_pure (wpAny_pure h)
theorem next_drawn {place : Nat} {k : Int} {x : Value} {Q : Value → Shared → Prop} (ho : s.heap.get? a = some o) (hd : o.data = .set es ep t) (hf : t.fits es.size = true) (hx : es[place]? = some (k, x)) (h : Q x s) : wpAny (model prog w) A (setNextDrawn a place ep) Q E s := by
  unfold setNextDrawn
  refine wpAny_bind (wpAny_setState_of ho hd hf ?_)
  dsimp only
  rw [if_neg (by simp), hx]
  exact wpAny_pure h
/-! ### drawing an order -/
theorem any_choose {src : Source} {n : Nat} {Q : Nat → Shared → Prop} (hn : n ≠ 0) (h : ∀ i, i < n → Q i { s with drawn := s.drawn.bump src }) : wpAny (model prog w) A (choose src n) Q E s := fun _ _ _ => by
  unfold choose
  rw [Sem.wp_choose]
  exact ⟨hn, h _ (Nat.mod_lt _ (by omega))⟩
theorem draw_order {α : Type} : ∀ (n : Nat) (xs : List α) (s : Shared) (Q : List α → Shared → Prop), xs.length = n → (∀ ys d, ys.Perm xs → Q ys { s with drawn := d }) → wpAny (model prog w) A (drawOrder n xs) Q E s
  | 0, xs, s, Q, hl, h => by
    have e : xs = [] := List.length_eq_zero_iff.mp hl
    subst e
    unfold drawOrder
    exact wpAny_pure (h [] s.drawn (List.Perm.refl _))
  | n + 1, xs, s, Q, hl, h => by
    cases xs with
    | nil => simp at hl
    | cons x xs =>
      unfold drawOrder
      refine wpAny_bind (any_choose (by simp) fun i hi => ?_)
      rw [List.getElem?_eq_getElem hi]
      dsimp only
      refine wpAny_bind (draw_order n _ _ _ (by rw [List.length_eraseIdx, if_pos hi]; omega) fun ys d p => wpAny_pure ?_)
      exact h _ d ((p.cons _).trans (erase_perm hi))
end
end CST

namespace CST
open PySem
section
variable {prog : Program} {w : World} {A : Around} {E : Value → Shared → Prop} {s : Shared} {I a T : Addr} {i n ep slot : Nat} {o : Obj} {es : Array (Int × Value)} {t : SetTable} {Q : Option Value → Shared → Prop}
/-! ### the set's iterator: the other turns, the end -/
theorem next_tup {places : Array Value} {cn : Nat} {pl : Nat} {tk : Tok} {k : Int} {x : Value} (hit : It5 s.heap I (.ref T) i a n ep) (hT : s.heap.get? T = some { cls := .type "tuple", dict := none, data := .seq places cn, slots := #[] }) (ho : s.heap.get? a = some o) (hd : o.data = .set es ep t) (hf : t.fits es.size = true) (hn : es.size = n)
    (hp : places[i]? = some (.int (pl : Int) tk)) (hx : es[pl]? = some (k, x))
    (h : ∀ h', It5 h' I (.ref T) (i + 1) a n ep → Heap.SameBut I s.heap h' → Q (some x) { s with heap := h' }) : wpAny (model prog w) A (pyNext (.ref I)) Q E s := by
  have ty : s.TypeIs (.ref I) "set_iterator" := ⟨_, hit, rfl⟩
  unfold pyNext
  refine wpAny_bind (wpAny_attempt (wpAny_callSpecial?_slot (name := Str.ofString "__next__") ty slot_sin (wpAny_call_entry slot_sin ty entry_sin ?_ (args_sin _))))
  unfold Builtin.«set_iterator.__next__»
  refine wpAny_bind (m := slotArgs "__next__" 0 _) (wpAny_pure (wpAny_bind (wpAny_fieldsOf hit rfl ?_)))
  dsimp only [rawInt]
  refine wpAny_bind (wpAny_setEntries_of ho hd hf ?_)
  rw [hn, if_neg (by simp)]
  refine wpAny_bind (wpAny_seqItems hT rfl ?_)
  dsimp only
  rw [show ((i : Int)).toNat = i from rfl, hp]
  dsimp only
  refine wpAny_bind (next_drawn ho hd hf (place := pl) hx ?_)
  refine wpAny_bind (wpAny_setField_rec hit (by simp) fun h1 e1 sb1 => ?_)
  refine wpAny_pure ⟨_, rfl, wpAny_pure (h h1 ?_ sb1)⟩
  unfold It5
  rw [e1]
  simp [rawInt]
/-- StopIteration raised, as pyNext sees it -/
theorem raise_stop {α : Type} {Q : α → Shared → Prop} (hh : A.handled = none) (h : ∀ h' e, (∀ b o, s.heap.get? b = some o → h'.get? b = some o) → Shared.TypeIs { s with heap := h' } e "StopIteration" → E e { s with heap := h' }) : wpAny (model prog w) A (newExc (.type "StopIteration") [] >>= raiseNew) Q E s := by
  refine wpAny_bind ?_
  simp only [newExc, newTuple]
  refine wpAny_bind (wpAny_newObj_type ?_ (by size_fits))
  refine wpAny_bind (m := firstArgMember _ _) (wpAny_of_eq (a := Value.none) (by first | rfl | (simp only [firstArgMember]; rfl)) ?_)
  refine wpAny_newObj_type ?_ (by size_fits)
  refine wpAny_raiseNew_none hh (h _ _ (fun b ob e => Heap.get?_push_of_some _ (Heap.get?_push_of_some _ e)) ⟨_, Heap.get?_push_size _ rfl, rfl⟩)
theorem end_int (hh : A.handled = none) (hit : It5 s.heap I (rawInt slot) i a n ep) (ho : s.heap.get? a = some o) (hd : o.data = .set es ep t) (hf : t.fits es.size = true) (hn : es.size = n)
    (hx : ∀ (A' : Around) (Q' : Option (Value × Nat) → Shared → Prop) (E' : Value → Shared → Prop), Q' none s → wpAny (model prog w) A' (setNext a slot i ep) Q' E' s)
    (h : ∀ h', Heap.ExtBut I s.heap h' → Q none { s with heap := h' }) : wpAny (model prog w) A (pyNext (.ref I)) Q E s := by
  have ty : s.TypeIs (.ref I) "set_iterator" := ⟨_, hit, rfl⟩
  unfold pyNext
  refine wpAny_bind (wpAny_attempt (wpAny_callSpecial?_slot (name := Str.ofString "__next__") ty slot_sin (wpAny_call_entry slot_sin ty entry_sin ?_ (args_sin _))))
  unfold Builtin.«set_iterator.__next__»
  refine wpAny_bind (m := slotArgs "__next__" 0 _) (wpAny_pure (wpAny_bind (wpAny_fieldsOf hit rfl ?_)))
  dsimp only [rawInt]
  refine wpAny_bind (wpAny_setEntries_of ho hd hf ?_)
  rw [hn, if_neg (by simp)]
  refine wpAny_bind (hx _ _ _ ?_)
  dsimp only
  refine wpAny_bind (wpAny_setField_rec hit (by simp) fun h1 e1 sb1 => ?_)
  refine raise_stop (s := { s with heap := h1 }) (by exact hh) fun h2 e k2 te => ?_
  dsimp only
  refine wpAny_bind (wpAny_isInstance (T := "StopIteration") (b := true) te isSubtype_stop ?_)
  exact wpAny_pure (h h2 (fun b ob nb e' => k2 b ob ((sb1.2 b nb).trans e')))
theorem end_tup {places : Array Value} {cn : Nat} (hh : A.handled = none) (hit : It5 s.heap I (.ref T) i a n ep) (hT : s.heap.get? T = some { cls := .type "tuple", dict := none, data := .seq places cn, slots := #[] }) (ho : s.heap.get? a = some o) (hd : o.data = .set es ep t) (hf : t.fits es.size = true) (hn : es.size = n) (hp : places[i]? = none)
    (h : ∀ h', Heap.ExtBut I s.heap h' → Q none { s with heap := h' }) : wpAny (model prog w) A (pyNext (.ref I)) Q E s := by
  have ty : s.TypeIs (.ref I) "set_iterator" := ⟨_, hit, rfl⟩
  unfold pyNext
  refine wpAny_bind (wpAny_attempt (wpAny_callSpecial?_slot (name := Str.ofString "__next__") ty slot_sin (wpAny_call_entry slot_sin ty entry_sin ?_ (args_sin _))))
  unfold Builtin.«set_iterator.__next__»
  refine wpAny_bind (m := slotArgs "__next__" 0 _) (wpAny_pure (wpAny_bind (wpAny_fieldsOf hit rfl ?_)))
  dsimp only [rawInt]
  refine wpAny_bind (wpAny_setEntries_of ho hd hf ?_)
  rw [hn, if_neg (by simp)]
  refine wpAny_bind (wpAny_seqItems hT rfl ?_)
  dsimp only
  rw [show ((i : Int)).toNat = i from rfl, hp]
  dsimp only
  refine wpAny_bind (wpAny_setField_rec hit (by simp) fun h1 e1 sb1 => ?_)
  refine wpAny_bind (wpAny_setField_rec e1 (by simp) fun h2 e2 sb2 => ?_)
  refine raise_stop (s := { s with heap := h2 }) (by exact hh) fun h3 e k3 te => ?_
  dsimp only
  refine wpAny_bind (wpAny_isInstance (T := "StopIteration") (b := true) te isSubtype_stop ?_)
  exact wpAny_pure (h h3 (fun b ob nb e' => k3 b ob ((sb2.2 b nb).trans ((sb1.2 b nb).trans e'))))
theorem self_it {first : Value} {Q : Value → Shared → Prop} (hit : It5 s.heap I first i a n ep) (h : Q (.ref I) s) : wpAny (model prog w) A (pyIter (.ref I)) Q E s := by
  have ty : s.TypeIs (.ref I) "set_iterator" := ⟨_, hit, rfl⟩
  refine wpAny_pyIter_slot ty slot_sii (wpAny_call_entry slot_sii ty entry_sii ?_ (args_sii _))
  unfold Builtin.«dict_keyiterator.__iter__»
  exact wpAny_bind (m := slotArgs "__iter__" 0 _) (wpAny_pure (wpAny_pure ⟨_, rfl, "set_iterator", _, ty, slot_sin.lookup, h⟩))
/-! ### iter(set) -/
theorem slot_set : Slot "set" "__iter__" "set.__iter__" :=
  .of (owner := "set") (n := "__iter__") (by rw [typeLookup_type, builtinLookup_eq_fast]; kernel_rfl) (by decide +kernel) (by decide +kernel) (by decide +kernel) (by first | exact .inl (by decide +kernel) | exact .inr (by decide +kernel)) (by rw [isSubtype_type]; kernel_rfl)
theorem args_set (a : Value) : argsOk "set.__iter__" ⟨[a], []⟩ := by unfold argsOk; kernel_rfl
/-- how the iterator begins -/
def Beg (w : World) (h0 h : Heap) (I a : Addr) (es : Array (Int × Value)) (ep : Nat) (t : SetTable) : Prop :=
  (It5 h I (rawInt 0) 0 a es.size ep ∧ (w.params.followText "set-order" = true ∨ (w.params.followText "set-order" = false ∧ (!t.plain && decide (es.size > 1)) = false))) ∨
  ∃ T ps, It5 h I (.ref T) 0 a es.size ep ∧ h.get? T = some { cls := .type "tuple", dict := none, data := .seq ((ps : List Nat).map fun i : Nat => rawInt i).toArray 0, slots := #[] } ∧ ps.Perm (List.range es.size) ∧ T ≠ I ∧ h0.get? T = none
theorem iter_set {Q : Value → Shared → Prop} (hc : o.cls = .type "set") (ho : s.heap.get? a = some o) (hd : o.data = .set es ep t) (hf : t.fits es.size = true) (hz : es.size ≤ sizeLine)
    (h : ∀ h' d I, Beg w s.heap h' I a es ep t → (∀ b ob, s.heap.get? b = some ob → h'.get? b = some ob) → s.heap.get? I = none → Q (.ref I) { s with heap := h', drawn := d }) : wpAny (model prog w) A (pyIter (.ref a)) Q E s := by
  have ty : s.TypeIs (.ref a) "set" := ⟨_, ho, hc⟩
  refine wpAny_pyIter_slot ty slot_set (wpAny_call_entry slot_set ty entry_si ?_ (args_set _))
  unfold Builtin.«frozenset.__iter__»
  refine wpAny_bind (m := Builtin.Frozenset.slot0 "__iter__" _) (wpAny_pure ?_)
  refine wpAny_bind (wpAny_bind (wpAny_setEntries_of ho hd hf (wpAny_pure ?_)))
  refine wpAny_bind ?_
  unfold setDrawn
  refine wpAny_bind (wpAny_setState_of ho hd hf ?_)
  dsimp only
  refine wpAny_bind (by_text (wpAny_pure ?_))
  show wpAny _ _ (if (!(w.params.followText "set-order") && (!t.plain && decide (es.size > 1))) = true then _ else _) _ _ _
  have last : ∀ (first : Value) (h1 : Heap) (d1 : Drawn), (∀ b ob, s.heap.get? b = some ob → h1.get? b = some ob) → s.heap.objs.size ≤ h1.objs.size → (∀ h2, (∀ b ob, h1.get? b = some ob → h2.get? b = some ob) → It5 h2 h1.objs.size first 0 a es.size ep → Beg w s.heap h2 h1.objs.size a es ep t) →
      wpAny (model prog w) A.in1 (do
        let x ← setEpoch a
        let y ← newFields "set_iterator" [first, rawInt 0, Value.ref a, rawInt ↑es.size, rawInt ↑x]
        ret y) (fun fin s' => ∃ v, fin = .done (.ret v) ∧ ∃ T' r, s'.TypeIs v T' ∧ typeLookup (Value.type T') (Str.ofString "__next__") = pure (some r) ∧ Q v s') E { s with heap := h1, drawn := d1 } := fun first h1 d1 k1 le bg => by
    refine wpAny_bind ?_
    unfold setEpoch
    refine wpAny_bind (wpAny_setState_of (s := { s with heap := h1, drawn := d1 }) (k1 _ _ ho) hd hf (wpAny_pure ?_))
    refine wpAny_bind (wpAny_newObj_type (wpAny_pure ⟨_, rfl, "set_iterator", _, ⟨_, Heap.get?_push_size _ rfl, rfl⟩, slot_sin.lookup, ?_⟩))
    refine h _ d1 h1.objs.size (bg _ (fun b ob e => Heap.get?_push_of_some _ e) (Heap.get?_push_size _ rfl)) (fun b ob e => Heap.get?_push_of_some _ (k1 b ob e)) ?_
    cases z : s.heap.get? h1.objs.size with
    | none => rfl
    | some ob =>
      have := Heap.lt_size z
      exact absurd le (Nat.not_le.mpr this)
  by_cases c : (!(w.params.followText "set-order") && (!t.plain && decide (es.size > 1))) = true
  · rw [if_pos c]
    refine wpAny_bind (draw_order _ _ _ _ List.length_range fun ps d p => ?_)
    refine wpAny_bind (wpAny_newTuple ?_ (by rw [List.length_map, p.length_eq, List.length_range]; exact hz))
    refine last _ _ d (fun b ob e => Heap.get?_push_of_some _ e) (by rw [Heap.size_push]; exact Nat.le_succ _) fun h2 k2 it => .inr ⟨s.heap.objs.size, ps, it, k2 _ _ (Heap.get?_push_size _ rfl), p, ?_, ?_⟩
    · show s.heap.objs.size ≠ (s.heap.push _).objs.size
      rw [Heap.size_push]
      exact Nat.ne_of_lt (Nat.lt_succ_self _)
    · cases z : s.heap.get? s.heap.objs.size with
      | none => rfl
      | some ob => exact absurd (Heap.lt_size z) (Nat.lt_irrefl _)
  · rw [if_neg c]
    refine wpAny_bind (wpAny_pure ?_)
    have e : s = { s with heap := s.heap, drawn := s.drawn } := by cases s; rfl
    rw [e]
    refine last _ s.heap s.drawn (fun _ _ z => z) (Nat.le_refl _) fun h2 k2 it => .inl ⟨it, ?_⟩
    cases b : w.params.followText "set-order" with
    | true => exact .inl rfl
    | false =>
      rw [b] at c
      exact .inr ⟨rfl, by simpa using c⟩
end
end CST

namespace CST
open PySem
section
variable {prog : Program} {w : World} {A : Around} {E : Value → Shared → Prop} {I a : Addr} {es : Array (Int × Value)} {ep : Nat} {t : SetTable}
/-! ### a set walked -/
def SetIn (h : Heap) (a : Addr) (es : Array (Int × Value)) (ep : Nat) (t : SetTable) : Prop := ∃ o, h.get? a = some o ∧ o.data = .set es ep t
theorem fits_place (hf : t.fits es.size = true) : t.place.size = es.size := by
  unfold SetTable.fits at hf
  simp at hf
  exact hf.1
theorem range_vals (es : Array (Int × Value)) : (List.range es.size).map (fun p => (es.getD p (0, .none)).2) = es.toList.map (·.2) := by
  refine List.ext_getElem? fun i => ?_
  rw [List.getElem?_map, List.getElem?_map]
  by_cases h : i < es.size
  · rw [List.getElem?_range h, Array.getElem?_toList, Array.getElem?_eq_getElem h]
    simp [Array.getD, h]
  · rw [List.getElem?_eq_none (by simpa using h), Array.getElem?_toList, Array.getElem?_eq_none (by omega)]
    rfl
theorem moved_same {s : Shared} {h' : Heap} (sb : Heap.SameBut I s.heap h') : Moved [I] (fun x y : Array GenState => y = x) s { s with heap := h' } := ⟨fun b o nb e => (sb.2 b (fun z => nb (by rw [z]; exact List.mem_singleton.mpr rfl))).trans e, rfl, rfl, rfl, Nat.le_refl _⟩
theorem moved_ext {s : Shared} {h' : Heap} (sb : Heap.ExtBut I s.heap h') : Moved [I] (fun x y : Array GenState => y = x) s { s with heap := h' } := ⟨fun b o nb e => sb b o (fun z => nb (by rw [z]; exact List.mem_singleton.mpr rfl)) e, rfl, rfl, rfl, Nat.le_refl _⟩
theorem walks_text (hh : A.handled = none) (bt : w.params.followText "set-order" = true) (hf : t.fits es.size = true) (na : a ≠ I) :
    WalksS prog w A I [I, a] [I] (fun x y => y = x) es.size (fun i v => (((pickOrder (w.params.setOrder a ep) es).toList.map (·.2))[i]?) = some v) (fun i s => It5 s.heap I (rawInt 0) i a es.size ep ∧ SetIn s.heap a es ep t) where
  sub := fun b hb => by rw [List.mem_singleton.mp hb]; exact List.mem_cons_self
  grefl := fun _ => rfl
  gtrans := fun _ _ _ h1 h2 => h2.trans h1
  frame := fun i s h' tk ⟨it, o, ho, hd⟩ _ k => ⟨k I List.mem_cons_self _ it, o, k a (by simp) _ ho, hd⟩
  item := fun i s Q E hi ⟨it, o, ho, hd⟩ h => by
    have sz : (pickOrder (w.params.setOrder a ep) es).size = es.size := by rw [← Array.length_toList, (pick_perm _ es).length_eq, Array.length_toList]
    have ei : (pickOrder (w.params.setOrder a ep) es)[i]? = some ((pickOrder (w.params.setOrder a ep) es)[i]'(by omega)) := Array.getElem?_eq_getElem (by omega)
    refine next_int (slot := 0) (nx := 0) it ho hd hf rfl (fun A' Q' E' q => next_text bt ho hd hf (by rw [ei]; exact q)) fun h' it' sb => ?_
    refine h _ _ ?_ ⟨it', o, (sb.2 a na).trans ho, hd⟩ (moved_same sb)
    rw [List.getElem?_map, Array.getElem?_toList, ei]
    rfl
  done := fun s Q E ⟨it, o, ho, hd⟩ h => by
    have sz : (pickOrder (w.params.setOrder a ep) es).size = es.size := by rw [← Array.length_toList, (pick_perm _ es).length_eq, Array.length_toList]
    refine end_int (slot := 0) hh it ho hd hf rfl (fun A' Q' E' q => next_text bt ho hd hf (by rw [Array.getElem?_eq_none (by omega)]; exact q)) fun h' sb => h _ (moved_ext sb)
  self := fun i s Q E ⟨it, _⟩ h => self_it it h
theorem walks_plain (hh : A.handled = none) (bt : w.params.followText "set-order" = false) (hf : t.fits es.size = true) (hl : t.led = true) (rs : Rs t.place) (hp : (!t.plain && decide (es.size > 1)) = false) (na : a ≠ I) :
    WalksS prog w A I [I, a] [I] (fun x y => y = x) es.size (fun i v => ((es.toList.map (·.2))[i]?) = some v) (fun i s => It5 s.heap I (rawInt (slotAt t.place i)) i a es.size ep ∧ SetIn s.heap a es ep t) where
  sub := fun b hb => by rw [List.mem_singleton.mp hb]; exact List.mem_cons_self
  grefl := fun _ => rfl
  gtrans := fun _ _ _ h1 h2 => h2.trans h1
  frame := fun i s h' tk ⟨it, o, ho, hd⟩ _ k => ⟨k I List.mem_cons_self _ it, o, k a (by simp) _ ho, hd⟩
  item := fun i s Q E hi ⟨it, o, ho, hd⟩ h => by
    have sz := fits_place hf
    have bl := below_slot rs (i := i) (by omega)
    have ei : es[i]? = some (es[i]'hi) := Array.getElem?_eq_getElem hi
    have pi : t.place[i]? = some (t.place[i]'(by omega)) := Array.getElem?_eq_getElem (by omega)
    have en : slotAt t.place (i + 1) = t.place[i]'(by omega) + 1 := by
      unfold slotAt
      rw [if_neg (by omega), Nat.add_sub_cancel]
      simp [Array.getD, show i < t.place.size by omega]
    refine next_int (slot := slotAt t.place i) (nx := slotAt t.place (i + 1)) it ho hd hf rfl (fun A' Q' E' q => next_plain bt ho hd hf hl hp (by rw [bl, ei, pi]; dsimp only; rw [← en]; exact q)) fun h' it' sb => ?_
    refine h _ _ ?_ ⟨it', o, (sb.2 a na).trans ho, hd⟩ (moved_same sb)
    rw [List.getElem?_map, Array.getElem?_toList, ei]
    rfl
  done := fun s Q E ⟨it, o, ho, hd⟩ h => by
    have sz := fits_place hf
    have bl := below_slot rs (i := es.size) (by omega)
    refine end_int (slot := slotAt t.place es.size) hh it ho hd hf rfl (fun A' Q' E' q => next_plain bt ho hd hf hl hp (by rw [bl, Array.getElem?_eq_none (Nat.le_refl _)]; exact q)) fun h' sb => h _ (moved_ext sb)
  self := fun i s Q E ⟨it, _⟩ h => self_it it h
theorem walks_drawn {T : Addr} {ps : List Nat} (hh : A.handled = none) (hf : t.fits es.size = true) (pm : ps.Perm (List.range es.size)) (na : a ≠ I) (nT : T ≠ I) :
    WalksS prog w A I [I, a, T] [I] (fun x y => y = x) es.size (fun i v => ((ps.map fun p => (es.getD p (0, .none)).2)[i]?) = some v)
      (fun i s => It5 s.heap I (.ref T) i a es.size ep ∧ SetIn s.heap a es ep t ∧ s.heap.get? T = some { cls := .type "tuple", dict := none, data := .seq (ps.map fun i : Nat => rawInt i).toArray 0, slots := #[] }) where
  sub := fun b hb => by rw [List.mem_singleton.mp hb]; exact List.mem_cons_self
  grefl := fun _ => rfl
  gtrans := fun _ _ _ h1 h2 => h2.trans h1
  frame := fun i s h' tk ⟨it, ⟨o, ho, hd⟩, hT⟩ _ k => ⟨k I List.mem_cons_self _ it, ⟨o, k a (by simp) _ ho, hd⟩, k T (by simp) _ hT⟩
  item := fun i s Q E hi ⟨it, ⟨o, ho, hd⟩, hT⟩ h => by
    have ln : ps.length = es.size := by rw [pm.length_eq, List.length_range]
    have ei : ps[i]? = some (ps[i]'(by omega)) := List.getElem?_eq_getElem (by omega)
    have pl : ps[i]'(by omega) < es.size := List.mem_range.mp (pm.mem_iff.mp (List.getElem_mem _))
    have ex : es[ps[i]'(by omega)]? = some (es[ps[i]'(by omega)]'pl) := Array.getElem?_eq_getElem pl
    refine next_tup (pl := ps[i]'(by omega)) (k := (es[ps[i]'(by omega)]'pl).1) (x := (es[ps[i]'(by omega)]'pl).2) it hT ho hd hf rfl (tk := 0) ?_ ex fun h' it' sb => ?_
    · rw [List.getElem?_toArray, List.getElem?_map, ei]
      rfl
    · refine h _ _ ?_ ⟨it', ⟨o, (sb.2 a na).trans ho, hd⟩, (sb.2 T nT).trans hT⟩ (moved_same sb)
      rw [List.getElem?_map, ei]
      simp [Array.getD, pl]
  done := fun s Q E ⟨it, ⟨o, ho, hd⟩, hT⟩ h => by
    have ln : ps.length = es.size := by rw [pm.length_eq, List.length_range]
    refine end_tup hh it hT ho hd hf rfl ?_ fun h' sb => h _ (moved_ext sb)
    rw [List.getElem?_toArray, List.getElem?_map, List.getElem?_eq_none (by omega)]
    rfl
  self := fun i s Q E ⟨it, _⟩ h => self_it it h
/-- however it is walked: each of its values once -/
theorem walks_set (hh : A.handled = none) {h0 h : Heap} (hs : SetIn h a es ep t) (hf : t.fits es.size = true) (g : Good (w.params.followText "set-order") t) (na : a ≠ I) (nI : h0.get? I = none) (b : Beg w h0 h I a es ep t) :
    ∃ (os : List Value) (fp : List Addr) (St : Nat → Shared → Prop), os.Perm (es.toList.map (·.2)) ∧ WalksS prog w A I fp [I] (fun x y => y = x) es.size (fun i v => os[i]? = some v) St ∧ (∀ s : Shared, s.heap = h → St 0 s) ∧ ∀ x ∈ fp, x = a ∨ h0.get? x = none := by
  rcases b with ⟨it, bt | ⟨bt, hp⟩⟩ | ⟨T, ps, it, hT, pm, nT, nT0⟩
  · refine ⟨_, _, _, (pick_perm (w.params.setOrder a ep) es).map _, walks_text hh bt hf na, fun s e => by rw [e]; exact ⟨it, hs⟩, fun x hx => ?_⟩
    rcases List.mem_cons.mp hx with z | z
    · rw [z]; exact .inr nI
    · exact .inl (List.mem_singleton.mp z)
  · refine ⟨_, _, _, List.Perm.refl _, walks_plain hh bt hf (g.ld bt) g.rs hp na, fun s e => by rw [e]; exact ⟨it, hs⟩, fun x hx => ?_⟩
    rcases List.mem_cons.mp hx with z | z
    · rw [z]; exact .inr nI
    · exact .inl (List.mem_singleton.mp z)
  · refine ⟨_, _, _, (pm.map _).trans (List.Perm.of_eq (range_vals es)), walks_drawn hh hf pm na nT, fun s e => by rw [e]; exact ⟨it, hs, hT⟩, fun x hx => ?_⟩
    rcases List.mem_cons.mp hx with z | z
    · rw [z]; exact .inr nI
    · rcases List.mem_cons.mp z with z | z
      · exact .inl z
      · rw [List.mem_singleton.mp z]; exact .inr nT0
end
end CST

namespace CST
open PySem
section
variable {prog : Program} {w : World} {A : Around} {E : Value → Shared → Prop} {s : Shared} {a : Addr} {o : Obj} {es : Array (Int × Value)} {ep : Nat} {t : SetTable}
/-! ### a set's values as a list -/
theorem len_set : typeLookup (.type "set") (Str.ofString "__len__") = pure (some (.builtin "set.__len__")) := F.slot_set_len.lookup
theorem sub_ss : isSubtype (.type "set") (.type "set") = pure true := by rw [isSubtype_type]; kernel_rfl
theorem hint_set {Q : Bool → Shared → Prop} (ty : s.TypeIs (.ref a) "set") (h : Q false s) : wpAny (model prog w) A (Builtin.List.listLengthHint (.ref a)) Q E s := by
  unfold Builtin.List.listLengthHint
  refine wpAny_bind (wpAny_specialOf ty len_set ?_)
  generalize hid : ("set.__len__" : String) = id0
  wp_delta
  rw [show splitId id0 = some ("set", "__len__") from by subst hid; decide +kernel]
  subst hid
  refine wpAny_bind (wpAny_isInstance ty sub_ss ?_)
  show wpAny _ A (typeOf (Value.ref a) >>= _) _ _ _
  refine wpAny_bind (wpAny_typeOf ty ?_)
  exact wpAny_pure h
theorem collect_set {Q : List Value → Shared → Prop} (hh : A.handled = none) (hc : o.cls = .type "set") (ho : s.heap.get? a = some o) (hd : o.data = .set es ep t) (hf : t.fits es.size = true) (g : Good (w.params.followText "set-order") t) (hz : es.size ≤ sizeLine)
    (h : ∀ s' vs, vs.Perm (es.toList.map (·.2)) → (∀ b ob, s.heap.get? b = some ob → s'.heap.get? b = some ob) → s'.gens = s.gens → s'.os = s.os → Q vs s') : wpAny (model prog w) A (collect (.ref a)) Q E s := by
  unfold collect
  refine wpAny_bind (wpAny_runValue (codeAny_builtin F.entry_proto_collect ?_))
  rw [Around.under_plainId F.plain_proto_collect _]
  show wpAny _ A.in1 (newList [] >>= fun l => again (.builtin "list.__iadd__" ⟨[l, .ref a], []⟩)) _ _ s
  refine wpAny_bind (wpAny_newObj_type (wpAny_pure ⟨plainId_quiet F.plain_list_iadd _, codeAny_builtin F.entry_list_iadd ?_⟩))
  rw [Around.under_plainId F.plain_list_iadd _]
  have lt : a < s.heap.objs.size := Heap.lt_size ho
  have old : ∀ b ob, s.heap.get? b = some ob → (s.heap.push { cls := .type "list", data := .seq ([] : List Value).toArray }).get? b = some ob := fun b ob e => Heap.get?_push_of_some _ e
  have at0 : (s.heap.push { cls := .type "list", data := .seq ([] : List Value).toArray }).get? s.heap.objs.size = some { cls := .type "list", data := .seq ([] : List Value).toArray } := Heap.get?_push_size _ rfl
  generalize hL : s.heap.objs.size = L at at0
  generalize s.heap.push { cls := .type "list", data := .seq ([] : List Value).toArray } = H at old at0
  have nL : s.heap.get? L = none := by
    cases z : s.heap.get? L with
    | none => rfl
    | some ob => exact absurd (Heap.lt_size z) (by rw [hL]; exact Nat.lt_irrefl _)
  show wpAny _ A.in1 (Builtin.List.listExtendWith (.ref L) (.ref a) (.ref L)) _ _ { s with heap := H }
  unfold Builtin.List.listExtendWith
  have ty : Shared.TypeIs { s with heap := H } (.ref a) "set" := ⟨_, old _ _ ho, hc⟩
  refine wpAny_bind (wpAny_typeOf ty ?_)
  have c1 : Builtin.List.listSameRef (.ref L) (.ref a) = false := by
    have : L ≠ a := by rw [← hL]; exact Nat.ne_of_gt lt
    simp [Builtin.List.listSameRef, this]
  rw [if_neg (by rw [c1]; decide)]
  refine wpAny_bind (iter_set (s := { s with heap := H }) hc (old _ _ ho) hd hf hz fun h1 d I bg k1 nI => ?_)
  have ty1 : Shared.TypeIs { s with heap := h1, drawn := d } (.ref a) "set" := ⟨_, k1 _ _ (old _ _ ho), hc⟩
  refine wpAny_bind (wpAny_holding (hint_set ty1 ?_))
  show wpAny _ A.in1 (rule "list.extend.makes-room" >>= fun _ => Builtin.List.listTouch (.ref L) >>= fun _ => again (.builtin "list.extend.loop" ⟨[.ref L, .ref I, .ref L], []⟩)) _ _ _
  refine wpAny_bind (wpAny_rule (wpAny_bind ?_))
  show wpAny _ A.in1 (updateSeq L (·.push .none) >>= fun _ => updateSeq L (·.pop)) _ _ _
  have at1 := k1 _ _ at0
  refine wpAny_bind (wpAny_updateSeq (s := { s with heap := h1, drawn := d }) at1 rfl ?_)
  have at2 := Heap.get?_update_self (Obj.mapSeq (·.push Value.none)) at1 rfl
  refine wpAny_updateSeq at2 rfl ?_
  have at3 := Heap.get?_update_self (Obj.mapSeq (·.pop)) at2 rfl
  have oth : ∀ b ob, b ≠ L → h1.get? b = some ob → ((h1.update L (Obj.mapSeq (·.push Value.none))).update L (Obj.mapSeq (·.pop))).get? b = some ob := fun b ob nb e =>
    (Heap.get?_update_other _ _ (Ne.symm nb)).trans ((Heap.get?_update_other _ _ (Ne.symm nb)).trans e)
  have naI : a ≠ I := fun z => by
    rw [← z] at nI
    have := old _ _ ho
    have nI' : H.get? a = none := nI
    rw [this] at nI'
    cases nI'
  have nLI : L ≠ I := fun z => by
    rw [← z] at nI
    have nI' : H.get? L = none := nI
    rw [at0] at nI'
    cases nI'
  obtain ⟨vs, fp, St, pm, W, st0, inf⟩ := walks_set (prog := prog) (A := A.in1.in1) (by exact hh) (h := h1) ⟨o, k1 _ _ (old _ _ ho), hd⟩ hf g naI nI bg
  have nf : L ∉ fp := fun z => by
    rcases inf L z with e | e
    · exact absurd e (by rw [← hL]; exact Nat.ne_of_gt lt)
    · have e' : H.get? L = none := e
      rw [at0] at e'
      cases e'
  have st1 := W.frame 0 { s with heap := h1, drawn := d } _ s.toks (st0 _ rfl) (Nat.le_refl _) fun b hb ob e => oth b ob (fun z => nf (z ▸ hb)) e
  refine wpAny_pure ⟨plainId_quiet F.plain_extend_loop _, codeAny_extend_loopS W.of_in1 hz L nf _ es.size 0 _ _ _ rfl (Nat.zero_le _) st1 at3 (ItemsOf.nil _) fun s' acc c' hm hS' hacc => ?_⟩
  show wpAny _ A (load L >>= _) _ _ s'
  refine wpAny_bind (wpAny_load hS' (wpAny_pure ?_))
  have ea : acc.toList = vs := by
    obtain ⟨z1, z2⟩ := hacc
    have lv : vs.length = es.size := by rw [pm.length_eq, List.length_map, Array.length_toList]
    refine List.ext_getElem? fun j => ?_
    rw [Array.getElem?_toList]
    by_cases hj : j < acc.size
    · rw [Array.getElem?_eq_getElem hj]
      exact (z2 j _ (Array.getElem?_eq_getElem hj)).symm
    · rw [Array.getElem?_eq_none (by omega), List.getElem?_eq_none (by omega)]
  rw [ea]
  refine h s' vs pm (fun b ob e => hm.heap b ob (fun z => ?_) (oth b ob (fun z => ?_) (k1 b ob (old b ob e)))) hm.gens hm.os
  · rcases List.mem_cons.mp z with z | z
    · rw [z, nL] at e
      cases e
    · rw [List.mem_singleton.mp z] at e
      have e' := old _ _ e
      have nI' : H.get? I = none := nI
      rw [e'] at nI'
      cases nI'
  · rw [z, nL] at e
    cases e
end
end CST

namespace CST
open PySem
section
variable {prog : Program} {w : World} {A : Around} {E : Value → Shared → Prop} {s : Shared}
/-! ### set(list of ints) -/
theorem new_set {x : Value} {Q : Value → Shared → Prop} (h : Q (.ref s.heap.objs.size) { s with heap := s.heap.push { cls := .type "set", dict := none, data := .set #[] 0 (.fresh 0 0 (!w.params.followText "set-order")) } }) :
    codeAny (model prog w) A (.call (.builtin "set.__new__") ⟨[.type "set", x], []⟩) (wants Q E) s := by
  refine codeAny_of_tree ?_
  show wpAny _ A.in1 (do checkBuiltinCall "set.__new__" ⟨[.type "set", x], []⟩; again (.builtin "set.__new__" ⟨[.type "set", x], []⟩)) _ _ s
  refine wpAny_bind (wpAny_of_eq (F.newCall_set_1 x) (wpAny_pure ⟨plainId_quiet F.plain_set_new _, codeAny_builtin F.entry_set_new ?_⟩))
  rw [Around.under_plainId F.plain_set_new _]
  unfold Builtin.«set.__new__» Builtin.Frozenset.newClass
  have hsub := sub_set_self
  obtain ⟨hp, gn, d, tk, os⟩ := s
  dsimp only
  wp_walk
  refine wpAny_askSetting (wpAny_pure ?_)
  dsimp only
  simp only [newObj]
  exact wpAny_bind (wpAny_alloc (wpAny_pure (wpAny_pure h)))
variable {R : Result → Shared → Prop} {I : Addr} {fp wr : List Addr} {G : Array GenState → Array GenState → Prop} {n : Nat} {P : Nat → Value → Prop} {St : Nat → Shared → Prop}
theorem GSet.keep {h h' : Heap} {a : Addr} {ks : List Int} (g : GSet (intKind prog w) h a ks) (k : ∀ o, h.get? a = some o → h'.get? a = some o) : GSet (intKind prog w) h' a ks := by
  obtain ⟨o, es, ep, t, ho, r⟩ := g
  exact ⟨o, es, ep, t, k o ho, r⟩
theorem update_loop (W : WalksS prog w A.in1 I fp wr G n P St) (S : Addr) (nS : S ∉ fp) (val : Nat → Int) (hv : ∀ i v, P i v → ∃ t, v = .int (val i) t) (hb : n + 1 < scanBound) :
    ∀ (k i : Nat) (s : Shared) (ks : List Int), n - i = k → i ≤ n → St i s → GSet (intKind prog w) s.heap S ks → (∀ y, y ∈ ks ↔ ∃ j, j < i ∧ val j = y) → ks.length ≤ i →
      (∀ s' ks', Moved (S :: wr) G s s' → GSet (intKind prog w) s'.heap S ks' → (∀ y, y ∈ ks' ↔ ∃ j, j < n ∧ val j = y) → ks'.length ≤ n → R (.ok (.ret .none)) s') →
      codeAny (model prog w) A (.builtin "set.update.loop" ⟨[.ref S, .ref I], []⟩) R s := by
  have nw : S ∉ wr := fun z => nS (W.sub _ z)
  have sub : ∀ b ∈ wr, b ∈ S :: wr := fun b hb => List.mem_cons_of_mem _ hb
  intro k
  induction k with
  | zero =>
    intro i s ks hk hi st g mem len fin
    have e : i = n := by omega
    subst e
    refine codeAny_builtin PyProof.Rows.F.entry_set_update_loop ?_
    rw [Around.under_plainId PyProof.Rows.F.plain_set_update_loop _]
    show wpAny _ A.in1 (pyNext (.ref I) >>= _) _ _ s
    refine wpAny_bind (W.done s _ _ st fun s' hm => ?_)
    show wpAny _ A.in1 (ret Value.none) _ _ s'
    exact wpAny_pure (fin s' ks (hm.mono sub) (g.keep fun o e => hm.heap S o nw e) mem len)
  | succ k ih =>
    intro i s ks hk hi st g mem len fin
    refine codeAny_builtin PyProof.Rows.F.entry_set_update_loop ?_
    rw [Around.under_plainId PyProof.Rows.F.plain_set_update_loop _]
    show wpAny _ A.in1 (pyNext (.ref I) >>= _) _ _ s
    refine wpAny_bind (W.item i s _ _ (by omega) st fun v s' hP st' hm => ?_)
    obtain ⟨tk, rfl⟩ := hv i v hP
    have g' := g.keep fun o e => hm.heap S o nw e
    show wpAny _ A.in1 (holding [Value.int (val i) tk] (setAdd S (.int (val i) tk)) >>= _) _ _ s'
    refine wpAny_bind (wpAny_holding ?_)
    unfold setAdd
    refine wpAny_holding (wpAny_bind ((intKind prog w).pyHash (k := val i) (intKind_is _ _ _ _) ?_))
    refine add_g (knd := intKind prog w) (s := { s' with toks := s'.toks + 1 }) (intKind_is _ _ _ _) rfl g' (by omega) fun b h' ks' sb g2 pm => ?_
    have len' : ks'.length ≤ i + 1 := by
      rw [pm.length_eq]
      split
      · omega
      · rw [List.length_append, List.length_singleton]; omega
    have mem' : ∀ y, y ∈ ks' ↔ ∃ j, j < i + 1 ∧ val j = y := fun y => by
      rw [pm.mem_iff]
      constructor
      · intro hy
        split at hy
        · obtain ⟨j, h1, h2⟩ := (mem y).mp hy
          exact ⟨j, by omega, h2⟩
        · rcases List.mem_append.mp hy with z | z
          · obtain ⟨j, h1, h2⟩ := (mem y).mp z
            exact ⟨j, by omega, h2⟩
          · exact ⟨i, by omega, (List.mem_singleton.mp z).symm⟩
      · rintro ⟨j, h1, h2⟩
        have old : ∀ {z}, z ∈ ks → z ∈ (if val i ∈ ks then ks else ks ++ [val i]) := fun {z} hz => by
          split
          · exact hz
          · exact List.mem_append_left _ hz
        by_cases c : j < i
        · exact old ((mem y).mpr ⟨j, c, h2⟩)
        · have e : j = i := by omega
          subst e
          split
          · rw [← h2]; assumption
          · rw [← h2]; exact List.mem_append_right _ (List.mem_singleton.mpr rfl)
    refine wpAny_pure ⟨plainId_quiet PyProof.Rows.F.plain_set_update_loop _, ih (i + 1) _ ks' (by omega) (by omega) (W.frame _ s' _ _ st' (Nat.le_succ _) fun b hb o e => ?_) g2 mem' len' fun s2 ks2 hm2 g3 m3 l3 => ?_⟩
    · rw [sb.2 b (fun z : b = S => nS (by rw [← z]; exact hb))]; exact e
    · refine fin s2 ks2 (Moved.trans W.gtrans ((hm.mono sub).then_heap (Nat.le_succ _) fun b o hb e => ?_) hm2) g3 m3 l3
      rw [sb.2 b (fun z : b = S => hb (by rw [z]; exact List.mem_cons_self))]; exact e
end
end CST

namespace CST
open PySem
section
variable {prog : Program} {w : World} {A : Around} {E : Value → Shared → Prop} {s : Shared}
abbrev nSet (w : World) : Obj := { cls := .type "set", dict := none, data := .set #[] 0 (.fresh 0 0 (!w.params.followText "set-order")) }
theorem gset_new {h : Heap} {a : Addr} (ho : h.get? a = some (nSet w)) : GSet (intKind prog w) h a [] := by
  refine ⟨_, #[], 0, _, ho, ⟨rfl, rfl, rfl⟩, rfl, .nil, List.nodup_nil, by decide, rfl, ?_⟩
  exact good_fresh (w.params.followText "set-order")
theorem set_of_list {l : Addr} {items : Array Value} {ns : List Int} {Q : Value → Shared → Prop} (hh : A.handled = none) (hl : s.heap.IsList l items) (hi : PyProof.Rows.IntsAre items.toList ns) (hb : items.size + 1 < scanBound)
    (h : ∀ (h' : Heap) (tk : Nat) (ks : List Int), GSet (intKind prog w) h' s.heap.objs.size ks → (∀ y, y ∈ ks ↔ y ∈ ns) → ks.length ≤ items.size → (∀ b o, s.heap.get? b = some o → h'.get? b = some o) → Q (.ref s.heap.objs.size) { s with heap := h', toks := tk }) :
    wpAny (model prog w) A (call (.type "set") [.ref l]) Q E s := by
  obtain ⟨c, tl, hmro⟩ := F.called_set.mro
  have hmade := F.called_set.made
  have hsub := F.called_set.sub
  have h1 := F.called_set.notType
  have h2 := F.called_set.canCreate
  have hct := F.typeCall_set_1 (.ref l)
  refine wpAny_call (codeAny_of_tree (show wpAny _ _ (callAny (.type "set") _) _ _ _ from ?_))
  refine wpAny_pure ⟨Code.quiet_builtin _ (by decide +kernel), codeAny_builtin F.entry_type_call ?_⟩
  rw [Around.under_plain (weight_type_call_type "set" [.ref l] []) rfl]
  repeat (any_goals (first | assumption | wp_step))
  refine codeAny_mono (new_set (x := .ref l) (E := E) (Q := fun v s₁ => v = .ref s.heap.objs.size ∧ s₁ = { s with heap := s.heap.push (nSet w) }) ⟨rfl, rfl⟩) fun r s₁ hr => ?_
  cases r with
  | error e => exact hr
  | ok fl =>
    cases fl with
    | ret obj =>
      obtain ⟨rfl, rfl⟩ := hr
      have at0 : (s.heap.push (nSet w)).get? s.heap.objs.size = some (nSet w) := Heap.get?_push_size _ rfl
      have hT : Shared.TypeIs { s with heap := s.heap.push (nSet w) } (.ref s.heap.objs.size) "set" := ⟨_, at0, rfl⟩
      have hli := F.called_set.init.lookup
      have hbi := F.called_set.init.bind (.ref s.heap.objs.size)
      repeat (any_goals (first | assumption | wp_step))
      refine codeAny_mono (codeAny_call_builtin (R := wants (fun r s₂ => r = .none ∧ ∃ h' tk ks, s₂ = { s with heap := h', toks := tk } ∧ GSet (intKind prog w) h' s.heap.objs.size ks ∧ (∀ y, y ∈ ks ↔ y ∈ ns) ∧ ks.length ≤ items.size ∧ (∀ b o, s.heap.get? b = some o → h'.get? b = some o)) E)
        F.called_set.init.plain F.entry_set_init (check_set_init_1 hT ?_)) fun r₂ s₂ hr₂ => ?_
      · obtain ⟨⟨oc, od, odt, osl⟩, hol, hcl, nl, hdl⟩ := id hl
        simp only at hcl hdl
        subst hcl hdl
        have old : (s.heap.push (nSet w)).get? l = some { cls := .type "list", dict := od, data := .seq items nl, slots := osl } := Heap.get?_push_of_some _ hol
        have il : (s.heap.push (nSet w)).IsList l items := ⟨_, old, rfl, nl, rfl⟩
        have lt : l < s.heap.objs.size := Heap.lt_size hol
        have u1 := F.sub_list_set
        have u2 := F.sub_list_frozenset
        have u3 : (Value.type "list" == Value.type "dict") = false := by decide
        unfold Builtin.«set.__init__» noKeywords Builtin.Frozenset.updateFrom
        generalize hPI : pyIter = PI
        wp_walk
        subst hPI
        refine wpAny_pyIter_list il (wpAny_bind (wpAny_runValue ?_))
        have sz : (s.heap.push (nSet w)).objs.size = s.heap.objs.size + 1 := Heap.size_push ..
        have ne : l ≠ (s.heap.push (nSet w)).objs.size := by rw [sz]; exact Nat.ne_of_lt (Nat.lt_succ_of_lt lt)
        have h3 : A.in1.in1.in1.handled = none := by simp [hh]
        have nf : s.heap.objs.size ∉ [(s.heap.push (nSet w)).objs.size, l] := by
          rw [sz]
          intro z
          rcases List.mem_cons.mp z with z | z
          · exact absurd z (Nat.ne_of_lt (Nat.lt_succ_self _))
          · exact absurd (List.mem_singleton.mp z) (Nat.ne_of_gt lt)
        have hv : ∀ (i : Nat) (v : Value), items[i]? = some v → ∃ t, v = .int ((fun i => ns.getD i 0) i) t := fun i v e => PyProof.Rows.IntsAre.int_at hi i v (by rw [Array.getElem?_toList]; exact e)
        have ln : items.size = ns.length := by rw [← Array.length_toList]; exact hi.length
        refine update_loop ((Walks.list h3 _ l ne items).toS) s.heap.objs.size nf (fun i => ns.getD i 0) hv hb (items.size - 0) 0 _ [] (by omega) (Nat.zero_le _) ⟨⟨_, Heap.get?_push_size _ rfl, rfl, rfl⟩, il.push _⟩ (gset_new (Heap.get?_push_of_some _ at0)) (fun y => ⟨fun z => (nomatch z), fun ⟨j, z, _⟩ => absurd z (Nat.not_lt_zero _)⟩) (Nat.zero_le _) fun s' ks hm g m ln' => ?_
        obtain ⟨h', g', d', tk', os'⟩ := s'
        have eg : g' = s.gens := hm.gens
        have ed : d' = s.drawn := hm.drawn
        have eo : os' = s.os := hm.os
        subst eg ed eo
        refine wpAny_pure (wpAny_pure ⟨rfl, h', tk', ks, rfl, g, fun y => ?_, ln', fun b o e => ?_⟩)
        · rw [m y]
          constructor
          · rintro ⟨j, z1, z2⟩
            rw [← z2]
            show ns.getD j 0 ∈ ns
            rw [List.getD_eq_getElem?_getD, List.getElem?_eq_getElem (by omega)]
            exact List.getElem_mem _
          · intro z
            obtain ⟨j, hj, e⟩ := List.getElem_of_mem z
            refine ⟨j, by omega, ?_⟩
            show ns.getD j 0 = y
            rw [List.getD_eq_getElem?_getD, List.getElem?_eq_getElem hj]
            exact e
        · refine hm.heap b o (fun z => ?_) (Heap.get?_push_of_some _ (Heap.get?_push_of_some _ e))
          have lb := Heap.lt_size e
          rcases List.mem_cons.mp z with z | z
          · exact absurd z (Nat.ne_of_lt lb)
          · exact absurd (List.mem_singleton.mp z) (by rw [sz]; exact Nat.ne_of_lt (Nat.lt_succ_of_lt lb))
      · cases r₂ with
        | error e => exact hr₂
        | ok fl₂ =>
          cases fl₂ with
          | ret r =>
            obtain ⟨rfl, h', tk, ks, rfl, g, m, ln, k⟩ := hr₂
            repeat (any_goals (first | assumption | wp_step))
            exact h _ _ ks g m ln k
          | _ => exact hr₂.elim
    | _ => exact hr.elim
end
end CST

namespace CST
open PySem PyProof.Rows
section
variable {prog : Program} {w : World} {A : Around} {E : Value → Shared → Prop} {s : Shared}
theorem ints_paired : ∀ {l : List (Int × Value)} {ks : List Int}, Paired (Mem (intKind prog w)) l ks → IntsAre (l.map (·.2)) ks
  | _, _, .nil => .nil
  | e :: l, k :: ks, .cons r t => by
    obtain ⟨tk, h⟩ := Value.isInt_shape r.1
    rw [List.map_cons, h]
    exact .cons k tk (ints_paired t)
theorem ints_perm : ∀ {vs us : List Value}, vs.Perm us → ∀ {ns : List Int}, IntsAre us ns → ∃ ms : List Int, IntsAre vs ms ∧ ms.Perm ns := by
  intro vs us p
  have q := p.symm
  clear p
  induction q with
  | nil => intro ns h; exact ⟨ns, h, List.Perm.refl _⟩
  | cons x _ ih =>
    intro ns h
    cases h with
    | cons n t r =>
      obtain ⟨ms, h1, h2⟩ := ih r
      exact ⟨n :: ms, .cons n t h1, h2.cons n⟩
  | swap x y l =>
    intro ns h
    cases h with
    | cons n t r =>
      cases r with
      | cons m u r2 => exact ⟨_, .cons m u (.cons n t r2), List.Perm.swap _ _ _⟩
  | trans _ _ ih1 ih2 =>
    intro ns h
    obtain ⟨m1, h1, p1⟩ := ih1 h
    obtain ⟨m2, h2, p2⟩ := ih2 h1
    exact ⟨m2, h2, p2.trans p1⟩
/-- sorted(set of ints) -/
theorem sorted_set {a : Addr} {ks : List Int} {Q : Value → Shared → Prop} (hh : A.handled = none) (g : GSet (intKind prog w) s.heap a ks) (h64 : ks.length < 64)
    (h : ∀ (s' : Shared) (l : Addr) (out : Array Value) (ms : List Int) (e : Nat), IntsAre out.toList ms → ms.Perm ks → ms.Pairwise (· ≤ ·) → (∀ b o, s.heap.get? b = some o → s'.heap.get? b = some o) → a < l → s'.heap.get? l = some (seqObj "list" out e) → s'.gens = s.gens → s'.os = s.os → Q (.ref l) s') :
    wpAny (model prog w) A (call (.builtin "sorted") [.ref a]) Q E s := by
  obtain ⟨o, es, ep, t, ho, hex, hd, hp, nd, hb, hf, gd⟩ := g
  have lk : es.size = ks.length := by rw [← Array.length_toList]; exact Paired.length hp
  have line : es.size ≤ sizeLine := by rw [sizeLine_eq]; omega
  refine Calls.call_function_entry kind_sorted plain_sorted entry_sorted (args_sorted1 _) ?_
  unfold Builtin.«sorted»
  refine wpAny_bind (m := checkCount "sorted" 1 1 _) (wpAny_pure (wpAny_bind (collect_set (by exact hh) hex.1 ho hd hf gd line fun s' vs pm k eg eo => ?_)))
  have lv : vs.length = ks.length := by rw [pm.length_eq, List.length_map, Array.length_toList, lk]
  obtain ⟨ms, im, mp⟩ := ints_perm pm (ints_paired hp)
  refine wpAny_bind (wpAny_newList ?_ (by rw [lv, ← lk]; exact line))
  have at1 : (s'.heap.push (seqObj "list" vs.toArray 0)).get? s'.heap.objs.size = some (seqObj "list" vs.toArray 0) := Heap.get?_push_size _ rfl
  refine wpAny_bind (wpAny_holding (wpAny_call_entry slot_list_sort ⟨_, at1, rfl⟩ entry_list_sort (list_sort_tree (s := { s' with heap := s'.heap.push (seqObj "list" vs.toArray 0) }) at1 im (by omega) fun out ns' a1 a2 a3 => ⟨_, rfl, ?_⟩) (args_list_sort _)))
  refine wpAny_pure ⟨_, rfl, ?_⟩
  obtain ⟨e, he⟩ := sortedHeap_at (out := out) at1
  have lt : ∀ b ob, s.heap.get? b = some ob → b < s'.heap.objs.size := fun b ob z => Heap.lt_size (k b ob z)
  refine h _ s'.heap.objs.size out ns' e a1 (a2.trans mp) a3 (fun b ob z => ?_) ?_ he eg eo
  · show (sortedHeap _ _ _ _).get? b = _
    rw [sortedHeap_old (Nat.ne_of_lt (lt b ob z)) (by rw [size_push']; exact Nat.lt_succ_of_lt (lt b ob z))]
    exact Heap.get?_push_of_some _ (k b ob z)
  · exact lt a o ho
end
end CST
namespace L2
open PySem PySem.Spec PyProof.Rows PySem.W
/-! ### sorted(xs), xs a list of ints -/
theorem ints_vals : ∀ {us : List Value} {ns : List Int}, IntsAre us ns → Vals (ns.map V.int) us
  | _, _, .nil => .nil
  | _, _, .cons n t r => .cons ⟨t, rfl⟩ (ints_vals r)
section
variable {X : Cx}
/-! ### sorted(set(xs)), xs a list of ints -/
def tSortSet (K : PySem.W.Frag) (te : TE) : TE := fun σ H Q => te σ H fun x H1 => ∃ (a : Addr) (ns : List Int), x = .ref a ∧ SqL K H1 a (ns.map V.int) ∧ ns.length < 64 ∧
  ∀ (l : Addr) (ms : List Int), H1 l = none → ms.Pairwise (· < ·) → (∀ y, y ∈ ms ↔ y ∈ ns) → Q (.ref l) (upd H1 l (.lst (ms.map V.int)))
theorem lt_of_le_nd : ∀ {ms : List Int}, ms.Pairwise (· ≤ ·) → ms.Nodup → ms.Pairwise (· < ·)
  | [], _, _ => .nil
  | x :: ms, h, n => by
    rw [List.pairwise_cons] at h
    rw [List.nodup_cons] at n
    rw [List.pairwise_cons]
    refine ⟨fun y hy => ?_, lt_of_le_nd h.2 n.2⟩
    have := h.1 y hy
    have ne : x ≠ y := fun z => n.1 (by rw [z]; exact hy)
    omega
theorem pe_sortSet {e : Expr} {te : TE} {p1 p2 pos1 pos2 : Pos} (he : PE X e te) (hc : X.calm = true) (hg1 : Gl X "sorted") (hm1 : X.mg "sorted" = none) (hg2 : Gl X "set") (hm2 : X.mg "set" = none)
    (hv1 : bootBuiltins "sorted" = some (.builtin "sorted") := by rfl) (hv2 : bootBuiltins "set" = some (.type "set") := by rfl)
    (hs1 : starEach [.Call (.Name "set" p2) [e] [] pos2] X.env = [(false, eval (.Call (.Name "set" p2) [e] [] pos2) X.env)] := by rfl) (hs2 : starEach [e] X.env = [(false, eval e X.env)] := by rfl) :
    PE X (.Call (.Name "sorted" p1) [.Call (.Name "set" p2) [e] [] pos2] [] pos1) (tSortSet X.K te) := by
  intro pins s σ H Q I h
  refine wpAny_Call_Name_kw (ld_blt I hg1 hm1 hv1 ?_ (by decide) (by decide))
  refine PyProof.Rows.callWith_builtin1 ?_ hs1 rfl
  rw [hs1]
  show wpAny _ _ (spliced ((false, eval (.Call (.Name "set" p2) [e] [] pos2) X.env) :: backTo pos1 [])) _ _ s
  refine Calls.spliced_cons ?_
  refine wpAny_Call_Name_kw (ld_blt I hg2 hm2 hv2 ?_ (by decide) (by decide))
  refine PyProof.Rows.callWith_type1 ?_ hs2 rfl
  rw [hs2]
  show wpAny _ _ (spliced ((false, eval e X.env) :: backTo pos2 [])) _ _ s
  refine Calls.spliced_cons (thn (he pins s σ H _ I h) fun u s1 ⟨x, H1, I1, r1, a, ns, ex, hq, l64, q⟩ => ?_)
  subst ex
  cases r1
  refine Calls.spliced_nil ?_
  obtain ⟨its, rv, pl, hz⟩ := I1.list hq
  have hl := rv.length
  rw [List.length_map] at hl
  have hh : X.A.handled = none := I.ok.hd hc
  refine CST.set_of_list (items := its.toArray) (ns := ns) hh pl.isList (ints_rel rv) (by rw [List.size_toArray]; unfold scanBound; omega) fun h2 tk ks g mem len k2 => ?_
  refine Calls.spliced_nil ?_
  rw [List.size_toArray] at len
  refine CST.sorted_set (s := { s1 with heap := h2, toks := tk }) hh g (by omega) fun s' l out ms ee im pm pw k3 al hl' eg eo => ?_
  have nd : ms.Nodup := by
    obtain ⟨_, _, _, _, _, _, _, _, nd, _⟩ := g
    exact pm.nodup_iff.mpr nd
  have lt := lt_of_le_nd pw nd
  have kk : ∀ b ob, s1.heap.get? b = some ob → s'.heap.get? b = some ob := fun b ob z => k3 b ob (k2 b ob z)
  have le : s1.heap.objs.size ≤ l := Nat.le_of_lt al
  have lp : (ms.map V.int).length ≤ sizeLine := by rw [List.length_map, pm.length_eq, sizeLine_eq]; omega
  have new : ObjOk X.prog X.w (upd H1 l (.lst (ms.map V.int))) s'.heap l (.lst (ms.map V.int)) := ⟨lp, out.toList, ee, ints_vals im, hl'⟩
  refine ⟨.ref l, upd H1 l (.lst (ms.map V.int)), I1.call' (s' := s') (ch := []) eo (Un.laid kk le (I1.hok.fresh le)) (I1.hok.laid kk le new) (by rw [eg]; exact I1.bare) (fun b z => (nomatch z)), rfl, q l ms (I1.hok.fresh le) lt fun y => ?_⟩
  rw [pm.mem_iff]
  exact mem y
end
end L2

namespace L2
open PySem PySem.Spec PyProof.Rows PySem.W
/-! ### min(xs), max(xs) of ints: the least, the greatest -/
section
variable {X : Cx}
theorem ints_items {ns : List Int} {its : List Value} (rv : Vals (ns.map V.int) its) : ∃ ys, its.toArray = intItems ys ∧ ys.size = ns.length ∧ ∀ i, (h : i < ns.length) → numAt ys i = ns[i] := by
  have hi : IntsAre its ns := intsAre_of rv
  obtain ⟨ys, ey⟩ := hi.allInts.items
  have lenI : its.length = ns.length := hi.length
  have hy : ys.size = ns.length := by
    have z := congrArg Array.size ey
    rw [List.size_toArray] at z
    unfold intItems at z
    rw [Array.size_map] at z
    omega
  refine ⟨ys, ey, hy, fun i h => ?_⟩
  obtain ⟨u, hu, t, ru⟩ := rv.get (i := i) (x := .int ns[i]) (by rw [List.getElem?_map, List.getElem?_eq_getElem h]; rfl)
  have e1 : (intItems ys)[i]? = some u := by rw [← ey, List.getElem?_toArray]; exact hu
  obtain ⟨t', e2⟩ := intItems_at e1
  rw [ru] at e2
  injection e2 with e3
  exact e3.symm
def rBest (K : PySem.W.Frag) (le : Int → Int → Prop) : List V → Hp → VK → Prop := fun xs H Q => ∃ p, ∃ ns : List Int, xs = [.ref p] ∧ SqL K H p (ns.map V.int) ∧ ns ≠ [] ∧ ∀ m ∈ ns, (∀ k ∈ ns, le m k) → Q (.int m) H
theorem call_minX (hc : X.calm = true) : CallR X (.builtin "min") (rBest X.K (fun m k => m ≤ k)) := by
  intro pins s σ H xs us Q I r h
  obtain ⟨p, ns, rfl, hq, hne, q⟩ := h
  obtain ⟨u, rfl, rx⟩ := vals1 r
  cases rx
  obtain ⟨its, rv, pl, hz⟩ := I.list hq
  obtain ⟨ys, ey, hy, hn⟩ := ints_items rv
  have hl : s.heap.IsList p (intItems ys) := ey ▸ pl.isList
  have hpos : 0 < ns.length := List.length_pos_iff.mpr hne
  refine min_intList (I.ok.hd hc) hl (by omega) fun v h' tk hv hk => ?_
  obtain ⟨b1, b2⟩ := argBest_lt (numAt ys) (ys.size - 1)
  obtain ⟨t, rfl⟩ := intItems_at hv
  generalize argBest (fun i j => decide (numAt ys i < numAt ys j)) (ys.size - 1) = z at b1 b2
  have zl : z < ns.length := by omega
  refine ⟨.int (numAt ys z), H, I.kept hk, ⟨t, rfl⟩, q _ ?_ fun k hk' => ?_⟩
  · rw [hn z zl]
    exact List.getElem_mem _
  · obtain ⟨j, hj, e⟩ := List.getElem_of_mem hk'
    rw [← e, ← hn j hj]
    exact b2 j (by omega)
theorem call_maxX (hc : X.calm = true) : CallR X (.builtin "max") (rBest X.K (fun m k => k ≤ m)) := by
  intro pins s σ H xs us Q I r h
  obtain ⟨p, ns, rfl, hq, hne, q⟩ := h
  obtain ⟨u, rfl, rx⟩ := vals1 r
  cases rx
  obtain ⟨its, rv, pl, hz⟩ := I.list hq
  obtain ⟨ys, ey, hy, hn⟩ := ints_items rv
  have hl : s.heap.IsList p (intItems ys) := ey ▸ pl.isList
  have hpos : 0 < ns.length := List.length_pos_iff.mpr hne
  refine max_intList (I.ok.hd hc) hl (by omega) fun v h' tk hv hk => ?_
  obtain ⟨b1, b2⟩ := argBest_gt (numAt ys) (ys.size - 1)
  obtain ⟨t, rfl⟩ := intItems_at hv
  generalize argBest (fun i j => decide (numAt ys i > numAt ys j)) (ys.size - 1) = z at b1 b2
  have zl : z < ns.length := by omega
  refine ⟨.int (numAt ys z), H, I.kept hk, ⟨t, rfl⟩, q _ ?_ fun k hk' => ?_⟩
  · rw [hn z zl]
    exact List.getElem_mem _
  · obtain ⟨j, hj, e⟩ := List.getElem_of_mem hk'
    rw [← e, ← hn j hj]
    exact b2 j (by omega)
/-! ### xs.extend(tuple) -/
def rExtendT : V → List V → Hp → VK → Prop := fun x vs H Q => ∃ l b xs zs, x = .ref l ∧ vs = [.ref b] ∧ H l = some (.lst xs) ∧ H b = some (.tup zs) ∧ xs.length + zs.length ≤ sizeLine ∧ Q .non (upd H l (.lst (xs ++ zs)))
theorem mt_extendT : MtM X "list.extend" rExtendT := by
  intro pins s σ H x vs v us Q I rx rv h
  obtain ⟨l, b, xs, zs, rfl, rfl, hH, hB, hz, q⟩ := h
  cases rx
  obtain ⟨u, rfl, ru⟩ := rv.one
  cases ru
  obtain ⟨z, its, n, r, hl, e⟩ := I.lstM hH
  obtain ⟨z2, its2, r2, ob, e2, hc2, n2, hd2⟩ := (show ObjOk X.prog X.w H s.heap b (.tup zs) from I.hok b _ hB)
  have l1 := r.length
  have l2 := r2.length
  have sz : its.toArray.size + its2.toArray.size ≤ sizeLine := by rw [List.size_toArray, List.size_toArray]; omega
  have no : ¬ (!its.toArray.isEmpty && Builtin.List.listTooLong (its.toArray.size + its2.toArray.size)) = true := by rw [notLongL sz, Bool.and_false]; exact Bool.false_ne_true
  refine wpAny_call_entry F.slot_list_extend ⟨_, e, rfl⟩ F.entry_list_extend ?_ (F.args_list_extend_2 _ _)
  show wpAny _ _ (Builtin.List.listExtendWith (.ref l) (.ref b) .none) _ _ _
  unfold Builtin.List.listExtendWith
  refine wpAny_bind (wpAny_typeOf (T := "tuple") ⟨_, e2, hc2⟩ ?_)
  rw [if_pos (by simp)]
  refine wpAny_bind (listItems_at e2 hd2 (wpAny_bind (listItems_at e rfl ?_)))
  rw [if_neg no]
  refine wpAny_bind (listUpdate_at e rfl ?_ (by rw [List.size_toArray]; omega) (by rw [Array.size_append]; omega))
  refine wpAny_pure ⟨_, rfl, .non, _, I.lset (its' := its ++ its2) hH e (by simp) (r.append r2) ?_, rfl, q⟩
  rw [List.length_append]
  omega
end
end L2

/-! Spans, bounds, parts: the reckoning. -/
namespace CRP
abbrev Tr3 := Int × Int × Int
/-- the first span that c isn't in, from the k-th on -/
def fwFrom : List (Int × Int) → Int → Int → Int
  | [], _, _ => -1
  | (a, b) :: r, k, c => if c < a ∨ b ≤ c then k else fwFrom r (k + 1) c
def fw (sp : List (Int × Int)) (c : Int) : Int := fwFrom sp 0 c
theorem fw_same {l c : Int} (h : l ≤ c) : ∀ (sp : List (Int × Int)) (k : Int), (∀ p ∈ sp, ¬ (l < p.1 ∧ p.1 ≤ c) ∧ ¬ (l < p.2 ∧ p.2 ≤ c)) → fwFrom sp k c = fwFrom sp k l
  | [], _, _ => rfl
  | (a, b) :: r, k, no => by
    have ih := fw_same h r (k + 1) fun p hp => no p (List.mem_cons_of_mem _ hp)
    obtain ⟨n1, n2⟩ := no (a, b) List.mem_cons_self
    unfold fwFrom
    dsimp only at n1 n2
    by_cases z : c < a ∨ b ≤ c
    · rw [if_pos z, if_pos (by omega)]
    · rw [if_neg z, if_neg (by omega), ih]
/-- a part more, put to the last one where it is like it -/
def stepP : List Tr3 → Int → Int → Int → List Tr3
  | [], lo, hi, k => [(lo, hi, k)]
  | [(l, h, k')], lo, hi, k => if k' = k then [(l, hi, k)] else [(l, h, k'), (lo, hi, k)]
  | x :: y :: r, lo, hi, k => x :: stepP (y :: r) lo hi k
theorem stepP_snoc (l h k' lo hi k : Int) : ∀ init : List Tr3, stepP (init ++ [(l, h, k')]) lo hi k = if k' = k then init ++ [(l, hi, k)] else init ++ [(l, h, k')] ++ [(lo, hi, k)]
  | [] => by
    show stepP [(l, h, k')] lo hi k = _
    unfold stepP
    by_cases z : k' = k
    · rw [if_pos z, if_pos z]; rfl
    · rw [if_neg z, if_neg z]; rfl
  | [x] => by
    have ih := stepP_snoc l h k' lo hi k []
    show x :: stepP [(l, h, k')] lo hi k = _
    rw [show stepP [(l, h, k')] lo hi k = _ from ih]
    by_cases z : k' = k
    · rw [if_pos z, if_pos z]; rfl
    · rw [if_neg z, if_neg z]; rfl
  | x :: y :: r => by
    have ih := stepP_snoc l h k' lo hi k (y :: r)
    show x :: stepP (y :: r ++ [(l, h, k')]) lo hi k = _
    rw [ih]
    by_cases z : k' = k
    · rw [if_pos z, if_pos z]; rfl
    · rw [if_neg z, if_neg z]; rfl
/-- parts end to end from s to e, neighbours unlike, each of like cents -/
def Ch (f : Int → Int) : Int → Option Int → List Tr3 → Int → Prop
  | s, _, [], e => s = e
  | s, lk, (l, h, k) :: r, e => l = s ∧ l < h ∧ lk ≠ some k ∧ (∀ c, l ≤ c → c < h → f c = k) ∧ Ch f h (some k) r e
theorem Ch.step {f : Int → Int} {hi k : Int} : ∀ {told : List Tr3} {s : Int} {lk : Option Int} {e : Int}, Ch f s lk told e → e < hi → (∀ c, e ≤ c → c < hi → f c = k) → (told = [] → lk ≠ some k) → Ch f s lk (stepP told e hi k) hi
  | [], s, lk, e, h, h1, h2, h3 => by
    have e' : s = e := h
    subst e'
    exact ⟨rfl, h1, h3 rfl, h2, rfl⟩
  | [(l, h, k')], s, lk, e, ⟨a1, a2, a3, a4, a5⟩, h1, h2, h3 => by
    have e' : h = e := a5
    subst e'
    unfold stepP
    by_cases z : k' = k
    · rw [if_pos z]
      refine ⟨a1, by omega, by rw [← z]; exact a3, fun c c1 c2 => ?_, rfl⟩
      by_cases q : c < h
      · rw [a4 c c1 q, z]
      · exact h2 c (by omega) c2
    · rw [if_neg z]
      exact ⟨a1, a2, a3, a4, rfl, h1, fun q => z (Option.some.inj q), h2, rfl⟩
  | (l, h, k') :: y :: r, s, lk, e, ⟨a1, a2, a3, a4, a5⟩, h1, h2, h3 => by
    unfold stepP
    exact ⟨a1, a2, a3, a4, Ch.step (told := y :: r) a5 h1 h2 fun z => by cases z⟩
/-- the parts told by the first i pairs of neighbouring bounds -/
def foldP (sp : List (Int × Int)) (ms : List Int) (i : Nat) : List Tr3 := (List.range i).foldl (fun told j => stepP told (ms.getD j 0) (ms.getD (j + 1) 0) (fw sp (ms.getD j 0))) []
theorem foldP_succ (sp : List (Int × Int)) (ms : List Int) (i : Nat) : foldP sp ms (i + 1) = stepP (foldP sp ms i) (ms.getD i 0) (ms.getD (i + 1) 0) (fw sp (ms.getD i 0)) := by
  unfold foldP
  rw [List.range_succ, List.foldl_append]
  rfl
theorem stepP_len (lo hi k : Int) : ∀ told : List Tr3, (stepP told lo hi k).length ≤ told.length + 1
  | [] => by unfold stepP; simp
  | [(l, h, k')] => by unfold stepP; split <;> simp
  | x :: y :: r => by
    have := stepP_len lo hi k (y :: r)
    unfold stepP
    simp only [List.length_cons] at *
    omega
theorem foldP_len (sp : List (Int × Int)) (ms : List Int) : ∀ i, (foldP sp ms i).length ≤ i
  | 0 => Nat.zero_le _
  | i + 1 => by
    rw [foldP_succ]
    have := foldP_len sp ms i
    have := stepP_len (ms.getD i 0) (ms.getD (i + 1) 0) (fw sp (ms.getD i 0)) (foldP sp ms i)
    omega
theorem get_lt {ms : List Int} (h : ms.Pairwise (· < ·)) {i j : Nat} (hij : i < j) (hj : j < ms.length) : ms.getD i 0 < ms.getD j 0 := by
  rw [List.getD_eq_getElem?_getD, List.getD_eq_getElem?_getD, List.getElem?_eq_getElem (by omega), List.getElem?_eq_getElem hj]
  exact List.pairwise_iff_getElem.mp h i j (by omega) hj hij
/-- between neighbouring bounds there is none -/
theorem fold_ch {sp : List (Int × Int)} {ms : List Int} (h : ms.Pairwise (· < ·)) (hb : ∀ p ∈ sp, p.1 ∈ ms ∧ p.2 ∈ ms) : ∀ i, i < ms.length → ms.getD 0 0 = 0 → Ch (fw sp) 0 none (foldP sp ms i) (ms.getD i 0)
  | 0, _, h0 => h0.symm
  | i + 1, hi, h0 => by
    have ih := fold_ch h hb i (by omega) h0
    rw [foldP_succ]
    refine ih.step (get_lt h (Nat.lt_succ_self _) hi) (fun c c1 c2 => ?_) (fun _ z => by cases z)
    refine fw_same c1 sp 0 fun p hp => ?_
    have no : ∀ y ∈ ms, ¬ (ms.getD i 0 < y ∧ y ≤ c) := fun y hy ⟨z1, z2⟩ => by
      obtain ⟨j, hj, e⟩ := List.getElem_of_mem hy
      have ej : ms.getD j 0 = y := by rw [List.getD_eq_getElem?_getD, List.getElem?_eq_getElem hj]; exact e
      rcases Nat.lt_trichotomy j (i + 1) with q | q | q
      · rcases Nat.lt_or_ge j i with q' | q'
        · have := get_lt h q' (by omega); omega
        · have : j = i := by omega
          subst this; omega
      · subst q; omega
      · have := get_lt h q hj; omega
    exact ⟨no _ (hb p hp).1, no _ (hb p hp).2⟩
theorem Ch.head {f : Int → Int} {s : Int} {lk : Option Int} {e : Int} : ∀ {ps : List Tr3}, Ch f s lk ps e → s < e → ∃ p, ps[0]? = some p ∧ p.1 = s
  | [], h, z => absurd (show s = e from h) (by omega)
  | (l, hh, k) :: r, h, _ => ⟨_, rfl, h.1⟩
theorem Ch.get {f : Int → Int} : ∀ {ps : List Tr3} {s : Int} {lk : Option Int} {e : Int} {i : Nat} {p : Tr3}, Ch f s lk ps e → ps[i]? = some p → p.1 < p.2.1 ∧ (∀ c, p.1 ≤ c → c < p.2.1 → f c = p.2.2) ∧ (p.2.1 < e → ∃ q, ps[i + 1]? = some q ∧ q.1 = p.2.1) ∧ s ≤ p.1 ∧ p.2.1 ≤ e
  | [], _, _, _, _, _, _, z => by simp at z
  | (l, h, k) :: r, s, lk, e, 0, p, ⟨a1, a2, a3, a4, a5⟩, z => by
    simp at z
    subst z
    refine ⟨a2, a4, fun q => ?_, by show s ≤ l; omega, ?_⟩
    · obtain ⟨p, h1, h2⟩ := a5.head q
      exact ⟨p, by simpa using h1, h2⟩
    · show h ≤ e
      cases r with
      | nil => exact Int.le_of_eq (show h = e from a5)
      | cons x r =>
        have := Ch.get (i := 0) a5 rfl
        omega
  | (l, h, k) :: r, s, lk, e, i + 1, p, ⟨a1, a2, a3, a4, a5⟩, z => by
    obtain ⟨b1, b2, b3, b4, b5⟩ := Ch.get (i := i) a5 (by simpa using z)
    refine ⟨b1, b2, fun q => ?_, by omega, b5⟩
    obtain ⟨y, h1, h2⟩ := b3 q
    exact ⟨y, by simpa using h1, h2⟩
theorem Ch.congr {f g : Int → Int} : ∀ {ps : List Tr3} {s : Int} {lk : Option Int} {e : Int}, Ch f s lk ps e → (∀ c, s ≤ c → c < e → f c = g c) → Ch g s lk ps e
  | [], _, _, _, h, _ => h
  | (l, h, k) :: r, s, lk, e, hc, q => by
    have le : h ≤ e := (Ch.get (i := 0) (p := (l, h, k)) hc rfl).2.2.2.2
    obtain ⟨a1, a2, a3, a4, a5⟩ := hc
    exact ⟨a1, a2, a3, fun c c1 c2 => by rw [← q c (by omega) (by omega)]; exact a4 c c1 c2, Ch.congr a5 fun c c1 c2 => q c (by omega) c2⟩
end CRP

/-! runs of whole numbers, without the program -/
namespace CR
/-! ### from lo on and below hi -/
/-! ### the lowest -/
/-! ### those that are none of others -/
def maxI (a b : Int) : Int := if b > a then b else a
def minI (a b : Int) : Int := if b < a then b else a
end CR

/-! the turns, as plain functions over lists of ints -/
namespace CR
def at0 (l : List Int) (k : Int) : Int := l.getD k.toNat 0
structure GW (ws : List Int) : Prop where
  lo : 1 ≤ ws.length
  hi : ws.length ≤ 8
  pos : ∀ w ∈ ws, 1 ≤ w
  sum : ws.sum ≤ 100
def may (ws ds : List Int) (t k : Int) : Bool := decide (at0 ds k * ws.sum < at0 ws k * (t + 1))
def due (ws ds : List Int) (k : Int) : Int := ((at0 ds k + 1) * ws.sum + at0 ws k - 1) / at0 ws k
/-- the places among the first n that may have the turn t -/
def placesTo (ws ds : List Int) (t : Int) (n : Nat) : List Int := ((List.range n).map fun k : Nat => (k : Int)).filter fun k => may ws ds t k
def places (ws ds : List Int) (t : Int) : List Int := placesTo ws ds t ws.length
def pick (f : Int → Int) (b : Int) (l : List Int) : Int := l.foldl (fun b p => if f p < f b then p else b) b
def place (ws ds : List Int) (t : Int) : Int := pick (due ws ds) ((places ws ds t).headD 0) (places ws ds t)
def put (ds : List Int) (p : Int) : List Int := ds.set p.toNat (at0 ds p + 1)
/-- behind the first t turns: what each place has, the turns -/
def run (ws : List Int) : Nat → List Int × List Int
  | 0 => (List.replicate ws.length 0, [])
  | t + 1 => (put (run ws t).1 (place ws (run ws t).1 t), (run ws t).2 ++ [place ws (run ws t).1 t])
def wheel (ws : List Int) : List Int := (run ws ws.sum.toNat).2

theorem placesTo_succ (ws ds : List Int) (t : Int) (n : Nat) : placesTo ws ds t (n + 1) = placesTo ws ds t n ++ (if may ws ds t n = true then [(n : Int)] else []) := by
  unfold placesTo
  rw [List.range_succ, List.map_append, List.filter_append]
  congr 1
  by_cases h : may ws ds t n = true
  · simp [h]
  · simp [h]
theorem placesTo_le (ws ds : List Int) (t : Int) (n : Nat) : (placesTo ws ds t n).length ≤ n := by
  unfold placesTo
  refine Nat.le_trans (List.length_filter_le _ _) ?_
  rw [List.length_map, List.length_range]
  exact Nat.le_refl _
theorem placesTo_mem {ws ds : List Int} {t : Int} {n : Nat} {k : Int} (h : k ∈ placesTo ws ds t n) : 0 ≤ k ∧ k < n ∧ may ws ds t k = true := by
  unfold placesTo at h
  obtain ⟨h1, h2⟩ := List.mem_filter.mp h
  obtain ⟨j, hj, rfl⟩ := List.mem_map.mp h1
  have := List.mem_range.mp hj
  exact ⟨by omega, by omega, h2⟩
theorem pick_mem (f : Int → Int) : ∀ (l : List Int) (b : Int), pick f b l = b ∨ pick f b l ∈ l
  | [], b => .inl rfl
  | p :: l, b => by
    show pick f (if f p < f b then p else b) l = b ∨ pick f (if f p < f b then p else b) l ∈ p :: l
    rcases pick_mem f l (if f p < f b then p else b) with h | h
    · rw [h]
      split
      · exact .inr List.mem_cons_self
      · exact .inl rfl
    · exact .inr (List.mem_cons_of_mem _ h)
theorem place_mem {ws ds : List Int} {t : Int} (h : places ws ds t ≠ []) : place ws ds t ∈ places ws ds t := by
  unfold place
  rcases pick_mem (due ws ds) (places ws ds t) ((places ws ds t).headD 0) with e | e
  · rw [e]
    cases q : places ws ds t with
    | nil => exact absurd q h
    | cons p l => exact List.mem_cons_self
  · exact e
/-- the sums: if no place may have the turn, all have too much -/
theorem sum_le : ∀ (ws ds : List Int) (T c : Int), ds.length = ws.length → (∀ k : Nat, k < ws.length → ws.getD k 0 * c ≤ ds.getD k 0 * T) → ws.sum * c ≤ ds.sum * T
  | [], [], _, _, _, _ => by simp
  | [], _ :: _, _, _, h, _ => by simp at h
  | _ :: _, [], _, _, h, _ => by simp at h
  | w :: ws, d :: ds, T, c, h, hk => by
    have ih := sum_le ws ds T c (by simpa using h) fun k hk' => by simpa using hk (k + 1) (by simpa using hk')
    have h0 := hk 0 (by simp)
    simp only [List.sum_cons, List.getD_cons_zero] at *
    rw [Int.add_mul, Int.add_mul]
    omega
theorem sum_pos {ws : List Int} (g : GW ws) : 1 ≤ ws.sum := by
  have aux : ∀ l : List Int, (∀ w ∈ l, 1 ≤ w) → (l.length : Int) ≤ l.sum := by
    intro l
    induction l with
    | nil => intro _; simp
    | cons w l ih =>
      intro h
      have h1 := h w List.mem_cons_self
      have h2 := ih fun x hx => h x (List.mem_cons_of_mem _ hx)
      rw [List.sum_cons, List.length_cons]
      omega
  have := aux ws g.pos
  have := g.lo
  omega
theorem places_ne {ws ds : List Int} {t : Nat} (g : GW ws) (hl : ds.length = ws.length) (hs : ds.sum = t) : places ws ds t ≠ [] := by
  intro h
  have key : ∀ k : Nat, k < ws.length → ws.getD k 0 * ((t : Int) + 1) ≤ ds.getD k 0 * ws.sum := fun k hk => by
    by_cases c : ds.getD k 0 * ws.sum < ws.getD k 0 * ((t : Int) + 1)
    · have m : (k : Int) ∈ places ws ds t := by
        unfold places placesTo
        refine List.mem_filter.mpr ⟨List.mem_map.mpr ⟨k, List.mem_range.mpr hk, rfl⟩, ?_⟩
        unfold may at0
        simpa using c
      rw [h] at m
      cases m
    · omega
  have q := sum_le ws ds ws.sum ((t : Int) + 1) hl key
  rw [hs] at q
  have p := sum_pos g
  have e : ws.sum * ((t : Int) + 1) = (t : Int) * ws.sum + ws.sum := by rw [Int.mul_add, Int.mul_comm, Int.mul_one]
  omega
theorem put_length (ds : List Int) (p : Int) : (put ds p).length = ds.length := by unfold put; rw [List.length_set]
theorem sum_set : ∀ (ds : List Int) (k : Nat) (x : Int), k < ds.length → (ds.set k x).sum = ds.sum - ds.getD k 0 + x
  | [], _, _, h => by simp at h
  | d :: ds, 0, x, _ => by simp only [List.set_cons_zero, List.sum_cons, List.getD_cons_zero]; omega
  | d :: ds, k + 1, x, h => by
    have ih := sum_set ds k x (by simpa using h)
    simp only [List.set_cons_succ, List.sum_cons, List.getD_cons_succ, ih]; omega
theorem put_sum {ds : List Int} {p : Int} (h0 : 0 ≤ p) (h : p < ds.length) : (put ds p).sum = ds.sum + 1 := by
  unfold put at0
  rw [sum_set ds p.toNat _ (by omega)]
  omega
theorem sum_replicate (n : Nat) : (List.replicate n (0 : Int)).sum = 0 := by
  induction n with
  | zero => rfl
  | succ n ih => rw [List.replicate_succ, List.sum_cons, ih]; rfl
/-- what stands behind the first t turns -/
structure At (ws : List Int) (t : Nat) : Prop where
  len : (run ws t).1.length = ws.length
  sum : (run ws t).1.sum = t
  row : (run ws t).2.length = t
  inr : ∀ p ∈ (run ws t).2, 0 ≤ p ∧ p < ws.length
theorem place_in {ws ds : List Int} {t : Nat} (g : GW ws) (hl : ds.length = ws.length) (hs : ds.sum = t) : 0 ≤ place ws ds t ∧ place ws ds t < ws.length ∧ may ws ds t (place ws ds t) = true :=
  placesTo_mem (place_mem (places_ne g hl hs))
theorem run_at {ws : List Int} (g : GW ws) : ∀ t : Nat, At ws t
  | 0 => ⟨by simp [run], by show (List.replicate _ 0).sum = _; rw [sum_replicate]; rfl, rfl, fun _ h => by cases h⟩
  | t + 1 => by
    have a := run_at g t
    obtain ⟨h0, h1, _⟩ := place_in (t := t) g a.len a.sum
    refine ⟨?_, ?_, ?_, fun p hp => ?_⟩
    · show (put _ _).length = _
      rw [put_length, a.len]
    · show (put _ _).sum = _
      rw [put_sum h0 (by rw [a.len]; exact h1), a.sum]
      omega
    · show (_ ++ [_]).length = _
      rw [List.length_append, a.row]
      rfl
    · rcases List.mem_append.mp hp with h | h
      · exact a.inr p h
      · rw [List.mem_singleton.mp h]
        exact ⟨h0, h1⟩
end CR

namespace CR
section
variable {ws : List Int}
end
end CR

namespace CR
section
variable {ws : List Int}
end
end CR

namespace CRL
open PySem L2
def top (i : Nat) : Stmt := PySem.Challenge.pw_coverroll_k39_whole_a_loss_in_pieces.main.body.getD i (.Pass ⟨0, 0, 0, 0⟩)
abbrev s_is_whole : Stmt := top 7
abbrev s_has_letters_alone : Stmt := top 12
abbrev s_is_name : Stmt := top 13
abbrev s_is_amount : Stmt := top 14
abbrev s_are_weights : Stmt := top 18
abbrev s_may_have : Stmt := top 19
abbrev s_due_by : Stmt := top 20
abbrev s_place_of_turn : Stmt := top 21
abbrev s_turns : Stmt := top 22
abbrev s_Deal___init__ : Stmt := inClass (top 23) 0
abbrev s_check_houses : Stmt := top 27
abbrev s_first_without : Stmt := top 28
abbrev s_bounds_of : Stmt := top 29
abbrev s_Cover___init__ : Stmt := inClass (top 30) 0
abbrev s_Cover_spans : Stmt := inClass (top 30) 2
abbrev s_Cover_window : Stmt := inClass (top 30) 3
abbrev s_Cover_parts : Stmt := inClass (top 30) 4
abbrev s_Cover_rest : Stmt := inClass (top 30) 5
abbrev s_checked_amount : Stmt := top 33
abbrev s_cent_at : Stmt := top 34
abbrev s_Clause___init__ : Stmt := inClass (top 35) 0
abbrev s_Clause_span : Stmt := inClass (top 35) 2
abbrev s_Clause_room : Stmt := inClass (top 35) 3
abbrev s_Own___init__ : Stmt := inClass (top 36) 0
abbrev s_Own_span : Stmt := inClass (top 36) 1
abbrev s_Layer___init__ : Stmt := inClass (top 37) 0
abbrev s_Layer_span : Stmt := inClass (top 37) 1
abbrev s_Limit___init__ : Stmt := inClass (top 38) 0
abbrev s_Limit_room : Stmt := inClass (top 38) 1
abbrev s__law_cell : Stmt := top 42
abbrev s__law_amount : Stmt := top 43
abbrev s__law_count : Stmt := top 44
abbrev s__law_row : Stmt := top 45
abbrev s__law_clause : Stmt := top 46
abbrev s__law_paid : Stmt := top 47
abbrev s__law_put : Stmt := top 48
abbrev s__law_behind : Stmt := top 49
abbrev s__law_rest_left : Stmt := top 50
abbrev s__law_cut_off : Stmt := top 51
abbrev s_law : Stmt := top 52
/-- what the text's own names stand for -/
structure Txt (K : PySem.W.Frag) (mg : Str → Option Value) : Prop where
  g_COVERED_ONE : GStr mg "COVERED_ONE" "self"
  g_LETTERS : GStr mg "LETTERS" "abcdefghijklmnopqrstuvwxyz"
  g_LONGEST_NAME : GInt mg "LONGEST_NAME" 8
  g_MOST_CENTS : GInt mg "MOST_CENTS" 999999999999
  g_MOST_CLAUSES : GInt mg "MOST_CLAUSES" 8
  g_MOST_PLACES : GInt mg "MOST_PLACES" 8
  g_MOST_TURNS : GInt mg "MOST_TURNS" 100
  n_bool : mg "bool" = none
  n_enumerate : mg "enumerate" = none
  n_int : mg "int" = none
  n_isinstance : mg "isinstance" = none
  n_len : mg "len" = none
  n_list : mg "list" = none
  n_max : mg "max" = none
  n_min : mg "min" = none
  n_range : mg "range" = none
  n_set : mg "set" = none
  n_sorted : mg "sorted" = none
  n_str : mg "str" = none
  n_sum : mg "sum" = none
  n_zip : mg "zip" = none
  t_WAYS : GTup K mg "WAYS" [.str "event", .str "thing", .str "year", .str "loss"]
/-- the text's own classes -/
structure Kl (K : PySem.W.Frag) (mg : Str → Option Value) (C_Clause C_Own C_Layer C_Limit C_Deal C_Cover C_Condition : Addr) : Prop where
  mg_Clause : mg "Clause" = some (.ref C_Clause)
  cl_Clause : Cls K C_Clause
  na_Clause_by : NoAttr K C_Clause "by"
  mg_Own : mg "Own" = some (.ref C_Own)
  cl_Own : Cls K C_Own
  na_Own_cents : NoAttr K C_Own "cents"
  na_Own_by : NoAttr K C_Own "by"
  mg_Layer : mg "Layer" = some (.ref C_Layer)
  cl_Layer : Cls K C_Layer
  na_Layer_first : NoAttr K C_Layer "first"
  na_Layer_upto : NoAttr K C_Layer "upto"
  na_Layer_by : NoAttr K C_Layer "by"
  mg_Limit : mg "Limit" = some (.ref C_Limit)
  cl_Limit : Cls K C_Limit
  na_Limit_most : NoAttr K C_Limit "most"
  na_Limit_by : NoAttr K C_Limit "by"
  mg_Deal : mg "Deal" = some (.ref C_Deal)
  cl_Deal : Cls K C_Deal
  na_Deal_wheel : NoAttr K C_Deal "wheel"
  na_Deal_weights : NoAttr K C_Deal "weights"
  mg_Cover : mg "Cover" = some (.ref C_Cover)
  cl_Cover : Cls K C_Cover
  na_Cover_name : NoAttr K C_Cover "name"
  na_Cover_condition : NoAttr K C_Cover "condition"
  na_Cover_clauses : NoAttr K C_Cover "clauses"
  na_Cover_houses : NoAttr K C_Cover "houses"
  na_Cover_deal : NoAttr K C_Cover "deal"
  na_Cover_waits : NoAttr K C_Cover "waits"
  mg_Condition : mg "Condition" = some (.ref C_Condition)
  cl_Condition : Cls K C_Condition
  nd : ([C_Clause, C_Own, C_Layer, C_Limit, C_Deal, C_Cover, C_Condition] : List Addr).Nodup
/-! ### tests that are known -/
theorem dT {c A B : Prop} [Decidable c] (h : c) (q : A) : if decide c = true then A else B := by rw [decide_eq_true h, if_pos rfl]; exact q
theorem dF {c A B : Prop} [Decidable c] (h : ¬ c) (q : B) : if decide c = true then A else B := by rw [decide_eq_false h, if_neg Bool.false_ne_true]; exact q
theorem nT {c A B : Prop} [Decidable c] (h : ¬ c) (q : A) : if (!decide c) = true then A else B := by rw [decide_eq_false h]; exact q
theorem nF {c A B : Prop} [Decidable c] (h : c) (q : B) : if (!decide c) = true then A else B := by rw [decide_eq_true h]; exact q
theorem bT {c : Bool} {A B : Prop} (h : c = true) (q : A) : if c = true then A else B := by rw [if_pos h]; exact q
theorem bF {c : Bool} {A B : Prop} (h : c = false) (q : B) : if c = true then A else B := by rw [if_neg (by rw [h]; exact Bool.false_ne_true)]; exact q
/-- an int and no bool -/
def wholeV : V → Bool
  | .int _ => true
  | _ => false
theorem whole_kit {K : PySem.W.Frag} {H : Hp} {x : V} {T : String} (h : TyOf K H x (.type T)) : ∃ b1 b2, PySem.W.kitOne K (.type T) (.type "int") = some b1 ∧ PySem.W.kitOne K (.type T) (.type "bool") = some b2 ∧ wholeV x = (b1 && !b2) := by
  cases h with
  | non => exact ⟨false, false, by kernel_rfl, by kernel_rfl, rfl⟩
  | bl b => exact ⟨true, true, by kernel_rfl, by kernel_rfl, rfl⟩
  | int i => exact ⟨true, false, by kernel_rfl, by kernel_rfl, rfl⟩
  | str i => exact ⟨false, false, by kernel_rfl, by kernel_rfl, rfl⟩
  | flt i => exact ⟨false, false, by kernel_rfl, by kernel_rfl, rfl⟩
  | lst e => exact ⟨false, false, by kernel_rfl, by kernel_rfl, rfl⟩
  | frz e => exact ⟨false, false, by kernel_rfl, by kernel_rfl, rfl⟩
  | tup e => exact ⟨false, false, by kernel_rfl, by kernel_rfl, rfl⟩
  | dK e => exact ⟨false, false, by kernel_rfl, by kernel_rfl, rfl⟩
  | dT e => exact ⟨false, false, by kernel_rfl, by kernel_rfl, rfl⟩
theorem kit_ll {K : PySem.W.Frag} : PySem.W.kitOne K (.type "list") (.type "list") = some true := by kernel_rfl
/-! ### promises -/
def spWhole (K : PySem.W.Frag) : Sp := fun vs H Q _ => ∃ x T, vs = [x] ∧ TyOf K H x (.type T) ∧ Q (.bl (wholeV x)) H


def spCell (K : PySem.W.Frag) : Sp := fun vs H Q _ => ∃ a ns, ∃ k : Int, vs = [.ref a, .int k] ∧ SqL K H a (List.map V.int ns) ∧ 0 ≤ k ∧ ns.length ≤ 63 ∧ Q (.int (ns.getD k.toNat 0)) H
section
variable {P : Program} {w : World} {K : PySem.W.Frag} {mg : Str → Option Value} {base : Heap}
theorem sc__law_cell : FnScope ["_law_script", "_law_k"] ["_law_script", "_law_k"] (defScope s__law_cell) := ⟨rfl, rfl, rfl, by decide +kernel, rfl, by decide +kernel, by decide +kernel⟩
theorem ok__law_cell {f : Addr} {fd : FuncData} (F : Fun K "_law_cell" "_law_cell" s__law_cell f fd) (T : Txt K mg) : FnOk P w K mg base CX0 1 f fd ["_law_script", "_law_k"] (spCell K) := by
  have sc := sc__law_cell
  refine F.ok sc (fun vs H Q E h => ?_) (fun cdv A outer s H vs Q E hr h => ?_)
  · obtain ⟨_, _, _, rfl, _⟩ := h
    rfl
  obtain ⟨a, ns, k, rfl, ha, h0, h63, q⟩ := h
  refine ⟨_, (pss_cons (ps_if (pt_cmpR op_lt (pv 1) (pe_callB call_len_seq rfl T.n_len (show bootBuiltins _ = some (.builtin "len") from rfl) (pa_cons (pv 0) pa_nil)) (nomark _))
        (pss_one (ps_ret (pe_ix ix_list (pv 0) (pv 1) (fun _ _ => rfl))))
        pss_nil)
      (pss_one (ps_ret pe_int))), ?_⟩
  have hl : (List.map V.int ns).length = ns.length := List.length_map _
  refine ⟨_, rfl, _, rfl, a, _, rfl, .inl ha, _, _, rfl, rfl, _, rfl, ?_⟩
  rw [hl]
  refine ite2 (fun c => ?_) (fun c => ?_)
  · have c' : k < (ns.length : Int) := of_decide_eq_true c
    exact ⟨_, rfl, _, rfl, a, _, _, _, rfl, rfl, ha, at_intI h0 c', q⟩
  · have c' : ¬ k < (ns.length : Int) := of_decide_eq_false (Bool.eq_false_iff.mpr c)
    have e : ns.getD k.toNat 0 = 0 := by
      rw [List.getD_eq_getElem?_getD, List.getElem?_eq_none (by omega)]
      rfl
    rw [e] at q
    exact q
end


section
variable {P : Program} {w : World} {K : PySem.W.Frag} {mg : Str → Option Value} {base : Heap}
theorem sc_is_whole : FnScope ["thing"] ["thing"] (defScope s_is_whole) := ⟨rfl, rfl, rfl, by decide +kernel, rfl, by decide +kernel, by decide +kernel⟩
theorem ok_is_whole {f : Addr} {fd : FuncData} (F : Fun K "is_whole" "is_whole" s_is_whole f fd) (T : Txt K mg) : FnOk P w K mg base CX0 1 f fd ["thing"] (spWhole K) := by
  have sc := sc_is_whole
  refine F.ok sc (fun vs H Q E h => ?_) (fun cdv A outer s H vs Q E hr h => ?_)
  · obtain ⟨x, T, rfl, _⟩ := h
    rfl
  obtain ⟨x, ty, rfl, hty, q⟩ := h
  refine ⟨_, (pss_one (ps_ret (pe_and (pe_callB call_isinst rfl T.n_isinstance (show bootBuiltins _ = some (.builtin "isinstance") from rfl) (pa_cons (pv 0) (pa_cons (pe_ty "int" rfl T.n_int rfl) pa_nil))) (pe_one (pe_not (pe_callB call_isinst rfl T.n_isinstance (show bootBuiltins _ = some (.builtin "isinstance") from rfl) (pa_cons (pv 0) (pa_cons (pe_ty "bool" rfl T.n_bool rfl) pa_nil)))))))), ?_⟩
  obtain ⟨b1, b2, k1, k2, e⟩ := whole_kit hty
  rw [e] at q
  refine ⟨_, rfl, _, _, _, _, _, rfl, ty_is, hty, k1, _, rfl, ?_⟩
  cases b1 with
  | false => exact q
  | true => exact ⟨_, rfl, _, _, _, _, _, rfl, ty_is, hty, k2, _, rfl, q⟩
end


def inB (m : Int) : V → Bool
  | .int i => decide (0 ≤ i ∧ i ≤ m)
  | _ => false
def spInB (K : PySem.W.Frag) (m : Int) : Sp := fun vs H Q _ => ∃ x T, vs = [x] ∧ TyOf K H x (.type T) ∧ Q (.bl (inB m x)) H
section
variable {P : Program} {w : World} {K : PySem.W.Frag} {mg : Str → Option Value} {base : Heap}
theorem sc_is_amount : FnScope ["thing"] ["thing"] (defScope s_is_amount) := ⟨rfl, rfl, rfl, by decide +kernel, rfl, by decide +kernel, by decide +kernel⟩
theorem ok_is_amount {f : Addr} {fd : FuncData} (F : Fun K "is_amount" "is_amount" s_is_amount f fd) (T : Txt K mg) (Cis_whole : Cal P w K mg base 1 "is_whole" ["thing"] (spWhole K)) : FnOk P w K mg base CX0 2 f fd ["thing"] (spInB K 999999999999) := by
  have sc := sc_is_amount
  refine F.ok sc (fun vs H Q E h => ?_) (fun cdv A outer s H vs Q E hr h => ?_)
  · obtain ⟨_, _, rfl, _⟩ := h
    rfl
  obtain ⟨x, ty, rfl, hty, q⟩ := h
  refine ⟨_, (pss_one (ps_ret (pe_and (pe_callC Cis_whole (hr.mono (by decide)) rfl (pa_cons (pv 0) pa_nil)) (pe_one (pe_chain op_le op_le pe_int (pv 0) (pe_gint T.g_MOST_CENTS rfl)))))), ?_⟩
  refine ⟨_, rfl, _, _, rfl, hty, _, rfl, ?_⟩
  cases x with
  | int i =>
    refine iteT ⟨_, rfl, _, _, rfl, rfl, _, rfl, ?_⟩
    by_cases c1 : (0 : Int) ≤ i
    · refine dT c1 ⟨_, _, rfl, rfl, ?_⟩
      show Q (.bl (decide (i ≤ 999999999999))) H
      have e : decide (0 ≤ i ∧ i ≤ 999999999999) = decide (i ≤ 999999999999) := by
        by_cases c2 : i ≤ 999999999999
        · rw [decide_eq_true c2, decide_eq_true ⟨c1, c2⟩]
        · rw [decide_eq_false c2, decide_eq_false (fun y => c2 y.2)]
      rw [← e]
      exact q
    · refine dF c1 ?_
      rw [show inB 999999999999 (.int i) = false from decide_eq_false (fun y => c1 y.1)] at q
      exact q
  | _ => exact iteF q
end


/-! ### clauses -/
inductive Cl where
  | own (y : Str) (d : Int) | lay (y : Str) (a b : Int) | lim (y : Str) (m : Int) | any (y : Str)
def Cl.way : Cl → Str
  | .own y _ => y
  | .lay y _ _ => y
  | .lim y _ => y
  | .any y => y
def flds : Cl → List (Str × V)
  | .own y d => putF "cents" (.int d) (putF "by" (.str y) [])
  | .lay y a b => putF "upto" (.int b) (putF "first" (.int a) (putF "by" (.str y) []))
  | .lim y m => putF "most" (.int m) (putF "by" (.str y) [])
  | .any y => putF "by" (.str y) []
def isWay (y : Str) : Prop := y = "event" ∨ y = "thing" ∨ y = "year" ∨ y = "loss"
def amt (d : Int) : Prop := 0 ≤ d ∧ d ≤ 999999999999
def clsOf (CC CO CL CM : Addr) : Cl → Addr
  | .own _ _ => CO
  | .lay _ _ _ => CL
  | .lim _ _ => CM
  | .any _ => CC
def ClAt (CC CO CL CM : Addr) (H : Hp) (p : Addr) (c : Cl) : Prop := ∃ dx, H p = some (.ins (clsOf CC CO CL CM c) dx (flds c))
def Fam (CC CO CL CM : Addr) (C : Addr) : Prop := C = CC ∨ C = CO ∨ C = CL ∨ C = CM
theorem ClAt.same {CC CO CL CM : Addr} {H H' : Hp} {p : Addr} {c : Cl} (h : ClAt CC CO CL CM H p c) (s : Same H H') : ClAt CC CO CL CM H' p c := by
  obtain ⟨dx, e⟩ := h
  exact ⟨dx, s _ _ e⟩
theorem fam_of (CC CO CL CM : Addr) (c : Cl) : Fam CC CO CL CM (clsOf CC CO CL CM c) := by
  cases c with
  | own _ _ => exact .inr (.inl rfl)
  | lay _ _ _ => exact .inr (.inr (.inl rfl))
  | lim _ _ => exact .inr (.inr (.inr rfl))
  | any _ => exact .inl rfl
theorem way_in {y : Str} (h : isWay y) : inV (.str y) [.str "event", .str "thing", .str "year", .str "loss"] = true := by
  rcases h with rfl | rfl | rfl | rfl <;> decide +kernel
theorem s_fu : ¬ (("first" : Str) = "upto") := by decide +kernel
theorem lk_cents (y : Str) (d : Int) : (flds (.own y d)).lookup ("cents" : Str) = some (.int d) := by unfold flds; rw [lookup_putF, if_pos rfl]
theorem lk_upto (y : Str) (a b : Int) : (flds (.lay y a b)).lookup ("upto" : Str) = some (.int b) := by unfold flds; rw [lookup_putF, if_pos rfl]
theorem lk_first (y : Str) (a b : Int) : (flds (.lay y a b)).lookup ("first" : Str) = some (.int a) := by unfold flds; rw [lookup_putF, if_neg s_fu, lookup_putF, if_pos rfl]
theorem lk_most (y : Str) (m : Int) : (flds (.lim y m)).lookup ("most" : Str) = some (.int m) := by unfold flds; rw [lookup_putF, if_pos rfl]
theorem lk_no (c : Cl) {m : Str} (h1 : ¬ m = "by") (h2 : ¬ m = "cents") (h3 : ¬ m = "first") (h4 : ¬ m = "upto") (h5 : ¬ m = "most") : (flds c).lookup m = none := by
  cases c with
  | own y d => unfold flds; rw [lookup_putF, if_neg h2, lookup_putF, if_neg h1]; rfl
  | lay y a b => unfold flds; rw [lookup_putF, if_neg h4, lookup_putF, if_neg h3, lookup_putF, if_neg h1]; rfl
  | lim y n => unfold flds; rw [lookup_putF, if_neg h5, lookup_putF, if_neg h1]; rfl
  | any y => unfold flds; rw [lookup_putF, if_neg h1]; rfl
theorem no_span (c : Cl) : (flds c).lookup ("span" : Str) = none := lk_no c (by decide +kernel) (by decide +kernel) (by decide +kernel) (by decide +kernel) (by decide +kernel)
theorem no_room (c : Cl) : (flds c).lookup ("room" : Str) = none := lk_no c (by decide +kernel) (by decide +kernel) (by decide +kernel) (by decide +kernel) (by decide +kernel)
/-- a bound as a cent -/
def cent (b n k : Int) : Int := CR.minI (CR.maxI (b - n) 0) k
def sLo : Cl → Int → Int → Int
  | .own _ d, n, k => cent d n k
  | .lay _ a _, n, k => cent a n k
  | _, _, _ => 0
def sHi : Cl → Int → Int → Int
  | .lay _ _ b, n, k => cent b n k
  | _, _, k => k
def sRoom : Cl → Int → V
  | .lim _ m, n => .int (CR.maxI (m - n) 0)
  | _, _ => .non
def spChk : Sp := fun vs H Q _ => ∃ n : Int, vs = [.int n] ∧ amt n ∧ Q (.int n) H
def spCent : Sp := fun vs H Q _ => ∃ b n k : Int, vs = [.int b, .int n, .int k] ∧ Q (.int (cent b n k)) H
def spCI (CC CO CL CM : Addr) : Sp := fun vs H Q _ => ∃ p C dx fs y, vs = [.ref p, .str y] ∧ H p = some (.ins C dx fs) ∧ Fam CC CO CL CM C ∧ fs.length < 1000 ∧ isWay y ∧ Q .non (upd H p (.ins C dx (putF "by" (.str y) fs)))
def spOwn (CC CO CL CM : Addr) : Sp := fun vs H Q _ => ∃ p dx y, ∃ d : Int, vs = [.ref p, .str y, .int d] ∧ H p = some (.ins CO dx []) ∧ isWay y ∧ amt d ∧ ∀ H', (∀ b o, H b = some o → b ≠ p → H' b = some o) → ClAt CC CO CL CM H' p (.own y d) → Q .non H'
def spLay (CC CO CL CM : Addr) : Sp := fun vs H Q _ => ∃ p dx y, ∃ a b : Int, vs = [.ref p, .str y, .int a, .int b] ∧ H p = some (.ins CL dx []) ∧ isWay y ∧ amt a ∧ amt b ∧ a < b ∧ ∀ H', (∀ b o, H b = some o → b ≠ p → H' b = some o) → ClAt CC CO CL CM H' p (.lay y a b) → Q .non H'
def spLim (CC CO CL CM : Addr) : Sp := fun vs H Q _ => ∃ p dx y, ∃ d : Int, vs = [.ref p, .str y, .int d] ∧ H p = some (.ins CM dx []) ∧ isWay y ∧ amt d ∧ ∀ H', (∀ b o, H b = some o → b ≠ p → H' b = some o) → ClAt CC CO CL CM H' p (.lim y d) → Q .non H'
def spSpan (CC CO CL CM : Addr) (C : Addr) : Sp := fun vs H Q _ => ∃ p c, ∃ n k : Int, vs = [.ref p, .int n, .int k] ∧ ClAt CC CO CL CM H p c ∧ clsOf CC CO CL CM c = C ∧ ∀ t H', Same H H' → H' t = some (.tup [.int (sLo c n k), .int (sHi c n k)]) → Q (.ref t) H'
def spRoom (CC CO CL CM : Addr) (C : Addr) : Sp := fun vs H Q _ => ∃ p c, ∃ n : Int, vs = [.ref p, .int n] ∧ ClAt CC CO CL CM H p c ∧ clsOf CC CO CL CM c = C ∧ Q (sRoom c n) H
theorem made_same {C : Addr} {H H2 : Hp} {x dx : Addr} (nx : H x = none) (ndx : H dx = none) (kp : ∀ b o, (upd (upd H dx (.own x)) x (.ins C dx [])) b = some o → b ≠ x → H2 b = some o) : Same H H2 := fun b o e =>
  kp b o (by rw [upd_ne (ne_of_none e nx), upd_ne (ne_of_none e ndx)]; exact e) (ne_of_none e nx)
theorem kit_ss {K : PySem.W.Frag} : PySem.W.kitOne K (.type "str") (.type "str") = some true := by kernel_rfl
section
variable {P : Program} {w : World} {K : PySem.W.Frag} {mg : Str → Option Value} {base : Heap} {C_Clause C_Own C_Layer C_Limit C_Deal C_Cover C_Condition : Addr}
theorem cls_any (L : Kl K mg C_Clause C_Own C_Layer C_Limit C_Deal C_Cover C_Condition) {c : Cl} (h : clsOf C_Clause C_Own C_Layer C_Limit c = C_Clause) : ∃ y, c = .any y := by
  have nd := L.nd
  simp only [List.nodup_cons, List.mem_cons, List.not_mem_nil, not_or, or_false] at nd
  cases c with
  | any y => exact ⟨y, rfl⟩
  | own _ _ => exact absurd (show C_Own = C_Clause from h).symm nd.1.1
  | lay _ _ _ => exact absurd (show C_Layer = C_Clause from h).symm nd.1.2.1
  | lim _ _ => exact absurd (show C_Limit = C_Clause from h).symm nd.1.2.2.1
theorem cls_own (L : Kl K mg C_Clause C_Own C_Layer C_Limit C_Deal C_Cover C_Condition) {c : Cl} (h : clsOf C_Clause C_Own C_Layer C_Limit c = C_Own) : ∃ y d, c = .own y d := by
  have nd := L.nd
  simp only [List.nodup_cons, List.mem_cons, List.not_mem_nil, not_or, or_false] at nd
  cases c with
  | own y d => exact ⟨y, d, rfl⟩
  | any _ => exact absurd (show C_Clause = C_Own from h) nd.1.1
  | lay _ _ _ => exact absurd (show C_Layer = C_Own from h).symm nd.2.1.1
  | lim _ _ => exact absurd (show C_Limit = C_Own from h).symm nd.2.1.2.1
theorem cls_lay (L : Kl K mg C_Clause C_Own C_Layer C_Limit C_Deal C_Cover C_Condition) {c : Cl} (h : clsOf C_Clause C_Own C_Layer C_Limit c = C_Layer) : ∃ y a b, c = .lay y a b := by
  have nd := L.nd
  simp only [List.nodup_cons, List.mem_cons, List.not_mem_nil, not_or, or_false] at nd
  cases c with
  | lay y a b => exact ⟨y, a, b, rfl⟩
  | any _ => exact absurd (show C_Clause = C_Layer from h) nd.1.2.1
  | own _ _ => exact absurd (show C_Own = C_Layer from h) nd.2.1.1
  | lim _ _ => exact absurd (show C_Limit = C_Layer from h).symm nd.2.2.1.1
theorem cls_lim (L : Kl K mg C_Clause C_Own C_Layer C_Limit C_Deal C_Cover C_Condition) {c : Cl} (h : clsOf C_Clause C_Own C_Layer C_Limit c = C_Limit) : ∃ y m, c = .lim y m := by
  have nd := L.nd
  simp only [List.nodup_cons, List.mem_cons, List.not_mem_nil, not_or, or_false] at nd
  cases c with
  | lim y m => exact ⟨y, m, rfl⟩
  | any _ => exact absurd (show C_Clause = C_Limit from h) nd.1.2.2.1
  | own _ _ => exact absurd (show C_Own = C_Limit from h) nd.2.1.2.1
  | lay _ _ _ => exact absurd (show C_Layer = C_Limit from h) nd.2.2.1.1
theorem sc_checked_amount : FnScope ["thing"] ["thing"] (defScope s_checked_amount) := ⟨rfl, rfl, rfl, by decide +kernel, rfl, by decide +kernel, by decide +kernel⟩
theorem ok_checked_amount {f : Addr} {fd : FuncData} (F : Fun K "checked_amount" "checked_amount" s_checked_amount f fd) (T : Txt K mg) (Cis_amount : Cal P w K mg base 2 "is_amount" ["thing"] (spInB K 999999999999)) : FnOk P w K mg base CX0 3 f fd ["thing"] spChk := by
  have sc := sc_checked_amount
  refine F.ok sc (fun vs H Q E h => ?_) (fun cdv A outer s H vs Q E hr h => ?_)
  · obtain ⟨_, rfl, _⟩ := h
    rfl
  obtain ⟨n, rfl, ⟨h0, h1⟩, q⟩ := h
  refine ⟨_, (pss_cons (ps_if (pt_not (pt_val (pe_callC Cis_amount (hr.mono (by decide)) rfl (pa_cons (pv 0) pa_nil))))
        (pss_one ps_never)
        pss_nil)
      (pss_one (ps_ret (pv 0)))), ?_⟩
  refine ⟨_, rfl, _, _, rfl, .int n, _, rfl, ?_⟩
  rw [show inB 999999999999 (.int n) = true from decide_eq_true ⟨h0, h1⟩]
  exact iteF ⟨_, rfl, q⟩
theorem sc_Clause___init__ : FnScope ["self", "by"] ["self", "by"] (defScope s_Clause___init__) := ⟨rfl, rfl, rfl, by decide +kernel, rfl, by decide +kernel, by decide +kernel⟩
theorem ok_Clause___init__ {f : Addr} {fd : FuncData} (F : Fun K "__init__" "Clause.__init__" s_Clause___init__ f fd) (T : Txt K mg) (L : Kl K mg C_Clause C_Own C_Layer C_Limit C_Deal C_Cover C_Condition) : FnOk P w K mg base CX0 2 f fd ["self", "by"] (spCI C_Clause C_Own C_Layer C_Limit) := by
  have sc := sc_Clause___init__
  refine F.ok sc (fun vs H Q E h => ?_) (fun cdv A outer s H vs Q E hr h => ?_)
  · obtain ⟨_, _, _, _, _, rfl, _⟩ := h
    rfl
  obtain ⟨p, C, dx, fs, y, rfl, hp, fam, hl, hy, q⟩ := h
  refine ⟨_, (pss_cons (ps_if (PW.pt (pw_or (pt_not (pt_val (pe_callB call_isinst rfl T.n_isinstance (show bootBuiltins _ = some (.builtin "isinstance") from rfl) (pa_cons (pv 1) (pa_cons (pe_ty "str" rfl T.n_str rfl) pa_nil))))) (pw_or1 (pt_cmpR op_notIn_seq (pv 1) (pe_gtup T.t_WAYS rfl) rfl))))
        (pss_one ps_never)
        pss_nil)
      (pss_one (ps_fld (pv 0) (pv 1) rfl))), ?_⟩
  refine ⟨_, rfl, _, _, _, _, _, rfl, ty_is, .str y, kit_ss, _, rfl, iteF ?_⟩
  refine ⟨_, rfl, fun a hs => ⟨a, _, rfl, .inr hs, rfl, rfl, _, rfl, ?_⟩⟩
  show if (!inV (.str y) [.str "event", .str "thing", .str "year", .str "loss"]) = true then _ else _
  rw [way_in hy]
  refine iteF ?_
  have cl : Cls K C := by
    rcases fam with rfl | rfl | rfl | rfl
    · exact L.cl_Clause
    · exact L.cl_Own
    · exact L.cl_Layer
    · exact L.cl_Limit
  have na : NoAttr K C "by" := by
    rcases fam with rfl | rfl | rfl | rfl
    · exact L.na_Clause_by
    · exact L.na_Own_by
    · exact L.na_Layer_by
    · exact L.na_Limit_by
  exact ⟨_, rfl, _, rfl, p, C, dx, fs, rfl, hp, cl, na, hl, q⟩
theorem sc_Own___init__ : FnScope ["self", "by", "cents"] ["self", "by", "cents"] (defScope s_Own___init__) := ⟨rfl, rfl, rfl, by decide +kernel, rfl, by decide +kernel, by decide +kernel⟩
theorem ok_Own___init__ {f : Addr} {fd : FuncData} (F : Fun K "__init__" "Own.__init__" s_Own___init__ f fd) (T : Txt K mg) (L : Kl K mg C_Clause C_Own C_Layer C_Limit C_Deal C_Cover C_Condition) (BClause___init__ : BCal P w K mg base 2 "Clause" "__init__" ["self", "by"] (spCI C_Clause C_Own C_Layer C_Limit)) (Cchecked_amount : Cal P w K mg base 3 "checked_amount" ["thing"] spChk) :
    FnOk P w K mg base CX0 4 f fd ["self", "by", "cents"] (spOwn C_Clause C_Own C_Layer C_Limit) := by
  have sc := sc_Own___init__
  refine F.ok sc (fun vs H Q E h => ?_) (fun cdv A outer s H vs Q E hr h => ?_)
  · obtain ⟨_, _, _, _, rfl, _⟩ := h
    rfl
  obtain ⟨p, dx, y, d, rfl, hp, hy, hd, q⟩ := h
  refine ⟨_, (pss_cons (ps_expr (pe_baseC BClause___init__ (hr.mono (by decide)) rfl (pa_cons (pv 0) (pa_cons (pv 1) pa_nil))))
      (pss_one (ps_fld (pv 0) (pe_callC Cchecked_amount (hr.mono (by decide)) rfl (pa_cons (pv 2) pa_nil)) rfl))), ?_⟩
  refine ⟨_, rfl, _, rfl, p, _, dx, [], y, rfl, hp, .inr (.inl rfl), by decide, hy, ?_⟩
  exact ⟨_, rfl, d, rfl, hd, _, rfl, p, _, dx, _, rfl, upd_same, L.cl_Own, L.na_Own_cents, (by show 1 < 1000; decide), q _ (fun b o z n => by rw [upd_ne n, upd_ne n]; exact z) ⟨dx, upd_same⟩⟩
theorem sc_Layer___init__ : FnScope ["self", "by", "first", "upto"] ["self", "by", "first", "upto"] (defScope s_Layer___init__) := ⟨rfl, rfl, rfl, by decide +kernel, rfl, by decide +kernel, by decide +kernel⟩
theorem ok_Layer___init__ {f : Addr} {fd : FuncData} (F : Fun K "__init__" "Layer.__init__" s_Layer___init__ f fd) (T : Txt K mg) (L : Kl K mg C_Clause C_Own C_Layer C_Limit C_Deal C_Cover C_Condition) (BClause___init__ : BCal P w K mg base 2 "Clause" "__init__" ["self", "by"] (spCI C_Clause C_Own C_Layer C_Limit)) (Cchecked_amount : Cal P w K mg base 3 "checked_amount" ["thing"] spChk) :
    FnOk P w K mg base CX0 4 f fd ["self", "by", "first", "upto"] (spLay C_Clause C_Own C_Layer C_Limit) := by
  have sc := sc_Layer___init__
  refine F.ok sc (fun vs H Q E h => ?_) (fun cdv A outer s H vs Q E hr h => ?_)
  · obtain ⟨_, _, _, _, _, rfl, _⟩ := h
    rfl
  obtain ⟨p, dx, y, a, b, rfl, hp, hy, ha, hb, hab, q⟩ := h
  refine ⟨_, (pss_cons (ps_expr (pe_baseC BClause___init__ (hr.mono (by decide)) rfl (pa_cons (pv 0) (pa_cons (pv 1) pa_nil))))
      (pss_cons (ps_fld (pv 0) (pe_callC Cchecked_amount (hr.mono (by decide)) rfl (pa_cons (pv 2) pa_nil)) rfl)
      (pss_cons (ps_fld (pv 0) (pe_callC Cchecked_amount (hr.mono (by decide)) rfl (pa_cons (pv 3) pa_nil)) rfl)
      (pss_one (ps_if (pt_not (pt_cmpR op_lt (pv 2) (pv 3) (nomark _)))
        (pss_one ps_never)
        pss_nil))))), ?_⟩
  refine ⟨_, rfl, _, rfl, p, _, dx, [], y, rfl, hp, .inr (.inr (.inl rfl)), by decide, hy, ?_⟩
  refine ⟨_, rfl, a, rfl, ha, _, rfl, p, _, dx, _, rfl, upd_same, L.cl_Layer, L.na_Layer_first, (by show 1 < 1000; decide), ?_⟩
  refine ⟨_, rfl, b, rfl, hb, _, rfl, p, _, dx, _, rfl, upd_same, L.cl_Layer, L.na_Layer_upto, (by show 2 < 1000; decide), ?_⟩
  refine ⟨_, rfl, _, rfl, _, _, rfl, rfl, _, rfl, nF hab ?_⟩
  exact q _ (fun b o z n => by rw [upd_ne n, upd_ne n, upd_ne n]; exact z) ⟨dx, upd_same⟩
theorem sc_Limit___init__ : FnScope ["self", "by", "most"] ["self", "by", "most"] (defScope s_Limit___init__) := ⟨rfl, rfl, rfl, by decide +kernel, rfl, by decide +kernel, by decide +kernel⟩
theorem ok_Limit___init__ {f : Addr} {fd : FuncData} (F : Fun K "__init__" "Limit.__init__" s_Limit___init__ f fd) (T : Txt K mg) (L : Kl K mg C_Clause C_Own C_Layer C_Limit C_Deal C_Cover C_Condition) (BClause___init__ : BCal P w K mg base 2 "Clause" "__init__" ["self", "by"] (spCI C_Clause C_Own C_Layer C_Limit)) (Cchecked_amount : Cal P w K mg base 3 "checked_amount" ["thing"] spChk) :
    FnOk P w K mg base CX0 4 f fd ["self", "by", "most"] (spLim C_Clause C_Own C_Layer C_Limit) := by
  have sc := sc_Limit___init__
  refine F.ok sc (fun vs H Q E h => ?_) (fun cdv A outer s H vs Q E hr h => ?_)
  · obtain ⟨_, _, _, _, rfl, _⟩ := h
    rfl
  obtain ⟨p, dx, y, d, rfl, hp, hy, hd, q⟩ := h
  refine ⟨_, (pss_cons (ps_expr (pe_baseC BClause___init__ (hr.mono (by decide)) rfl (pa_cons (pv 0) (pa_cons (pv 1) pa_nil))))
      (pss_one (ps_fld (pv 0) (pe_callC Cchecked_amount (hr.mono (by decide)) rfl (pa_cons (pv 2) pa_nil)) rfl))), ?_⟩
  refine ⟨_, rfl, _, rfl, p, _, dx, [], y, rfl, hp, .inr (.inr (.inr rfl)), by decide, hy, ?_⟩
  exact ⟨_, rfl, d, rfl, hd, _, rfl, p, _, dx, _, rfl, upd_same, L.cl_Limit, L.na_Limit_most, (by show 1 < 1000; decide), q _ (fun b o z n => by rw [upd_ne n, upd_ne n]; exact z) ⟨dx, upd_same⟩⟩
end


section
variable {P : Program} {w : World} {K : PySem.W.Frag} {mg : Str → Option Value} {base : Heap} {C_Clause C_Own C_Layer C_Limit C_Deal C_Cover C_Condition : Addr}
theorem sc_cent_at : FnScope ["bound", "count", "cents"] ["bound", "count", "cents"] (defScope s_cent_at) := ⟨rfl, rfl, rfl, by decide +kernel, rfl, by decide +kernel, by decide +kernel⟩
theorem ok_cent_at {f : Addr} {fd : FuncData} (F : Fun K "cent_at" "cent_at" s_cent_at f fd) (T : Txt K mg) : FnOk P w K mg base CX0 1 f fd ["bound", "count", "cents"] spCent := by
  have sc := sc_cent_at
  refine F.ok sc (fun vs H Q E h => ?_) (fun cdv A outer s H vs Q E hr h => ?_)
  · obtain ⟨_, _, _, rfl, _⟩ := h
    rfl
  obtain ⟨b, n, k, rfl, q⟩ := h
  refine ⟨_, (pss_one (ps_ret (pe_callB (call_min2 rfl) rfl T.n_min (show bootBuiltins _ = some (.builtin "min") from rfl) (pa_cons (pe_callB (call_max2 rfl) rfl T.n_max (show bootBuiltins _ = some (.builtin "max") from rfl) (pa_cons (pe_op op_sub (pv 0) (pv 1)) (pa_cons pe_int pa_nil))) (pa_cons (pv 2) pa_nil))))), ?_⟩
  exact ⟨_, rfl, _, rfl, _, _, rfl, rfl, _, _, rfl, _, rfl, _, _, rfl, q⟩
theorem sc_Clause_span : FnScope ["self", "count", "cents"] ["self", "count", "cents"] (defScope s_Clause_span) := ⟨rfl, rfl, rfl, by decide +kernel, rfl, by decide +kernel, by decide +kernel⟩
theorem ok_Clause_span {f : Addr} {fd : FuncData} (F : Fun K "span" "Clause.span" s_Clause_span f fd) (T : Txt K mg) {C : Addr} (hC : ∀ c, clsOf C_Clause C_Own C_Layer C_Limit c = C → ∀ n k, sLo c n k = 0 ∧ sHi c n k = k) : FnOk P w K mg base CX0 2 f fd ["self", "count", "cents"] (spSpan C_Clause C_Own C_Layer C_Limit C) := by
  have sc := sc_Clause_span
  refine F.ok sc (fun vs H Q E h => ?_) (fun cdv A outer s H vs Q E hr h => ?_)
  · obtain ⟨_, _, _, _, rfl, _⟩ := h
    rfl
  obtain ⟨p, c, n, k, rfl, hp, hc, q⟩ := h
  refine ⟨_, (pss_one (ps_ret (pe_tup (pa_cons pe_int (pa_cons (pv 2) pa_nil))))), ?_⟩
  obtain ⟨e1, e2⟩ := hC c hc n k
  rw [e1, e2] at q
  exact ⟨_, rfl, by show 2 ≤ sizeLine; rw [sizeLine_eq]; decide, fun t ht => q t _ (same_new ht _) upd_same⟩
theorem sc_Own_span : FnScope ["self", "count", "cents"] ["self", "count", "cents"] (defScope s_Own_span) := ⟨rfl, rfl, rfl, by decide +kernel, rfl, by decide +kernel, by decide +kernel⟩
theorem ok_Own_span {f : Addr} {fd : FuncData} (F : Fun K "span" "Own.span" s_Own_span f fd) (T : Txt K mg) (L : Kl K mg C_Clause C_Own C_Layer C_Limit C_Deal C_Cover C_Condition) (Ccent_at : Cal P w K mg base 1 "cent_at" ["bound", "count", "cents"] spCent) : FnOk P w K mg base CX0 2 f fd ["self", "count", "cents"] (spSpan C_Clause C_Own C_Layer C_Limit C_Own) := by
  have sc := sc_Own_span
  refine F.ok sc (fun vs H Q E h => ?_) (fun cdv A outer s H vs Q E hr h => ?_)
  · obtain ⟨_, _, _, _, rfl, _⟩ := h
    rfl
  obtain ⟨p, c, n, k, rfl, ⟨dx, hp⟩, hc, q⟩ := h
  obtain ⟨y, d, rfl⟩ := cls_own L hc
  refine ⟨_, (pss_one (ps_ret (pe_tup (pa_cons (pe_callC Ccent_at (hr.mono (by decide)) rfl (pa_cons (pe_fld (pv 0) rfl) (pa_cons (pv 1) (pa_cons (pv 2) pa_nil)))) (pa_cons (pv 2) pa_nil))))), ?_⟩
  exact ⟨_, rfl, p, _, dx, _, _, rfl, hp, L.cl_Own, L.na_Own_cents, lk_cents y d, _, rfl, _, rfl, d, n, k, rfl, _, rfl, by show 2 ≤ sizeLine; rw [sizeLine_eq]; decide, fun t ht => q t _ (same_new ht _) upd_same⟩
theorem sc_Layer_span : FnScope ["self", "count", "cents"] ["self", "count", "cents"] (defScope s_Layer_span) := ⟨rfl, rfl, rfl, by decide +kernel, rfl, by decide +kernel, by decide +kernel⟩
theorem ok_Layer_span {f : Addr} {fd : FuncData} (F : Fun K "span" "Layer.span" s_Layer_span f fd) (T : Txt K mg) (L : Kl K mg C_Clause C_Own C_Layer C_Limit C_Deal C_Cover C_Condition) (Ccent_at : Cal P w K mg base 1 "cent_at" ["bound", "count", "cents"] spCent) : FnOk P w K mg base CX0 2 f fd ["self", "count", "cents"] (spSpan C_Clause C_Own C_Layer C_Limit C_Layer) := by
  have sc := sc_Layer_span
  refine F.ok sc (fun vs H Q E h => ?_) (fun cdv A outer s H vs Q E hr h => ?_)
  · obtain ⟨_, _, _, _, rfl, _⟩ := h
    rfl
  obtain ⟨p, c, n, k, rfl, ⟨dx, hp⟩, hc, q⟩ := h
  obtain ⟨y, a, b, rfl⟩ := cls_lay L hc
  refine ⟨_, (pss_one (ps_ret (pe_tup (pa_cons (pe_callC Ccent_at (hr.mono (by decide)) rfl (pa_cons (pe_fld (pv 0) rfl) (pa_cons (pv 1) (pa_cons (pv 2) pa_nil)))) (pa_cons (pe_callC Ccent_at (hr.mono (by decide)) rfl (pa_cons (pe_fld (pv 0) rfl) (pa_cons (pv 1) (pa_cons (pv 2) pa_nil)))) pa_nil))))), ?_⟩
  exact ⟨_, rfl, p, _, dx, _, _, rfl, hp, L.cl_Layer, L.na_Layer_first, lk_first y a b, _, rfl, _, rfl, a, n, k, rfl, _, rfl, p, _, dx, _, _, rfl, hp, L.cl_Layer, L.na_Layer_upto, lk_upto y a b, _, rfl, _, rfl, b, n, k, rfl, by show 2 ≤ sizeLine; rw [sizeLine_eq]; decide, fun t ht => q t _ (same_new ht _) upd_same⟩
end


section
variable {P : Program} {w : World} {K : PySem.W.Frag} {mg : Str → Option Value} {base : Heap} {C_Clause C_Own C_Layer C_Limit C_Deal C_Cover C_Condition : Addr}
theorem sc_Clause_room : FnScope ["self", "paid"] ["self", "paid"] (defScope s_Clause_room) := ⟨rfl, rfl, rfl, by decide +kernel, rfl, by decide +kernel, by decide +kernel⟩
theorem ok_Clause_room {f : Addr} {fd : FuncData} (F : Fun K "room" "Clause.room" s_Clause_room f fd) (T : Txt K mg) {C : Addr} (hC : ∀ c, clsOf C_Clause C_Own C_Layer C_Limit c = C → ∀ n, sRoom c n = .non) : FnOk P w K mg base CX0 1 f fd ["self", "paid"] (spRoom C_Clause C_Own C_Layer C_Limit C) := by
  have sc := sc_Clause_room
  refine F.ok sc (fun vs H Q E h => ?_) (fun cdv A outer s H vs Q E hr h => ?_)
  · obtain ⟨_, _, _, rfl, _⟩ := h
    rfl
  obtain ⟨p, c, n, rfl, hp, hc, q⟩ := h
  refine ⟨_, (pss_one (ps_ret pe_non)), ?_⟩
  rw [hC c hc n] at q
  exact q
theorem sc_Limit_room : FnScope ["self", "paid"] ["self", "paid"] (defScope s_Limit_room) := ⟨rfl, rfl, rfl, by decide +kernel, rfl, by decide +kernel, by decide +kernel⟩
theorem ok_Limit_room {f : Addr} {fd : FuncData} (F : Fun K "room" "Limit.room" s_Limit_room f fd) (T : Txt K mg) (L : Kl K mg C_Clause C_Own C_Layer C_Limit C_Deal C_Cover C_Condition) : FnOk P w K mg base CX0 1 f fd ["self", "paid"] (spRoom C_Clause C_Own C_Layer C_Limit C_Limit) := by
  have sc := sc_Limit_room
  refine F.ok sc (fun vs H Q E h => ?_) (fun cdv A outer s H vs Q E hr h => ?_)
  · obtain ⟨_, _, _, rfl, _⟩ := h
    rfl
  obtain ⟨p, c, n, rfl, ⟨dx, hp⟩, hc, q⟩ := h
  obtain ⟨y, m, rfl⟩ := cls_lim L hc
  refine ⟨_, (pss_one (ps_ret (pe_callB (call_max2 rfl) rfl T.n_max (show bootBuiltins _ = some (.builtin "max") from rfl) (pa_cons (pe_op op_sub (pe_fld (pv 0) rfl) (pv 1)) (pa_cons pe_int pa_nil))))), ?_⟩
  exact ⟨_, rfl, p, _, dx, _, _, rfl, hp, L.cl_Limit, L.na_Limit_most, lk_most y m, _, rfl, _, _, rfl, rfl, _, _, rfl, q⟩
end


def spWeights : Sp := fun vs H Q _ => ∃ a ws, vs = [.ref a] ∧ H a = some (.lst (List.map V.int ws)) ∧ CR.GW ws ∧ Q (.bl true) H
def spMay : Sp := fun vs H Q _ => ∃ w d T t : Int, vs = [.int w, .int d, .int T, .int t] ∧ (0 ≤ w ∧ w ≤ 100) ∧ (0 ≤ T ∧ T ≤ 100) ∧ Q (.bl (decide (d * T < w * (t + 1)))) H
def spDue : Sp := fun vs H Q _ => ∃ w d T : Int, vs = [.int w, .int d, .int T] ∧ (1 ≤ w ∧ w ≤ 100) ∧ (0 ≤ T ∧ T ≤ 100) ∧ Q (.int (((d + 1) * T + w - 1) / w)) H
def spPlace : Sp := fun vs H Q _ => ∃ a b ws ds, ∃ t : Nat, vs = [.ref a, .ref b, .int t] ∧ H a = some (.lst (List.map V.int ws)) ∧ H b = some (.lst (List.map V.int ds)) ∧ CR.GW ws ∧ ds.length = ws.length ∧ ds.sum = t ∧
  ∀ H', Same H H' → Q (.int (CR.place ws ds t)) H'
def spTurns : Sp := fun vs H Q _ => ∃ a ws, vs = [.ref a] ∧ H a = some (.lst (List.map V.int ws)) ∧ CR.GW ws ∧ ∀ r H', Same H H' → H r = none → H' r = some (.lst (List.map V.int (CR.wheel ws))) → Q (.ref r) H'
section
variable {P : Program} {w : World} {K : PySem.W.Frag} {mg : Str → Option Value} {base : Heap}
theorem gw_at {ws : List Int} (g : CR.GW ws) {k : Int} (h0 : 0 ≤ k) (h : k < ws.length) : 1 ≤ ws.getD k.toNat 0 ∧ ws.getD k.toNat 0 ≤ 100 := by
  have m : ws.getD k.toNat 0 ∈ ws := by
    rw [List.getD_eq_getElem?_getD, List.getElem?_eq_getElem (by omega)]
    exact List.getElem_mem _
  refine ⟨g.pos _ m, ?_⟩
  have aux : ∀ (l : List Int) (x : Int), (∀ w ∈ l, 1 ≤ w) → x ∈ l → x ≤ l.sum := by
    intro l x
    induction l with
    | nil => intro _ h; cases h
    | cons y l ih =>
      intro hp hx
      have nn : ∀ l : List Int, (∀ w ∈ l, 1 ≤ w) → 0 ≤ l.sum := by
        intro l
        induction l with
        | nil => intro _; exact Int.le_refl 0
        | cons z l ih => intro h; have := h z List.mem_cons_self; have := ih fun w hw => h w (List.mem_cons_of_mem _ hw); rw [List.sum_cons]; omega
      have h1 := hp y List.mem_cons_self
      have hp' : ∀ w ∈ l, 1 ≤ w := fun w hw => hp w (List.mem_cons_of_mem _ hw)
      have h2 := nn l hp'
      rw [List.sum_cons]
      rcases List.mem_cons.mp hx with rfl | hx
      · omega
      · have := ih hp' hx
        omega
  have := aux ws _ g.pos m
  have := g.sum
  omega
theorem sc_are_weights : FnScope ["thing", "weight"] ["thing"] (defScope s_are_weights) := ⟨rfl, rfl, rfl, by decide +kernel, rfl, by decide +kernel, by decide +kernel⟩
theorem ok_are_weights {f : Addr} {fd : FuncData} (F : Fun K "are_weights" "are_weights" s_are_weights f fd) (T : Txt K mg) (Cis_whole : Cal P w K mg base 1 "is_whole" ["thing"] (spWhole K)) : FnOk P w K mg base CX0 2 f fd ["thing"] spWeights := by
  have sc := sc_are_weights
  refine F.ok sc (fun vs H Q E h => ?_) (fun cdv A outer s H vs Q E hr h => ?_)
  · obtain ⟨a, ws, rfl, _⟩ := h
    rfl
  obtain ⟨a, ws, rfl, ha, g, q⟩ := h
  refine ⟨_, (pss_cons (ps_if (pt_not (pt_val (pe_callB call_isinst rfl T.n_isinstance (show bootBuiltins _ = some (.builtin "isinstance") from rfl) (pa_cons (pv 0) (pa_cons (pe_ty "list" rfl T.n_list rfl) pa_nil)))))
        (pss_one (ps_ret pe_bl))
        pss_nil)
      (pss_cons (ps_if (PW.pt (pw_or (pt_cmpR op_lt (pe_callB call_len_seq rfl T.n_len (show bootBuiltins _ = some (.builtin "len") from rfl) (pa_cons (pv 0) pa_nil)) pe_int (nomark _)) (pw_or1 (pt_cmpR op_gt (pe_callB call_len_seq rfl T.n_len (show bootBuiltins _ = some (.builtin "len") from rfl) (pa_cons (pv 0) pa_nil)) (pe_gint T.g_MOST_PLACES rfl) (nomark _)))))
        (pss_one (ps_ret pe_bl))
        pss_nil)
      (pss_cons (ps_for PassesOwn.never rfl (pi_list (pv 0)) (pg_name (i := 1) sc.nd rfl (Or.inl rfl))
        (pss_one (ps_if (PW.pt (pw_or (pt_not (pt_val (pe_callC Cis_whole (hr.mono (by decide)) rfl (pa_cons (pv 1) pa_nil)))) (pw_or1 (pt_cmpR op_lt (pv 1) pe_int (nomark _)))))
        (pss_one (ps_ret pe_bl))
        pss_nil)))
      (pss_one (ps_ret (pe_cmpR op_le (pe_callB (call_sum rfl) rfl T.n_sum (show bootBuiltins _ = some (.builtin "sum") from rfl) (pa_cons (pv 0) pa_nil)) (pe_gint T.g_MOST_TURNS rfl) (nomark _))))))), ?_⟩
  have hl : (List.map V.int ws).length = ws.length := List.length_map _
  have g1 := g.lo
  have g2 := g.hi
  refine ⟨_, rfl, _, _, _, _, _, rfl, ty_is, .lst ha, kit_ll, _, rfl, ?_⟩
  refine iteF ?_
  refine ⟨_, rfl, a, _, rfl, .inl (SqL.of ha), _, _, rfl, rfl, _, rfl, ?_⟩
  refine dF (by rw [hl]; omega) ?_
  refine ⟨_, rfl, a, _, rfl, .inl (SqL.of ha), _, _, rfl, rfl, _, rfl, ?_⟩
  refine dF (by rw [hl]; omega) ?_
  refine ⟨_, rfl, a, rfl, ⟨_, SqL.of ha⟩, for_list (K := K) (a := a) (xs := List.map V.int ws) (fun i σ H2 => (∃ o, σ = [some (.ref a), o]) ∧ H2 = H) ⟨⟨none, rfl⟩, rfl⟩ (fun i σ H2 _ ⟨_, e⟩ => by rw [e]; exact SqL.of ha) ?_ ?_⟩
  · rintro i y σ H2 hi ⟨⟨o, rfl⟩, rfl⟩
    obtain ⟨n, hn, rfl⟩ := item_int hi
    refine ⟨_, rfl, _, _, rfl, .int n, _, rfl, ?_⟩
    refine iteF ?_
    refine ⟨_, rfl, _, _, rfl, rfl, _, rfl, ?_⟩
    have := g.pos n (List.mem_of_getElem? hn)
    refine dF (by omega) ?_
    exact ⟨⟨_, rfl⟩, rfl⟩
  · rintro σ H2 ⟨⟨o, rfl⟩, rfl⟩
    refine ⟨_, rfl, a, ws, rfl, SqL.of ha, _, _, rfl, rfl, ?_⟩
    show Q (.bl (decide (ws.sum ≤ 100))) H2
    rw [decide_eq_true g.sum]
    exact q
theorem sc_may_have : FnScope ["weight", "dealt", "total", "turn"] ["weight", "dealt", "total", "turn"] (defScope s_may_have) := ⟨rfl, rfl, rfl, by decide +kernel, rfl, by decide +kernel, by decide +kernel⟩
theorem ok_may_have {f : Addr} {fd : FuncData} (F : Fun K "may_have" "may_have" s_may_have f fd) (T : Txt K mg) : FnOk P w K mg base CX0 1 f fd ["weight", "dealt", "total", "turn"] spMay := by
  have sc := sc_may_have
  refine F.ok sc (fun vs H Q E h => ?_) (fun cdv A outer s H vs Q E hr h => ?_)
  · obtain ⟨_, _, _, _, rfl, _⟩ := h
    rfl
  obtain ⟨v, d, t0, t, rfl, hw, ht, q⟩ := h
  refine ⟨_, (pss_one (ps_ret (pe_cmpR op_lt (pe_op op_mul (pv 1) (pv 2)) (pe_op op_mul (pv 0) (pe_op op_add (pv 3) pe_int)) (nomark _)))), ?_⟩
  refine ⟨_, rfl, _, rfl, _, _, rfl, rfl, .inr ⟨by omega, by omega⟩, _, rfl, _, rfl, _, _, rfl, rfl, _, _, rfl, rfl, .inl ⟨by omega, by omega⟩, _, _, rfl, rfl, q⟩
theorem sc_due_by : FnScope ["weight", "dealt", "total"] ["weight", "dealt", "total"] (defScope s_due_by) := ⟨rfl, rfl, rfl, by decide +kernel, rfl, by decide +kernel, by decide +kernel⟩
theorem ok_due_by {f : Addr} {fd : FuncData} (F : Fun K "due_by" "due_by" s_due_by f fd) (T : Txt K mg) : FnOk P w K mg base CX0 1 f fd ["weight", "dealt", "total"] spDue := by
  have sc := sc_due_by
  refine F.ok sc (fun vs H Q E h => ?_) (fun cdv A outer s H vs Q E hr h => ?_)
  · obtain ⟨_, _, _, rfl, _⟩ := h
    rfl
  obtain ⟨v, d, t0, rfl, hw, ht, q⟩ := h
  refine ⟨_, (pss_one (ps_ret (pe_op op_fdiv (pe_op op_sub (pe_op op_add (pe_op op_mul (pe_op op_add (pv 1) pe_int) (pv 2)) (pv 0)) pe_int) (pv 0)))), ?_⟩
  refine ⟨_, rfl, _, _, rfl, rfl, _, rfl, _, _, rfl, rfl, .inr ⟨by omega, by omega⟩, _, rfl, _, _, rfl, rfl, _, _, rfl, rfl, _, rfl, _, _, rfl, rfl, ⟨by omega, by omega⟩, q⟩
theorem sc_place_of_turn : FnScope ["weights", "dealt", "turn", "total", "places", "best", "place"] ["weights", "dealt", "turn"] (defScope s_place_of_turn) := ⟨rfl, rfl, rfl, by decide +kernel, rfl, by decide +kernel, by decide +kernel⟩
theorem ok_place_of_turn {f : Addr} {fd : FuncData} (F : Fun K "place_of_turn" "place_of_turn" s_place_of_turn f fd) (T : Txt K mg) (Cmay_have : Cal P w K mg base 1 "may_have" ["weight", "dealt", "total", "turn"] spMay) (Cdue_by : Cal P w K mg base 1 "due_by" ["weight", "dealt", "total"] spDue) :
    FnOk P w K mg base CX0 2 f fd ["weights", "dealt", "turn"] spPlace := by
  have sc := sc_place_of_turn
  refine F.ok sc (fun vs H Q E h => ?_) (fun cdv A outer s H vs Q E hr h => ?_)
  · obtain ⟨_, _, _, _, _, rfl, _⟩ := h
    rfl
  obtain ⟨a, b, ws, ds, t, rfl, ha, hb, g, hlen, hsum, q⟩ := h
  refine ⟨_, (pss_cons (ps_set (i := 3) sc.nd rfl (Or.inr rfl) (pe_callB (call_sum rfl) rfl T.n_sum (show bootBuiltins _ = some (.builtin "sum") from rfl) (pa_cons (pv 0) pa_nil)))
      (pss_cons (ps_comp (NC := ["k", "total", "turn", "weights", "dealt"]) (own := ["k"]) (cs := ["total", "turn", "weights", "dealt"]) (ix := [3, 2, 0, 1]) (j := 4) sc.nd rfl rfl rfl (CompScope.of rfl) rfl ⟨⟨rfl, .inl rfl, rfl⟩, ⟨⟨rfl, .inl rfl, rfl⟩, ⟨⟨rfl, .inl rfl, rfl⟩, ⟨⟨rfl, .inl rfl, rfl⟩, trivial⟩⟩⟩⟩ (pi_range1 rfl T.n_range (pa_cons (pe_callB call_len_seq rfl T.n_len (show bootBuiltins _ = some (.builtin "len") from rfl) (pa_cons (pv 0) pa_nil)) pa_nil)) (fun _ _ _ => (pg_name (i := 0) (show (["k", "total", "turn", "weights", "dealt"] : List Str).Nodup from by decide +kernel) rfl (Or.inl rfl))) (fun _ _ _ => (pts_one (pt_val (pe_callC Cmay_have (hr.mono (by decide)) rfl (pa_cons (pe_ix (ix_listK (K := K) rfl) (pv 3) (pv 0) (fun _ _ => rfl)) (pa_cons (pe_ix (ix_listK (K := K) rfl) (pv 4) (pv 0) (fun _ _ => rfl)) (pa_cons (pv 1) (pa_cons (pv 2) pa_nil)))))))) (fun _ _ _ => (pv 0)))
      (pss_cons (ps_set (i := 5) sc.nd rfl (Or.inl rfl) (pe_ix ix_list (pv 4) pe_int (fun _ _ => rfl)))
      (pss_cons (ps_for PassesOwn.never rfl (pi_list (pv 4)) (pg_name (i := 6) sc.nd rfl (Or.inl rfl))
        (pss_one (ps_if (pt_cmpR op_lt (pe_callC Cdue_by (hr.mono (by decide)) rfl (pa_cons (pe_ix ix_list (pv 0) (pv 6) (fun _ _ => rfl)) (pa_cons (pe_ix ix_list (pv 1) (pv 6) (fun _ _ => rfl)) (pa_cons (pv 3) pa_nil)))) (pe_callC Cdue_by (hr.mono (by decide)) rfl (pa_cons (pe_ix ix_list (pv 0) (pv 5) (fun _ _ => rfl)) (pa_cons (pe_ix ix_list (pv 1) (pv 5) (fun _ _ => rfl)) (pa_cons (pv 3) pa_nil)))) (nomark _))
        (pss_one (ps_set (i := 5) sc.nd rfl (Or.inl rfl) (pv 6)))
        pss_nil)))
      (pss_one (ps_ret (pv 5))))))), ?_⟩
  have hl : (List.map V.int ws).length = ws.length := List.length_map _
  have g1 := g.lo
  have g2 := g.hi
  have gs := g.sum
  have gp := CR.sum_pos g
  -- total = sum(weights)
  refine ⟨_, rfl, a, ws, rfl, SqL.of ha, ?_⟩
  -- places = [k for k in range(len(weights)) if may_have(..)]
  refine ⟨_, rfl, a, _, rfl, .inl (SqL.of ha), _, rfl, by omega, by omega, fun p hp => ?_⟩
  have ep : ((List.map V.int ws).length : Int).toNat = ws.length := by rw [hl]; omega
  rw [ep]
  refine comp_range (lo := 0) (n := ws.length) (fun i ys H2 => ys = (CR.placesTo ws ds t i).map V.int ∧ H2 p = some (.lst ys) ∧ Same H H2) ⟨rfl, upd_same, same_new hp _⟩ (fun i ys H2 _ ⟨e, h1, _⟩ => ⟨h1, by rw [e, List.length_map]; exact CR.placesTo_le _ _ _ _⟩) (by rw [sizeLine_eq]; omega) (fun i ys H2 hi ⟨e, h1, s1⟩ => ?_) (fun ys H2 ⟨e, h1, s1⟩ => ?_)
  · have hw := gw_at g (k := 0 + (i : Int)) (by omega) (by omega)
    refine ⟨_, rfl, _, rfl, a, _, _, _, rfl, rfl, SqL.of (s1 _ _ ha), at_intI (by omega) (by omega), _, rfl, _, rfl, b, _, _, _, rfl, rfl, SqL.of (s1 _ _ hb), at_intI (by omega) (by omega), _, rfl, _, rfl, _, _, _, _, rfl, ⟨by omega, by omega⟩, ⟨by omega, by omega⟩, _, rfl, ?_⟩
    have em : decide (ds.getD (0 + (i : Int)).toNat 0 * ws.sum < ws.getD (0 + (i : Int)).toNat 0 * ((t : Int) + 1)) = CR.may ws ds t i := by
      rw [show (0 + (i : Int)) = (i : Int) by omega]
      rfl
    rw [em]
    have es := CR.placesTo_succ ws ds t i
    cases c : CR.may ws ds t i with
    | false =>
      rw [c] at es
      refine iteF ⟨rfl, ?_, h1, s1⟩
      rw [es, e]
      simp
    | true =>
      rw [c] at es
      refine iteT ⟨_, rfl, h1, rfl, ?_, upd_same, fun x o z => ?_⟩
      · rw [es, e]
        simp
      · rw [upd_ne (ne_of_none z hp)]
        exact s1 x o z
  subst e
  have hpl : CR.placesTo ws ds t ws.length = CR.places ws ds t := rfl
  rw [hpl] at h1
  have hne := CR.places_ne (t := t) g hlen hsum
  -- best = places[0]
  have hd0 : atI ((CR.places ws ds t).map V.int) 0 = some (.int ((CR.places ws ds t).headD 0)) := by
    cases z : CR.places ws ds t with
    | nil => exact absurd z hne
    | cons x l => exact at_int (i := 0) rfl
  refine ⟨_, rfl, p, _, _, _, rfl, rfl, SqL.of h1, hd0, ?_⟩
  -- for place in places
  have inr : ∀ k : Int, k ∈ CR.places ws ds t → 0 ≤ k ∧ k < ws.length := fun k hk => ⟨(CR.placesTo_mem hk).1, (CR.placesTo_mem hk).2.1⟩
  refine ⟨_, rfl, p, rfl, ⟨_, SqL.of h1⟩, for_list (K := K) (a := p) (xs := (CR.places ws ds t).map V.int)
    (fun i σ H3 => (∃ o, ∃ best : Int, σ = [some (.ref a), some (.ref b), some (.int t), some (.int ws.sum), some (.ref p), some (.int best), o] ∧ best = CR.pick (CR.due ws ds) ((CR.places ws ds t).headD 0) ((CR.places ws ds t).take i) ∧ 0 ≤ best ∧ best < ws.length) ∧ H3 = H2)
    ⟨⟨none, _, rfl, rfl, ?_⟩, rfl⟩ (fun i σ H3 _ ⟨_, z⟩ => by rw [z]; exact SqL.of h1) ?_ ?_⟩
  · cases z : CR.places ws ds t with
    | nil => exact absurd z hne
    | cons x l => exact inr x (by rw [z]; exact List.mem_cons_self)
  · rintro i y σ H3 hi ⟨⟨o, best, rfl, eb, b0, b1⟩, rfl⟩
    obtain ⟨n, hn, rfl⟩ := item_int hi
    have hnm := inr n (List.mem_of_getElem? hn)
    have w1 := gw_at g hnm.1 hnm.2
    have w2 := gw_at g b0 b1
    refine ⟨_, rfl, _, rfl, a, _, _, _, rfl, rfl, SqL.of (s1 _ _ ha), at_intI hnm.1 hnm.2, _, rfl, _, rfl, b, _, _, _, rfl, rfl, SqL.of (s1 _ _ hb), at_intI hnm.1 (by omega), _, rfl, _, _, _, rfl, w1, ⟨by omega, by omega⟩, ?_⟩
    refine ⟨_, rfl, _, rfl, a, _, _, _, rfl, rfl, SqL.of (s1 _ _ ha), at_intI b0 b1, _, rfl, _, rfl, b, _, _, _, rfl, rfl, SqL.of (s1 _ _ hb), at_intI b0 (by omega), _, rfl, _, _, _, rfl, w2, ⟨by omega, by omega⟩, _, _, rfl, rfl, _, rfl, ?_⟩
    have et : (CR.places ws ds t).take (i + 1) = (CR.places ws ds t).take i ++ [n] := by rw [List.take_add_one, hn]; rfl
    have ef : CR.pick (CR.due ws ds) ((CR.places ws ds t).headD 0) ((CR.places ws ds t).take (i + 1)) = if CR.due ws ds n < CR.due ws ds best then n else best := by
      rw [et, eb]
      unfold CR.pick
      rw [List.foldl_append]
      rfl
    refine ite2 (fun c => ?_) (fun c => ?_)
    · have c' : CR.due ws ds n < CR.due ws ds best := of_decide_eq_true c
      refine ⟨_, rfl, ⟨⟨_, n, rfl, ?_, hnm⟩, rfl⟩⟩
      rw [ef, if_pos c']
    · have c' : ¬ CR.due ws ds n < CR.due ws ds best := of_decide_eq_false (Bool.eq_false_iff.mpr c)
      refine ⟨⟨_, best, rfl, ?_, b0, b1⟩, rfl⟩
      rw [ef, if_neg c']
  · rintro σ H3 ⟨⟨o, best, rfl, eb, b0, b1⟩, rfl⟩
    refine ⟨_, rfl, ?_⟩
    rw [List.length_map, List.take_length] at eb
    rw [eb]
    exact q _ s1
theorem sc_turns : FnScope ["weights", "dealt", "wheel", "turn", "place"] ["weights"] (defScope s_turns) := ⟨rfl, rfl, rfl, by decide +kernel, rfl, by decide +kernel, by decide +kernel⟩
theorem ok_turns {f : Addr} {fd : FuncData} (F : Fun K "turns" "turns" s_turns f fd) (T : Txt K mg) (Care_weights : Cal P w K mg base 2 "are_weights" ["thing"] spWeights) (Cplace_of_turn : Cal P w K mg base 2 "place_of_turn" ["weights", "dealt", "turn"] spPlace) :
    FnOk P w K mg base CX0 3 f fd ["weights"] spTurns := by
  have sc := sc_turns
  refine F.ok sc (fun vs H Q E h => ?_) (fun cdv A outer s H vs Q E hr h => ?_)
  · obtain ⟨_, _, rfl, _⟩ := h
    rfl
  obtain ⟨a, ws, rfl, ha, g, q⟩ := h
  refine ⟨_, (pss_cons (ps_if (pt_not (pt_val (pe_callC Care_weights (hr.mono (by decide)) rfl (pa_cons (pv 0) pa_nil))))
        (pss_one ps_never)
        pss_nil)
      (pss_cons (ps_comp (NC := ["weight"]) (own := ["weight"]) (cs := []) (ix := []) (j := 1) sc.nd rfl rfl rfl (CompScope.of rfl) rfl trivial (pi_list (pv 0)) (fun _ _ _ => (pg_name (i := 0) (show (["weight"] : List Str).Nodup from by decide +kernel) rfl (Or.inl rfl))) (fun _ _ _ => pts_nil) (fun _ _ _ => pe_int))
      (pss_cons (ps_set (i := 2) sc.nd rfl (Or.inl rfl) (pe_lst pa_nil))
      (pss_cons (ps_for PassesOwn.never rfl (pi_range1 rfl T.n_range (pa_cons (pe_callB (call_sum rfl) rfl T.n_sum (show bootBuiltins _ = some (.builtin "sum") from rfl) (pa_cons (pv 0) pa_nil)) pa_nil)) (pg_name (i := 3) sc.nd rfl (Or.inl rfl))
        (pss_cons (ps_set (i := 4) sc.nd rfl (Or.inl rfl) (pe_callC Cplace_of_turn (hr.mono (by decide)) rfl (pa_cons (pv 0) (pa_cons (pv 1) (pa_cons (pv 3) pa_nil)))))
      (pss_cons (ps_asg (pe_op op_add (pe_ix ix_list (pv 1) (pv 4) (fun _ _ => rfl)) pe_int) (pg_sub (pv 1) (pv 4) set_list))
      (pss_one (ps_expr (pe_bm PySem.F.plainAttrs_list PySem.F.slot_list_append PySem.F.type_list_append mt_append (pv 2) (pa_cons (pv 4) pa_nil)))))))
      (pss_one (ps_ret (pv 2))))))), ?_⟩
  have hl : (List.map V.int ws).length = ws.length := List.length_map _
  have g1 := g.lo
  have g2 := g.hi
  have gs := g.sum
  have gp := CR.sum_pos g
  refine ⟨_, rfl, a, ws, rfl, ha, g, _, rfl, ?_⟩
  refine iteF ?_
  -- dealt = [0 for weight in weights]
  refine ⟨_, rfl, a, rfl, ⟨_, SqL.of ha⟩, fun b hb => ?_⟩
  refine comp_list (K := K) (a := a) (xs := List.map V.int ws) (fun i ys H2 => ys = (List.replicate i (0 : Int)).map V.int ∧ H2 b = some (.lst ys) ∧ Same H H2) ⟨rfl, upd_same, same_new hb _⟩
    (fun i ys H2 _ ⟨e, h1, s1⟩ => ⟨h1, by rw [e, List.length_map, List.length_replicate]; exact Nat.le_refl _, SqL.of (s1 _ _ ha)⟩) (by rw [hl, sizeLine_eq]; omega) (fun i x ys H2 hi ⟨e, h1, s1⟩ => ?_) (fun ys H2 ⟨e, h1, s1⟩ => ?_)
  · show H2 b = some (.lst ys) ∧ _ ∧ _
    refine ⟨h1, rfl, ?_, upd_same, fun x o z => ?_⟩
    · rw [e, List.replicate_succ', List.map_append]
      rfl
    · rw [upd_ne (ne_of_none z hb)]
      exact s1 x o z
  subst e
  rw [hl] at h1
  -- wheel = []
  refine ⟨Nat.zero_le _, fun r hr' => ?_⟩
  have s2 : Same H2 (upd H2 r (.lst [])) := same_new hr' _
  have hab : a ≠ b := ne_of_none ha hb
  have har : a ≠ r := ne_of_none (s1 _ _ ha) hr'
  have hbr : b ≠ r := ne_of_none h1 hr'
  have hrH : H r = none := s1.free hr'
  -- for turn in range(sum(weights))
  refine ⟨_, rfl, a, ws, rfl, SqL.of (s2 _ _ (s1 _ _ ha)), _, rfl, by omega, by omega, for_range (lo := 0) (n := ws.sum.toNat)
    (fun i σ H3 => (∃ o1 o2, σ = [some (.ref a), some (.ref b), some (.ref r), o1, o2]) ∧ H3 b = some (.lst ((CR.run ws i).1.map V.int)) ∧ H3 r = some (.lst ((CR.run ws i).2.map V.int)) ∧ Same H H3)
    ⟨⟨none, none, rfl⟩, s2 _ _ h1, upd_same, s1.trans s2⟩ ?_ ?_⟩
  · rintro i σ H3 hi ⟨⟨o1, o2, rfl⟩, hb3, hr3, s3⟩
    have A0 := CR.run_at g i
    have hpl := CR.place_in (t := i) g A0.len A0.sum
    have ei : (0 + (i : Int)) = (i : Int) := by omega
    rw [ei]
    -- place = place_of_turn(weights, dealt, turn)
    refine ⟨_, rfl, _, rfl, _, rfl, a, b, ws, _, i, rfl, s3 _ _ ha, hb3, g, A0.len, A0.sum, fun H4 s4 => ?_⟩
    -- dealt[place] = dealt[place] + 1
    have lenb : ((CR.run ws i).1.map V.int).length = ws.length := by rw [List.length_map, A0.len]
    refine ⟨_, rfl, _, rfl, b, _, _, _, rfl, rfl, SqL.of (s4 _ _ hb3), at_intI hpl.1 (by rw [A0.len]; exact hpl.2.1), _, _, rfl, rfl, ?_⟩
    refine ⟨_, rfl, _, rfl, b, _, _, (CR.place ws (CR.run ws i).1 i).toNat, rfl, rfl, s4 _ _ hb3, ?_, ?_⟩
    · rw [lenb]
      exact ix_of hpl.1 hpl.2.1
    -- wheel.append(place)
    have hr5 : upd H4 b (.lst (((CR.run ws i).1.map V.int).set (CR.place ws (CR.run ws i).1 i).toNat (.int ((CR.run ws i).1.getD (CR.place ws (CR.run ws i).1 i).toNat 0 + 1)))) r = some (.lst ((CR.run ws i).2.map V.int)) := by
      rw [upd_ne hbr.symm]
      exact s4 _ _ hr3
    refine ⟨_, rfl, .inl ⟨rfl, _, SqL.of hr5⟩, _, rfl, r, _, _, rfl, rfl, hr5, ?_, ?_⟩
    · rw [List.length_map, A0.row, sizeLine_eq]
      omega
    refine ⟨⟨_, _, rfl⟩, ?_, ?_, fun x o z => ?_⟩
    · rw [upd_ne hbr, upd_same]
      congr 2
      show _ = (CR.put _ _).map V.int
      unfold CR.put
      rw [List.map_set]
      rfl
    · rw [upd_same]
      congr 2
      show _ = ((CR.run ws i).2 ++ [_]).map V.int
      rw [List.map_append]
      rfl
    · rw [upd_ne (ne_of_none z hrH), upd_ne (ne_of_none z hb)]
      exact s4 _ _ (s3 x o z)
  · rintro σ H3 ⟨⟨o1, o2, rfl⟩, hb3, hr3, s3⟩
    exact ⟨_, rfl, q r H3 s3 hrH hr3⟩
end


/-! ### the class Deal -/
def fldsD (wh wt : Addr) : List (Str × V) := putF "weights" (.ref wt) (putF "wheel" (.ref wh) [])
structure DealAt (C : Addr) (H : Hp) (d wh wt : Addr) (ws : List Int) : Prop where
  ob : ∃ dx, H d = some (.ins C dx (fldsD wh wt))
  hw : H wh = some (.lst (List.map V.int (CR.wheel ws)))
  ht : H wt = some (.lst (List.map V.int ws))
structure Dl (K : PySem.W.Frag) (C : Addr) : Prop where
  cl : Cls K C
  nW : NoAttr K C "wheel"
  nG : NoAttr K C "weights"
def spInit (C : Addr) : Sp := fun vs H Q _ => ∃ p dx a ws, vs = [.ref p, .ref a] ∧ H p = some (.ins C dx []) ∧ H a = some (.lst (List.map V.int ws)) ∧ CR.GW ws ∧
  ∀ wh wt H', (∀ b o, H b = some o → b ≠ p → H' b = some o) → DealAt C H' p wh wt ws → H wh = none → H wt = none → Q .non H'
section
variable {P : Program} {w : World} {K : PySem.W.Frag} {mg : Str → Option Value} {base : Heap}
theorem sc_Deal___init__ : FnScope ["self", "weights"] ["self", "weights"] (defScope s_Deal___init__) := ⟨rfl, rfl, rfl, by decide +kernel, rfl, by decide +kernel, by decide +kernel⟩
theorem ok_Deal___init__ {f C : Addr} {fd : FuncData} (F : Fun K "__init__" "Deal.__init__" s_Deal___init__ f fd) (T : Txt K mg) (L : Dl K C) (Cturns : Cal P w K mg base 3 "turns" ["weights"] spTurns) : FnOk P w K mg base CX0 4 f fd ["self", "weights"] (spInit C) := by
  have sc := sc_Deal___init__
  refine F.ok sc (fun vs H Q E h => ?_) (fun cdv A outer s H vs Q E hr h => ?_)
  · obtain ⟨_, _, _, _, rfl, _⟩ := h
    rfl
  obtain ⟨p, dx, a, ws, rfl, hp, ha, g, q⟩ := h
  refine ⟨_, (pss_cons (ps_fld (pv 0) (pe_callC Cturns (hr.mono (by decide)) rfl (pa_cons (pv 1) pa_nil)) rfl)
      (pss_one (ps_fld (pv 0) (pe_callTy call_list_of rfl T.n_list (show bootBuiltins _ = some (.type "list") from rfl) (pa_cons (pv 1) pa_nil)) rfl))), ?_⟩
  have hpa : a ≠ p := ne_of ha hp (by intro z; cases z)
  refine ⟨_, rfl, a, ws, rfl, ha, g, fun wh H1 s1 hwn h1 => ?_⟩
  refine ⟨_, rfl, p, C, dx, [], rfl, s1 _ _ hp, L.cl, L.nW, (by show 0 < 1000; decide), ?_⟩
  have hwp : wh ≠ p := (ne_of_none hp hwn).symm
  have ha2 : upd H1 p (.ins C dx (putF "wheel" (.ref wh) [])) a = some (.lst (List.map V.int ws)) := by rw [upd_ne hpa]; exact s1 _ _ ha
  refine ⟨_, rfl, a, _, rfl, .inl (SqL.of ha2), fun wt hwt => ?_⟩
  have hpt : p ≠ wt := fun z => by rw [← z, upd_same] at hwt; cases hwt
  have hwt1 : H1 wt = none := by rw [upd_ne hpt.symm] at hwt; exact hwt
  refine ⟨_, rfl, p, C, dx, _, rfl, (by rw [upd_ne hpt, upd_same]), L.cl, L.nG, (by show 1 < 1000; decide), ?_⟩
  refine q wh wt _ (fun b o e hb => ?_) ⟨⟨dx, upd_same⟩, ?_, ?_⟩ ?_ ?_
  · rw [upd_ne hb, upd_ne (ne_of_none (s1 _ _ e) hwt1), upd_ne hb]
    exact s1 _ _ e
  · rw [upd_ne hwp, upd_ne (ne_of_none h1 hwt1), upd_ne hwp]
    exact h1
  · rw [upd_ne hpt.symm, upd_same]
  · exact hwn
  · exact s1.free hwt1
end


/-! ### names -/
def letter (c : Nat) : Prop := 97 ≤ c ∧ c ≤ 122
instance : DecidablePred letter := fun c => by unfold letter; exact inferInstance
def AllLet (l : List Nat) : Prop := ∀ c ∈ l, letter c
instance (l : List Nat) : Decidable (AllLet l) := by unfold AllLet; exact inferInstance
def NameL (l : List Nat) : Prop := (1 ≤ l.length ∧ l.length ≤ 8) ∧ AllLet l
instance (l : List Nat) : Decidable (NameL l) := by unfold NameL; exact inferInstance
theorem let_in {c : Nat} : (c ∈ (Str.ofString "abcdefghijklmnopqrstuvwxyz").cps.toList) ↔ letter c := by
  have e : (Str.ofString "abcdefghijklmnopqrstuvwxyz").cps.toList = (List.range 26).map (97 + ·) := by decide +kernel
  rw [e, List.mem_map]
  unfold letter
  constructor
  · rintro ⟨k, hk, rfl⟩
    have := List.mem_range.mp hk
    omega
  · intro h
    exact ⟨c - 97, List.mem_range.mpr (by omega), by omega⟩
def isStrV : V → Bool
  | .str _ => true
  | _ => false
def nameV : V → Bool
  | .str z => decide (NameL z.cps.toList)
  | _ => false
def okX (x : V) : Prop := ∀ z, x = .str z → z.length ≤ 900
theorem str_kit {K : PySem.W.Frag} {H : Hp} {x : V} {T : String} (h : TyOf K H x (.type T)) : PySem.W.kitOne K (.type T) (.type "str") = some (isStrV x) := by
  cases h with
  | non => kernel_rfl
  | bl b => kernel_rfl
  | int i => kernel_rfl
  | str i => kernel_rfl
  | flt i => kernel_rfl
  | lst e => kernel_rfl
  | frz e => kernel_rfl
  | tup e => kernel_rfl
  | dK e => kernel_rfl
  | dT e => kernel_rfl
def spLet : Sp := fun vs H Q _ => ∃ l, vs = [.str (tx l)] ∧ Q (.bl (decide (AllLet l))) H
def spName (K : PySem.W.Frag) : Sp := fun vs H Q _ => ∃ x T, vs = [x] ∧ TyOf K H x (.type T) ∧ okX x ∧ Q (.bl (nameV x)) H
section
seal L2.PS L2.PSs L2.PE
variable {P : Program} {w : World} {K : PySem.W.Frag} {mg : Str → Option Value} {base : Heap}
theorem sc_has_letters_alone : FnScope ["text", "sign"] ["text"] (defScope s_has_letters_alone) := ⟨rfl, rfl, rfl, by decide +kernel, rfl, by decide +kernel, by decide +kernel⟩
theorem ok_has_letters_alone {f : Addr} {fd : FuncData} (F : Fun K "has_letters_alone" "has_letters_alone" s_has_letters_alone f fd) (T : Txt K mg) : FnOk P w K mg base CX0 1 f fd ["text"] spLet := by
  have sc := sc_has_letters_alone
  refine F.ok sc (fun vs H Q E h => ?_) (fun cdv A outer s H vs Q E hr h => ?_)
  · obtain ⟨_, rfl, _⟩ := h
    rfl
  obtain ⟨l, rfl, q⟩ := h
  refine ⟨_, (pss_cons (ps_for PassesOwn.never rfl (pi_str (pv 0)) (pg_name (i := 1) sc.nd rfl (Or.inl rfl))
        (pss_one (ps_if (pt_cmpR op_notIn1 (pv 1) (pe_gstr T.g_LETTERS rfl) rfl)
        (pss_one (ps_ret pe_bl))
        pss_nil)))
      (pss_one (ps_ret pe_bl))), ?_⟩
  refine ⟨_, rfl, _, rfl, for_str (l := l) (fun i σ H2 => ((∃ o, σ = [some (.str (tx l)), o]) ∧ H2 = H) ∧ ∀ j c, j < i → l[j]? = some c → letter c) ⟨⟨⟨none, rfl⟩, rfl⟩, fun _ _ z => absurd z (Nat.not_lt_zero _)⟩ ?_ ?_⟩
  · rintro i c σ H2 hi ⟨⟨⟨o, rfl⟩, rfl⟩, good⟩
    refine ⟨_, rfl, c, _, rfl, rfl, _, rfl, ?_⟩
    by_cases hc : letter c
    · refine nF (let_in.mpr hc) ⟨⟨⟨_, rfl⟩, rfl⟩, fun j d hj hd => ?_⟩
      by_cases e : j = i
      · subst e
        rw [hi] at hd
        cases hd
        exact hc
      · exact good j d (by omega) hd
    · refine nT (fun z => hc (let_in.mp z)) ?_
      have n : ¬ AllLet l := fun z => hc (z c (List.mem_of_getElem? hi))
      rw [decide_eq_false n] at q
      exact q
  · rintro σ H2 ⟨⟨⟨o, rfl⟩, rfl⟩, good⟩
    have all : AllLet l := fun c hc => by
      obtain ⟨j, hj, e⟩ := List.getElem_of_mem hc
      exact good j c hj (by rw [List.getElem?_eq_getElem hj, e])
    rw [decide_eq_true all] at q
    exact q
theorem sc_is_name : FnScope ["thing"] ["thing"] (defScope s_is_name) := ⟨rfl, rfl, rfl, by decide +kernel, rfl, by decide +kernel, by decide +kernel⟩
theorem ok_is_name {f : Addr} {fd : FuncData} (F : Fun K "is_name" "is_name" s_is_name f fd) (T : Txt K mg) (Chas_letters_alone : Cal P w K mg base 1 "has_letters_alone" ["text"] spLet) : FnOk P w K mg base CX0 2 f fd ["thing"] (spName K) := by
  have sc := sc_is_name
  refine F.ok sc (fun vs H Q E h => ?_) (fun cdv A outer s H vs Q E hr h => ?_)
  · obtain ⟨_, _, rfl, _⟩ := h
    rfl
  obtain ⟨x, ty, rfl, hty, ok, q⟩ := h
  refine ⟨_, (pss_cons (ps_if (pt_not (pt_val (pe_callB call_isinst rfl T.n_isinstance (show bootBuiltins _ = some (.builtin "isinstance") from rfl) (pa_cons (pv 0) (pa_cons (pe_ty "str" rfl T.n_str rfl) pa_nil)))))
        (pss_one (ps_ret pe_bl))
        pss_nil)
      (pss_one (ps_ret (pe_and (pe_chain op_le op_le pe_int (pe_callB call_len_str rfl T.n_len (show bootBuiltins _ = some (.builtin "len") from rfl) (pa_cons (pv 0) pa_nil)) (pe_gint T.g_LONGEST_NAME rfl)) (pe_one (pe_callC Chas_letters_alone (hr.mono (by decide)) rfl (pa_cons (pv 0) pa_nil))))))), ?_⟩
  refine ⟨_, rfl, _, _, _, _, _, rfl, ty_is, hty, str_kit hty, _, rfl, ?_⟩
  cases x with
  | str z =>
    have hz := ok z rfl
    have ez : tx z.cps.toList = z := tx_of z
    refine iteF ⟨_, rfl, _, rfl, le_line (by omega), ?_⟩
    have lz : (z.length : Int) = (z.cps.toList.length : Int) := by rw [← tx_len, ez]
    refine ⟨_, _, rfl, rfl, _, rfl, ?_⟩
    by_cases c1 : 1 ≤ (z.length : Int)
    · refine dT c1 ⟨_, _, rfl, rfl, _, rfl, ?_⟩
      by_cases c2 : (z.length : Int) ≤ 8
      · refine dT c2 ⟨_, rfl, z.cps.toList, by rw [ez]; rfl, ?_⟩
        have e : decide (NameL z.cps.toList) = decide (AllLet z.cps.toList) := by
          by_cases a : AllLet z.cps.toList
          · rw [decide_eq_true a, decide_eq_true (show NameL _ from ⟨⟨by omega, by omega⟩, a⟩)]
          · rw [decide_eq_false a, decide_eq_false (fun y => a y.2)]
        rw [← e]
        exact q
      · refine dF c2 ?_
        rw [show nameV (.str z) = false from decide_eq_false (fun y => c2 (by have := y.1.2; omega))] at q
        exact q
    · refine dF c1 ⟨_, rfl, iteF ?_⟩
      rw [show nameV (.str z) = false from decide_eq_false (fun y => c1 (by have := y.1.1; omega))] at q
      exact q
  | _ => exact iteT q
end


/-! ### covers, no houses told -/
def KB (p : Addr) (H H' : Hp) : Prop := ∀ b o, H b = some o → b ≠ p → H' b = some o
theorem KB.upd {p : Addr} {H H' : Hp} (k : KB p H H') (o : HO) : KB p H (upd H' p o) := fun b u e n => by rw [upd_ne n]; exact k b u e n
theorem KB.same {p : Addr} {H H' H'' : Hp} (k : KB p H H') (s : Same H' H'') : KB p H H'' := fun b u e n => s _ _ (k b u e n)
/-- no names of methods among the fields -/
def noM (fs : List (Str × V)) : Prop := fs.lookup ("spans" : Str) = none ∧ fs.lookup ("window" : Str) = none ∧ fs.lookup ("parts" : Str) = none ∧ fs.lookup ("rest" : Str) = none
/-- the cover at p keeps its clauses at cl -/
def CvAt (C : Addr) (H : Hp) (p cl : Addr) : Prop := ∃ dx fs, H p = some (.ins C dx fs) ∧ fs.lookup ("clauses" : Str) = some (.ref cl) ∧ noM fs
theorem CvAt.same {C : Addr} {H H' : Hp} {p cl : Addr} (h : CvAt C H p cl) (s : Same H H') : CvAt C H' p cl := by
  obtain ⟨dx, fs, e, r⟩ := h
  exact ⟨dx, fs, s _ _ e, r⟩
theorem atG {i : Nat} {v : V} {nx : St → Hp → Prop} {σ : St} {H : Hp} (σ' : St) (e : σ.set i (some v) = σ') (h : nx σ' H) : gName i v σ H nx := by
  unfold gName
  rw [e]
  exact h
theorem drop_at {α : Type} {l : List α} {i : Nat} {x : α} (h : l[i]? = some x) : l.drop i = x :: l.drop (i + 1) := by
  rw [List.drop_eq_getElem_cons (List.getElem?_eq_some_iff.mp h).1]
  congr 1
  exact (List.getElem?_eq_some_iff.mp h).2
theorem flat_strs (l : List Str) : (l.map V.str).all flatV = true := by
  rw [List.all_map]
  exact List.all_eq_true.mpr fun _ _ => rfl
def spHouses : Sp := fun vs H Q _ => ∃ a, ∃ ns : List Str, vs = [.ref a] ∧ H a = some (.lst (ns.map V.str)) ∧ (∀ z ∈ ns, nameV (.str z) = true ∧ z.length ≤ 900) ∧ ns.Nodup ∧ ∀ H', Same H H' → Q .non H'
def spCover (C : Addr) : Sp := fun vs H Q _ => ∃ p dx nm cd c0 xs wv, vs = [.ref p, .str nm, cd, .ref c0, .non, wv] ∧ H p = some (.ins C dx []) ∧ nameV (.str nm) = true ∧ nm.length ≤ 900 ∧ nm ≠ "self" ∧ H c0 = some (.lst xs) ∧ xs.length ≤ 8 ∧
  ∀ cl H', H cl = none → KB p H H' → CvAt C H' p cl → H' cl = some (.lst xs) → Q .non H'
theorem gw_one : CR.GW [1] := ⟨by decide, by decide, by decide, by decide⟩
theorem f1 {f g : Str} {v : V} {fs : List (Str × V)} (h : ¬ g = f) : (putF f v fs).lookup g = fs.lookup g := by rw [lookup_putF, if_neg h]
theorem len_putF (f : Str) (v : V) : ∀ fs : List (Str × V), (putF f v fs).length ≤ fs.length + 1
  | [] => Nat.le_refl _
  | (g, u) :: fs => by
    unfold putF
    split
    · simp
    · have := len_putF f v fs
      simp only [List.length_cons]
      omega
section
variable {P : Program} {w : World} {K : PySem.W.Frag} {mg : Str → Option Value} {base : Heap} {C_Clause C_Own C_Layer C_Limit C_Deal C_Cover C_Condition : Addr}
theorem sc_check_houses : FnScope ["houses", "k", "house"] ["houses"] (defScope s_check_houses) := ⟨rfl, rfl, rfl, by decide +kernel, rfl, by decide +kernel, by decide +kernel⟩
theorem ok_check_houses {f : Addr} {fd : FuncData} (F : Fun K "check_houses" "check_houses" s_check_houses f fd) (T : Txt K mg) (Cis_name : Cal P w K mg base 2 "is_name" ["thing"] (spName K)) : FnOk P w K mg base CX0 3 f fd ["houses"] spHouses := by
  have sc := sc_check_houses
  refine F.ok sc (fun vs H Q E h => ?_) (fun cdv A outer s H vs Q E hr h => ?_)
  · obtain ⟨_, _, rfl, _⟩ := h
    rfl
  obtain ⟨a, ns, rfl, ha, hn, nd, q⟩ := h
  refine ⟨_, (pss_one (ps_for PassesOwn.never rfl (pi_enum rfl T.n_enumerate (pa_cons (pv 0) pa_nil)) (pg_tup (n := 2) rfl (pgs_cons (pg_name (i := 1) sc.nd rfl (Or.inl rfl)) (pgs_cons (pg_name (i := 2) sc.nd rfl (Or.inl rfl)) pgs_nil)))
        (pss_one (ps_if (PW.pt (pw_or (pt_not (pt_val (pe_callC Cis_name (hr.mono (by decide)) rfl (pa_cons (pv 2) pa_nil)))) (pw_or1 (pt_cmpR op_in_seq (pv 2) (pe_slice sl_list (pv 0) po_none (po_some (pv 1))) rfl))))
        (pss_one ps_never)
        pss_nil)))), ?_⟩
  refine ⟨_, rfl, a, rfl, ⟨_, SqL.of ha⟩, for_enum (K := K) (a := a) (xs := ns.map V.str) (fun i σ H2 => (∃ o1 o2, σ = [some (.ref a), o1, o2]) ∧ Same H H2) ⟨⟨none, none, rfl⟩, fun _ _ z => z⟩ (fun i σ H2 _ ⟨_, e⟩ => SqL.of (e _ _ ha)) ?_ ?_⟩
  · rintro i x σ H2 t hi ⟨⟨o1, o2, rfl⟩, s2⟩ nt
    rw [List.getElem?_map] at hi
    obtain ⟨z, hz, rfl⟩ : ∃ z, ns[i]? = some z ∧ V.str z = x := by
      cases e : ns[i]? with
      | none => rw [e] at hi; cases hi
      | some z => rw [e] at hi; exact ⟨z, rfl, by simpa using hi⟩
    obtain ⟨h1, h2⟩ := hn z (List.mem_of_getElem? hz)
    have s3 := s2.trans (same_new nt (.tup [.int i, .str z]))
    have il : i < ns.length := (List.getElem?_eq_some_iff.mp hz).1
    refine ⟨_, rfl, _, _, rfl, .str z, (fun y e => by cases e; exact h2), _, rfl, bF (by rw [h1]; rfl) ?_⟩
    refine ⟨_, rfl, _, rfl, _, rfl, _, rfl, a, _, rfl, SqL.of (s3 _ _ ha), fun m nm => ?_⟩
    have ec : cutV (ns.map V.str) none (some (i : Int)) = (ns.take i).map V.str := by
      unfold cutV
      have e1 : HT.sIx (ns.map V.str).length (ns.map V.str).length (some (i : Int)) = i := by rw [HT.sIx_nat, List.length_map]; omega
      rw [e1, HT.sIx_none, List.drop_zero, Nat.sub_zero, List.map_take]
    have s4 := s3.trans (same_new nm (.lst (cutV (ns.map V.str) none (some (i : Int)))))
    refine ⟨m, (ns.take i).map V.str, rfl, .inl (SqL.of (by rw [upd_same, ec])), rfl, flat_strs _, _, rfl, bF ?_ ⟨⟨_, _, rfl⟩, s4⟩⟩
    show inV (.str z) ((ns.take i).map V.str) = false
    unfold inV
    rw [List.any_map]
    rw [List.any_eq_false]
    intro y hy e
    have ne : y ≠ z := fun c => by
      subst c
      obtain ⟨j, hj, ej⟩ := List.getElem_of_mem hy
      have hj' : j < i := by rw [List.length_take] at hj; omega
      have e2 : ns[j]'(by omega) = ns[i] := by
        rw [List.getElem_take] at ej
        rw [ej]
        exact ((List.getElem?_eq_some_iff.mp hz).2).symm
      exact absurd ((List.getElem_inj nd).mp e2) (by omega)
    have e' : eqV (.str y) (.str z) = true := e
    unfold eqV at e'
    exact ne (by simpa using e')
  · rintro σ H2 ⟨⟨o1, o2, rfl⟩, s2⟩
    exact q _ s2
theorem sc_Cover___init__ : FnScope ["self", "name", "condition", "clauses", "houses", "waits", "pairs"] ["self", "name", "condition", "clauses", "houses", "waits"] (defScope s_Cover___init__) := ⟨rfl, rfl, rfl, by decide +kernel, rfl, by decide +kernel, by decide +kernel⟩
seal L2.PS L2.PSs L2.PE L2.PA
theorem ok_Cover___init__ {f : Addr} {fd : FuncData} (F : FunD K "__init__" "Cover.__init__" s_Cover___init__ f fd) (T : Txt K mg) (L : Kl K mg C_Clause C_Own C_Layer C_Limit C_Deal C_Cover C_Condition) (Cis_name : Cal P w K mg base 2 "is_name" ["thing"] (spName K)) (Ccheck_houses : Cal P w K mg base 3 "check_houses" ["houses"] spHouses)
    (KDeal : KCal P w K mg base 4 "Deal" C_Deal ["self", "weights"] (spInit C_Deal)) : FnOk P w K mg base CX0 6 f fd ["self", "name", "condition", "clauses", "houses", "waits"] (spCover C_Cover) := by
  have sc := sc_Cover___init__
  refine F.ok sc (fun vs H Q E h => ?_) (fun cdv A outer s H vs Q E hr h => ?_)
  · obtain ⟨_, _, _, _, _, _, _, rfl, _⟩ := h
    rfl
  obtain ⟨p, dx, nm, cd, c0, xs, wv, rfl, hp, hn, hl, ns, hc, l8, q⟩ := h
  refine ⟨_, (pss_cons (ps_if (PW.pt (pw_or (pt_not (pt_val (pe_callC Cis_name (hr.mono (by decide)) rfl (pa_cons (pv 1) pa_nil)))) (pw_or1 (pt_cmpR op_eq (pv 1) (pe_gstr T.g_COVERED_ONE rfl) (nomark _)))))
        (pss_one ps_never)
        pss_nil)
      (pss_cons (ps_fld (pv 0) (pv 1) rfl)
      (pss_cons (ps_fld (pv 0) (pv 2) rfl)
      (pss_cons (ps_fld (pv 0) (pe_ifExp (pt_cmpR op_isN (pv 3) pe_non (nomark _)) (pe_lst pa_nil) (pe_callTy call_list_of rfl T.n_list (show bootBuiltins _ = some (.type "list") from rfl) (pa_cons (pv 3) pa_nil))) rfl)
      (pss_cons (ps_if (pt_cmpR op_gt (pe_callB call_len_seq rfl T.n_len (show bootBuiltins _ = some (.builtin "len") from rfl) (pa_cons (pe_fld (pv 0) rfl) pa_nil)) (pe_gint T.g_MOST_CLAUSES rfl) (nomark _))
        (pss_one ps_never)
        pss_nil)
      (pss_cons (ps_set (i := 6) sc.nd rfl (Or.inl rfl) (pe_ifExp (pt_cmpR op_isN (pv 4) pe_non (nomark _)) (pe_lst (pa_cons (pe_tup (pa_cons (pv 1) (pa_cons pe_int pa_nil))) pa_nil)) (pv 4)))
      (pss_cons (ps_fld (pv 0) (pe_comp (NC := ["pair"]) (own := ["pair"]) (cs := []) (ix := []) rfl (CompScope.of rfl) rfl trivial (pi_list (pv 6)) (fun _ _ _ => (pg_name (i := 0) (show (["pair"] : List Str).Nodup from by decide +kernel) rfl (Or.inl rfl))) (fun _ _ _ => pts_nil) (fun _ _ _ => (pe_ix (ix_tupK (K := K) rfl) (pv 0) pe_int (fun _ _ => rfl)))) rfl)
      (pss_cons (ps_expr (pe_callC Ccheck_houses (hr.mono (by decide)) rfl (pa_cons (pe_fld (pv 0) rfl) pa_nil)))
      (pss_cons (ps_fld (pv 0) (pe_makeC KDeal (hr.mono (by decide)) rfl (pa_cons (pe_comp (NC := ["pair"]) (own := ["pair"]) (cs := []) (ix := []) rfl (CompScope.of rfl) rfl trivial (pi_list (pv 6)) (fun _ _ _ => (pg_name (i := 0) (show (["pair"] : List Str).Nodup from by decide +kernel) rfl (Or.inl rfl))) (fun _ _ _ => pts_nil) (fun _ _ _ => (pe_ix (ix_tupK (K := K) rfl) (pv 0) pe_int (fun _ _ => rfl)))) pa_nil)) rfl)
      (pss_one (ps_fld (pv 0) (pv 5) rfl))))))))))), ?_⟩
  have one : 1 ≤ sizeLine := by rw [sizeLine_eq]; decide
  have two : 2 ≤ sizeLine := by rw [sizeLine_eq]; decide
  have ncp : c0 ≠ p := ne_of hc hp (by intro z; cases z)
  refine ⟨_, rfl, _, _, rfl, .str nm, (fun y e => by cases e; exact hl), _, rfl, bF (by rw [hn]; rfl) ?_⟩
  refine ⟨_, rfl, rfl, _, rfl, dF (fun z => ns (V.str.inj z)) ?_⟩
  -- name, condition
  refine ⟨_, rfl, _, rfl, p, C_Cover, dx, [], rfl, hp, L.cl_Cover, L.na_Cover_name, by decide, ?_⟩
  refine ⟨_, rfl, _, rfl, p, C_Cover, dx, _, rfl, upd_same, L.cl_Cover, L.na_Cover_condition, Nat.lt_of_le_of_lt (len_putF _ _ _) (by decide), ?_⟩
  have k2 : KB p H (upd (upd H p (.ins C_Cover dx (putF "name" (.str nm) []))) p (.ins C_Cover dx (putF "condition" cd (putF "name" (.str nm) [])))) := KB.upd (KB.upd (fun _ _ e _ => e) _) _
  have e2 : upd (upd H p (.ins C_Cover dx (putF "name" (.str nm) []))) p (.ins C_Cover dx (putF "condition" cd (putF "name" (.str nm) []))) p = some (.ins C_Cover dx (putF "condition" cd (putF "name" (.str nm) []))) := upd_same
  have g2 : (putF "condition" cd (putF "name" (.str nm) [])).length ≤ 2 := Nat.le_trans (len_putF _ _ _) (Nat.succ_le_succ (len_putF _ _ _))
  have r2 : noM (putF "condition" cd (putF "name" (.str nm) [])) := ⟨by rw [f1 (by decide +kernel), f1 (by decide +kernel)]; rfl, by rw [f1 (by decide +kernel), f1 (by decide +kernel)]; rfl, by rw [f1 (by decide +kernel), f1 (by decide +kernel)]; rfl, by rw [f1 (by decide +kernel), f1 (by decide +kernel)]; rfl⟩
  generalize putF "condition" cd (putF "name" (.str nm) []) = fs2 at k2 e2 g2 r2
  generalize upd (upd H p (.ins C_Cover dx (putF "name" (.str nm) []))) p (.ins C_Cover dx fs2) = H2 at k2 e2
  -- clauses
  have hc2 := k2 _ _ hc ncp
  refine ⟨_, rfl, rfl, _, rfl, dF (fun z => nomatch z) ?_⟩
  refine ⟨_, rfl, c0, _, rfl, .inl (SqL.of hc2), fun cl ncl => ?_⟩
  have s3 := same_new ncl (.lst xs)
  have ncl' : cl ≠ p := (ne_of_none e2 ncl).symm
  have nclH : H cl = none := by
    cases z : H cl with
    | none => rfl
    | some o =>
      have := k2 _ _ z ncl'
      rw [ncl] at this
      cases this
  refine ⟨_, rfl, p, C_Cover, dx, fs2, rfl, s3 _ _ e2, L.cl_Cover, L.na_Cover_clauses, by omega, ?_⟩
  have k3 : KB p H (upd (upd H2 cl (.lst xs)) p (.ins C_Cover dx (putF "clauses" (.ref cl) fs2))) := (k2.same s3).upd _
  have e3 : upd (upd H2 cl (.lst xs)) p (.ins C_Cover dx (putF "clauses" (.ref cl) fs2)) p = some (.ins C_Cover dx (putF "clauses" (.ref cl) fs2)) := upd_same
  have c3 : upd (upd H2 cl (.lst xs)) p (.ins C_Cover dx (putF "clauses" (.ref cl) fs2)) cl = some (.lst xs) := by rw [upd_ne ncl', upd_same]
  have g3 : (putF "clauses" (.ref cl) fs2).length ≤ 3 := Nat.le_trans (len_putF _ _ _) (by omega)
  have r3 : noM (putF "clauses" (.ref cl) fs2) := ⟨by rw [f1 (by decide +kernel)]; exact r2.1, by rw [f1 (by decide +kernel)]; exact r2.2.1, by rw [f1 (by decide +kernel)]; exact r2.2.2.1, by rw [f1 (by decide +kernel)]; exact r2.2.2.2⟩
  have w3 : (putF "clauses" (.ref cl) fs2).lookup ("clauses" : Str) = some (.ref cl) := by rw [lookup_putF, if_pos rfl]
  generalize putF "clauses" (.ref cl) fs2 = fs3 at k3 e3 c3 g3 r3 w3
  generalize upd (upd H2 cl (.lst xs)) p (.ins C_Cover dx fs3) = H3 at k3 e3 c3
  refine ⟨_, rfl, p, C_Cover, dx, fs3, _, rfl, e3, L.cl_Cover, L.na_Cover_clauses, w3, cl, _, rfl, .inl (SqL.of c3), _, _, rfl, rfl, _, rfl, dF (by omega) ?_⟩
  -- pairs
  refine ⟨_, rfl, rfl, _, rfl, dT rfl ?_⟩
  refine ⟨_, rfl, two, fun t nt => ⟨one, fun pl npl => ?_⟩⟩
  have s4 := (same_new nt (.tup [.str nm, .int 1])).trans (same_new npl (.lst [.ref t]))
  have et : upd (upd H3 t (.tup [.str nm, .int 1])) pl (.lst [.ref t]) t = some (.tup [.str nm, .int 1]) := same_new npl _ _ _ upd_same
  have ep : upd (upd H3 t (.tup [.str nm, .int 1])) pl (.lst [.ref t]) pl = some (.lst [.ref t]) := upd_same
  refine atG [some (.ref p), some (.str nm), some cd, some (.ref c0), some .non, some wv, some (.ref pl)] rfl ?_
  generalize upd (upd H3 t (.tup [.str nm, .int 1])) pl (.lst [.ref t]) = H4 at s4 et ep
  have e4 := s4 _ _ e3
  have c4 := s4 _ _ c3
  have k4 := k3.same s4
  have npp : pl ≠ p := ne_of ep e4 (by intro z; cases z)
  have ntp : t ≠ p := ne_of et e4 (by intro z; cases z)
  -- houses
  refine ⟨_, rfl, pl, rfl, ⟨_, SqL.of ep⟩, fun hs nhs => ?_⟩
  refine comp_list (K := K) (a := pl) (xs := [.ref t]) (fun i ys H5 => ys = ([V.str nm].take i) ∧ H5 hs = some (.lst ys) ∧ Same H4 H5) ⟨rfl, upd_same, same_new nhs _⟩
    (fun i ys H5 _ ⟨e, h1, s5⟩ => ⟨h1, by rw [e, List.length_take]; omega, SqL.of (s5 _ _ ep)⟩) one (fun i x ys H5 hi ⟨e, h1, s5⟩ => ?_) (fun ys H5 ⟨e, h1, s5⟩ => ?_)
  · obtain ⟨rfl, rfl⟩ : i = 0 ∧ x = .ref t := by
      cases i with
      | zero => exact ⟨rfl, by simpa using hi.symm⟩
      | succ i => simp at hi
    refine ⟨_, rfl, t, _, _, _, rfl, rfl, SqT.of (s5 _ _ et), rfl, h1, rfl, by rw [e]; rfl, upd_same, fun b o z => ?_⟩
    rw [upd_ne (ne_of_none z nhs)]
    exact s5 b o z
  subst e
  have h1' : H5 hs = some (.lst ([nm].map V.str)) := h1
  have e5 := s5 _ _ e4
  have c5 := s5 _ _ c4
  have k5 := k4.same s5
  have et5 := s5 _ _ et
  have ep5 := s5 _ _ ep
  have nhp : hs ≠ p := (ne_of_none e4 nhs).symm
  refine ⟨_, rfl, p, C_Cover, dx, fs3, rfl, e5, L.cl_Cover, L.na_Cover_houses, by omega, ?_⟩
  have e6 : upd H5 p (.ins C_Cover dx (putF "houses" (.ref hs) fs3)) p = some (.ins C_Cover dx (putF "houses" (.ref hs) fs3)) := upd_same
  have c6 : upd H5 p (.ins C_Cover dx (putF "houses" (.ref hs) fs3)) cl = some (.lst xs) := by rw [upd_ne ncl']; exact c5
  have h6 : upd H5 p (.ins C_Cover dx (putF "houses" (.ref hs) fs3)) hs = some (.lst ([nm].map V.str)) := by rw [upd_ne nhp]; exact h1'
  have ep6 : upd H5 p (.ins C_Cover dx (putF "houses" (.ref hs) fs3)) pl = some (.lst [.ref t]) := by rw [upd_ne npp]; exact ep5
  have et6 : upd H5 p (.ins C_Cover dx (putF "houses" (.ref hs) fs3)) t = some (.tup [.str nm, .int 1]) := by rw [upd_ne ntp]; exact et5
  have k6 : KB p H (upd H5 p (.ins C_Cover dx (putF "houses" (.ref hs) fs3))) := k5.upd _
  have g6 : (putF "houses" (.ref hs) fs3).length ≤ 4 := Nat.le_trans (len_putF _ _ _) (by omega)
  have r6 : noM (putF "houses" (.ref hs) fs3) := ⟨by rw [f1 (by decide +kernel)]; exact r3.1, by rw [f1 (by decide +kernel)]; exact r3.2.1, by rw [f1 (by decide +kernel)]; exact r3.2.2.1, by rw [f1 (by decide +kernel)]; exact r3.2.2.2⟩
  have w6 : (putF "houses" (.ref hs) fs3).lookup ("clauses" : Str) = some (.ref cl) := by rw [f1 (by decide +kernel)]; exact w3
  have v6 : (putF "houses" (.ref hs) fs3).lookup ("houses" : Str) = some (.ref hs) := by rw [lookup_putF, if_pos rfl]
  generalize putF "houses" (.ref hs) fs3 = fs6 at e6 c6 h6 ep6 et6 k6 g6 r6 w6 v6
  generalize upd H5 p (.ins C_Cover dx fs6) = H6 at e6 c6 h6 ep6 et6 k6
  refine ⟨_, rfl, p, C_Cover, dx, fs6, _, rfl, e6, L.cl_Cover, L.na_Cover_houses, v6, hs, [nm], rfl, h6, fun z hz => by rw [List.mem_singleton] at hz; subst hz; exact ⟨hn, hl⟩, List.pairwise_singleton _ _, fun H7 s7 => ?_⟩
  have e7 := s7 _ _ e6
  have c7 := s7 _ _ c6
  have ep7 := s7 _ _ ep6
  have et7 := s7 _ _ et6
  have k7 := k6.same s7
  -- deal
  refine ⟨_, rfl, pl, rfl, ⟨_, SqL.of ep7⟩, fun wl nwl => ?_⟩
  refine comp_list (K := K) (a := pl) (xs := [.ref t]) (fun i ys H8 => ys = ([V.int 1].take i) ∧ H8 wl = some (.lst ys) ∧ Same H7 H8) ⟨rfl, upd_same, same_new nwl _⟩
    (fun i ys H8 _ ⟨e, h1, s8⟩ => ⟨h1, by rw [e, List.length_take]; omega, SqL.of (s8 _ _ ep7)⟩) one (fun i x ys H8 hi ⟨e, h1, s8⟩ => ?_) (fun ys H8 ⟨e, h1, s8⟩ => ?_)
  · obtain ⟨rfl, rfl⟩ : i = 0 ∧ x = .ref t := by
      cases i with
      | zero => exact ⟨rfl, by simpa using hi.symm⟩
      | succ i => simp at hi
    refine ⟨_, rfl, t, _, _, _, rfl, rfl, SqT.of (s8 _ _ et7), rfl, h1, rfl, by rw [e]; rfl, upd_same, fun b o z => ?_⟩
    rw [upd_ne (ne_of_none z nwl)]
    exact s8 b o z
  subst e
  have h2' : H8 wl = some (.lst (List.map V.int [1])) := h1
  have e8 := s8 _ _ e7
  have c8 := s8 _ _ c7
  have k8 := k7.same s8
  intro d dd nd ndd nde
  have nwd : wl ≠ d := ne_of_none h2' nd
  have nwdd : wl ≠ dd := ne_of_none h2' ndd
  refine ⟨d, dd, wl, [1], rfl, upd_same, by rw [upd_ne nwd, upd_ne nwdd]; exact h2', gw_one, fun wh wt H9 kp9 D9 _ _ => ⟨rfl, ?_⟩⟩
  have s9 : Same H8 H9 := made_same nd ndd kp9
  have e9 := s9 _ _ e8
  have c9 := s9 _ _ c8
  have k9 := k8.same s9
  refine ⟨_, rfl, p, C_Cover, dx, fs6, rfl, e9, L.cl_Cover, L.na_Cover_deal, by omega, ?_⟩
  have e10 : upd H9 p (.ins C_Cover dx (putF "deal" (.ref d) fs6)) p = some (.ins C_Cover dx (putF "deal" (.ref d) fs6)) := upd_same
  have g10 : (putF "deal" (.ref d) fs6).length ≤ 5 := Nat.le_trans (len_putF _ _ _) (by omega)
  have r10 : noM (putF "deal" (.ref d) fs6) := ⟨by rw [f1 (by decide +kernel)]; exact r6.1, by rw [f1 (by decide +kernel)]; exact r6.2.1, by rw [f1 (by decide +kernel)]; exact r6.2.2.1, by rw [f1 (by decide +kernel)]; exact r6.2.2.2⟩
  have w10 : (putF "deal" (.ref d) fs6).lookup ("clauses" : Str) = some (.ref cl) := by rw [f1 (by decide +kernel)]; exact w6
  refine ⟨_, rfl, _, rfl, p, C_Cover, dx, _, rfl, e10, L.cl_Cover, L.na_Cover_waits, by omega, ?_⟩
  refine q cl _ nclH ((k9.upd _).upd _) ⟨dx, _, upd_same, by rw [f1 (by decide +kernel)]; exact w10, by rw [f1 (by decide +kernel)]; exact r10.1, by rw [f1 (by decide +kernel)]; exact r10.2.1, by rw [f1 (by decide +kernel)]; exact r10.2.2.1, by rw [f1 (by decide +kernel)]; exact r10.2.2.2⟩ ?_
  rw [upd_ne ncl', upd_ne ncl']
  exact c9
end


/-! ### triples -/
theorem dTr_same (p : Tr) : eqD (dTr p) (dTr p) = true := by
  obtain ⟨a, b, c⟩ := p
  unfold dTr eqD eqDs eqDs eqDs eqDs eqD
  show (true == true && (a == a && (b == b && (c == c && true)))) = _
  simp
theorem dTrs_same : ∀ ps : List Tr, eqDs (ps.map dTr) (ps.map dTr) = true
  | [] => by rw [List.map_nil]; unfold eqDs; rfl
  | p :: ps => by
    rw [List.map_cons]
    unfold eqDs
    rw [dTr_same, dTrs_same ps]
    rfl
theorem Trs.last {H : Hp} : ∀ {xs : List V} {ps : List Tr} {p : Tr}, Trs H xs (ps ++ [p]) → ∃ ys t, xs = ys ++ [.ref t] ∧ H t = some (.tup [.int p.1, .int p.2.1, .int p.2.2]) ∧ Trs H ys ps
  | [], [], _, h => h.elim
  | [x], [], _, ⟨⟨t, e, h⟩, _⟩ => ⟨[], t, by rw [e]; rfl, h, trivial⟩
  | x :: y :: xs, [], _, ⟨_, h⟩ => h.elim
  | [], q :: ps, _, h => h.elim
  | x :: xs, q :: ps, p, ⟨z, r⟩ => by
    obtain ⟨ys, t, e, h, r'⟩ := Trs.last (ps := ps) r
    exact ⟨x :: ys, t, by rw [e]; rfl, h, z, r'⟩

/-! ### spans -/
abbrev Sp2 := Int × Int
def Sps (H : Hp) : List V → List Sp2 → Prop
  | [], [] => True
  | x :: xs, p :: ps => (∃ t, x = .ref t ∧ H t = some (.tup [.int p.1, .int p.2])) ∧ Sps H xs ps
  | _, _ => False
theorem Sps.len {H : Hp} : ∀ {xs : List V} {ps : List Sp2}, Sps H xs ps → xs.length = ps.length
  | [], [], _ => rfl
  | [], _ :: _, h => h.elim
  | _ :: _, [], h => h.elim
  | x :: xs, p :: ps, h => by rw [List.length_cons, List.length_cons, Sps.len h.2]
theorem Sps.mono {H H' : Hp} (s : Tst H H') : ∀ {xs : List V} {ps : List Sp2}, Sps H xs ps → Sps H' xs ps
  | [], [], _ => trivial
  | [], _ :: _, h => h.elim
  | _ :: _, [], h => h.elim
  | x :: xs, p :: ps, ⟨⟨t, e, h⟩, r⟩ => ⟨⟨t, e, s _ _ h⟩, Sps.mono s r⟩
theorem Sps.get {H : Hp} : ∀ {xs : List V} {ps : List Sp2} {i : Nat} {x : V}, Sps H xs ps → xs[i]? = some x → ∃ t p, ps[i]? = some p ∧ x = .ref t ∧ H t = some (.tup [.int p.1, .int p.2])
  | [], [], _, _, _, e => by simp at e
  | [], _ :: _, _, _, h, _ => h.elim
  | _ :: _, [], _, _, h, _ => h.elim
  | x :: xs, p :: ps, 0, y, ⟨⟨t, e, h⟩, r⟩, q => by
    simp at q
    subst q
    exact ⟨t, p, rfl, e, h⟩
  | x :: xs, p :: ps, i + 1, y, ⟨_, r⟩, q => by
    obtain ⟨t, p', h1, h2⟩ := Sps.get (i := i) r (by simpa using q)
    exact ⟨t, p', by simpa using h1, h2⟩
theorem Sps.snoc {H : Hp} : ∀ {xs : List V} {ps : List Sp2} {t : Addr} {a b : Int}, Sps H xs ps → H t = some (.tup [.int a, .int b]) → Sps H (xs ++ [.ref t]) (ps ++ [(a, b)])
  | [], [], t, _, _, _, h => ⟨⟨t, rfl, h⟩, trivial⟩
  | [], _ :: _, _, _, _, r, _ => r.elim
  | _ :: _, [], _, _, _, r, _ => r.elim
  | x :: xs, p :: ps, _, _, _, ⟨z, r⟩, h => ⟨z, Sps.snoc r h⟩
theorem take_snoc {α : Type} {l : List α} {i : Nat} {x : α} (h : l[i]? = some x) : l.take (i + 1) = l.take i ++ [x] := by
  rw [List.take_add_one, h]
  rfl
def Cls4 (CC CO CL CM : Addr) (H : Hp) : List V → List Cl → Prop
  | [], [] => True
  | x :: xs, c :: cs => (∃ p, x = .ref p ∧ ClAt CC CO CL CM H p c) ∧ Cls4 CC CO CL CM H xs cs
  | _, _ => False
theorem Cls4.len {CC CO CL CM : Addr} {H : Hp} : ∀ {xs : List V} {cs : List Cl}, Cls4 CC CO CL CM H xs cs → xs.length = cs.length
  | [], [], _ => rfl
  | [], _ :: _, h => h.elim
  | _ :: _, [], h => h.elim
  | x :: xs, c :: cs, h => by rw [List.length_cons, List.length_cons, Cls4.len h.2]
theorem Cls4.get {CC CO CL CM : Addr} {H : Hp} : ∀ {xs : List V} {cs : List Cl} {i : Nat} {x : V}, Cls4 CC CO CL CM H xs cs → xs[i]? = some x → ∃ p c, cs[i]? = some c ∧ x = .ref p ∧ ClAt CC CO CL CM H p c
  | [], [], _, _, _, e => by simp at e
  | [], _ :: _, _, _, h, _ => h.elim
  | _ :: _, [], _, _, h, _ => h.elim
  | x :: xs, c :: cs, 0, y, ⟨⟨p, e, h⟩, r⟩, q => by
    simp at q
    subst q
    exact ⟨p, c, rfl, e, h⟩
  | x :: xs, c :: cs, i + 1, y, ⟨_, r⟩, q => by
    obtain ⟨p, c', h1, h2⟩ := Cls4.get (i := i) r (by simpa using q)
    exact ⟨p, c', by simpa using h1, h2⟩
def Ist (H H' : Hp) : Prop := ∀ t C dx fs, H t = some (.ins C dx fs) → H' t = some (.ins C dx fs)
theorem ist_same {H H' : Hp} (s : Same H H') : Ist H H' := fun t _ _ _ h => s t _ h
theorem ist_lst {H : Hp} {l : Addr} {xs : List V} (h : H l = some (.lst xs)) (o : HO) : Ist H (upd H l o) := fun t _ _ _ z => by
  rw [upd_ne (ne_of z h (by intro e; cases e))]
  exact z
theorem Cls4.mono {CC CO CL CM : Addr} {H H' : Hp} (s : Ist H H') : ∀ {xs : List V} {ps : List Cl}, Cls4 CC CO CL CM H xs ps → Cls4 CC CO CL CM H' xs ps
  | [], [], _ => trivial
  | [], _ :: _, h => h.elim
  | _ :: _, [], h => h.elim
  | x :: xs, p :: ps, ⟨⟨t, e, dx, h⟩, r⟩ => ⟨⟨t, e, dx, s _ _ _ _ h⟩, Cls4.mono s r⟩
theorem Cls4.snoc {CC CO CL CM : Addr} {H : Hp} : ∀ {xs : List V} {cs : List Cl} {p : Addr} {c : Cl}, Cls4 CC CO CL CM H xs cs → ClAt CC CO CL CM H p c → Cls4 CC CO CL CM H (xs ++ [.ref p]) (cs ++ [c])
  | [], [], p, _, _, h => ⟨⟨p, rfl, h⟩, trivial⟩
  | [], _ :: _, _, _, z, _ => z.elim
  | _ :: _, [], _, _, z, _ => z.elim
  | x :: xs, c :: cs, _, _, ⟨z, r⟩, h => ⟨z, Cls4.snoc r h⟩
/-- the spans of clauses, by what is counted -/
def spanOf (k : Int) (c : Cl) (n : Int) : Sp2 := (sLo c n k, sHi c n k)
def spansOf (k : Int) (cs : List Cl) (ns : List Int) : List Sp2 := List.zipWith (spanOf k) cs ns
theorem spans_take {k : Int} {cs : List Cl} {ns : List Int} {i : Nat} {c : Cl} {n : Int} (h1 : cs[i]? = some c) (h2 : ns[i]? = some n) : spansOf k (cs.take (i + 1)) (ns.take (i + 1)) = spansOf k (cs.take i) (ns.take i) ++ [spanOf k c n] := by
  unfold spansOf
  rw [take_snoc h1, take_snoc h2, List.zipWith_append (by
    have := (List.getElem?_eq_some_iff.mp h1).1
    have := (List.getElem?_eq_some_iff.mp h2).1
    rw [List.length_take, List.length_take]
    omega)]
  rfl
theorem spans_len {k : Int} {cs : List Cl} {ns : List Int} (h : ns.length = cs.length) : (spansOf k cs ns).length = cs.length := by unfold spansOf; rw [List.length_zipWith]; omega
def spFW : Sp := fun vs H Q _ => ∃ a xs sp, ∃ c : Int, vs = [.ref a, .int c] ∧ H a = some (.lst xs) ∧ Sps H xs sp ∧ sp.length ≤ 60 ∧ ∀ H', Same H H' → Q (.int (CRP.fw sp c)) H'
def isB (sp : List Sp2) (cents y : Int) : Prop := y = 0 ∨ y = cents ∨ ∃ p ∈ sp, y = p.1 ∨ y = p.2
def spBnd : Sp := fun vs H Q _ => ∃ a xs sp, ∃ cents : Int, vs = [.ref a, .int cents] ∧ H a = some (.lst xs) ∧ Sps H xs sp ∧ sp.length ≤ 8 ∧ ∀ (l : Addr) (ms : List Int) (H' : Hp), Same H H' → H l = none → H' l = some (.lst (ms.map V.int)) → ms.Pairwise (· < ·) → (∀ y, y ∈ ms ↔ isB sp cents y) → ms.length ≤ 20 → Q (.ref l) H'
theorem nd_len : ∀ {ms ns : List Int}, ms.Nodup → (∀ y ∈ ms, y ∈ ns) → ms.length ≤ ns.length
  | [], _, _, _ => Nat.zero_le _
  | x :: ms, ns, nd, h => by
    rw [List.nodup_cons] at nd
    have hx := h x List.mem_cons_self
    have ih := nd_len (ns := ns.erase x) nd.2 fun y hy => (List.mem_erase_of_ne (fun z : y = x => nd.1 (by rw [← z]; exact hy))).mpr (h y (List.mem_cons_of_mem _ hy))
    rw [List.length_erase_of_mem hx] at ih
    have : 0 < ns.length := List.length_pos_of_mem hx
    rw [List.length_cons]
    omega
theorem up_len {ms ns : List Int} (h : ms.Pairwise (· < ·)) (m : ∀ y ∈ ms, y ∈ ns) : ms.length ≤ ns.length := by
  have nd : ms.Nodup := h.imp fun {a b} z => by omega
  exact nd_len nd m
section
variable {P : Program} {w : World} {K : PySem.W.Frag} {mg : Str → Option Value} {base : Heap} {C_Clause C_Own C_Layer C_Limit C_Deal C_Cover C_Condition : Addr}
theorem sc_first_without : FnScope ["spans", "cent", "k", "span"] ["spans", "cent"] (defScope s_first_without) := ⟨rfl, rfl, rfl, by decide +kernel, rfl, by decide +kernel, by decide +kernel⟩
theorem ok_first_without {f : Addr} {fd : FuncData} (F : Fun K "first_without" "first_without" s_first_without f fd) (T : Txt K mg) : FnOk P w K mg base CX0 1 f fd ["spans", "cent"] spFW := by
  have sc := sc_first_without
  refine F.ok sc (fun vs H Q E h => ?_) (fun cdv A outer s H vs Q E hr h => ?_)
  · obtain ⟨_, _, _, _, rfl, _⟩ := h
    rfl
  obtain ⟨a, xs, sp, c, rfl, ha, ps, l60, q⟩ := h
  refine ⟨_, (pss_cons (ps_for PassesOwn.never rfl (pi_enum rfl T.n_enumerate (pa_cons (pv 0) pa_nil)) (pg_tup (n := 2) rfl (pgs_cons (pg_name (i := 2) sc.nd rfl (Or.inl rfl)) (pgs_cons (pg_name (i := 3) sc.nd rfl (Or.inl rfl)) pgs_nil)))
        (pss_one (ps_if (PW.pt (pw_or (pt_cmpR op_lt (pv 1) (pe_ix ix_tup (pv 3) pe_int (fun _ _ => rfl)) (nomark _)) (pw_or1 (pt_cmpR op_ge (pv 1) (pe_ix ix_tup (pv 3) pe_int (fun _ _ => rfl)) (nomark _)))))
        (pss_one (ps_ret (pv 2)))
        pss_nil)))
      (pss_one (ps_ret (pe_un un_neg pe_int)))), ?_⟩
  have lx := ps.len
  refine ⟨_, rfl, a, rfl, ⟨_, SqL.of ha⟩, for_enum (K := K) (a := a) (xs := xs) (fun i σ H2 => ((∃ o1 o2, σ = [some (.ref a), some (.int c), o1, o2]) ∧ CRP.fw sp c = CRP.fwFrom (sp.drop i) i c) ∧ Same H H2) ⟨⟨⟨none, none, rfl⟩, rfl⟩, fun _ _ z => z⟩ (fun i σ H2 _ ⟨_, e⟩ => SqL.of (e _ _ ha)) ?_ ?_⟩
  · rintro i x σ H2 t hi ⟨⟨⟨o1, o2, rfl⟩, e⟩, s2⟩ nt
    obtain ⟨u, p, hp, rfl, hu⟩ := ps.get hi
    have s3 := s2.trans (same_new nt (.tup [.int i, .ref u]))
    have hu3 := s3 _ _ hu
    rw [drop_at hp] at e
    have e2 : CRP.fw sp c = if c < p.1 ∨ p.2 ≤ c then (i : Int) else CRP.fwFrom (sp.drop (i + 1)) ((i : Int) + 1) c := e
    refine ⟨_, rfl, _, rfl, u, _, _, _, rfl, rfl, SqT.of hu3, rfl, _, _, rfl, rfl, _, rfl, ?_⟩
    by_cases c1 : c < p.1
    · rw [if_pos (.inl c1)] at e2
      refine dT c1 (iteT ⟨_, rfl, ?_⟩)
      have := q _ s3
      rw [e2] at this
      exact this
    refine dF c1 ⟨_, rfl, _, rfl, u, _, _, _, rfl, rfl, SqT.of hu3, rfl, _, _, rfl, rfl, _, rfl, ?_⟩
    by_cases c2 : p.2 ≤ c
    · rw [if_pos (.inr c2)] at e2
      refine dT c2 ⟨_, rfl, ?_⟩
      have := q _ s3
      rw [e2] at this
      exact this
    · rw [if_neg (by omega)] at e2
      exact dF c2 ⟨⟨⟨_, _, rfl⟩, by rw [e2]; rfl⟩, s3⟩
  · rintro σ H2 ⟨⟨⟨o1, o2, rfl⟩, e⟩, s2⟩
    rw [lx, List.drop_length] at e
    have := q _ s2
    rw [e] at this
    exact ⟨_, rfl, this⟩
theorem sc_bounds_of : FnScope ["spans", "cents", "bounds", "span"] ["spans", "cents"] (defScope s_bounds_of) := ⟨rfl, rfl, rfl, by decide +kernel, rfl, by decide +kernel, by decide +kernel⟩
theorem ok_bounds_of {f : Addr} {fd : FuncData} (F : Fun K "bounds_of" "bounds_of" s_bounds_of f fd) (T : Txt K mg) : FnOk P w K mg base CX0 1 f fd ["spans", "cents"] spBnd := by
  have sc := sc_bounds_of
  refine F.ok sc (fun vs H Q E h => ?_) (fun cdv A outer s H vs Q E hr h => ?_)
  · obtain ⟨_, _, _, _, rfl, _⟩ := h
    rfl
  obtain ⟨a, xs, sp, cents, rfl, ha, ps, l8, q⟩ := h
  refine ⟨_, (pss_cons (ps_set (i := 2) sc.nd rfl (Or.inl rfl) (pe_lst (pa_cons pe_int (pa_cons (pv 1) pa_nil))))
      (pss_cons (ps_for PassesOwn.never rfl (pi_list (pv 0)) (pg_name (i := 3) sc.nd rfl (Or.inl rfl))
        (pss_one (ps_expr (pe_bm PySem.F.plainAttrs_list PySem.F.slot_list_extend PySem.F.type_list_extend mt_extendT (pv 2) (pa_cons (pv 3) pa_nil)))))
      (pss_one (ps_ret (pe_sortSet (pv 2) rfl rfl T.n_sorted rfl T.n_set))))), ?_⟩
  have lx := ps.len
  refine ⟨_, rfl, le_line (by show 2 ≤ 1000; decide), fun b nb => ?_⟩
  have nab : a ≠ b := ne_of_none ha nb
  refine ⟨_, rfl, a, rfl, ⟨_, SqL.of (same_new nb _ _ _ ha)⟩, for_list (K := K) (a := a) (xs := xs) (fun i σ H2 => (∃ o, σ = [some (.ref a), some (.int cents), some (.ref b), o]) ∧ H2 b = some (.lst ((0 :: cents :: (sp.take i).flatMap fun p => [p.1, p.2]).map V.int)) ∧ Same H H2) ⟨⟨none, rfl⟩, upd_same, same_new nb _⟩
    (fun i σ H2 _ ⟨_, _, e⟩ => SqL.of (e _ _ ha)) ?_ ?_⟩
  · rintro i x σ H2 hi ⟨⟨o, rfl⟩, hb, s2⟩
    obtain ⟨u, p, hp, rfl, hu⟩ := ps.get hi
    have il : i < sp.length := (List.getElem?_eq_some_iff.mp hp).1
    have fl : ∀ l : List Sp2, (l.flatMap fun p => [p.1, p.2]).length = 2 * l.length := fun l => by
      induction l with
      | nil => rfl
      | cons y l ih => simp only [List.flatMap_cons, List.length_append, List.length_cons, List.length_nil, ih]; omega
    refine ⟨_, rfl, .inl ⟨rfl, _, SqL.of hb⟩, _, rfl, b, u, _, _, rfl, rfl, hb, s2 _ _ hu, ?_, ⟨⟨_, rfl⟩, ?_, fun y o z => ?_⟩⟩
    · rw [List.length_map, List.length_cons, List.length_cons, fl, List.length_take, sizeLine_eq]
      show _ + 2 ≤ _
      omega
    · rw [upd_same, take_snoc hp, List.flatMap_append]
      congr 2
      show List.map V.int _ ++ [V.int p.1, V.int p.2] = List.map V.int (0 :: cents :: (_ ++ _))
      rw [← List.cons_append, ← List.cons_append, List.map_append]
      rfl
    · rw [upd_ne (ne_of_none z nb)]
      exact s2 y o z
  · rintro σ H2 ⟨⟨o, rfl⟩, hb, s2⟩
    rw [lx, List.take_length] at hb
    have fl : ∀ l : List Sp2, (l.flatMap fun p => [p.1, p.2]).length = 2 * l.length := fun l => by
      induction l with
      | nil => rfl
      | cons y l ih => simp only [List.flatMap_cons, List.length_append, List.length_cons, List.length_nil, ih]; omega
    have ln : (0 :: cents :: sp.flatMap fun p => [p.1, p.2]).length ≤ 20 := by rw [List.length_cons, List.length_cons, fl]; omega
    refine ⟨_, rfl, b, _, rfl, SqL.of hb, by omega, fun l ms nl up mem => q l ms _ (s2.trans (same_new nl _)) (s2.free nl) upd_same up (fun y => ?_) ?_⟩
    · rw [mem y]
      unfold isB
      constructor
      · intro hy
        rcases List.mem_cons.mp hy with z | z
        · exact .inl z
        rcases List.mem_cons.mp z with z | z
        · exact .inr (.inl z)
        · obtain ⟨p, hp, hy'⟩ := List.mem_flatMap.mp z
          refine .inr (.inr ⟨p, hp, ?_⟩)
          simpa using hy'
      · rintro (z | z | ⟨p, hp, z⟩)
        · rw [z]; exact List.mem_cons_self
        · rw [z]; exact List.mem_cons_of_mem _ List.mem_cons_self
        · refine List.mem_cons_of_mem _ (List.mem_cons_of_mem _ (List.mem_flatMap.mpr ⟨p, hp, ?_⟩))
          simpa using z
    · exact Nat.le_trans (up_len up fun y hy => (mem y).mp hy) ln
end


/-! ### the rest of a cover -/
/-- the rest, reckoned: the rooms from the k-th on -/
def restW : List (Option Int) → Int → Option (Int × Int) → Option (Int × Int)
  | [], _, o => o
  | none :: r, k, o => restW r (k + 1) o
  | some n :: r, k, none => restW r (k + 1) (some (n, k))
  | some n :: r, k, some (m, j) => restW r (k + 1) (if n < m then some (n, k) else some (m, j))
def roomO : V → Option Int
  | .int n => some n
  | _ => none
/-- a rest as a value -/
def RV (H : Hp) (v : V) : Option (Int × Int) → Prop
  | none => v = .non
  | some (n, k) => ∃ t, v = .ref t ∧ H t = some (.tup [.int n, .int k])
theorem RV.same {H H' : Hp} {v : V} (s : Same H H') : ∀ {o : Option (Int × Int)}, RV H v o → RV H' v o
  | none, h => h
  | some (n, k), ⟨t, e, h⟩ => ⟨t, e, s _ _ h⟩
def roomsOf (cs : List Cl) (ns : List Int) : List (Option Int) := List.zipWith (fun c n => roomO (sRoom c n)) cs ns
def spRest (CC CO CL CM C : Addr) : Sp := fun vs H Q _ => ∃ p cl ct xs cs ns, vs = [.ref p, .ref ct] ∧ CvAt C H p cl ∧ H cl = some (.lst xs) ∧ Cls4 CC CO CL CM H xs cs ∧ H ct = some (.lst (List.map V.int ns)) ∧ ns.length = cs.length ∧
  ∀ v H', Same H H' → RV H' v (restW (roomsOf cs ns) 0 none) → Q v H'
theorem room_int (c : Cl) (n : Int) : sRoom c n = .non ∨ ∃ m : Int, sRoom c n = .int m := by
  cases c with
  | own y d => exact .inl rfl
  | lay y a b => exact .inl rfl
  | lim y m => exact .inr ⟨_, rfl⟩
  | any y => exact .inl rfl
section
variable {P : Program} {w : World} {K : PySem.W.Frag} {mg : Str → Option Value} {base : Heap} {C_Clause C_Own C_Layer C_Limit C_Deal C_Cover C_Condition : Addr}
theorem sc_Cover_rest : FnScope ["self", "counts", "least", "k", "clause", "room"] ["self", "counts"] (defScope s_Cover_rest) := ⟨rfl, rfl, rfl, by decide +kernel, rfl, by decide +kernel, by decide +kernel⟩
theorem ok_Cover_rest {f : Addr} {fd : FuncData} (F : Fun K "rest" "Cover.rest" s_Cover_rest f fd) (T : Txt K mg) (L : Kl K mg C_Clause C_Own C_Layer C_Limit C_Deal C_Cover C_Condition) (Mroom : MFam P w K mg base 1 (Fam C_Clause C_Own C_Layer C_Limit) "room" ["self", "paid"] (spRoom C_Clause C_Own C_Layer C_Limit)) : FnOk P w K mg base CX0 2 f fd ["self", "counts"] (spRest C_Clause C_Own C_Layer C_Limit C_Cover) := by
  have sc := sc_Cover_rest
  refine F.ok sc (fun vs H Q E h => ?_) (fun cdv A outer s H vs Q E hr h => ?_)
  · obtain ⟨_, _, _, _, _, _, rfl, _⟩ := h
    rfl
  obtain ⟨p, cl, ct, xs, cs, ns, rfl, ⟨dx, fs, hp, hlk, _⟩, hcl, C4, hct, ln, q⟩ := h
  refine ⟨_, (pss_cons (ps_set (i := 2) sc.nd rfl (Or.inl rfl) pe_non)
      (pss_cons (ps_for PassesOwn.never rfl (pi_enum rfl T.n_enumerate (pa_cons (pe_fld (pv 0) rfl) pa_nil)) (pg_tup (n := 2) rfl (pgs_cons (pg_name (i := 3) sc.nd rfl (Or.inl rfl)) (pgs_cons (pg_name (i := 4) sc.nd rfl (Or.inl rfl)) pgs_nil)))
        (pss_cons (ps_set (i := 5) sc.nd rfl (Or.inl rfl) (pe_methD Mroom (hr.mono (by decide)) (pv 4) (pa_cons (pe_ix ix_list (pv 1) (pv 3) (fun _ _ => rfl)) pa_nil)))
      (pss_one (ps_if (PW.pt (pw_and (pt_cmpR op_notN (pv 5) pe_non (nomark _)) (pw_and1 (PW.pt (pw_or (pt_cmpR op_isN (pv 2) pe_non (nomark _)) (pw_or1 (pt_cmpR op_lt (pv 5) (pe_ix ix_tup (pv 2) pe_int (fun _ _ => rfl)) (nomark _))))))))
        (pss_one (ps_set (i := 2) sc.nd rfl (Or.inl rfl) (pe_tup (pa_cons (pv 5) (pa_cons (pv 3) pa_nil)))))
        pss_nil))))
      (pss_one (ps_ret (pv 2))))), ?_⟩
  have lx := C4.len
  have two : 2 ≤ sizeLine := by rw [sizeLine_eq]; decide
  refine ⟨_, rfl, p, C_Cover, dx, fs, _, rfl, hp, L.cl_Cover, L.na_Cover_clauses, hlk, cl, rfl, ⟨_, SqL.of hcl⟩, for_enum (K := K) (a := cl) (xs := xs)
    (fun i σ H2 => (∃ v o3 o4 o5 o, σ = [some (.ref p), some (.ref ct), some v, o3, o4, o5] ∧ RV H2 v o ∧ restW (roomsOf cs ns) 0 none = restW ((roomsOf cs ns).drop i) i o) ∧ Same H H2) ⟨⟨.non, none, none, none, none, rfl, rfl, rfl⟩, fun _ _ z => z⟩ (fun i σ H2 _ ⟨_, e⟩ => SqL.of (e _ _ hcl)) ?_ ?_⟩
  · rintro i x σ H2 t hi ⟨⟨v, o3, o4, o5, o, rfl, rv, er⟩, s2⟩ nt
    obtain ⟨pc, c, hc, rfl, ⟨dc, hat⟩⟩ := C4.get hi
    have s3 := same_new nt (.tup [.int i, .ref pc])
    have s23 := s2.trans s3
    have ic : i < cs.length := (List.getElem?_eq_some_iff.mp hc).1
    have hcn : cs[i]'ic = c := (List.getElem?_eq_some_iff.mp hc).2
    have hnn : ns.getD i 0 = ns[i]'(by omega) := by rw [List.getD_eq_getElem?_getD, List.getElem?_eq_getElem (by omega)]; rfl
    have nth : (roomsOf cs ns)[i]? = some (roomO (sRoom c (ns.getD i 0))) := by
      unfold roomsOf
      rw [List.getElem?_zipWith, hc, List.getElem?_eq_getElem (show i < ns.length by omega), ← hnn]
    rw [drop_at nth] at er
    have rv3 := rv.same s3
    refine ⟨_, rfl, pc, _, dc, _, rfl, s23 _ _ hat, fam_of C_Clause C_Own C_Layer C_Limit c, no_room c, _, rfl, _, rfl, ct, _, _, _, rfl, rfl, SqL.of (s23 _ _ hct), at_intI (by omega) (by omega), pc, c, _, rfl, ⟨dc, s23 _ _ hat⟩, rfl, ?_⟩
    have ei : ((i : Int)).toNat = i := Int.toNat_natCast i
    rw [ei]
    generalize hR : sRoom c (ns.getD i 0) = rm at er
    have rmv : rm = .non ∨ ∃ m : Int, rm = .int m := by rw [← hR]; exact room_int c _
    rcases rmv with rfl | ⟨m, rfl⟩
    · refine ⟨_, rfl, rfl, _, rfl, nF rfl (iteF ?_)⟩
      exact ⟨⟨v, _, _, _, o, rfl, rv3, er⟩, s23⟩
    · refine ⟨_, rfl, rfl, _, rfl, nT (fun z => nomatch z) ?_⟩
      have done : ∀ (H4 : Hp) (u : Addr) o5', Same H H4 → H4 u = none → restW (roomsOf cs ns) 0 none = restW ((roomsOf cs ns).drop (i + 1)) ((i : Int) + 1) (some (m, (i : Int))) →
          (∃ v o3 o4 o5 o, [some (.ref p), some (.ref ct), some (.ref u), some (.int i), some (.ref pc), o5'] = [some (.ref p), some (.ref ct), some v, o3, o4, o5] ∧ RV (upd H4 u (.tup [.int m, .int i])) v o ∧ restW (roomsOf cs ns) 0 none = restW ((roomsOf cs ns).drop (i + 1)) ((i + 1 : Nat) : Int) o) ∧ Same H (upd H4 u (.tup [.int m, .int i])) := fun H4 u o5' s4 nu e => by
        exact ⟨⟨.ref u, _, _, _, some (m, i), rfl, ⟨u, rfl, upd_same⟩, by rw [e]; rfl⟩, s4.trans (same_new nu _)⟩
      cases o with
      | none =>
        have v0 : v = .non := rv
        subst v0
        refine ⟨_, rfl, rfl, _, rfl, dT rfl (iteT ?_)⟩
        exact ⟨_, rfl, _, rfl, two, fun u nu => done _ u _ s23 nu er⟩
      | some mj =>
        obtain ⟨n0, j0⟩ := mj
        obtain ⟨tv, rfl, htv⟩ := rv3
        refine ⟨_, rfl, rfl, _, rfl, dF (fun z => nomatch z) ?_⟩
        refine ⟨_, rfl, _, rfl, tv, _, _, _, rfl, rfl, SqT.of htv, rfl, _, _, rfl, rfl, _, rfl, ite2 (fun c1 => ?_) (fun c1 => ?_)⟩
        · have c1' : m < n0 := of_decide_eq_true c1
          have er' : restW (roomsOf cs ns) 0 none = restW ((roomsOf cs ns).drop (i + 1)) ((i : Int) + 1) (if m < n0 then some (m, (i : Int)) else some (n0, j0)) := er
          rw [if_pos c1'] at er'
          exact ⟨_, rfl, _, rfl, two, fun u nu => done _ u _ s23 nu er'⟩
        · have c1' : ¬ m < n0 := of_decide_eq_false (Bool.eq_false_iff.mpr c1)
          have er' : restW (roomsOf cs ns) 0 none = restW ((roomsOf cs ns).drop (i + 1)) ((i : Int) + 1) (if m < n0 then some (m, (i : Int)) else some (n0, j0)) := er
          rw [if_neg c1'] at er'
          exact ⟨⟨.ref tv, _, _, _, some (n0, j0), rfl, ⟨tv, rfl, htv⟩, by rw [er']; rfl⟩, s23⟩
  · rintro σ H2 ⟨⟨v, o3, o4, o5, o, rfl, rv, er⟩, s2⟩
    have lr : (roomsOf cs ns).length = xs.length := by unfold roomsOf; rw [List.length_zipWith]; omega
    rw [← lr, List.drop_length] at er
    exact ⟨_, rfl, q v H2 s2 (by rw [er]; exact rv)⟩
end


/-! ### windows and parts -/
theorem atσ {nx : St → Hp → Prop} {σ : St} {H : Hp} (σ' : St) (e : σ = σ') (h : nx σ' H) : nx σ H := e ▸ h
def Cvr (CC CO CL CM C : Addr) (H : Hp) (p cl ct : Addr) (cs : List Cl) (ns : List Int) : Prop := CvAt C H p cl ∧ (∃ xs, H cl = some (.lst xs) ∧ Cls4 CC CO CL CM H xs cs) ∧ H ct = some (.lst (ns.map V.int)) ∧ ns.length = cs.length ∧ cs.length ≤ 8
theorem Cvr.same {CC CO CL CM C : Addr} {H H' : Hp} {p cl ct : Addr} {cs : List Cl} {ns : List Int} (h : Cvr CC CO CL CM C H p cl ct cs ns) (s : Same H H') : Cvr CC CO CL CM C H' p cl ct cs ns := by
  obtain ⟨a, ⟨xs, b, c⟩, d, e⟩ := h
  exact ⟨a.same s, ⟨xs, s _ _ b, c.mono (ist_same s)⟩, s _ _ d, e⟩
def isMax (m : Int) (l : List Int) : Prop := m ∈ l ∧ ∀ k ∈ l, k ≤ m
def isMin (m : Int) (l : List Int) : Prop := m ∈ l ∧ ∀ k ∈ l, m ≤ k
def spSpans (CC CO CL CM C : Addr) : Sp := fun vs H Q _ => ∃ p cl ct cs ns, ∃ k : Int, vs = [.ref p, .ref ct, .int k] ∧ Cvr CC CO CL CM C H p cl ct cs ns ∧ ∀ r ys H', Same H H' → H r = none → H' r = some (.lst ys) → Sps H' ys (spansOf k cs ns) → Q (.ref r) H'
def spWin (CC CO CL CM C : Addr) : Sp := fun vs H Q _ => ∃ p cl ct cs ns, ∃ k : Int, vs = [.ref p, .ref ct, .int k] ∧ Cvr CC CO CL CM C H p cl ct cs ns ∧ ∀ (t : Addr) (lo hi : Int) (H' : Hp), Same H H' → H' t = some (.tup [.int lo, .int (if hi > lo then hi else lo)]) →
  isMax lo (0 :: (spansOf k cs ns).map (·.1)) → isMin hi (k :: (spansOf k cs ns).map (·.2)) → Q (.ref t) H'
def spPts (CC CO CL CM C : Addr) : Sp := fun vs H Q _ => ∃ p cl ct cs ns, ∃ k : Int, vs = [.ref p, .ref ct, .int k] ∧ Cvr CC CO CL CM C H p cl ct cs ns ∧ ∀ (r : Addr) (xs : List V) (ms : List Int) (H' : Hp), Same H H' → H r = none → H' r = some (.lst xs) → ms.Pairwise (· < ·) → (∀ y, y ∈ ms ↔ isB (spansOf k cs ns) k y) → ms.length ≤ 20 →
  Trs H' xs (CRP.foldP (spansOf k cs ns) ms (ms.length - 1)) → Q (.ref r) H'
section
variable {P : Program} {w : World} {K : PySem.W.Frag} {mg : Str → Option Value} {base : Heap} {C_Clause C_Own C_Layer C_Limit C_Deal C_Cover C_Condition : Addr}
theorem sc_Cover_spans : FnScope ["self", "counts", "cents"] ["self", "counts", "cents"] (defScope s_Cover_spans) := ⟨rfl, rfl, rfl, by decide +kernel, rfl, by decide +kernel, by decide +kernel⟩
theorem ok_Cover_spans {f : Addr} {fd : FuncData} (F : Fun K "spans" "Cover.spans" s_Cover_spans f fd) (T : Txt K mg) (L : Kl K mg C_Clause C_Own C_Layer C_Limit C_Deal C_Cover C_Condition) (Mspan : MFam P w K mg base 2 (Fam C_Clause C_Own C_Layer C_Limit) "span" ["self", "count", "cents"] (spSpan C_Clause C_Own C_Layer C_Limit)) : FnOk P w K mg base CX0 3 f fd ["self", "counts", "cents"] (spSpans C_Clause C_Own C_Layer C_Limit C_Cover) := by
  have sc := sc_Cover_spans
  refine F.ok sc (fun vs H Q E h => ?_) (fun cdv A outer s H vs Q E hr h => ?_)
  · obtain ⟨_, _, _, _, _, _, rfl, _⟩ := h
    rfl
  obtain ⟨p, cl, ct, cs, ns, k, rfl, ⟨⟨dx, fs, e1, fc, nm⟩, ⟨xs, hcl, cc⟩, hct, ln, l8⟩, q⟩ := h
  refine ⟨_, (pss_one (ps_ret (pe_comp (NC := ["k", "clause", "cents", "counts"]) (own := ["k", "clause"]) (cs := ["cents", "counts"]) (ix := [2, 1]) rfl (CompScope.of rfl) rfl ⟨⟨rfl, .inl rfl, rfl⟩, ⟨⟨rfl, .inl rfl, rfl⟩, trivial⟩⟩ (pi_enum rfl T.n_enumerate (pa_cons (pe_fld (pv 0) rfl) pa_nil)) (fun _ _ _ => (pg_tupK (K := K) (n := 2) rfl rfl (pgs_cons (pg_name (i := 0) (show (["k", "clause", "cents", "counts"] : List Str).Nodup from by decide +kernel) rfl (Or.inl rfl)) (pgs_cons (pg_name (i := 1) (show (["k", "clause", "cents", "counts"] : List Str).Nodup from by decide +kernel) rfl (Or.inl rfl)) pgs_nil)))) (fun _ _ _ => pts_nil) (fun _ _ _ => (pe_methD Mspan (hr.mono (by decide)) (pv 1) (pa_cons (pe_ix (ix_listK (K := K) rfl) (pv 3) (pv 0) (fun _ _ => rfl)) (pa_cons (pv 2) pa_nil))))))), ?_⟩
  have lx := cc.len
  refine ⟨_, rfl, p, C_Cover, dx, fs, _, rfl, e1, L.cl_Cover, L.na_Cover_clauses, fc, cl, rfl, ⟨_, SqL.of hcl⟩, fun b nb => ?_⟩
  refine comp_enum (K := K) (a := cl) (xs := xs) (fun i ys H2 => Sps H2 ys (spansOf k (cs.take i) (ns.take i)) ∧ H2 b = some (.lst ys) ∧ Same H H2) ⟨trivial, upd_same, same_new nb _⟩
    (fun i ys H2 _ ⟨e, x1, x2⟩ => ⟨x1, by rw [e.len, spans_len (by rw [List.length_take, List.length_take, ln]), List.length_take]; omega, SqL.of (x2 _ _ hcl)⟩) (by rw [sizeLine_eq]; omega) (fun i x ys H2 t hi ⟨e, x1, x2⟩ ht => ?_) (fun ys H2 ⟨e, x1, x2⟩ => ?_)
  · obtain ⟨o, c, hc, rfl, ho⟩ := cc.get hi
    have il : i < cs.length := (List.getElem?_eq_some_iff.mp hc).1
    have hn : ns[i]? = some (ns[i]'(by omega)) := List.getElem?_eq_getElem (by omega)
    have s3 := x2.trans (same_new ht (.tup [.int i, .ref o]))
    have ho3 := ho.same s3
    obtain ⟨od, ho4⟩ := id ho3
    have ati : atI (ns.map V.int) (i : Int) = some (.int (ns[i]'(by omega))) := atI_nat (by rw [List.getElem?_map, hn]; rfl)
    refine ⟨_, rfl, o, _, od, _, rfl, ho4, fam_of _ _ _ _ c, no_span c, _, rfl, _, rfl, ct, _, _, _, rfl, rfl, SqL.of (s3 _ _ hct), ati, _, rfl, o, c, _, k, rfl, ho3, rfl, fun u H4 s4 hu => ⟨s4 _ _ (same_new ht _ _ _ x1), rfl, ?_, upd_same, fun y ob z => ?_⟩⟩
    · rw [spans_take hc hn]
      have h1 := s4 _ _ (same_new ht (.tup [.int i, .ref o]) _ _ x1)
      exact (((e.mono (tst_same (same_new ht _))).mono (tst_same s4)).snoc hu).mono (tst_lst h1 _)
    · rw [upd_ne (ne_of_none z nb)]
      exact s4 _ _ (s3 y ob z)
  rw [lx, List.take_length, ← ln, List.take_length] at e
  exact q b ys H2 x2 nb x1 e
theorem sc_Cover_window : FnScope ["self", "counts", "cents", "spans", "lo", "hi"] ["self", "counts", "cents"] (defScope s_Cover_window) := ⟨rfl, rfl, rfl, by decide +kernel, rfl, by decide +kernel, by decide +kernel⟩
theorem ok_Cover_window {f : Addr} {fd : FuncData} (F : Fun K "window" "Cover.window" s_Cover_window f fd) (T : Txt K mg) (L : Kl K mg C_Clause C_Own C_Layer C_Limit C_Deal C_Cover C_Condition) (Mspans : MCal P w K mg base 3 C_Cover "spans" ["self", "counts", "cents"] (spSpans C_Clause C_Own C_Layer C_Limit C_Cover)) : FnOk P w K mg base CX0 4 f fd ["self", "counts", "cents"] (spWin C_Clause C_Own C_Layer C_Limit C_Cover) := by
  have sc := sc_Cover_window
  refine F.ok sc (fun vs H Q E h => ?_) (fun cdv A outer s H vs Q E hr h => ?_)
  · obtain ⟨_, _, _, _, _, _, rfl, _⟩ := h
    rfl
  obtain ⟨p, cl, ct, cs, ns, k, rfl, CV, q⟩ := h
  refine ⟨_, (pss_cons (ps_set (i := 3) sc.nd rfl (Or.inl rfl) (pe_methC Mspans (hr.mono (by decide)) (pv 0) (pa_cons (pv 1) (pa_cons (pv 2) pa_nil))))
      (pss_cons (ps_set (i := 4) sc.nd rfl (Or.inl rfl) (pe_callB (call_maxX rfl) rfl T.n_max (show bootBuiltins _ = some (.builtin "max") from rfl) (pa_cons (pe_op op_cat (pe_lst (pa_cons pe_int pa_nil)) (pe_comp (NC := ["span"]) (own := ["span"]) (cs := []) (ix := []) rfl (CompScope.of rfl) rfl trivial (pi_list (pv 3)) (fun _ _ _ => (pg_name (i := 0) (show (["span"] : List Str).Nodup from by decide +kernel) rfl (Or.inl rfl))) (fun _ _ _ => pts_nil) (fun _ _ _ => (pe_ix (ix_tupK (K := K) rfl) (pv 0) pe_int (fun _ _ => rfl))))) pa_nil)))
      (pss_cons (ps_set (i := 5) sc.nd rfl (Or.inl rfl) (pe_callB (call_minX rfl) rfl T.n_min (show bootBuiltins _ = some (.builtin "min") from rfl) (pa_cons (pe_op op_cat (pe_lst (pa_cons (pv 2) pa_nil)) (pe_comp (NC := ["span"]) (own := ["span"]) (cs := []) (ix := []) rfl (CompScope.of rfl) rfl trivial (pi_list (pv 3)) (fun _ _ _ => (pg_name (i := 0) (show (["span"] : List Str).Nodup from by decide +kernel) rfl (Or.inl rfl))) (fun _ _ _ => pts_nil) (fun _ _ _ => (pe_ix (ix_tupK (K := K) rfl) (pv 0) pe_int (fun _ _ => rfl))))) pa_nil)))
      (pss_one (ps_ret (pe_tup (pa_cons (pv 4) (pa_cons (pe_callB (call_max2 rfl) rfl T.n_max (show bootBuiltins _ = some (.builtin "max") from rfl) (pa_cons (pv 4) (pa_cons (pv 5) pa_nil))) pa_nil)))))))), ?_⟩
  have one : 1 ≤ sizeLine := by rw [sizeLine_eq]; decide
  have two : 2 ≤ sizeLine := by rw [sizeLine_eq]; decide
  obtain ⟨⟨dx, fs, e1, fc, nm⟩, _, _, ln, l8⟩ := id CV
  refine ⟨_, rfl, p, dx, fs, rfl, e1, nm.1, _, rfl, _, rfl, p, cl, ct, cs, ns, k, rfl, CV, fun r ys H1 s1 nr hr1 ps => ?_⟩
  have lsp : (spansOf k cs ns).length ≤ 8 := by rw [spans_len ln]; exact l8
  generalize spansOf k cs ns = sp at ps q lsp
  have ly := ps.len
  refine atG [some (.ref p), some (.ref ct), some (.int k), some (.ref r), none, none] rfl ?_
  -- lo
  refine ⟨one, fun l1 n1 => ?_⟩
  have t1 := same_new n1 (.lst [V.int 0])
  refine ⟨_, rfl, r, rfl, ⟨_, SqL.of (t1 _ _ hr1)⟩, fun b nb => ?_⟩
  have hl1 : upd H1 l1 (.lst [V.int 0]) l1 = some (.lst [V.int 0]) := upd_same
  generalize upd H1 l1 (.lst [V.int 0]) = H2 at t1 hl1 nb
  have hr2 := t1 _ _ hr1
  have ps2 := ps.mono (tst_same t1)
  refine comp_list (K := K) (a := r) (xs := ys) (fun i zs H3 => zs = ((sp.take i).map (·.1)).map V.int ∧ H3 b = some (.lst zs) ∧ Same H2 H3) ⟨rfl, upd_same, same_new nb _⟩
    (fun i zs H3 _ ⟨e, x1, x2⟩ => ⟨x1, by rw [e, List.length_map, List.length_map, List.length_take]; omega, SqL.of (x2 _ _ hr2)⟩) (by rw [sizeLine_eq]; omega) (fun i x zs H3 hi ⟨e, x1, x2⟩ => ?_) (fun zs H3 ⟨e, x1, x2⟩ => ?_)
  · obtain ⟨t, pp, hp, rfl, ht⟩ := ps2.get hi
    refine ⟨_, rfl, t, _, _, _, rfl, rfl, SqT.of (x2 _ _ ht), rfl, x1, rfl, ?_, upd_same, fun y o z => ?_⟩
    · rw [take_snoc hp, List.map_append, List.map_append, e]
      rfl
    · rw [upd_ne (ne_of_none z nb)]
      exact x2 y o z
  rw [ly, List.take_length] at e
  subst e
  refine ⟨l1, b, _, _, rfl, rfl, x2 _ _ hl1, x1, by rw [List.length_map, List.length_map, sizeLine_eq]; show 1 + _ ≤ _; omega, fun l2 n2 => ?_⟩
  have t3 := same_new n2 (.lst ([V.int 0] ++ (sp.map (·.1)).map V.int))
  refine ⟨l2, 0 :: sp.map (·.1), rfl, SqL.of upd_same, by simp, fun lo hlo blo => ?_⟩
  have S3 := t1.trans (x2.trans t3)
  generalize upd H3 l2 (.lst ([V.int 0] ++ (sp.map (·.1)).map V.int)) = H4 at S3
  have hr4 := S3 _ _ hr1
  have ps4 := ps.mono (tst_same S3)
  clear x1 x2 t3 t1 hl1 hr2 ps2 n2 nb n1
  refine atG [some (.ref p), some (.ref ct), some (.int k), some (.ref r), some (.int lo), none] rfl ?_
  -- hi
  refine ⟨_, rfl, one, fun l1 n1 => ?_⟩
  have t1 := same_new n1 (.lst [V.int k])
  refine ⟨_, rfl, r, rfl, ⟨_, SqL.of (t1 _ _ hr4)⟩, fun b nb => ?_⟩
  have hl1 : upd H4 l1 (.lst [V.int k]) l1 = some (.lst [V.int k]) := upd_same
  generalize upd H4 l1 (.lst [V.int k]) = H5 at t1 hl1 nb
  have hr5 := t1 _ _ hr4
  have ps5 := ps4.mono (tst_same t1)
  refine comp_list (K := K) (a := r) (xs := ys) (fun i zs H6 => zs = ((sp.take i).map (·.2)).map V.int ∧ H6 b = some (.lst zs) ∧ Same H5 H6) ⟨rfl, upd_same, same_new nb _⟩
    (fun i zs H6 _ ⟨e, x1, x2⟩ => ⟨x1, by rw [e, List.length_map, List.length_map, List.length_take]; omega, SqL.of (x2 _ _ hr5)⟩) (by rw [sizeLine_eq]; omega) (fun i x zs H6 hi ⟨e, x1, x2⟩ => ?_) (fun zs H6 ⟨e, x1, x2⟩ => ?_)
  · obtain ⟨t, pp, hp, rfl, ht⟩ := ps5.get hi
    refine ⟨_, rfl, t, _, _, _, rfl, rfl, SqT.of (x2 _ _ ht), rfl, x1, rfl, ?_, upd_same, fun y o z => ?_⟩
    · rw [take_snoc hp, List.map_append, List.map_append, e]
      rfl
    · rw [upd_ne (ne_of_none z nb)]
      exact x2 y o z
  rw [ly, List.take_length] at e
  subst e
  refine ⟨l1, b, _, _, rfl, rfl, x2 _ _ hl1, x1, by rw [List.length_map, List.length_map, sizeLine_eq]; show 1 + _ ≤ _; omega, fun l2 n2 => ?_⟩
  have t3 := same_new n2 (.lst ([V.int k] ++ (sp.map (·.2)).map V.int))
  refine ⟨l2, k :: sp.map (·.2), rfl, SqL.of upd_same, by simp, fun hi hhi bhi => ?_⟩
  have S6 := s1.trans (S3.trans (t1.trans (x2.trans t3)))
  generalize upd H6 l2 (.lst ([V.int k] ++ (sp.map (·.2)).map V.int)) = H7 at S6
  refine atG [some (.ref p), some (.ref ct), some (.int k), some (.ref r), some (.int lo), some (.int hi)] rfl ?_
  refine ⟨_, rfl, _, rfl, _, rfl, _, _, rfl, two, fun t nt => ?_⟩
  exact q t lo hi _ (S6.trans (same_new nt _)) upd_same ⟨hlo, blo⟩ ⟨hhi, bhi⟩
end
theorem cut_one (xs : List V) : cutV xs (some 1) none = xs.drop 1 := by
  unfold cutV
  rw [HT.sIx_none, show (some (1 : Int)) = some ((1 : Nat) : Int) from rfl, HT.sIx_nat]
  cases xs with
  | nil => rfl
  | cons x xs =>
    rw [show min 1 (x :: xs).length = 1 by rw [List.length_cons]; omega, List.take_of_length_le]
    rw [List.length_drop]
    exact Nat.le_refl _
section
variable {P : Program} {w : World} {K : PySem.W.Frag} {mg : Str → Option Value} {base : Heap} {C_Clause C_Own C_Layer C_Limit C_Deal C_Cover C_Condition : Addr}
theorem sc_Cover_parts : FnScope ["self", "counts", "cents", "spans", "bounds", "told", "lo", "hi", "k"] ["self", "counts", "cents"] (defScope s_Cover_parts) := ⟨rfl, rfl, rfl, by decide +kernel, rfl, by decide +kernel, by decide +kernel⟩
theorem ok_Cover_parts {f : Addr} {fd : FuncData} (F : Fun K "parts" "Cover.parts" s_Cover_parts f fd) (T : Txt K mg) (L : Kl K mg C_Clause C_Own C_Layer C_Limit C_Deal C_Cover C_Condition) (Mspans : MCal P w K mg base 3 C_Cover "spans" ["self", "counts", "cents"] (spSpans C_Clause C_Own C_Layer C_Limit C_Cover)) (Cbounds_of : Cal P w K mg base 1 "bounds_of" ["spans", "cents"] spBnd)
    (Cfirst_without : Cal P w K mg base 1 "first_without" ["spans", "cent"] spFW) : FnOk P w K mg base CX0 4 f fd ["self", "counts", "cents"] (spPts C_Clause C_Own C_Layer C_Limit C_Cover) := by
  have sc := sc_Cover_parts
  refine F.ok sc (fun vs H Q E h => ?_) (fun cdv A outer s H vs Q E hr h => ?_)
  · obtain ⟨_, _, _, _, _, _, rfl, _⟩ := h
    rfl
  obtain ⟨p, cl, ct, cs, ns, k, rfl, CV, q⟩ := h
  refine ⟨_, (pss_cons (ps_set (i := 3) sc.nd rfl (Or.inl rfl) (pe_methC Mspans (hr.mono (by decide)) (pv 0) (pa_cons (pv 1) (pa_cons (pv 2) pa_nil))))
      (pss_cons (ps_set (i := 4) sc.nd rfl (Or.inl rfl) (pe_callC Cbounds_of (hr.mono (by decide)) rfl (pa_cons (pv 3) (pa_cons (pv 2) pa_nil))))
      (pss_cons (ps_set (i := 5) sc.nd rfl (Or.inl rfl) (pe_lst pa_nil))
      (pss_cons (ps_for PassesOwn.never rfl (pi_zip rfl T.n_zip (pa_cons (pv 4) (pa_cons (pe_slice sl_list (pv 4) (po_some pe_int) po_none) pa_nil))) (pg_tup (n := 2) rfl (pgs_cons (pg_name (i := 6) sc.nd rfl (Or.inl rfl)) (pgs_cons (pg_name (i := 7) sc.nd rfl (Or.inl rfl)) pgs_nil)))
        (pss_cons (ps_set (i := 8) sc.nd rfl (Or.inl rfl) (pe_callC Cfirst_without (hr.mono (by decide)) rfl (pa_cons (pv 3) (pa_cons (pv 6) pa_nil))))
      (pss_cons (ps_if (PW.pt (pw_and (pt_tru (pv 5)) (pw_and1 (pt_cmpR op_eq (pe_ix ix_tup (pe_ix ix_list (pv 5) (pe_un un_neg pe_int) (fun _ _ => rfl)) pe_int (fun _ _ => rfl)) (pv 8) (nomark _)))))
        (pss_one (ps_set (i := 6) sc.nd rfl (Or.inl rfl) (pe_ix ix_tup (pe_bm0 PySem.F.plainAttrs_list PySem.F.slot_list_pop PySem.F.type_list_pop mt_pop (pv 5)) pe_int (fun _ _ => rfl))))
        pss_nil)
      (pss_one (ps_expr (pe_bm PySem.F.plainAttrs_list PySem.F.slot_list_append PySem.F.type_list_append mt_append (pv 5) (pa_cons (pe_tup (pa_cons (pv 6) (pa_cons (pv 7) (pa_cons (pv 8) pa_nil)))) pa_nil)))))))
      (pss_one (ps_ret (pv 5))))))), ?_⟩
  have three : 3 ≤ sizeLine := by rw [sizeLine_eq]; decide
  obtain ⟨⟨dx, fs, e1, fc, nm⟩, _, _, ln, l8⟩ := id CV
  refine ⟨_, rfl, p, dx, fs, rfl, e1, nm.1, _, rfl, _, rfl, p, cl, ct, cs, ns, k, rfl, CV, fun a ys H1 s1 na ha ps => ?_⟩
  have lsp : (spansOf k cs ns).length ≤ 8 := by rw [spans_len ln]; exact l8
  generalize spansOf k cs ns = sp at ps q lsp
  have ly := ps.len
  refine ⟨_, rfl, _, rfl, a, ys, sp, k, rfl, ha, ps, lsp, fun l ms H2 s2 nl hl up mem l20 => ?_⟩
  refine ⟨Nat.zero_le _, fun r nr => ?_⟩
  have ha2 := s2 _ _ ha
  have ps2 := ps.mono (tst_same s2)
  have S2 := s1.trans s2
  refine atG [some (.ref p), some (.ref ct), some (.int k), some (.ref a), some (.ref l), some (.ref r), none, none, none] rfl ?_
  have t1 := same_new nr (.lst [])
  refine ⟨_, rfl, _, rfl, _, rfl, l, _, rfl, SqL.of (t1 _ _ hl), fun m nm' => ?_⟩
  rw [cut_one, ← List.map_drop]
  have t2 := same_new nm' (.lst ((ms.drop 1).map V.int))
  have lrm : r ≠ m := ne_of_none upd_same nm'
  have hr3 : upd (upd H2 r (.lst [])) m (.lst ((ms.drop 1).map V.int)) r = some (.lst []) := by rw [upd_ne lrm, upd_same]
  have hm3 : upd (upd H2 r (.lst [])) m (.lst ((ms.drop 1).map V.int)) m = some (.lst ((ms.drop 1).map V.int)) := upd_same
  have s3 := t1.trans t2
  have nm2 : H2 m = none := t1.free nm'
  generalize upd (upd H2 r (.lst [])) m (.lst ((ms.drop 1).map V.int)) = H3 at hr3 hm3 s3
  have sm : ∀ (H4 : Hp) (o : HO), Same H2 H4 → Same H2 (upd H4 r o) := fun H4 o s4 b u z => by rw [upd_ne (ne_of_none z nr)]; exact s4 b u z
  refine ⟨l, m, rfl, ⟨_, SqL.of (s3 _ _ hl)⟩, ⟨_, SqL.of hm3⟩, for_zip (K := K) (K' := K) (a := l) (b := m) (xs := ms.map V.int) (ys := (ms.drop 1).map V.int)
    (fun i σ H4 => (∃ o6 o7 o8 zs, σ = [some (.ref p), some (.ref ct), some (.int k), some (.ref a), some (.ref l), some (.ref r), o6, o7, o8] ∧ H4 r = some (.lst zs) ∧ Trs H4 zs (CRP.foldP sp ms i)) ∧ H4 m = some (.lst ((ms.drop 1).map V.int)) ∧ Same H2 H4)
    ⟨⟨none, none, none, [], rfl, hr3, trivial⟩, hm3, s3⟩ (fun i σ H4 _ ⟨_, e, s4⟩ => ⟨SqL.of (s4 _ _ hl), SqL.of e⟩) ?_ ?_⟩
  · rintro i x y σ H4 t hx hy ⟨⟨o6, o7, o8, zs, rfl, hr4, pk⟩, hm4, s4⟩ nt
    rw [List.getElem?_map] at hx hy
    obtain ⟨lo, hlo, rfl⟩ := Option.map_eq_some_iff.mp hx
    obtain ⟨hi, hhi, rfl⟩ := Option.map_eq_some_iff.mp hy
    rw [List.getElem?_drop] at hhi
    have elo : ms.getD i 0 = lo := by rw [List.getD_eq_getElem?_getD, hlo]; rfl
    have ehi : ms.getD (i + 1) 0 = hi := by rw [List.getD_eq_getElem?_getD, show i + 1 = 1 + i by omega, hhi]; rfl
    have nx := CRP.foldP_succ sp ms i
    rw [elo, ehi] at nx
    have il : i < ms.length := (List.getElem?_eq_some_iff.mp hlo).1
    have lz := pk.len
    have lf := CRP.foldP_len sp ms i
    have u1 := same_new nt (.tup [V.int lo, .int hi])
    have hr5 := u1 _ _ hr4
    have hm5 := u1 _ _ hm4
    have pk5 := pk.mono (tst_same u1)
    have s5 := s4.trans u1
    generalize upd H4 t (.tup [V.int lo, .int hi]) = H5 at u1 hr5 hm5 pk5 s5
    refine atσ [some (.ref p), some (.ref ct), some (.int k), some (.ref a), some (.ref l), some (.ref r), some (.int lo), some (.int hi), o8] rfl ?_
    refine ⟨_, rfl, _, rfl, a, ys, sp, lo, rfl, s5 _ _ ha2, ps2.mono (tst_same s5), by omega, fun H6 u2 => ?_⟩
    have hr6 := u2 _ _ hr5
    have hm6 := u2 _ _ hm5
    have pk6 := pk5.mono (tst_same u2)
    have s6 := s5.trans u2
    generalize CRP.fw sp lo = kk at nx
    refine atG [some (.ref p), some (.ref ct), some (.int k), some (.ref a), some (.ref l), some (.ref r), some (.int lo), some (.int hi), some (.int kk)] rfl ?_
    have put : ∀ (H7 : Hp) (vs : List V) (ks : List Tr) (u : Addr) (lo' : Int), H7 r = some (.lst vs) → Trs H7 vs ks → H7 u = none → H7 m = some (.lst ((ms.drop 1).map V.int)) → Same H2 H7 → CRP.foldP sp ms (i + 1) = ks ++ [(lo', hi, kk)] →
        (∃ o6 o7 o8 zs, [some (V.ref p), some (.ref ct), some (.int k), some (.ref a), some (.ref l), some (.ref r), some (.int lo'), some (.int hi), some (.int kk)] = [some (.ref p), some (.ref ct), some (.int k), some (.ref a), some (.ref l), some (.ref r), o6, o7, o8] ∧ upd (upd H7 u (.tup [.int lo', .int hi, .int kk])) r (.lst (vs ++ [.ref u])) r = some (.lst zs) ∧ Trs (upd (upd H7 u (.tup [.int lo', .int hi, .int kk])) r (.lst (vs ++ [.ref u]))) zs (CRP.foldP sp ms (i + 1))) ∧
          upd (upd H7 u (.tup [.int lo', .int hi, .int kk])) r (.lst (vs ++ [.ref u])) m = some (.lst ((ms.drop 1).map V.int)) ∧ Same H2 (upd (upd H7 u (.tup [.int lo', .int hi, .int kk])) r (.lst (vs ++ [.ref u]))) := fun H7 vs ks u lo' e1 e2 e3 e4 e5 e6 => by
      have su := same_new e3 (.tup [.int lo', .int hi, .int kk])
      refine ⟨⟨_, _, _, _, rfl, upd_same, ?_⟩, by rw [upd_ne lrm.symm]; exact su _ _ e4, sm _ _ (e5.trans su)⟩
      rw [e6]
      exact ((e2.mono (tst_same su)).snoc upd_same).mono (tst_lst (su _ _ e1) _)
    generalize hks : CRP.foldP sp ms i = ks at pk6 nx lz lf
    rcases List.eq_nil_or_concat ks with rfl | ⟨kr, ⟨l0, h0, k0⟩, rfl⟩
    · have zs0 : zs = [] := List.eq_nil_of_length_eq_zero lz
      subst zs0
      refine ⟨_, rfl, _, .inl ⟨[], SqL.of hr6, rfl⟩, bF rfl (iteF ?_)⟩
      refine ⟨_, rfl, .inl ⟨rfl, _, SqL.of hr6⟩, _, rfl, _, rfl, _, rfl, three, fun u nu => ?_⟩
      exact ⟨r, _, _, rfl, rfl, same_new nu _ _ _ hr6, by rw [sizeLine_eq]; decide, put H6 [] [] u lo hr6 trivial nu hm6 s6 nx⟩
    · rw [List.concat_eq_append] at pk6 nx lz lf
      obtain ⟨vs, tl, rfl, htl, pv⟩ := pk6.last
      rw [CRP.stepP_snoc] at nx
      rw [List.length_append] at lz
      have lv : vs.length ≤ 20 := by rw [List.length_append] at lf; have z : vs.length + 1 = _ := lz; rw [List.length_append] at z; omega
      refine ⟨_, rfl, _, .inl ⟨_, SqL.of hr6, rfl⟩, bT (by simp) ?_⟩
      refine ⟨_, rfl, _, rfl, r, _, _, _, rfl, rfl, SqL.of hr6, atI_last _ _, tl, _, _, _, rfl, rfl, SqT.of htl, rfl, _, rfl, rfl, _, rfl, ite2 (fun c => ?_) (fun c => ?_)⟩
      · have c' : k0 = kk := V.int.inj (of_decide_eq_true c)
        rw [if_pos c'] at nx
        refine ⟨_, rfl, .inl ⟨rfl, _, SqL.of hr6⟩, r, _, .ref tl, rfl, rfl, hr6, by simp, ?_⟩
        rw [List.dropLast_concat]
        have t3 : Tst H6 (upd H6 r (.lst vs)) := tst_lst hr6 _
        have htl7 := t3 _ _ htl
        have pv7 := pv.mono t3
        have hr7 : upd H6 r (.lst vs) r = some (.lst vs) := upd_same
        have hm7 : upd H6 r (.lst vs) m = some (.lst ((ms.drop 1).map V.int)) := by rw [upd_ne lrm.symm]; exact hm6
        have s7 := sm H6 (.lst vs) s6
        generalize upd H6 r (.lst vs) = H7 at t3 htl7 pv7 hr7 hm7 s7
        refine ⟨tl, _, _, _, rfl, rfl, SqT.of htl7, rfl, ?_⟩
        refine atG [some (.ref p), some (.ref ct), some (.int k), some (.ref a), some (.ref l), some (.ref r), some (.int l0), some (.int hi), some (.int kk)] rfl ?_
        refine ⟨_, rfl, .inl ⟨rfl, _, SqL.of hr7⟩, _, rfl, _, rfl, _, rfl, three, fun u nu => ?_⟩
        exact ⟨r, _, _, rfl, rfl, same_new nu _ _ _ hr7, by rw [sizeLine_eq]; omega, put H7 vs kr u l0 hr7 pv7 nu hm7 s7 nx⟩
      · have c' : ¬ k0 = kk := fun z => c (decide_eq_true (by rw [z]))
        rw [if_neg c'] at nx
        refine ⟨_, rfl, .inl ⟨rfl, _, SqL.of hr6⟩, _, rfl, _, rfl, _, rfl, three, fun u nu => ?_⟩
        exact ⟨r, _, _, rfl, rfl, same_new nu _ _ _ hr6, by rw [List.length_append, sizeLine_eq]; show vs.length + 1 < _; omega, put H6 _ _ u lo hr6 pk6 nu hm6 s6 nx⟩
  · rintro σ H4 ⟨⟨o6, o7, o8, zs, rfl, hr4, pk⟩, hm4, s4⟩
    have le : min (ms.map V.int).length ((ms.drop 1).map V.int).length = ms.length - 1 := by rw [List.length_map, List.length_map, List.length_drop]; omega
    rw [le] at pk
    exact ⟨_, rfl, q r zs ms H4 (S2.trans s4) (S2.free nr) hr4 up mem l20 pk⟩
end


/-! ### the law's rows -/
theorem hideI {i : Nat} {v : Int} {nx : St → Hp → Prop} {σ : St} {H : Hp} (lo hi : Int) (h0 : lo ≤ v ∧ v ≤ hi) (h : ∀ x : Int, lo ≤ x → x ≤ hi → gName i (.int x) σ H nx) : gName i (.int v) σ H nx := h v h0.1 h0.2
theorem md {a b : Int} (h : 0 < b) : 0 ≤ a % b ∧ a % b ≤ b - 1 := ⟨Int.emod_nonneg _ (by omega), by have := Int.emod_lt_of_pos a h; omega⟩
theorem e12 : (10 : Int) ^ (12 : Int).toNat = 1000000000000 := by decide +kernel
theorem e13 : (10 : Int) ^ (13 : Int).toNat = 10000000000000 := by decide +kernel
theorem e9 : (10 : Int) ^ (9 : Int).toNat = 1000000000 := by decide +kernel
abbrev Rw5 := Str × Str × Int × Int × Int
def tupR (r : Rw5) : List V := [.str r.1, .str r.2.1, .int r.2.2.1, .int r.2.2.2.1, .int r.2.2.2.2]
def Rws5 (H : Hp) : List V → List Rw5 → Prop
  | [], [] => True
  | x :: xs, p :: ps => (∃ t, x = .ref t ∧ H t = some (.tup (tupR p))) ∧ Rws5 H xs ps
  | _, _ => False
theorem Rws5.len {H : Hp} : ∀ {xs : List V} {ps : List Rw5}, Rws5 H xs ps → xs.length = ps.length
  | [], [], _ => rfl
  | [], _ :: _, h => h.elim
  | _ :: _, [], h => h.elim
  | x :: xs, p :: ps, h => by rw [List.length_cons, List.length_cons, Rws5.len h.2]
theorem Rws5.mono {H H' : Hp} (s : Tst H H') : ∀ {xs : List V} {ps : List Rw5}, Rws5 H xs ps → Rws5 H' xs ps
  | [], [], _ => trivial
  | [], _ :: _, h => h.elim
  | _ :: _, [], h => h.elim
  | x :: xs, p :: ps, ⟨⟨t, e, h⟩, r⟩ => ⟨⟨t, e, s _ _ h⟩, Rws5.mono s r⟩
theorem Rws5.get {H : Hp} : ∀ {xs : List V} {ps : List Rw5} {i : Nat} {x : V}, Rws5 H xs ps → xs[i]? = some x → ∃ t p, ps[i]? = some p ∧ x = .ref t ∧ H t = some (.tup (tupR p))
  | [], [], _, _, _, e => by simp at e
  | [], _ :: _, _, _, h, _ => h.elim
  | _ :: _, [], _, _, h, _ => h.elim
  | x :: xs, p :: ps, 0, y, ⟨⟨t, e, h⟩, r⟩, q => by
    simp at q
    subst q
    exact ⟨t, p, rfl, e, h⟩
  | x :: xs, p :: ps, i + 1, y, ⟨_, r⟩, q => by
    obtain ⟨t, p', h1, h2⟩ := Rws5.get (i := i) r (by simpa using q)
    exact ⟨t, p', by simpa using h1, h2⟩
theorem Rws5.snoc {H : Hp} : ∀ {xs : List V} {ps : List Rw5} {t : Addr} {r : Rw5}, Rws5 H xs ps → H t = some (.tup (tupR r)) → Rws5 H (xs ++ [.ref t]) (ps ++ [r])
  | [], [], t, _, _, h => ⟨⟨t, rfl, h⟩, trivial⟩
  | [], _ :: _, _, _, r, _ => r.elim
  | _ :: _, [], _, _, r, _ => r.elim
  | x :: xs, p :: ps, _, _, ⟨z, r⟩, h => ⟨z, Rws5.snoc r h⟩
def isWord (y : Str) : Prop := y = "own" ∨ y = "layer" ∨ y = "limit"
def okR (r : Rw5) : Prop := isWord r.1 ∧ isWay r.2.1 ∧ (0 ≤ r.2.2.1 ∧ r.2.2.1 ≤ 999999999998) ∧ (r.1 ≠ "limit" → r.2.2.1 < r.2.2.2.1) ∧ r.2.2.2.1 ≤ 999999999999 ∧ 0 ≤ r.2.2.2.2
def clOf (r : Rw5) : Cl := if r.1 = "own" then .own r.2.1 r.2.2.1 else if r.1 = "layer" then .lay r.2.1 r.2.2.1 r.2.2.2.1 else .lim r.2.1 r.2.2.1
def outC (r : Rw5) (i : Int) : Prop := (r.1 ≠ "limit" ∧ r.2.2.2.2 + i < r.2.2.1) ∨ (r.1 = "layer" ∧ r.2.2.2.1 ≤ r.2.2.2.2 + i)
instance (r : Rw5) (i : Int) : Decidable (outC r i) := by unfold outC; exact inferInstance
def outFrom : List Rw5 → Int → Int → Int
  | [], _, _ => -1
  | r :: rs, k, i => if outC r i then k else outFrom rs (k + 1) i
def spAmt : Sp := fun vs H Q _ => ∃ c u : Int, vs = [.int c, .int u] ∧ 0 ≤ u ∧ u ≤ 20000000000 ∧ ∀ m : Int, 0 ≤ m → m ≤ 999999999998 → Q (.int m) H
def spCnt : Sp := fun vs H Q _ => ∃ c u : Int, vs = [.int c, .int u] ∧ 0 ≤ u ∧ ∀ m : Int, 0 ≤ m → Q (.int m) H
def spRow (K : PySem.W.Frag) : Sp := fun vs H Q _ => ∃ a ns, ∃ at' u : Int, vs = [.ref a, .int at', .int u] ∧ SqL K H a (List.map V.int ns) ∧ ns.length ≤ 63 ∧ 0 ≤ at' ∧ 0 ≤ u ∧ u ≤ 20000000000 ∧ ∀ t r H', Same H H' → H t = none → H' t = some (.tup (tupR r)) → okR r → Q (.ref t) H'
def spClause (CC CO CL CM : Addr) : Sp := fun vs H Q _ => ∃ t r, vs = [.ref t] ∧ H t = some (.tup (tupR r)) ∧ okR r ∧ ∀ p H', Same H H' → ClAt CC CO CL CM H' p (clOf r) → Q (.ref p) H'
section
seal L2.PS L2.PSs L2.PE L2.PA
variable {P : Program} {w : World} {K : PySem.W.Frag} {mg : Str → Option Value} {base : Heap} {C_Clause C_Own C_Layer C_Limit C_Deal C_Cover C_Condition : Addr}
theorem sc__law_amount : FnScope ["_law_cell_here", "_law_unit", "_law_way"] ["_law_cell_here", "_law_unit"] (defScope s__law_amount) := ⟨rfl, rfl, rfl, by decide +kernel, rfl, by decide +kernel, by decide +kernel⟩
theorem ok__law_amount {f : Addr} {fd : FuncData} (F : Fun K "_law_amount" "_law_amount" s__law_amount f fd) (T : Txt K mg) : FnOk P w K mg base CX0 1 f fd ["_law_cell_here", "_law_unit"] spAmt := by
  have sc := sc__law_amount
  refine F.ok sc (fun vs H Q E h => ?_) (fun cdv A outer s H vs Q E hr h => ?_)
  · obtain ⟨_, _, rfl, _⟩ := h
    rfl
  obtain ⟨c, u, rfl, u0, u1, q⟩ := h
  refine ⟨_, (pss_cons (ps_set (i := 2) sc.nd rfl (Or.inl rfl) (pe_op op_mod (pv 0) pe_int))
      (pss_cons (ps_if (pt_cmpR op_eq (pv 2) pe_int (nomark _))
        (pss_one (ps_ret (pe_op op_mod (pe_op op_fdiv (pv 0) pe_int) (pe_op op_sub (pe_op op_pow pe_int pe_int) pe_int))))
        pss_nil)
      (pss_cons (ps_if (pt_cmpR op_eq (pv 2) pe_int (nomark _))
        (pss_one (ps_ret (pe_op op_mod (pe_op op_fdiv (pv 0) pe_int) pe_int)))
        pss_nil)
      (pss_one (ps_ret (pe_op op_add (pe_op op_mul (pe_op op_mod (pe_op op_fdiv (pv 0) pe_int) pe_int) (pv 1)) (pe_op op_mul (pe_op op_mod (pe_op op_fdiv (pv 0) pe_int) pe_int) (pv 2)))))))), ?_⟩
  refine ⟨_, rfl, _, _, rfl, rfl, (by show (0 : Int) < 5; decide), ?_⟩
  refine hideI 0 4 (md (by decide)) fun way w0 w4 => ?_
  refine ⟨_, rfl, rfl, _, rfl, ite2 (fun z => ?_) (fun z => ?_)⟩
  · have b := md (a := c / 5) (b := (10 : Int) ^ (12 : Int).toNat - 1) (by rw [e12]; decide)
    refine ⟨_, rfl, _, _, rfl, rfl, ⟨by decide, by decide⟩, _, _, rfl, rfl, ⟨by decide, by decide, by decide⟩, _, _, rfl, rfl, _, _, rfl, rfl, (by show (0 : Int) < (10 : Int) ^ (12 : Int).toNat - 1; rw [e12]; decide), q _ b.1 ?_⟩
    have := b.2
    rw [e12] at this
    show _ % ((10 : Int) ^ (12 : Int).toNat - 1) ≤ _
    rw [e12]
    omega
  refine ⟨_, rfl, rfl, _, rfl, ite2 (fun z2 => ?_) (fun z2 => ?_)⟩
  · have b := md (a := c / 5) (b := 4) (by decide)
    exact ⟨_, rfl, _, _, rfl, rfl, ⟨by decide, by decide⟩, _, _, rfl, rfl, (by show (0 : Int) < 4; decide), q _ b.1 (by have := b.2; omega)⟩
  · have b1 := md (a := c / 5) (b := 39) (by decide)
    have b2 := md (a := c / 195) (b := 3) (by decide)
    have m0 : 0 ≤ c / 5 % 39 * u := Int.mul_nonneg b1.1 u0
    have m1 : c / 5 % 39 * u ≤ 38 * 20000000000 := Int.mul_le_mul (by omega) u1 u0 (by omega)
    have n0 : 0 ≤ c / 195 % 3 * way := Int.mul_nonneg b2.1 w0
    have n1 : c / 195 % 3 * way ≤ 2 * 4 := Int.mul_le_mul (by omega) w4 w0 (by omega)
    refine ⟨_, rfl, _, _, rfl, rfl, ⟨by decide, by decide⟩, _, _, rfl, rfl, (by show (0 : Int) < 39; decide), _, rfl, _, _, rfl, rfl, .inl ⟨by omega, by omega⟩, _, rfl, _, _, rfl, rfl, ⟨by decide, by decide⟩, _, _, rfl, rfl, (by show (0 : Int) < 3; decide), _, rfl, _, _, rfl, rfl, .inl ⟨by omega, by omega⟩, _, _, rfl, rfl, q _ (by omega) (by omega)⟩
theorem sc__law_count : FnScope ["_law_cell_here", "_law_unit"] ["_law_cell_here", "_law_unit"] (defScope s__law_count) := ⟨rfl, rfl, rfl, by decide +kernel, rfl, by decide +kernel, by decide +kernel⟩
theorem ok__law_count {f : Addr} {fd : FuncData} (F : Fun K "_law_count" "_law_count" s__law_count f fd) (T : Txt K mg) : FnOk P w K mg base CX0 1 f fd ["_law_cell_here", "_law_unit"] spCnt := by
  have sc := sc__law_count
  refine F.ok sc (fun vs H Q E h => ?_) (fun cdv A outer s H vs Q E hr h => ?_)
  · obtain ⟨_, _, rfl, _⟩ := h
    rfl
  obtain ⟨c, u, rfl, u0, q⟩ := h
  refine ⟨_, (pss_cons (ps_if (pt_cmpR op_eq (pe_op op_mod (pv 0) pe_int) pe_int (nomark _))
        (pss_one (ps_ret pe_int))
        pss_nil)
      (pss_cons (ps_if (pt_cmpR op_eq (pe_op op_mod (pv 0) pe_int) pe_int (nomark _))
        (pss_one (ps_ret (pe_op op_mod (pe_op op_fdiv (pv 0) pe_int) (pe_op op_pow pe_int pe_int))))
        pss_nil)
      (pss_one (ps_ret (pe_op op_add (pe_op op_mul (pe_op op_mod (pe_op op_fdiv (pv 0) pe_int) pe_int) (pv 1)) (pe_op op_mod (pe_op op_fdiv (pv 0) pe_int) pe_int)))))), ?_⟩
  refine ⟨_, rfl, _, _, rfl, rfl, (by show (0 : Int) < 3; decide), rfl, _, rfl, ite2 (fun z => ?_) (fun z => ?_)⟩
  · exact q 0 (Int.le_refl 0)
  refine ⟨_, rfl, _, _, rfl, rfl, (by show (0 : Int) < 12; decide), rfl, _, rfl, ite2 (fun z2 => ?_) (fun z2 => ?_)⟩
  · refine ⟨_, rfl, _, _, rfl, rfl, ⟨by decide, by decide⟩, _, _, rfl, rfl, ⟨by decide, by decide, by decide⟩, _, _, rfl, rfl, (by show (0 : Int) < (10 : Int) ^ (13 : Int).toNat; rw [e13]; decide), q _ (md (by rw [e13]; decide)).1⟩
  · have b1 := md (a := c / 12) (b := 20) (by decide)
    have b2 := md (a := c / 240) (b := 3) (by decide)
    have m0 : 0 ≤ c / 12 % 20 * u := Int.mul_nonneg b1.1 u0
    refine ⟨_, rfl, _, _, rfl, rfl, ⟨by decide, by decide⟩, _, _, rfl, rfl, (by show (0 : Int) < 20; decide), _, rfl, _, _, rfl, rfl, .inl ⟨by omega, by omega⟩, _, rfl, _, _, rfl, rfl, ⟨by decide, by decide⟩, _, _, rfl, rfl, (by show (0 : Int) < 3; decide), _, _, rfl, rfl, q _ (by omega)⟩
theorem sc__law_row : FnScope ["_law_script", "_law_at", "_law_unit", "_law_cell_here", "_law_word", "_law_by", "_law_one", "_law_other", "_law_low", "_law_high"] ["_law_script", "_law_at", "_law_unit"] (defScope s__law_row) := ⟨rfl, rfl, rfl, by decide +kernel, rfl, by decide +kernel, by decide +kernel⟩
theorem ok__law_row {f : Addr} {fd : FuncData} (F : Fun K "_law_row" "_law_row" s__law_row f fd) (T : Txt K mg) (C_law_cell : Cal P w K mg base 1 "_law_cell" ["_law_script", "_law_k"] (spCell K)) (C_law_amount : Cal P w K mg base 1 "_law_amount" ["_law_cell_here", "_law_unit"] spAmt) (C_law_count : Cal P w K mg base 1 "_law_count" ["_law_cell_here", "_law_unit"] spCnt) : FnOk P w K mg base CX0 2 f fd ["_law_script", "_law_at", "_law_unit"] (spRow K) := by
  have sc := sc__law_row
  refine F.ok sc (fun vs H Q E h => ?_) (fun cdv A outer s H vs Q E hr h => ?_)
  · obtain ⟨_, _, _, _, rfl, _⟩ := h
    rfl
  obtain ⟨a, ns, at', u, rfl, ha, h63, a0, u0, u1, q⟩ := h
  refine ⟨_, (pss_cons (ps_set (i := 3) sc.nd rfl (Or.inl rfl) (pe_callC C_law_cell (hr.mono (by decide)) rfl (pa_cons (pv 0) (pa_cons (pv 1) pa_nil))))
      (pss_cons (ps_set (i := 4) sc.nd rfl (Or.inl rfl) (pe_ix ix_list (pe_lst (pa_cons pe_str (pa_cons pe_str (pa_cons pe_str (pa_cons pe_str pa_nil))))) (pe_op op_mod (pv 3) pe_int) (fun _ _ => rfl)))
      (pss_cons (ps_set (i := 5) sc.nd rfl (Or.inl rfl) (pe_ix ix_list (pe_lst (pa_cons pe_str (pa_cons pe_str (pa_cons pe_str (pa_cons pe_str pa_nil))))) (pe_op op_mod (pe_op op_fdiv (pv 3) pe_int) pe_int) (fun _ _ => rfl)))
      (pss_cons (ps_set (i := 6) sc.nd rfl (Or.inl rfl) (pe_callC C_law_amount (hr.mono (by decide)) rfl (pa_cons (pe_callC C_law_cell (hr.mono (by decide)) rfl (pa_cons (pv 0) (pa_cons (pe_op op_add (pv 1) pe_int) pa_nil))) (pa_cons (pv 2) pa_nil))))
      (pss_cons (ps_set (i := 7) sc.nd rfl (Or.inl rfl) (pe_callC C_law_amount (hr.mono (by decide)) rfl (pa_cons (pe_callC C_law_cell (hr.mono (by decide)) rfl (pa_cons (pv 0) (pa_cons (pe_op op_add (pv 1) pe_int) pa_nil))) (pa_cons (pv 2) pa_nil))))
      (pss_cons (ps_set (i := 8) sc.nd rfl (Or.inl rfl) (pe_op op_fdiv (pe_callB (call_min2 rfl) rfl T.n_min (show bootBuiltins _ = some (.builtin "min") from rfl) (pa_cons (pv 6) (pa_cons (pv 7) pa_nil))) (pe_op op_add pe_int (pe_op op_mod (pe_op op_fdiv (pv 3) pe_int) pe_int))))
      (pss_cons (ps_set (i := 9) sc.nd rfl (Or.inl rfl) (pe_callB (call_max2 rfl) rfl T.n_max (show bootBuiltins _ = some (.builtin "max") from rfl) (pa_cons (pe_op op_add (pv 8) pe_int) (pa_cons (pe_callB (call_max2 rfl) rfl T.n_max (show bootBuiltins _ = some (.builtin "max") from rfl) (pa_cons (pv 6) (pa_cons (pv 7) pa_nil))) pa_nil))))
      (pss_cons (ps_if (pt_cmpR op_eq (pv 4) pe_str (nomark _))
        (pss_one (ps_set (i := 8) sc.nd rfl (Or.inl rfl) (pe_callB (call_max2 rfl) rfl T.n_max (show bootBuiltins _ = some (.builtin "max") from rfl) (pa_cons (pv 6) (pa_cons (pv 7) pa_nil)))))
        pss_nil)
      (pss_one (ps_ret (pe_tup (pa_cons (pv 4) (pa_cons (pv 5) (pa_cons (pv 8) (pa_cons (pv 9) (pa_cons (pe_callC C_law_count (hr.mono (by decide)) rfl (pa_cons (pe_callC C_law_cell (hr.mono (by decide)) rfl (pa_cons (pv 0) (pa_cons (pe_op op_add (pv 1) pe_int) pa_nil))) (pa_cons (pv 2) pa_nil))) pa_nil)))))))))))))))), ?_⟩
  have four : 4 ≤ sizeLine := by rw [sizeLine_eq]; decide
  have five : 5 ≤ sizeLine := by rw [sizeLine_eq]; decide
  refine ⟨_, rfl, _, rfl, a, ns, at', rfl, ha, a0, h63, ?_⟩
  generalize ns.getD at'.toNat 0 = c
  have w0 := md (a := c) (b := 4) (by decide)
  have pw : ∃ y, atI [V.str "own", .str "layer", .str "limit", .str "limit"] (c % 4) = some (.str y) ∧ isWord y := by
    have z : c % 4 = 0 ∨ c % 4 = 1 ∨ c % 4 = 2 ∨ c % 4 = 3 := by omega
    rcases z with z | z | z | z <;> rw [z]
    · exact ⟨_, rfl, .inl rfl⟩
    · exact ⟨_, rfl, .inr (.inl rfl)⟩
    · exact ⟨_, rfl, .inr (.inr rfl)⟩
    · exact ⟨_, rfl, .inr (.inr rfl)⟩
  obtain ⟨wd, atw, hwd⟩ := pw
  have pb : ∃ y, atI [V.str "event", .str "thing", .str "year", .str "loss"] (c / 4 % 4) = some (.str y) ∧ isWay y := by
    have b := md (a := c / 4) (b := 4) (by decide)
    have z : c / 4 % 4 = 0 ∨ c / 4 % 4 = 1 ∨ c / 4 % 4 = 2 ∨ c / 4 % 4 = 3 := by omega
    rcases z with z | z | z | z <;> rw [z]
    · exact ⟨_, rfl, .inl rfl⟩
    · exact ⟨_, rfl, .inr (.inl rfl)⟩
    · exact ⟨_, rfl, .inr (.inr (.inl rfl))⟩
    · exact ⟨_, rfl, .inr (.inr (.inr rfl))⟩
  obtain ⟨by', atb, hby⟩ := pb
  refine ⟨four, fun l1 n1 => ⟨_, rfl, _, _, rfl, rfl, (by show (0 : Int) < 4; decide), l1, _, _, _, rfl, rfl, SqL.of upd_same, atw, ?_⟩⟩
  have s1 := same_new n1 (.lst [V.str "own", .str "layer", .str "limit", .str "limit"])
  refine ⟨four, fun l2 n2 => ⟨_, rfl, _, _, rfl, rfl, ⟨by decide, by decide⟩, _, _, rfl, rfl, (by show (0 : Int) < 4; decide), l2, _, _, _, rfl, rfl, SqL.of upd_same, atb, ?_⟩⟩
  have s2 := s1.trans (same_new n2 (.lst [V.str "event", .str "thing", .str "year", .str "loss"]))
  generalize upd (upd H l1 (.lst [V.str "own", .str "layer", .str "limit", .str "limit"])) l2 (.lst [V.str "event", .str "thing", .str "year", .str "loss"]) = H2 at s2
  refine atG [some (.ref a), some (.int at'), some (.int u), some (.int c), some (.str wd), some (.str by'), none, none, none, none] rfl ?_
  refine ⟨_, rfl, _, rfl, _, _, rfl, rfl, a, ns, _, rfl, s2.seq ha, by omega, h63, _, rfl, _, u, rfl, u0, u1, fun m1 m10 m11 => ?_⟩
  refine ⟨_, rfl, _, rfl, _, _, rfl, rfl, a, ns, _, rfl, s2.seq ha, by omega, h63, _, rfl, _, u, rfl, u0, u1, fun m2 m20 m21 => ?_⟩
  refine atG [some (.ref a), some (.int at'), some (.int u), some (.int c), some (.str wd), some (.str by'), some (.int m1), some (.int m2), none, none] rfl ?_
  have dv := md (a := c / 16) (b := 4) (by decide)
  refine ⟨_, rfl, _, rfl, _, _, rfl, _, rfl, _, _, rfl, rfl, ⟨by decide, by decide⟩, _, _, rfl, rfl, (by show (0 : Int) < 4; decide), _, _, rfl, rfl, _, _, rfl, rfl, ⟨by omega, by omega⟩, ?_⟩
  generalize hmn : (if m2 < m1 then m2 else m1) = mn
  have mn0 : 0 ≤ mn := by rw [← hmn]; split <;> omega
  have mn1 : mn ≤ 999999999998 := by rw [← hmn]; split <;> omega
  have d1 : 0 < 1 + c / 16 % 4 := by omega
  generalize 1 + c / 16 % 4 = dd at d1
  have lo0 : 0 ≤ mn / dd := Int.ediv_nonneg mn0 (by omega)
  have lo1 : mn / dd ≤ mn := Int.ediv_le_self _ mn0
  refine hideI 0 999999999998 ⟨lo0, by show mn / dd ≤ _; omega⟩ fun low low0 low1 => ?_
  refine ⟨_, rfl, _, _, rfl, rfl, _, rfl, _, rfl, _, _, rfl, _, _, rfl, ?_⟩
  refine hideI (low + 1) 999999999999 ?_ fun high hi0 hi1 => ?_
  · generalize hmx : (if m2 > m1 then m2 else m1) = mx
    have : mx ≤ 999999999998 := by rw [← hmx]; split <;> omega
    constructor
    · show low + 1 ≤ (if mx > low + 1 then mx else low + 1)
      split <;> omega
    · show (if mx > low + 1 then mx else low + 1) ≤ _
      split <;> omega
  refine atG [some (.ref a), some (.int at'), some (.int u), some (.int c), some (.str wd), some (.str by'), some (.int m1), some (.int m2), some (.int low), some (.int high)] rfl ?_
  refine ⟨_, rfl, rfl, _, rfl, ?_⟩
  by_cases cw : wd = "limit"
  · refine dT (congrArg V.str cw) ?_
    refine ⟨_, rfl, _, rfl, _, _, rfl, ?_⟩
    refine hideI 0 999999999998 ⟨by show 0 ≤ (if m2 > m1 then m2 else m1); split <;> omega, by show (if m2 > m1 then m2 else m1) ≤ _; split <;> omega⟩ fun lw lw0 lw1 => ?_
    refine atG [some (.ref a), some (.int at'), some (.int u), some (.int c), some (.str wd), some (.str by'), some (.int m1), some (.int m2), some (.int lw), some (.int high)] rfl ?_
    refine ⟨_, rfl, _, rfl, _, rfl, _, rfl, _, rfl, _, rfl, _, _, rfl, rfl, a, ns, _, rfl, s2.seq ha, by omega, h63, _, rfl, _, u, rfl, u0, fun ct ct0 => ⟨five, fun t nt => ?_⟩⟩
    exact q t (wd, by', lw, high, ct) _ (s2.trans (same_new nt _)) (s2.free nt) upd_same ⟨hwd, hby, ⟨lw0, lw1⟩, fun z => absurd cw z, hi1, ct0⟩
  refine dF (fun z => cw (V.str.inj z)) ?_
  refine ⟨_, rfl, _, rfl, _, rfl, _, rfl, _, rfl, _, rfl, _, _, rfl, rfl, a, ns, _, rfl, s2.seq ha, by omega, h63, _, rfl, _, u, rfl, u0, fun ct ct0 => ⟨five, fun t nt => ?_⟩⟩
  exact q t (wd, by', low, high, ct) _ (s2.trans (same_new nt _)) (s2.free nt) upd_same ⟨hwd, hby, ⟨low0, low1⟩, fun _ => by show low < high; omega, hi1, ct0⟩
theorem sc__law_clause : FnScope ["_law_row_here"] ["_law_row_here"] (defScope s__law_clause) := ⟨rfl, rfl, rfl, by decide +kernel, rfl, by decide +kernel, by decide +kernel⟩
theorem ok__law_clause {f : Addr} {fd : FuncData} (F : Fun K "_law_clause" "_law_clause" s__law_clause f fd) (T : Txt K mg) (L : Kl K mg C_Clause C_Own C_Layer C_Limit C_Deal C_Cover C_Condition) (KLimit : KCal P w K mg base 4 "Limit" C_Limit ["self", "by", "most"] (spLim C_Clause C_Own C_Layer C_Limit)) (KOwn : KCal P w K mg base 4 "Own" C_Own ["self", "by", "cents"] (spOwn C_Clause C_Own C_Layer C_Limit)) (KLayer : KCal P w K mg base 4 "Layer" C_Layer ["self", "by", "first", "upto"] (spLay C_Clause C_Own C_Layer C_Limit)) : FnOk P w K mg base CX0 6 f fd ["_law_row_here"] (spClause C_Clause C_Own C_Layer C_Limit) := by
  have sc := sc__law_clause
  refine F.ok sc (fun vs H Q E h => ?_) (fun cdv A outer s H vs Q E hr h => ?_)
  · obtain ⟨_, _, rfl, _⟩ := h
    rfl
  obtain ⟨t, ⟨wd, by', lo, hi, ct⟩, rfl, ht, ⟨hwd, hby, lo0, lh, hi1, _⟩, q⟩ := h
  have ht' : H t = some (.tup [.str wd, .str by', .int lo, .int hi, .int ct]) := ht
  have lo0' : 0 ≤ lo ∧ lo ≤ 999999999998 := lo0
  have hi1' : hi ≤ 999999999999 := hi1
  refine ⟨_, (pss_cons (ps_if (pt_cmpR op_eq (pe_ix ix_tup (pv 0) pe_int (fun _ _ => rfl)) pe_str (nomark _))
        (pss_one (ps_ret (pe_makeC KOwn (hr.mono (by decide)) rfl (pa_cons (pe_ix ix_tup (pv 0) pe_int (fun _ _ => rfl)) (pa_cons (pe_ix ix_tup (pv 0) pe_int (fun _ _ => rfl)) pa_nil)))))
        pss_nil)
      (pss_cons (ps_if (pt_cmpR op_eq (pe_ix ix_tup (pv 0) pe_int (fun _ _ => rfl)) pe_str (nomark _))
        (pss_one (ps_ret (pe_makeC KLayer (hr.mono (by decide)) rfl (pa_cons (pe_ix ix_tup (pv 0) pe_int (fun _ _ => rfl)) (pa_cons (pe_ix ix_tup (pv 0) pe_int (fun _ _ => rfl)) (pa_cons (pe_ix ix_tup (pv 0) pe_int (fun _ _ => rfl)) pa_nil))))))
        pss_nil)
      (pss_one (ps_ret (pe_makeC KLimit (hr.mono (by decide)) rfl (pa_cons (pe_ix ix_tup (pv 0) pe_int (fun _ _ => rfl)) (pa_cons (pe_ix ix_tup (pv 0) pe_int (fun _ _ => rfl)) pa_nil))))))), ?_⟩
  have am : amt lo := ⟨lo0'.1, by omega⟩
  refine ⟨_, rfl, t, _, _, _, rfl, rfl, SqT.of ht', rfl, rfl, _, rfl, ite2 (fun c1 => ?_) (fun c1 => ?_)⟩
  · have c1' : wd = "own" := V.str.inj (of_decide_eq_true c1)
    refine ⟨_, rfl, t, _, _, _, rfl, rfl, SqT.of ht', rfl, _, rfl, t, _, _, _, rfl, rfl, SqT.of ht', rfl, fun x dx nx ndx nex => ⟨x, dx, by', lo, rfl, upd_same, hby, am, fun H' kp D => ⟨rfl, q x H' (made_same nx ndx kp) ?_⟩⟩⟩
    rw [show clOf (wd, by', lo, hi, ct) = .own by' lo from if_pos c1']
    exact D
  have c1' : wd ≠ "own" := fun e => c1 (decide_eq_true (congrArg V.str e))
  refine ⟨_, rfl, t, _, _, _, rfl, rfl, SqT.of ht', rfl, rfl, _, rfl, ite2 (fun c2 => ?_) (fun c2 => ?_)⟩
  · have c2' : wd = "layer" := V.str.inj (of_decide_eq_true c2)
    have nl : ¬ ("layer" : Str) = "limit" := by decide +kernel
    have lh' : lo < hi := lh (fun z => nl (c2'.symm.trans z))
    have am2 : amt hi := ⟨by omega, hi1'⟩
    refine ⟨_, rfl, t, _, _, _, rfl, rfl, SqT.of ht', rfl, _, rfl, t, _, _, _, rfl, rfl, SqT.of ht', rfl, _, rfl, t, _, _, _, rfl, rfl, SqT.of ht', rfl, fun x dx nx ndx nex => ⟨x, dx, by', lo, hi, rfl, upd_same, hby, am, am2, lh', fun H' kp D => ⟨rfl, q x H' (made_same nx ndx kp) ?_⟩⟩⟩
    rw [show clOf (wd, by', lo, hi, ct) = .lay by' lo hi from (if_neg c1').trans (if_pos c2')]
    exact D
  · have c2' : wd ≠ "layer" := fun e => c2 (decide_eq_true (congrArg V.str e))
    refine ⟨_, rfl, t, _, _, _, rfl, rfl, SqT.of ht', rfl, _, rfl, t, _, _, _, rfl, rfl, SqT.of ht', rfl, fun x dx nx ndx nex => ⟨x, dx, by', lo, rfl, upd_same, hby, am, fun H' kp D => ⟨rfl, q x H' (made_same nx ndx kp) ?_⟩⟩⟩
    rw [show clOf (wd, by', lo, hi, ct) = .lim by' lo from (if_neg c1').trans (if_neg c2')]
    exact D
end


/-! ### the law's parts -/
theorem cent_lt {b n k c : Int} (c0 : 0 ≤ c) (ck : c < k) : c < cent b n k ↔ n + c < b := by
  unfold cent CR.minI CR.maxI
  repeat' split
  all_goals omega
theorem cent_le' {b n k c : Int} (c0 : 0 ≤ c) (ck : c < k) : cent b n k ≤ c ↔ b ≤ n + c := by
  have := cent_lt (b := b) (n := n) c0 ck
  omega
theorem out_c {k c : Int} (c0 : 0 ≤ c) (ck : c < k) : ∀ r : Rw5, isWord r.1 → (outC r c ↔ (c < sLo (clOf r) r.2.2.2.2 k ∨ sHi (clOf r) r.2.2.2.2 k ≤ c))
  | (wd, by', lo, hi, ct), ok => by
    have n1 : ¬ ("own" : Str) = "limit" := by decide +kernel
    have n2 : ¬ ("own" : Str) = "layer" := by decide +kernel
    have n3 : ¬ ("layer" : Str) = "limit" := by decide +kernel
    have n4 : ¬ ("layer" : Str) = "own" := by decide +kernel
    have n5 : ¬ ("limit" : Str) = "own" := by decide +kernel
    have n6 : ¬ ("limit" : Str) = "layer" := by decide +kernel
    have e1 := cent_lt (b := lo) (n := ct) c0 ck
    have e2 := cent_le' (b := hi) (n := ct) c0 ck
    have ok' : wd = "own" ∨ wd = "layer" ∨ wd = "limit" := ok
    rcases ok' with rfl | rfl | rfl
    · rw [show clOf ("own", by', lo, hi, ct) = .own by' lo from if_pos rfl]
      show (¬ ("own" : Str) = "limit" ∧ ct + c < lo) ∨ (("own" : Str) = "layer" ∧ hi ≤ ct + c) ↔ c < cent lo ct k ∨ k ≤ c
      rw [e1]
      constructor
      · rintro (z | z)
        · exact .inl z.2
        · exact absurd z.1 n2
      · rintro (z | z)
        · exact .inl ⟨n1, z⟩
        · omega
    · rw [show clOf ("layer", by', lo, hi, ct) = .lay by' lo hi from (if_neg n4).trans (if_pos rfl)]
      show (¬ ("layer" : Str) = "limit" ∧ ct + c < lo) ∨ (("layer" : Str) = "layer" ∧ hi ≤ ct + c) ↔ c < cent lo ct k ∨ cent hi ct k ≤ c
      rw [e1, e2]
      constructor
      · rintro (z | z)
        · exact .inl z.2
        · exact .inr z.2
      · rintro (z | z)
        · exact .inl ⟨n3, z⟩
        · exact .inr ⟨rfl, z⟩
    · rw [show clOf ("limit", by', lo, hi, ct) = .lim by' lo from (if_neg n5).trans (if_neg n6)]
      show (¬ ("limit" : Str) = "limit" ∧ ct + c < lo) ∨ (("limit" : Str) = "layer" ∧ hi ≤ ct + c) ↔ c < 0 ∨ k ≤ c
      constructor
      · rintro (z | z)
        · exact absurd rfl z.1
        · exact absurd z.1 n6
      · rintro (z | z) <;> omega
def cntOf (r : Rw5) : Int := r.2.2.2.2
theorem out_fw {k c : Int} (c0 : 0 ≤ c) (ck : c < k) : ∀ (rs : List Rw5) (n : Int), (∀ r ∈ rs, okR r) → CRP.fwFrom (spansOf k (rs.map clOf) (rs.map cntOf)) n c = outFrom rs n c
  | [], _, _ => rfl
  | r :: rs, n, ok => by
    have ih := out_fw c0 ck rs (n + 1) fun r hr => ok r (List.mem_cons_of_mem _ hr)
    have z := out_c c0 ck r (ok r List.mem_cons_self).1
    show (if c < sLo (clOf r) r.2.2.2.2 k ∨ sHi (clOf r) r.2.2.2.2 k ≤ c then n else CRP.fwFrom (spansOf k (rs.map clOf) (rs.map cntOf)) (n + 1) c) = if outC r c then n else outFrom rs (n + 1) c
    by_cases q : outC r c
    · rw [if_pos q, if_pos (z.mp q)]
    · rw [if_neg q, if_neg (fun y => q (z.mpr y)), ih]
/-- where a row starts, as a cent -/
theorem lo_row (k : Int) : ∀ r : Rw5, isWord r.1 → (r.1 = "limit" ∧ sLo (clOf r) r.2.2.2.2 k = 0) ∨ (r.1 ≠ "limit" ∧ sLo (clOf r) r.2.2.2.2 k = cent r.2.2.1 r.2.2.2.2 k)
  | (wd, by', lo, hi, ct), ok => by
    have n1 : ¬ ("own" : Str) = "limit" := by decide +kernel
    have n3 : ¬ ("layer" : Str) = "limit" := by decide +kernel
    have n4 : ¬ ("layer" : Str) = "own" := by decide +kernel
    have n5 : ¬ ("limit" : Str) = "own" := by decide +kernel
    have n6 : ¬ ("limit" : Str) = "layer" := by decide +kernel
    have ok' : wd = "own" ∨ wd = "layer" ∨ wd = "limit" := ok
    rcases ok' with rfl | rfl | rfl
    · rw [show clOf ("own", by', lo, hi, ct) = .own by' lo from if_pos rfl]
      exact .inr ⟨n1, rfl⟩
    · rw [show clOf ("layer", by', lo, hi, ct) = .lay by' lo hi from (if_neg n4).trans (if_pos rfl)]
      exact .inr ⟨n3, rfl⟩
    · rw [show clOf ("limit", by', lo, hi, ct) = .lim by' lo from (if_neg n5).trans (if_neg n6)]
      exact .inl ⟨rfl, rfl⟩
theorem hi_row (k : Int) : ∀ r : Rw5, isWord r.1 → (r.1 ≠ "layer" ∧ sHi (clOf r) r.2.2.2.2 k = k) ∨ (r.1 = "layer" ∧ sHi (clOf r) r.2.2.2.2 k = cent r.2.2.2.1 r.2.2.2.2 k)
  | (wd, by', lo, hi, ct), ok => by
    have n2 : ¬ ("own" : Str) = "layer" := by decide +kernel
    have n4 : ¬ ("layer" : Str) = "own" := by decide +kernel
    have n5 : ¬ ("limit" : Str) = "own" := by decide +kernel
    have n6 : ¬ ("limit" : Str) = "layer" := by decide +kernel
    have ok' : wd = "own" ∨ wd = "layer" ∨ wd = "limit" := ok
    rcases ok' with rfl | rfl | rfl
    · rw [show clOf ("own", by', lo, hi, ct) = .own by' lo from if_pos rfl]
      exact .inl ⟨n2, rfl⟩
    · rw [show clOf ("layer", by', lo, hi, ct) = .lay by' lo hi from (if_neg n4).trans (if_pos rfl)]
      exact .inr ⟨rfl, rfl⟩
    · rw [show clOf ("limit", by', lo, hi, ct) = .lim by' lo from (if_neg n5).trans (if_neg n6)]
      exact .inl ⟨n6, rfl⟩
theorem spans_rows (k : Int) : ∀ rs : List Rw5, spansOf k (rs.map clOf) (rs.map cntOf) = rs.map fun r => (sLo (clOf r) r.2.2.2.2 k, sHi (clOf r) r.2.2.2.2 k)
  | [] => rfl
  | r :: rs => by
    show spanOf k (clOf r) (cntOf r) :: spansOf k (rs.map clOf) (rs.map cntOf) = _
    rw [spans_rows k rs]
    rfl
theorem cent_bd {b n k : Int} (k0 : 0 ≤ k) : 0 ≤ cent b n k ∧ cent b n k ≤ k := by
  unfold cent CR.minI CR.maxI
  repeat' split
  all_goals omega
theorem bd_rows {k : Int} (k0 : 0 ≤ k) {rs : List Rw5} (ok : ∀ r ∈ rs, okR r) {y : Int} (h : isB (spansOf k (rs.map clOf) (rs.map cntOf)) k y) : 0 ≤ y ∧ y ≤ k := by
  rw [spans_rows] at h
  rcases h with rfl | rfl | ⟨p, hp, z⟩
  · omega
  · omega
  · obtain ⟨r, hr, rfl⟩ := List.mem_map.mp hp
    have c1 := cent_bd (b := r.2.2.1) (n := r.2.2.2.2) k0
    have c2 := cent_bd (b := r.2.2.2.1) (n := r.2.2.2.2) k0
    have z' : y = sLo (clOf r) r.2.2.2.2 k ∨ y = sHi (clOf r) r.2.2.2.2 k := z
    rcases z' with z' | z'
    · rcases lo_row k r (ok r hr).1 with q | q <;> omega
    · rcases hi_row k r (ok r hr).1 with q | q <;> omega
theorem ch_rows {k : Int} (k0 : 0 ≤ k) {rs : List Rw5} (ok : ∀ r ∈ rs, okR r) {ms : List Int} (up : ms.Pairwise (· < ·)) (mem : ∀ y, y ∈ ms ↔ isB (spansOf k (rs.map clOf) (rs.map cntOf)) k y) : CRP.Ch (outFrom rs 0) 0 none (CRP.foldP (spansOf k (rs.map clOf) (rs.map cntOf)) ms (ms.length - 1)) k := by
  have at' : ∀ y ∈ ms, ∃ j, j < ms.length ∧ ms.getD j 0 = y := fun y hy => by
    obtain ⟨j, hj, e⟩ := List.getElem_of_mem hy
    exact ⟨j, hj, by rw [List.getD_eq_getElem?_getD, List.getElem?_eq_getElem hj]; exact e⟩
  have inn : ∀ j, j < ms.length → 0 ≤ ms.getD j 0 ∧ ms.getD j 0 ≤ k := fun j hj => by
    refine bd_rows k0 ok ((mem _).mp ?_)
    rw [List.getD_eq_getElem?_getD, List.getElem?_eq_getElem hj]
    exact List.getElem_mem hj
  obtain ⟨j0, h0, e0⟩ := at' 0 ((mem 0).mpr (.inl rfl))
  obtain ⟨jk, hk, ek⟩ := at' k ((mem k).mpr (.inr (.inl rfl)))
  have z0 : ms.getD 0 0 = 0 := by
    rcases Nat.eq_zero_or_pos j0 with z | z
    · rw [z] at e0; exact e0
    · have := CRP.get_lt up z h0
      have := inn 0 (by omega)
      omega
  have zk : ms.getD (ms.length - 1) 0 = k := by
    by_cases z : jk = ms.length - 1
    · rw [← z]; exact ek
    · have := CRP.get_lt up (show jk < ms.length - 1 by omega) (by omega)
      have := inn (ms.length - 1) (by omega)
      omega
  have c := CRP.fold_ch up (sp := spansOf k (rs.map clOf) (rs.map cntOf)) (fun p hp => ⟨(mem _).mpr (.inr (.inr ⟨p, hp, .inl rfl⟩)), (mem _).mpr (.inr (.inr ⟨p, hp, .inr rfl⟩))⟩) (ms.length - 1) (by omega) z0
  rw [zk] at c
  exact c.congr fun c c0 ck => out_fw c0 ck rs 0 ok
/-! #### what the rest is -/
theorem restW_some {n k : Int} : ∀ (R : List (Option Int)) (k0 : Int) (o : Option (Int × Int)), restW R k0 o = some (n, k) →
    (o = some (n, k) ∧ ∀ (j : Nat) (m : Int), R[j]? = some (some m) → n ≤ m) ∨ ∃ i : Nat, k = k0 + i ∧ R[i]? = some (some n) ∧ (∀ (j : Nat) (m : Int), R[j]? = some (some m) → n ≤ m) ∧ (∀ (j : Nat) (m : Int), j < i → R[j]? = some (some m) → n < m) ∧ ∀ n0 j0, o = some (n0, j0) → n < n0
  | [], k0, o, h => .inl ⟨h, fun j m e => by simp at e⟩
  | none :: R, k0, o, h => by
    rcases restW_some R (k0 + 1) o h with ⟨e, a⟩ | ⟨i, e, b, c, d, f⟩
    · refine .inl ⟨e, fun j m z => ?_⟩
      cases j with
      | zero => simp at z
      | succ j => exact a j m (by simpa using z)
    · refine .inr ⟨i + 1, by omega, by simpa using b, fun j m z => ?_, fun j m hj z => ?_, f⟩
      · cases j with
        | zero => simp at z
        | succ j => exact c j m (by simpa using z)
      · cases j with
        | zero => simp at z
        | succ j => exact d j m (by omega) (by simpa using z)
  | some x :: R, k0, none, h => by
    rcases restW_some R (k0 + 1) (some (x, k0)) h with ⟨e, a⟩ | ⟨i, e, b, c, d, f⟩
    · cases e
      refine .inr ⟨0, by omega, by simp, fun j m z => ?_, fun j m hj z => by omega, fun _ _ z => (nomatch z)⟩
      cases j with
      | zero => simp at z; omega
      | succ j => exact a j m (by simpa using z)
    · have fx := f x k0 rfl
      refine .inr ⟨i + 1, by omega, by simpa using b, fun j m z => ?_, fun j m hj z => ?_, fun _ _ z => (nomatch z)⟩
      · cases j with
        | zero => simp at z; omega
        | succ j => exact c j m (by simpa using z)
      · cases j with
        | zero => simp at z; omega
        | succ j => exact d j m (by omega) (by simpa using z)
  | some x :: R, k0, some (y, l), h => by
    have h' : restW R (k0 + 1) (if x < y then some (x, k0) else some (y, l)) = some (n, k) := h
    by_cases c0 : x < y
    · rw [if_pos c0] at h'
      rcases restW_some R (k0 + 1) (some (x, k0)) h' with ⟨e, a⟩ | ⟨i, e, b, c, d, f⟩
      · cases e
        refine .inr ⟨0, by omega, by simp, fun j m z => ?_, fun j m hj z => by omega, fun _ _ z => by cases z; exact c0⟩
        cases j with
        | zero => simp at z; omega
        | succ j => exact a j m (by simpa using z)
      · have fx := f x k0 rfl
        refine .inr ⟨i + 1, by omega, by simpa using b, fun j m z => ?_, fun j m hj z => ?_, fun _ _ z => by cases z; omega⟩
        · cases j with
          | zero => simp at z; omega
          | succ j => exact c j m (by simpa using z)
        · cases j with
          | zero => simp at z; omega
          | succ j => exact d j m (by omega) (by simpa using z)
    · rw [if_neg c0] at h'
      rcases restW_some R (k0 + 1) (some (y, l)) h' with ⟨e, a⟩ | ⟨i, e, b, c, d, f⟩
      · cases e
        refine .inl ⟨rfl, fun j m z => ?_⟩
        cases j with
        | zero => simp at z; omega
        | succ j => exact a j m (by simpa using z)
      · have fx := f y l rfl
        refine .inr ⟨i + 1, by omega, by simpa using b, fun j m z => ?_, fun j m hj z => ?_, fun _ _ z => by cases z; exact fx⟩
        · cases j with
          | zero => simp at z; omega
          | succ j => exact c j m (by simpa using z)
        · cases j with
          | zero => simp at z; omega
          | succ j => exact d j m (by omega) (by simpa using z)
theorem restW_keep : ∀ (R : List (Option Int)) (k0 : Int) (a : Int × Int), ∃ b, restW R k0 (some a) = some b
  | [], _, a => ⟨a, rfl⟩
  | none :: R, k0, a => restW_keep R (k0 + 1) a
  | some x :: R, k0, (y, l) => by
    show ∃ b, restW R (k0 + 1) (if x < y then some (x, k0) else some (y, l)) = some b
    by_cases c0 : x < y
    · rw [if_pos c0]; exact restW_keep R _ _
    · rw [if_neg c0]; exact restW_keep R _ _
theorem restW_none : ∀ (R : List (Option Int)) (k0 : Int), (restW R k0 none = none ∧ R.filterMap id = []) ∨ ((∃ b, restW R k0 none = some b) ∧ R.filterMap id ≠ [])
  | [], _ => .inl ⟨rfl, rfl⟩
  | none :: R, k0 => restW_none R (k0 + 1)
  | some x :: R, k0 => .inr ⟨restW_keep R (k0 + 1) (x, k0), by simp⟩
/-! ### the pieces of a loss -/
theorem Ch.uniq {f : Int → Int} : ∀ {ps qs : List CRP.Tr3} {s : Int} {lk lk' : Option Int} {e : Int}, CRP.Ch f s lk ps e → CRP.Ch f s lk' qs e → ps = qs
  | [], [], _, _, _, _, _, _ => rfl
  | [], (l, h, k) :: r, s, _, _, e, h1, h2 => by
    have g := CRP.Ch.get (i := 0) (p := (l, h, k)) h2 rfl
    have e1 : s = e := h1
    have g1 : l < h := g.1
    have g2 : h ≤ e := g.2.2.2.2
    have g3 : s ≤ l := g.2.2.2.1
    omega
  | (l, h, k) :: r, [], s, _, _, e, h1, h2 => by
    have g := CRP.Ch.get (i := 0) (p := (l, h, k)) h1 rfl
    have e1 : s = e := h2
    have g1 : l < h := g.1
    have g2 : h ≤ e := g.2.2.2.2
    have g3 : s ≤ l := g.2.2.2.1
    omega
  | (l, h, k) :: r, (l', h', k') :: r', s, _, _, e, h1, h2 => by
    have le1 : h ≤ e := (CRP.Ch.get (i := 0) (p := (l, h, k)) h1 rfl).2.2.2.2
    have le2 : h' ≤ e := (CRP.Ch.get (i := 0) (p := (l', h', k')) h2 rfl).2.2.2.2
    obtain ⟨a1, a2, a3, a4, a5⟩ := h1
    obtain ⟨b1, b2, b3, b4, b5⟩ := h2
    have ek : k = k' := by
      have z1 := a4 s (by omega) (by omega)
      have z2 := b4 s (by omega) (by omega)
      omega
    have el : l = l' := by omega
    subst ek el
    have eh : h = h' := by
      rcases Int.lt_trichotomy h h' with z | z | z
      · cases r with
        | nil => have : h = e := a5; omega
        | cons x r =>
          obtain ⟨l2, g2, k2⟩ := x
          obtain ⟨c1, c2, c3, c4, c5⟩ := a5
          have := c4 h (by omega) (by omega)
          have := b4 h (by omega) z
          exact absurd (congrArg some (show k = k2 by omega)) c3
      · exact z
      · cases r' with
        | nil => have : h' = e := b5; omega
        | cons x r' =>
          obtain ⟨l2, g2, k2⟩ := x
          obtain ⟨c1, c2, c3, c4, c5⟩ := b5
          have := c4 h' (by omega) (by omega)
          have := a4 h' (by omega) z
          exact absurd (congrArg some (show k = k2 by omega)) c3
    subst eh
    rw [Ch.uniq a5 b5]
/-- a part more, put to the last one where it is like it and ends there -/
def putP (told : List CRP.Tr3) (lo hi k : Int) : List CRP.Tr3 := match told.getLast? with
  | none => told ++ [(lo, hi, k)]
  | some p => if p.2.2 = k ∧ p.2.1 = lo then told.dropLast ++ [(p.1, hi, k)] else told ++ [(lo, hi, k)]
theorem putP_nil (lo hi k : Int) : putP [] lo hi k = [(lo, hi, k)] := rfl
theorem putP_snoc (told : List CRP.Tr3) (l h k' lo hi k : Int) : putP (told ++ [(l, h, k')]) lo hi k = if k' = k ∧ h = lo then told ++ [(l, hi, k)] else told ++ [(l, h, k')] ++ [(lo, hi, k)] := by
  unfold putP
  rw [List.getLast?_concat]
  show (if k' = k ∧ h = lo then (told ++ [(l, h, k')]).dropLast ++ [(l, hi, k)] else told ++ [(l, h, k')] ++ [(lo, hi, k)]) = _
  rw [List.dropLast_concat]
theorem Ch.last {f : Int → Int} : ∀ {ps : List CRP.Tr3} {s : Int} {lk : Option Int} {e l h k : Int}, CRP.Ch f s lk (ps ++ [(l, h, k)]) e → h = e
  | [], _, _, _, _, _, _, ⟨_, _, _, _, z⟩ => z
  | _ :: ps, _, _, _, _, _, _, ⟨_, _, _, _, z⟩ => Ch.last z
theorem Ch.put {f : Int → Int} {told : List CRP.Tr3} {s e hi k : Int} (h : CRP.Ch f s none told e) (h1 : e < hi) (h2 : ∀ c, e ≤ c → c < hi → f c = k) : CRP.Ch f s none (putP told e hi k) hi := by
  have z := h.step h1 h2 fun _ q => (nomatch q)
  rcases List.eq_nil_or_concat told with rfl | ⟨init, ⟨l, g, k'⟩, rfl⟩
  · exact z
  · rw [List.concat_eq_append] at h z ⊢
    have eg := Ch.last h
    subst eg
    rw [CRP.stepP_snoc] at z
    rw [putP_snoc]
    by_cases c : k' = k
    · rw [if_pos c] at z
      rw [if_pos ⟨c, rfl⟩]
      exact z
    · rw [if_neg c] at z
      rw [if_neg (fun y => c y.1)]
      exact z
def putAll (by' : Int) (told : List CRP.Tr3) (more : List CRP.Tr3) : List CRP.Tr3 := more.foldl (fun t p => putP t (p.1 + by') (p.2.1 + by') p.2.2) told
theorem Ch.putAll {f g : Int → Int} {by' : Int} (hg : ∀ c, g c = f (by' + c)) : ∀ {more told : List CRP.Tr3} {s t e : Int} {lk : Option Int}, CRP.Ch f s none told (by' + t) → CRP.Ch g t lk more e → CRP.Ch f s none (CRL.putAll by' told more) (by' + e)
  | [], told, s, t, e, lk, h, z => by
    have z' : t = e := z
    subst z'
    exact h
  | (l, hh, k) :: r, told, s, t, e, lk, h, ⟨a1, a2, a3, a4, a5⟩ => by
    subst a1
    have st : CRP.Ch f s none (putP told (l + by') (hh + by') k) (by' + hh) := by
      have := Ch.put h (hi := by' + hh) (k := k) (by omega) fun c c1 c2 => by
        have := a4 (c - by') (by omega) (by omega)
        rw [hg, show by' + (c - by') = c by omega] at this
        exact this
      rw [show l + by' = by' + l by omega, show hh + by' = by' + hh by omega]
      exact this
    show CRP.Ch f s none (CRL.putAll by' (putP told (l + by') (hh + by') k) r) (by' + e)
    exact Ch.putAll hg st a5
theorem putP_len (told : List CRP.Tr3) (lo hi k : Int) : (putP told lo hi k).length ≤ told.length + 1 := by
  rcases List.eq_nil_or_concat told with rfl | ⟨init, ⟨l, g, k'⟩, rfl⟩
  · exact Nat.le_refl _
  · rw [List.concat_eq_append, putP_snoc]
    split <;> simp only [List.length_append, List.length_cons, List.length_nil] <;> omega
theorem putAll_len (by' : Int) : ∀ (more told : List CRP.Tr3), (putAll by' told more).length ≤ told.length + more.length
  | [], told => Nat.le_refl _
  | p :: r, told => by
    have h1 := putAll_len by' r (putP told (p.1 + by') (p.2.1 + by') p.2.2)
    have h2 := putP_len told (p.1 + by') (p.2.1 + by') p.2.2
    show (putAll by' (putP told (p.1 + by') (p.2.1 + by') p.2.2) r).length ≤ _
    rw [List.length_cons]
    omega
/-- a row, with what is counted ahead -/
def bump (at' took : Int) (r : Rw5) : Rw5 := (r.1, r.2.1, r.2.2.1, r.2.2.2.1, r.2.2.2.2 + (if r.1 = ("limit" : Str) then took else at'))
theorem bump_ok {at' took : Int} (a0 : 0 ≤ at') (t0 : 0 ≤ took) {r : Rw5} (h : okR r) : okR (bump at' took r) := by
  obtain ⟨h1, h2, h3, h4, h5, h6⟩ := h
  refine ⟨h1, h2, h3, h4, h5, ?_⟩
  show 0 ≤ r.2.2.2.2 + (if r.1 = ("limit" : Str) then took else at')
  split <;> omega
theorem bump_out {at' took c : Int} : ∀ r : Rw5, (outC (bump at' took r) c ↔ outC r (at' + c))
  | (wd, by', lo, hi, ct) => by
    show (wd ≠ "limit" ∧ ct + (if wd = ("limit" : Str) then took else at') + c < lo) ∨ (wd = "layer" ∧ hi ≤ ct + (if wd = ("limit" : Str) then took else at') + c) ↔ (wd ≠ "limit" ∧ ct + (at' + c) < lo) ∨ (wd = "layer" ∧ hi ≤ ct + (at' + c))
    have n6 : ¬ ("limit" : Str) = "layer" := by decide +kernel
    by_cases z : wd = "limit"
    · subst z
      constructor
      · rintro (q | q)
        · exact absurd rfl q.1
        · exact absurd q.1 n6
      · rintro (q | q)
        · exact absurd rfl q.1
        · exact absurd q.1 n6
    · rw [if_neg z, Int.add_assoc]
theorem bump_from {at' took c : Int} : ∀ (rs : List Rw5) (n : Int), outFrom (rs.map (bump at' took)) n c = outFrom rs n (at' + c)
  | [], _ => rfl
  | r :: rs, n => by
    show (if outC (bump at' took r) c then n else outFrom (rs.map (bump at' took)) (n + 1) c) = if outC r (at' + c) then n else outFrom rs (n + 1) (at' + c)
    rw [bump_from rs (n + 1)]
    by_cases z : outC r (at' + c)
    · rw [if_pos z, if_pos ((bump_out r).mpr z)]
    · rw [if_neg z, if_neg fun y => z ((bump_out r).mp y)]
/-- cut to a piece -/
def cutI (at' c y : Int) : Int := CR.minI (CR.maxI (y - at') 0) c
theorem cut_cent {b n K at' c : Int} (a0 : 0 ≤ at') (c0 : 0 ≤ c) (ck : at' + c ≤ K) : cent b (n + at') c = cutI at' c (cent b n K) := by
  unfold cutI cent CR.minI CR.maxI
  repeat' split
  all_goals omega
theorem cut_mono {at' c x y : Int} (h : x ≤ y) : cutI at' c x ≤ cutI at' c y := by
  unfold cutI CR.minI CR.maxI
  repeat' split
  all_goals omega
theorem cut_0 {at' c : Int} (a0 : 0 ≤ at') (c0 : 0 ≤ c) : cutI at' c 0 = 0 := by
  unfold cutI CR.minI CR.maxI
  repeat' split
  all_goals omega
theorem cut_K {at' c K : Int} (c0 : 0 ≤ c) (ck : at' + c ≤ K) : cutI at' c K = c := by
  unfold cutI CR.minI CR.maxI
  repeat' split
  all_goals omega
theorem bump_lo {K at' took c : Int} (a0 : 0 ≤ at') (c0 : 0 ≤ c) (ck : at' + c ≤ K) {r : Rw5} (h : isWord r.1) : sLo (clOf (bump at' took r)) (bump at' took r).2.2.2.2 c = cutI at' c (sLo (clOf r) r.2.2.2.2 K) := by
  have h1 := lo_row c (bump at' took r) h
  have h2 := lo_row K r h
  by_cases z : r.1 = "limit"
  · rcases h1 with q | q
    · rcases h2 with p | p
      · rw [q.2, p.2, cut_0 a0 c0]
      · exact absurd z p.1
    · exact absurd z q.1
  · rcases h1 with q | q
    · exact absurd q.1 z
    · rcases h2 with p | p
      · exact absurd p.1 z
      · rw [q.2, p.2, ← cut_cent a0 c0 ck]
        show cent r.2.2.1 (r.2.2.2.2 + (if r.1 = ("limit" : Str) then took else at')) c = _
        rw [if_neg z]
theorem bump_hi {K at' took c : Int} (a0 : 0 ≤ at') (c0 : 0 ≤ c) (ck : at' + c ≤ K) {r : Rw5} (h : isWord r.1) : sHi (clOf (bump at' took r)) (bump at' took r).2.2.2.2 c = cutI at' c (sHi (clOf r) r.2.2.2.2 K) := by
  have h1 := hi_row c (bump at' took r) h
  have h2 := hi_row K r h
  have n6 : ¬ ("layer" : Str) = "limit" := by decide +kernel
  by_cases z : r.1 = "layer"
  · rcases h1 with q | q
    · exact absurd z q.1
    · rcases h2 with p | p
      · exact absurd z p.1
      · rw [q.2, p.2, ← cut_cent a0 c0 ck]
        show cent r.2.2.2.1 (r.2.2.2.2 + (if r.1 = ("limit" : Str) then took else at')) c = _
        rw [if_neg (fun y => n6 (z.symm.trans y))]
  · rcases h1 with q | q
    · rcases h2 with p | p
      · rw [q.2, p.2, cut_K c0 ck]
      · exact absurd p.1 z
    · exact absurd q.1 z
theorem max_eq {m n : Int} {l : List Int} (h : isMax m l) (k : isMax n l) : m = n := Int.le_antisymm (k.2 m h.1) (h.2 n k.1)
theorem min_eq {m n : Int} {l : List Int} (h : isMin m l) (k : isMin n l) : m = n := Int.le_antisymm (h.2 n k.1) (k.2 m h.1)
theorem max_map {g : Int → Int} (mono : ∀ x y, x ≤ y → g x ≤ g y) {m : Int} {l : List Int} (h : isMax m l) : isMax (g m) (l.map g) := ⟨List.mem_map_of_mem h.1, fun k hk => by
  obtain ⟨y, hy, rfl⟩ := List.mem_map.mp hk
  exact mono _ _ (h.2 y hy)⟩
theorem min_map {g : Int → Int} (mono : ∀ x y, x ≤ y → g x ≤ g y) {m : Int} {l : List Int} (h : isMin m l) : isMin (g m) (l.map g) := ⟨List.mem_map_of_mem h.1, fun k hk => by
  obtain ⟨y, hy, rfl⟩ := List.mem_map.mp hk
  exact mono _ _ (h.2 y hy)⟩
/-- the window of a piece is the window of the whole, cut -/
theorem win_cut {rs : List Rw5} {K at' took c X HI x hi : Int} (ok : ∀ r ∈ rs, okR r) (a0 : 0 ≤ at') (c0 : 0 ≤ c) (ck : at' + c ≤ K)
    (MX : isMax X (0 :: (spansOf K (rs.map clOf) (rs.map cntOf)).map (·.1))) (MN : isMin HI (K :: (spansOf K (rs.map clOf) (rs.map cntOf)).map (·.2)))
    (mx : isMax x (0 :: (spansOf c ((rs.map (bump at' took)).map clOf) ((rs.map (bump at' took)).map cntOf)).map (·.1))) (mn : isMin hi (c :: (spansOf c ((rs.map (bump at' took)).map clOf) ((rs.map (bump at' took)).map cntOf)).map (·.2))) : x = cutI at' c X ∧ hi = cutI at' c HI := by
  rw [spans_rows, List.map_map] at MX MN mx mn
  rw [List.map_map] at mx mn
  have m1 := max_map (fun x y => cut_mono (at' := at') (c := c)) MX
  have m2 := min_map (fun x y => cut_mono (at' := at') (c := c)) MN
  rw [List.map_cons, cut_0 a0 c0, List.map_map] at m1
  rw [List.map_cons, cut_K c0 ck, List.map_map] at m2
  constructor
  · refine max_eq mx ?_
    have e : rs.map (((fun p : Int × Int => p.1) ∘ fun r : Rw5 => (sLo (clOf r) r.2.2.2.2 c, sHi (clOf r) r.2.2.2.2 c)) ∘ bump at' took) = rs.map (cutI at' c ∘ ((fun p : Int × Int => p.1) ∘ fun r : Rw5 => (sLo (clOf r) r.2.2.2.2 K, sHi (clOf r) r.2.2.2.2 K))) := List.map_congr_left fun r hr => bump_lo a0 c0 ck (ok r hr).1
    rw [e]
    exact m1
  · refine min_eq mn ?_
    have e : rs.map (((fun p : Int × Int => p.2) ∘ fun r : Rw5 => (sLo (clOf r) r.2.2.2.2 c, sHi (clOf r) r.2.2.2.2 c)) ∘ bump at' took) = rs.map (cutI at' c ∘ ((fun p : Int × Int => p.2) ∘ fun r : Rw5 => (sLo (clOf r) r.2.2.2.2 K, sHi (clOf r) r.2.2.2.2 K))) := List.map_congr_left fun r hr => bump_hi a0 c0 ck (ok r hr).1
    rw [e]
    exact m2
/-! the rest, with what was paid ahead -/
def roomR (r : Rw5) : Option Int := if r.1 = ("limit" : Str) then some (CR.maxI (r.2.2.1 - r.2.2.2.2) 0) else none
theorem room_of : ∀ r : Rw5, isWord r.1 → roomO (sRoom (clOf r) r.2.2.2.2) = roomR r
  | (wd, by', lo, hi, ct), ok => by
    have n1 : ¬ ("own" : Str) = "limit" := by decide +kernel
    have n3 : ¬ ("layer" : Str) = "limit" := by decide +kernel
    have n4 : ¬ ("layer" : Str) = "own" := by decide +kernel
    have n5 : ¬ ("limit" : Str) = "own" := by decide +kernel
    have n6 : ¬ ("limit" : Str) = "layer" := by decide +kernel
    have ok' : wd = "own" ∨ wd = "layer" ∨ wd = "limit" := ok
    rcases ok' with rfl | rfl | rfl
    · rw [show clOf ("own", by', lo, hi, ct) = .own by' lo from if_pos rfl, show roomR ("own", by', lo, hi, ct) = none from if_neg n1]
      rfl
    · rw [show clOf ("layer", by', lo, hi, ct) = .lay by' lo hi from (if_neg n4).trans (if_pos rfl), show roomR ("layer", by', lo, hi, ct) = none from if_neg n3]
      rfl
    · rw [show clOf ("limit", by', lo, hi, ct) = .lim by' lo from (if_neg n5).trans (if_neg n6), show roomR ("limit", by', lo, hi, ct) = some (CR.maxI (lo - ct) 0) from if_pos rfl]
      rfl
theorem rooms_of : ∀ rs : List Rw5, (∀ r ∈ rs, okR r) → roomsOf (rs.map clOf) (rs.map cntOf) = rs.map roomR
  | [], _ => rfl
  | r :: rs, ok => by
    show roomO (sRoom (clOf r) r.2.2.2.2) :: roomsOf (rs.map clOf) (rs.map cntOf) = roomR r :: rs.map roomR
    rw [room_of r (ok r List.mem_cons_self).1, rooms_of rs fun r hr => ok r (List.mem_cons_of_mem _ hr)]
def dnP (t : Int) (p : Int × Int) : Int × Int := (p.1 - t, p.2)
theorem rest_down (t : Int) : ∀ (R : List (Option Int)) (k0 : Int) (o : Option (Int × Int)), restW (R.map (Option.map (· - t))) k0 (o.map (dnP t)) = (restW R k0 o).map (dnP t)
  | [], _, _ => rfl
  | none :: R, k0, o => rest_down t R (k0 + 1) o
  | some n :: R, k0, none => rest_down t R (k0 + 1) (some (n, k0))
  | some n :: R, k0, some (m, j) => by
    show restW (R.map (Option.map (· - t))) (k0 + 1) (if n - t < m - t then some (n - t, k0) else some (m - t, j)) = (restW R (k0 + 1) (if n < m then some (n, k0) else some (m, j))).map (dnP t)
    by_cases z : n < m
    · rw [if_pos z, if_pos (by omega)]
      exact rest_down t R (k0 + 1) (some (n, k0))
    · rw [if_neg z, if_neg (by omega)]
      exact rest_down t R (k0 + 1) (some (m, j))
/-- no more was paid than the rest -/
def within (took : Int) : Option (Int × Int) → Prop
  | none => True
  | some (n, _) => took ≤ n
theorem rest_bump {rs : List Rw5} {at' took : Int} (t0 : 0 ≤ took) (h : within took (restW (rs.map roomR) 0 none)) : restW ((rs.map (bump at' took)).map roomR) 0 none = (restW (rs.map roomR) 0 none).map (dnP took) := by
  have all : ∀ r ∈ rs, ∀ n, roomR r = some n → took ≤ n := fun r hr n e => by
    rcases restW_none (rs.map roomR) 0 with ⟨_, z⟩ | ⟨⟨⟨m, k⟩, z⟩, _⟩
    · have : some n ∈ rs.map roomR := by rw [← e]; exact List.mem_map_of_mem hr
      have : n ∈ (rs.map roomR).filterMap id := List.mem_filterMap.mpr ⟨some n, this, rfl⟩
      rw [z] at this
      cases this
    · rw [z] at h
      have h' : took ≤ m := h
      have hm : some n ∈ rs.map roomR := by rw [← e]; exact List.mem_map_of_mem hr
      obtain ⟨j, hj, ej⟩ := List.getElem_of_mem hm
      have gj : (rs.map roomR)[j]? = some (some n) := by rw [List.getElem?_eq_getElem hj, ej]
      rcases restW_some _ _ _ z with ⟨q, _⟩ | ⟨i, _, _, q, _⟩
      · cases q
      · have := q j n gj
        omega
  have e : (rs.map (bump at' took)).map roomR = (rs.map roomR).map (Option.map (· - took)) := by
    rw [List.map_map, List.map_map]
    refine List.map_congr_left fun r hr => ?_
    have a := all r hr
    show roomR (bump at' took r) = (roomR r).map (· - took)
    by_cases z : r.1 = ("limit" : Str)
    · have e1 : roomR r = some (CR.maxI (r.2.2.1 - r.2.2.2.2) 0) := if_pos z
      have e2 : roomR (bump at' took r) = some (CR.maxI (r.2.2.1 - (r.2.2.2.2 + (if r.1 = ("limit" : Str) then took else at'))) 0) := if_pos z
      have := a _ e1
      rw [e1, e2, if_pos z]
      show some (CR.maxI (r.2.2.1 - (r.2.2.2.2 + took)) 0) = some (CR.maxI (r.2.2.1 - r.2.2.2.2) 0 - took)
      congr 1
      revert this
      unfold CR.maxI
      repeat' split
      all_goals omega
    · have e1 : roomR r = none := if_neg z
      have e2 : roomR (bump at' took r) = none := if_neg z
      rw [e1, e2]
      rfl
  rw [e]
  exact rest_down took (rs.map roomR) 0 none


/-! ### the law's own defs -/
def paidHi (lo y : Int) : Option (Int × Int) → Int
  | none => CR.maxI lo y
  | some (n, _) => CR.maxI lo (CR.minI y (lo + n))
theorem cut_code (at' c y : Int) : CR.minI c (CR.maxI 0 (y - at')) = cutI at' c y := by
  unfold cutI CR.minI CR.maxI
  repeat' split
  all_goals omega
def spPaid (CC CO CL CM C : Addr) : Sp := fun vs H Q _ => ∃ p cl ct cs ns, ∃ k : Int, vs = [.ref p, .ref ct, .int k] ∧ Cvr CC CO CL CM C H p cl ct cs ns ∧ ∀ (t : Addr) (lo hi : Int) (H' : Hp), Same H H' → isMax lo (0 :: (spansOf k cs ns).map (·.1)) → isMin hi (k :: (spansOf k cs ns).map (·.2)) →
  H' t = some (.tup [.int lo, .int (paidHi lo (if hi > lo then hi else lo) (restW (roomsOf cs ns) 0 none))]) → Q (.ref t) H'
def spPut : Sp := fun vs H Q _ => ∃ r q xs ys told more, ∃ by' : Int, vs = [.ref r, .ref q, .int by'] ∧ H r = some (.lst xs) ∧ Trs H xs told ∧ H q = some (.lst ys) ∧ Trs H ys more ∧ r ≠ q ∧ told.length + more.length ≤ 2000 ∧
  ∀ H' zs, (∀ b o, H b = some o → b ≠ r → H' b = some o) → H' r = some (.lst zs) → Trs H' zs (putAll by' told more) → Q .non H'
def spBeh : Sp := fun vs H Q _ => ∃ b ct ys rs, ∃ at' took c pd : Int, vs = [.ref b, .ref ct, .int c, .int pd] ∧ H b = some (.lst ys) ∧ Rws5 H ys rs ∧ rs.length ≤ 8 ∧ H ct = some (.lst (((rs.map (bump at' took)).map cntOf).map V.int)) ∧
  ∀ l H', Same H H' → H l = none → H' l = some (.lst (((rs.map (bump (at' + c) (took + pd))).map cntOf).map V.int)) → Q (.ref l) H'
def spLeft : Sp := fun vs H Q _ => ∃ v1 v2 o, ∃ took : Int, vs = [v1, v2, .int took] ∧ RV H v1 o ∧ RV H v2 (o.map (dnP took)) ∧ Q (.bl true) H
def spOff : Sp := fun vs H Q _ => ∃ t1 t2, ∃ X Y at' c : Int, vs = [.ref t1, .ref t2, .int at', .int c] ∧ H t1 = some (.tup [.int X, .int Y]) ∧ H t2 = some (.tup [.int (cutI at' c X), .int (cutI at' c Y)]) ∧ Q (.bl true) H
theorem put_take {by' : Int} {told more : List CRP.Tr3} {i : Nat} {p : CRP.Tr3} (h : more[i]? = some p) : putAll by' told (more.take (i + 1)) = putP (putAll by' told (more.take i)) (p.1 + by') (p.2.1 + by') p.2.2 := by
  unfold putAll
  rw [take_snoc h, List.foldl_append]
  rfl
theorem rep_lst {K : PySem.W.Frag} {H : Hp} {r : Addr} {xs : List V} {ps : List Tr} (h : H r = some (.lst xs)) (p : Trs H xs ps) : Rep K H (.seq false (ps.map dTr)) (.ref r) := by
  unfold Rep
  exact ⟨r, _, rfl, fun z => (nomatch z), fun _ => SqL.of h, p.rep⟩
section
variable {P : Program} {w : World} {K : PySem.W.Frag} {mg : Str → Option Value} {base : Heap} {C_Clause C_Own C_Layer C_Limit C_Deal C_Cover C_Condition : Addr}
theorem sc__law_paid : FnScope ["_law_cover", "_law_counts", "_law_cents", "_law_low", "_law_high", "_law_rest"] ["_law_cover", "_law_counts", "_law_cents"] (defScope s__law_paid) := ⟨rfl, rfl, rfl, by decide +kernel, rfl, by decide +kernel, by decide +kernel⟩
theorem ok__law_paid {f : Addr} {fd : FuncData} (F : Fun K "_law_paid" "_law_paid" s__law_paid f fd) (T : Txt K mg) (L : Kl K mg C_Clause C_Own C_Layer C_Limit C_Deal C_Cover C_Condition) (Mwindow : MCal P w K mg base 4 C_Cover "window" ["self", "counts", "cents"] (spWin C_Clause C_Own C_Layer C_Limit C_Cover)) (Mrest : MCal P w K mg base 2 C_Cover "rest" ["self", "counts"] (spRest C_Clause C_Own C_Layer C_Limit C_Cover)) : FnOk P w K mg base CX0 5 f fd ["_law_cover", "_law_counts", "_law_cents"] (spPaid C_Clause C_Own C_Layer C_Limit C_Cover) := by
  have sc := sc__law_paid
  refine F.ok sc (fun vs H Q E h => ?_) (fun cdv A outer s H vs Q E hr h => ?_)
  · obtain ⟨_, _, _, _, _, _, rfl, _⟩ := h
    rfl
  obtain ⟨p, cl, ct, cs, ns, k, rfl, cvr, q⟩ := h
  refine ⟨_, (pss_cons (ps_asg (pe_methC Mwindow (hr.mono (by decide)) (pv 0) (pa_cons (pv 1) (pa_cons (pv 2) pa_nil))) (pg_tup (n := 2) rfl (pgs_cons (pg_name (i := 3) sc.nd rfl (Or.inl rfl)) (pgs_cons (pg_name (i := 4) sc.nd rfl (Or.inl rfl)) pgs_nil))))
      (pss_cons (ps_set (i := 5) sc.nd rfl (Or.inl rfl) (pe_methC Mrest (hr.mono (by decide)) (pv 0) (pa_cons (pv 1) pa_nil)))
      (pss_cons (ps_if (pt_cmpR op_notN (pv 5) pe_non (nomark _))
        (pss_one (ps_set (i := 4) sc.nd rfl (Or.inl rfl) (pe_callB (call_min2 rfl) rfl T.n_min (show bootBuiltins _ = some (.builtin "min") from rfl) (pa_cons (pv 4) (pa_cons (pe_op op_add (pv 3) (pe_ix ix_tup (pv 5) pe_int (fun _ _ => rfl))) pa_nil)))))
        pss_nil)
      (pss_one (ps_ret (pe_tup (pa_cons (pv 3) (pa_cons (pe_callB (call_max2 rfl) rfl T.n_max (show bootBuiltins _ = some (.builtin "max") from rfl) (pa_cons (pv 3) (pa_cons (pv 4) pa_nil))) pa_nil)))))))), ?_⟩
  have two : 2 ≤ sizeLine := by rw [sizeLine_eq]; decide
  obtain ⟨⟨dx, fs, e1, fc, nm⟩, ⟨xs, hcl, cc⟩, hct, ln, l8⟩ := id cvr
  refine ⟨_, rfl, p, dx, fs, rfl, e1, nm.2.1, _, rfl, _, rfl, p, cl, ct, cs, ns, k, rfl, cvr, fun t lo hi H1 s1 ht mx mn => ?_⟩
  refine ⟨t, _, rfl, SqT.of ht, rfl, _, _, rfl, _, _, rfl, rfl, ?_⟩
  generalize hy : (if hi > lo then hi else lo) = y
  refine atσ [some (.ref p), some (.ref ct), some (.int k), some (.int lo), some (.int y), none] (by rw [← hy]; rfl) ?_
  have e11 := s1 _ _ e1
  refine ⟨_, rfl, p, dx, fs, rfl, e11, nm.2.2.2, _, rfl, p, cl, ct, xs, cs, ns, rfl, ⟨dx, fs, e11, fc, nm⟩, s1 _ _ hcl, cc.mono (ist_same s1), s1 _ _ hct, ln, fun v H2 s2 rv => ?_⟩
  have s12 := s1.trans s2
  have fin : ∀ t H', Same H H' → H' t = some (.tup [.int lo, .int (paidHi lo y (restW (roomsOf cs ns) 0 none))]) → Q (.ref t) H' := fun t H' z1 z2 => q t lo hi H' z1 mx mn (by rw [hy]; exact z2)
  refine atG [some (.ref p), some (.ref ct), some (.int k), some (.int lo), some (.int y), some v] rfl ?_
  generalize restW (roomsOf cs ns) 0 none = o at rv fin
  cases o with
  | none =>
    have v0 : v = .non := rv
    subst v0
    refine ⟨_, rfl, rfl, _, rfl, nF rfl ?_⟩
    exact ⟨_, rfl, _, rfl, _, rfl, _, _, rfl, two, fun u nu => fin u _ (s12.trans (same_new nu _)) upd_same⟩
  | some m =>
    obtain ⟨m, j⟩ := m
    obtain ⟨tv, rfl, htv⟩ := rv
    refine ⟨_, rfl, rfl, _, rfl, nT (fun z => nomatch z) ?_⟩
    refine ⟨_, rfl, _, rfl, _, rfl, tv, _, _, _, rfl, rfl, SqT.of htv, rfl, _, _, rfl, rfl, _, _, rfl, ?_⟩
    exact ⟨_, rfl, _, rfl, _, rfl, _, _, rfl, two, fun u nu => fin u _ (s12.trans (same_new nu _)) upd_same⟩
theorem sc__law_rest_left : FnScope ["_law_first", "_law_rest", "_law_paid_here"] ["_law_first", "_law_rest", "_law_paid_here"] (defScope s__law_rest_left) := ⟨rfl, rfl, rfl, by decide +kernel, rfl, by decide +kernel, by decide +kernel⟩
theorem ok__law_rest_left {f : Addr} {fd : FuncData} (F : Fun K "_law_rest_left" "_law_rest_left" s__law_rest_left f fd) (T : Txt K mg) : FnOk P w K mg base CX0 1 f fd ["_law_first", "_law_rest", "_law_paid_here"] spLeft := by
  have sc := sc__law_rest_left
  refine F.ok sc (fun vs H Q E h => ?_) (fun cdv A outer s H vs Q E hr h => ?_)
  · obtain ⟨_, _, _, _, rfl, _⟩ := h
    rfl
  obtain ⟨v1, v2, o, took, rfl, r1, r2, q⟩ := h
  refine ⟨_, (pss_cons (ps_if (pt_cmpR op_isN (pv 0) pe_non (nomark _))
        (pss_one (ps_ret (pe_cmpR op_isN (pv 1) pe_non (nomark _))))
        pss_nil)
      (pss_one (ps_ret (pe_and (pe_cmpR op_notN (pv 1) pe_non (nomark _)) (pe_and (pe_cmpR op_eq (pe_ix ix_tup (pv 1) pe_int (fun _ _ => rfl)) (pe_ix ix_tup (pv 0) pe_int (fun _ _ => rfl)) (nomark _)) (pe_one (pe_cmpR op_eq (pe_ix ix_tup (pv 1) pe_int (fun _ _ => rfl)) (pe_op op_sub (pe_ix ix_tup (pv 0) pe_int (fun _ _ => rfl)) (pv 2)) (nomark _)))))))), ?_⟩
  cases o with
  | none =>
    have e1 : v1 = .non := r1
    have e2 : v2 = .non := r2
    subst e1 e2
    exact ⟨_, rfl, rfl, _, rfl, dT rfl ⟨_, rfl, rfl, q⟩⟩
  | some m =>
    obtain ⟨m, j⟩ := m
    obtain ⟨t1, rfl, h1⟩ := r1
    obtain ⟨t2, rfl, h2⟩ := (show ∃ t, v2 = .ref t ∧ H t = some (.tup [.int (m - took), .int j]) from r2)
    refine ⟨_, rfl, rfl, _, rfl, dF (fun z => nomatch z) ?_⟩
    refine ⟨_, rfl, rfl, _, rfl, nT (fun z => nomatch z) ?_⟩
    refine ⟨_, rfl, t2, _, _, _, rfl, rfl, SqT.of h2, rfl, _, rfl, t1, _, _, _, rfl, rfl, SqT.of h1, rfl, rfl, _, rfl, dT rfl ?_⟩
    refine ⟨_, rfl, t2, _, _, _, rfl, rfl, SqT.of h2, rfl, _, rfl, t1, _, _, _, rfl, rfl, SqT.of h1, rfl, _, rfl, _, _, rfl, rfl, rfl, ?_⟩
    show Q (.bl (decide (V.int (m - took) = V.int (m - took)))) H
    rw [decide_eq_true rfl]
    exact q
theorem sc__law_cut_off : FnScope ["_law_whole", "_law_told", "_law_at", "_law_cents"] ["_law_whole", "_law_told", "_law_at", "_law_cents"] (defScope s__law_cut_off) := ⟨rfl, rfl, rfl, by decide +kernel, rfl, by decide +kernel, by decide +kernel⟩
theorem ok__law_cut_off {f : Addr} {fd : FuncData} (F : Fun K "_law_cut_off" "_law_cut_off" s__law_cut_off f fd) (T : Txt K mg) : FnOk P w K mg base CX0 1 f fd ["_law_whole", "_law_told", "_law_at", "_law_cents"] spOff := by
  have sc := sc__law_cut_off
  refine F.ok sc (fun vs H Q E h => ?_) (fun cdv A outer s H vs Q E hr h => ?_)
  · obtain ⟨_, _, _, _, _, _, rfl, _⟩ := h
    rfl
  obtain ⟨t1, t2, X, Y, at', c, rfl, h1, h2, q⟩ := h
  refine ⟨_, (pss_cons (ps_if (pt_cmpR op_ne (pe_ix ix_tup (pv 1) pe_int (fun _ _ => rfl)) (pe_callB (call_min2 rfl) rfl T.n_min (show bootBuiltins _ = some (.builtin "min") from rfl) (pa_cons (pv 3) (pa_cons (pe_callB (call_max2 rfl) rfl T.n_max (show bootBuiltins _ = some (.builtin "max") from rfl) (pa_cons pe_int (pa_cons (pe_op op_sub (pe_ix ix_tup (pv 0) pe_int (fun _ _ => rfl)) (pv 2)) pa_nil))) pa_nil))) (nomark _))
        (pss_one (ps_ret pe_bl))
        pss_nil)
      (pss_one (ps_ret (pe_cmpR op_eq (pe_ix ix_tup (pv 1) pe_int (fun _ _ => rfl)) (pe_callB (call_min2 rfl) rfl T.n_min (show bootBuiltins _ = some (.builtin "min") from rfl) (pa_cons (pv 3) (pa_cons (pe_callB (call_max2 rfl) rfl T.n_max (show bootBuiltins _ = some (.builtin "max") from rfl) (pa_cons pe_int (pa_cons (pe_op op_sub (pe_ix ix_tup (pv 0) pe_int (fun _ _ => rfl)) (pv 2)) pa_nil))) pa_nil))) (nomark _))))), ?_⟩
  have cx := cut_code at' c X
  have cy := cut_code at' c Y
  refine ⟨_, rfl, t2, _, _, _, rfl, rfl, SqT.of h2, rfl, _, rfl, _, rfl, t1, _, _, _, rfl, rfl, SqT.of h1, rfl, _, rfl, _, _, rfl, rfl, _, _, rfl, _, _, rfl, rfl, _, rfl, nF (congrArg V.int cx.symm) ?_⟩
  refine ⟨_, rfl, t2, _, _, _, rfl, rfl, SqT.of h2, rfl, _, rfl, _, rfl, t1, _, _, _, rfl, rfl, SqT.of h1, rfl, _, rfl, _, _, rfl, rfl, _, _, rfl, _, _, rfl, rfl, ?_⟩
  show Q (.bl (decide (V.int (cutI at' c Y) = V.int (CR.minI c (CR.maxI 0 (Y - at')))))) H
  rw [cy, decide_eq_true rfl]
  exact q
theorem sc__law_behind : FnScope ["_law_rows", "_law_counts", "_law_cents", "_law_paid_here", "_law_found", "_law_k"] ["_law_rows", "_law_counts", "_law_cents", "_law_paid_here"] (defScope s__law_behind) := ⟨rfl, rfl, rfl, by decide +kernel, rfl, by decide +kernel, by decide +kernel⟩
theorem ok__law_behind {f : Addr} {fd : FuncData} (F : Fun K "_law_behind" "_law_behind" s__law_behind f fd) (T : Txt K mg) : FnOk P w K mg base CX0 1 f fd ["_law_rows", "_law_counts", "_law_cents", "_law_paid_here"] spBeh := by
  have sc := sc__law_behind
  refine F.ok sc (fun vs H Q E h => ?_) (fun cdv A outer s H vs Q E hr h => ?_)
  · obtain ⟨_, _, _, _, _, _, _, _, rfl, _⟩ := h
    rfl
  obtain ⟨b, ct, ys, rs, at', took, c, pd, rfl, hb, pr, l8, hct, q⟩ := h
  refine ⟨_, (pss_cons (ps_set (i := 4) sc.nd rfl (Or.inl rfl) (pe_lst pa_nil))
      (pss_cons (ps_for PassesOwn.never rfl (pi_range1 rfl T.n_range (pa_cons (pe_callB call_len_seq rfl T.n_len (show bootBuiltins _ = some (.builtin "len") from rfl) (pa_cons (pv 0) pa_nil)) pa_nil)) (pg_name (i := 5) sc.nd rfl (Or.inl rfl))
        (pss_one (ps_expr (pe_bm PySem.F.plainAttrs_list PySem.F.slot_list_append PySem.F.type_list_append mt_append (pv 4) (pa_cons (pe_op op_add (pe_ix ix_list (pv 1) (pv 5) (fun _ _ => rfl)) (pe_ix ix_list (pe_lst (pa_cons (pv 2) (pa_cons (pv 3) pa_nil))) (pe_callTy call_int1 rfl T.n_int (show bootBuiltins _ = some (.type "int") from rfl) (pa_cons (pe_cmpR op_eq (pe_ix ix_tup (pe_ix ix_list (pv 0) (pv 5) (fun _ _ => rfl)) pe_int (fun _ _ => rfl)) pe_str (nomark _)) pa_nil)) (fun _ _ => rfl))) pa_nil)))))
      (pss_one (ps_ret (pv 4))))), ?_⟩
  have lx := pr.len
  have two : 2 ≤ sizeLine := by rw [sizeLine_eq]; decide
  refine ⟨Nat.zero_le _, fun l nl => ?_⟩
  refine atG [some (.ref b), some (.ref ct), some (.int c), some (.int pd), some (.ref l), none] rfl ?_
  have s1 := same_new nl (.lst [])
  refine ⟨_, rfl, b, _, rfl, .inl (SqL.of (s1 _ _ hb)), _, rfl, by omega, by omega, for_range (lo := 0) (n := ((ys.length : Nat) : Int).toNat) (fun j σ H2 => (∃ o5, σ = [some (.ref b), some (.ref ct), some (.int c), some (.int pd), some (.ref l), o5]) ∧ H2 l = some (.lst ((((rs.take j).map (bump (at' + c) (took + pd))).map cntOf).map V.int)) ∧ Same H H2) ⟨⟨none, rfl⟩, upd_same, s1⟩ ?_ ?_⟩
  · rintro j σ H2 hj ⟨⟨o5, rfl⟩, hl, s2⟩
    rw [Int.toNat_natCast] at hj
    rw [show (0 + (j : Int)) = (j : Int) by omega]
    obtain ⟨t, r, hp, et, ht⟩ := pr.get (List.getElem?_eq_getElem hj)
    have jr : j < rs.length := by omega
    refine atG [some (.ref b), some (.ref ct), some (.int c), some (.int pd), some (.ref l), some (.int j)] rfl ?_
    have atc : atI ((((rs.map (bump at' took)).map cntOf)).map V.int) (j : Int) = some (.int (cntOf (bump at' took r))) := atI_nat (by rw [List.getElem?_map, List.getElem?_map, List.getElem?_map, hp]; rfl)
    have atb : atI ys (j : Int) = some (.ref t) := by rw [← et]; exact atI_nat (List.getElem?_eq_getElem hj)
    refine ⟨_, rfl, .inl ⟨rfl, _, SqL.of hl⟩, _, rfl, _, rfl, ct, _, _, _, rfl, rfl, SqL.of (s2 _ _ hct), atc, _, rfl, _, rfl, two, fun l2 nl2 => ?_⟩
    have s3 := same_new nl2 (.lst [V.int c, V.int pd])
    have hb3 := s3 _ _ (s2 _ _ hb)
    have ht3 : upd H2 l2 (.lst [V.int c, V.int pd]) t = some (.tup [.str r.1, .str r.2.1, .int r.2.2.1, .int r.2.2.2.1, .int r.2.2.2.2]) := s3 _ _ (s2 _ _ ht)
    refine ⟨_, rfl, _, rfl, b, _, _, _, rfl, rfl, SqL.of hb3, atb, t, _, _, _, rfl, rfl, SqT.of ht3, rfl, rfl, .inr ⟨_, rfl, ?_⟩⟩
    have hl3 := s3 _ _ hl
    have nll : l2 ≠ l := (ne_of_none hl nl2).symm
    have pick : atI [V.int c, V.int pd] (if decide (V.str r.1 = V.str "limit") = true then 1 else 0) = some (.int (if r.1 = ("limit" : Str) then pd else c)) := by
      by_cases z : r.1 = "limit"
      · rw [if_pos z, decide_eq_true (congrArg V.str z)]; rfl
      · rw [if_neg z, decide_eq_false (fun y => z (V.str.inj y))]; rfl
    refine ⟨l2, _, _, _, rfl, rfl, SqL.of upd_same, pick, _, _, rfl, rfl, l, _, _, rfl, rfl, hl3, by rw [List.length_map, List.length_map, List.length_map, List.length_take, sizeLine_eq]; omega, ⟨_, rfl⟩, ?_, fun y o z => ?_⟩
    · rw [upd_same, take_snoc hp, List.map_append, List.map_append, List.map_append]
      congr 3
      show [V.int (cntOf (bump at' took r) + (if r.1 = ("limit" : Str) then pd else c))] = [V.int (cntOf (bump (at' + c) (took + pd) r))]
      congr 2
      show r.2.2.2.2 + (if r.1 = ("limit" : Str) then took else at') + (if r.1 = ("limit" : Str) then pd else c) = r.2.2.2.2 + (if r.1 = ("limit" : Str) then took + pd else at' + c)
      split <;> omega
    · rw [upd_ne (ne_of_none z nl)]
      exact s3 _ _ (s2 y o z)
  · rintro σ H2 ⟨⟨o5, rfl⟩, hl, s2⟩
    rw [Int.toNat_natCast, lx, List.take_length] at hl
    exact ⟨_, rfl, q l H2 s2 nl hl⟩
theorem sc__law_put : FnScope ["_law_parts", "_law_more", "_law_by", "_law_lo", "_law_hi", "_law_k"] ["_law_parts", "_law_more", "_law_by"] (defScope s__law_put) := ⟨rfl, rfl, rfl, by decide +kernel, rfl, by decide +kernel, by decide +kernel⟩
theorem ok__law_put {f : Addr} {fd : FuncData} (F : Fun K "_law_put" "_law_put" s__law_put f fd) (T : Txt K mg) : FnOk P w K mg base CX0 1 f fd ["_law_parts", "_law_more", "_law_by"] spPut := by
  have sc := sc__law_put
  refine F.ok sc (fun vs H Q E h => ?_) (fun cdv A outer s H vs Q E hr h => ?_)
  · obtain ⟨_, _, _, _, _, _, _, rfl, _⟩ := h
    rfl
  have hu64 := room_64 hr
  obtain ⟨r, q0, xs, ys, told, more, by', rfl, hr0, tr, hq, tq, nrq, ll, q⟩ := h
  refine ⟨_, (pss_one (ps_for PassesOwn.never rfl (pi_list (pv 1)) (pg_tup (n := 3) rfl (pgs_cons (pg_name (i := 3) sc.nd rfl (Or.inl rfl)) (pgs_cons (pg_name (i := 4) sc.nd rfl (Or.inl rfl)) (pgs_cons (pg_name (i := 5) sc.nd rfl (Or.inl rfl)) pgs_nil))))
        (pss_one (ps_if (PW.pt (pw_and (pt_cmpR (op_neD (K := K) hu64) (pv 0) (pe_lst pa_nil) (nomark _)) (pw_and (pt_cmpR op_eq (pe_ix ix_tup (pe_ix ix_list (pv 0) (pe_un un_neg pe_int) (fun _ _ => rfl)) pe_int (fun _ _ => rfl)) (pv 5) (nomark _)) (pw_and1 (pt_cmpR op_eq (pe_ix ix_tup (pe_ix ix_list (pv 0) (pe_un un_neg pe_int) (fun _ _ => rfl)) pe_int (fun _ _ => rfl)) (pe_op op_add (pv 3) (pv 2)) (nomark _))))))
        (pss_one (ps_asg (pe_tup (pa_cons (pe_ix ix_tup (pe_ix ix_list (pv 0) (pe_un un_neg pe_int) (fun _ _ => rfl)) pe_int (fun _ _ => rfl)) (pa_cons (pe_op op_add (pv 4) (pv 2)) (pa_cons (pv 5) pa_nil)))) (pg_sub (pv 0) (pe_un un_neg pe_int) set_list)))
        (pss_one (ps_expr (pe_bm PySem.F.plainAttrs_list PySem.F.slot_list_append PySem.F.type_list_append mt_append (pv 0) (pa_cons (pe_tup (pa_cons (pe_op op_add (pv 3) (pv 2)) (pa_cons (pe_op op_add (pv 4) (pv 2)) (pa_cons (pv 5) pa_nil)))) pa_nil)))))))), ?_⟩
  have lq := tq.len
  have three : 3 ≤ sizeLine := by rw [sizeLine_eq]; decide
  have kq : ∀ {H2 : Hp}, (∀ b o, H b = some o → b ≠ r → H2 b = some o) → H2 q0 = some (.lst ys) := fun k => k _ _ hq nrq.symm
  have tk : ∀ {H2 : Hp}, (∀ b o, H b = some o → b ≠ r → H2 b = some o) → Tst H H2 := fun k t zs z => k _ _ z (ne_of z hr0 (by intro e; cases e))
  refine ⟨_, rfl, q0, rfl, ⟨_, SqL.of hq⟩, for_list (K := K) (a := q0) (xs := ys) (fun i σ H2 => (∃ o3 o4 o5 zs, σ = [some (.ref r), some (.ref q0), some (.int by'), o3, o4, o5] ∧ H2 r = some (.lst zs) ∧ Trs H2 zs (putAll by' told (more.take i))) ∧ ∀ b o, H b = some o → b ≠ r → H2 b = some o)
    ⟨⟨none, none, none, xs, rfl, hr0, tr⟩, fun _ _ z _ => z⟩ (fun i σ H2 _ ⟨_, k⟩ => SqL.of (kq k)) ?_ ?_⟩
  · rintro i x σ H2 hi ⟨⟨o3, o4, o5, zs, rfl, hz, tz⟩, kp⟩
    obtain ⟨t, ⟨lo, hi', k⟩, hp, rfl, ht0⟩ := tq.get hi
    have ht : H2 t = some (.tup [.int lo, .int hi', .int k]) := tk kp _ _ ht0
    have il : i < more.length := (List.getElem?_eq_some_iff.mp hp).1
    have nx := put_take (by' := by') (told := told) hp
    have pl := putAll_len by' (more.take i) told
    rw [List.length_take] at pl
    have lz := tz.len
    refine ⟨t, _, rfl, SqT.of ht, rfl, _, _, rfl, _, _, rfl, _, _, rfl, rfl, ?_⟩
    refine atσ [some (.ref r), some (.ref q0), some (.int by'), some (.int lo), some (.int hi'), some (.int k)] rfl ?_
    have nx' : putAll by' told (more.take (i + 1)) = putP (putAll by' told (more.take i)) (lo + by') (hi' + by') k := nx
    generalize putAll by' told (more.take i) = cur at tz nx' pl lz
    -- parts != []
    refine ⟨_, rfl, Nat.zero_le _, fun e ne => ?_⟩
    have s3 := same_new ne (.lst [])
    have hz3 := s3 _ _ hz
    have tz3 := tz.mono (tst_same s3)
    have d0 := dTr_dep cur
    refine ⟨false, _, [], rep_lst hz3 tz3, rep_lst (ps := []) upd_same trivial, by show deps _ + deps [] ≤ 40; unfold deps at *; omega, _, rfl, ?_⟩
    have kp3 : ∀ b o, H b = some o → b ≠ r → upd H2 e (.lst []) b = some o := fun b o z n => s3 _ _ (kp b o z n)
    generalize upd H2 e (.lst []) = H3 at s3 hz3 tz3 kp3
    have fin : ∀ (u : Addr) (ws : List V) (l' : Int) (cr : List Tr), H3 u = none → Trs H3 ws cr → putAll by' told (more.take (i + 1)) = cr ++ [(l', hi' + by', k)] →
        (∃ o3 o4 o5 zs, [some (V.ref r), some (.ref q0), some (.int by'), some (.int lo), some (.int hi'), some (.int k)] = [some (.ref r), some (.ref q0), some (.int by'), o3, o4, o5] ∧ upd (upd H3 u (.tup [.int l', .int (hi' + by'), .int k])) r (.lst (ws ++ [.ref u])) r = some (.lst zs) ∧ Trs (upd (upd H3 u (.tup [.int l', .int (hi' + by'), .int k])) r (.lst (ws ++ [.ref u]))) zs (putAll by' told (more.take (i + 1)))) ∧
          ∀ b o, H b = some o → b ≠ r → upd (upd H3 u (.tup [.int l', .int (hi' + by'), .int k])) r (.lst (ws ++ [.ref u])) b = some o := fun u ws l' cr nu tw ep => by
      have su := same_new nu (.tup [.int l', .int (hi' + by'), .int k])
      refine ⟨⟨_, _, _, _, rfl, upd_same, ?_⟩, fun b o z n => by rw [upd_ne n]; exact su _ _ (kp3 b o z n)⟩
      rw [ep]
      exact ((tw.mono (tst_same su)).snoc upd_same).mono (tst_lst (su _ _ hz3) _)
    have lzs : zs.length < 16777216 := by omega
    rcases List.eq_nil_or_concat cur with rfl | ⟨init, ⟨l, h, k'⟩, rfl⟩
    · refine bF (by show (!eqDs [] []) = false; unfold eqDs; rfl) (iteF ?_)
      have ez : zs = [] := List.eq_nil_of_length_eq_zero lz
      refine ⟨_, rfl, .inl ⟨rfl, _, SqL.of hz3⟩, _, rfl, _, rfl, _, _, rfl, rfl, _, rfl, _, rfl, _, _, rfl, rfl, _, rfl, three, fun u nu => ?_⟩
      exact ⟨r, _, _, rfl, rfl, same_new nu _ _ _ hz3, by rw [sizeLine_eq]; exact lzs, fin u zs _ [] nu (by rw [ez]; trivial) nx'⟩
    · rw [List.concat_eq_append] at tz3 nx'
      rw [putP_snoc] at nx'
      obtain ⟨vs, tl, rfl, htl, pv⟩ := tz3.last
      have ea : (init ++ [(l, h, k')]).map dTr = init.map dTr ++ [dTr (l, h, k')] := by rw [List.map_append]; rfl
      have en : eqDs ((init ++ [(l, h, k')]).map dTr) [] = false := by
        rw [ea]
        cases init.map dTr with
        | nil => unfold eqDs; rfl
        | cons x y => unfold eqDs; rfl
      refine bT (by show (!eqDs ((List.concat init (l, h, k')).map dTr) []) = true; rw [List.concat_eq_append, en]; rfl) ?_
      have app : ¬ (k' = k ∧ h = lo + by') → putAll by' told (more.take (i + 1)) = init ++ [(l, h, k')] ++ [(lo + by', hi' + by', k)] := fun z => by rw [if_neg z] at nx'; exact nx'
      refine ⟨_, rfl, _, rfl, r, _, _, _, rfl, rfl, SqL.of hz3, atI_last _ _, tl, _, _, _, rfl, rfl, SqT.of htl, rfl, _, rfl, rfl, _, rfl, ?_⟩
      by_cases c1 : k' = k
      · refine dT (congrArg V.int c1) ?_
        refine ⟨_, rfl, _, rfl, r, _, _, _, rfl, rfl, SqL.of hz3, atI_last _ _, tl, _, _, _, rfl, rfl, SqT.of htl, rfl, _, rfl, _, rfl, _, _, rfl, rfl, rfl, _, rfl, ?_⟩
        by_cases c2 : h = lo + by'
        · refine dT (congrArg V.int c2) ?_
          rw [if_pos ⟨c1, c2⟩] at nx'
          refine ⟨_, rfl, _, rfl, r, _, _, _, rfl, rfl, SqL.of hz3, atI_last _ _, tl, _, _, _, rfl, rfl, SqT.of htl, rfl, _, rfl, _, rfl, _, _, rfl, rfl, _, rfl, three, fun u nu => ?_⟩
          have fu := fin u vs l init nu pv nx'
          have es : (vs ++ [V.ref tl]).set vs.length (.ref u) = vs ++ [.ref u] := by rw [List.set_append_right _ _ (Nat.le_refl _), Nat.sub_self]; rfl
          rw [← es] at fu
          refine ⟨_, rfl, _, rfl, r, _, _, vs.length, rfl, rfl, same_new nu _ _ _ hz3, ?_, fu⟩
          unfold ixN
          rw [if_neg (by decide), List.length_append, if_pos (by show -((vs.length + 1 : Nat) : Int) ≤ -1; omega)]
          congr 1
          show (-1 + ((vs.length + 1 : Nat) : Int)).toNat = vs.length
          omega
        · refine dF (fun z => c2 (V.int.inj z)) ?_
          refine ⟨_, rfl, .inl ⟨rfl, _, SqL.of hz3⟩, _, rfl, _, rfl, _, _, rfl, rfl, _, rfl, _, rfl, _, _, rfl, rfl, _, rfl, three, fun u nu => ?_⟩
          exact ⟨r, _, _, rfl, rfl, same_new nu _ _ _ hz3, by rw [sizeLine_eq]; exact lzs, fin u _ _ _ nu tz3 (app fun z => c2 z.2)⟩
      · refine dF (fun z => c1 (V.int.inj z)) (iteF ?_)
        refine ⟨_, rfl, .inl ⟨rfl, _, SqL.of hz3⟩, _, rfl, _, rfl, _, _, rfl, rfl, _, rfl, _, rfl, _, _, rfl, rfl, _, rfl, three, fun u nu => ?_⟩
        exact ⟨r, _, _, rfl, rfl, same_new nu _ _ _ hz3, by rw [sizeLine_eq]; exact lzs, fin u _ _ _ nu tz3 (app fun z => c1 z.1)⟩
  · rintro σ H2 ⟨⟨o3, o4, o5, zs, rfl, hz, tz⟩, kp⟩
    rw [lq, List.take_length] at tz
    exact q H2 zs kp hz tz
end


/-! ### the law -/
theorem minI_f (a b : Int) : CR.minI a b ≤ a ∧ CR.minI a b ≤ b ∧ (CR.minI a b = a ∨ CR.minI a b = b) := by
  unfold CR.minI
  split <;> omega
theorem maxI_f (a b : Int) : a ≤ CR.maxI a b ∧ b ≤ CR.maxI a b ∧ (CR.maxI a b = a ∨ CR.maxI a b = b) := by
  unfold CR.maxI
  split <;> omega
theorem cutI_f {at' c y : Int} (c0 : 0 ≤ c) : (y ≤ at' → cutI at' c y = 0) ∧ (at' ≤ y → y ≤ at' + c → cutI at' c y = y - at') ∧ (at' + c ≤ y → cutI at' c y = c) := by
  unfold cutI CR.minI CR.maxI
  refine ⟨fun _ => ?_, fun _ _ => ?_, fun _ => ?_⟩ <;> (repeat' split) <;> omega
/-- what is in the window ahead of a cent -/
def gone (X Y at' : Int) : Int := CR.minI (CR.maxI at' X) Y - X
theorem gone_f {X Y at' : Int} (xy : X ≤ Y) : (at' ≤ X → gone X Y at' = 0) ∧ (X ≤ at' → at' ≤ Y → gone X Y at' = at' - X) ∧ (Y ≤ at' → gone X Y at' = Y - X) := by
  unfold gone CR.minI CR.maxI
  refine ⟨fun _ => ?_, fun _ _ => ?_, fun _ => ?_⟩ <;> (repeat' split) <;> omega
def tookT (X Y : Int) (o : Option (Int × Int)) (at' : Int) : Int := match o with
  | none => gone X Y at'
  | some p => CR.minI (gone X Y at') p.1
theorem gone_0 {X Y at' : Int} (xy : X ≤ Y) : 0 ≤ gone X Y at' := by
  have := gone_f (at' := at') xy
  rcases Int.le_total at' X with z | z
  · omega
  · rcases Int.le_total at' Y with z2 | z2 <;> omega
theorem took_0 {X Y at' : Int} (xy : X ≤ Y) : ∀ {o : Option (Int × Int)}, (∀ p, o = some p → 0 ≤ p.1) → 0 ≤ tookT X Y o at' ∧ within (tookT X Y o at') o
  | none, _ => ⟨gone_0 xy, trivial⟩
  | some (n, j), h => by
    have g := gone_0 (at' := at') xy
    have m := minI_f (gone X Y at') n
    have n0 : 0 ≤ n := h _ rfl
    refine ⟨?_, m.2.1⟩
    show 0 ≤ CR.minI (gone X Y at') n
    omega
theorem pay_step {X Y at' c : Int} (x0 : 0 ≤ X) (xy : X ≤ Y) (c0 : 0 ≤ c) : ∀ {o : Option (Int × Int)}, (∀ p, o = some p → 0 ≤ p.1) → ∀ h, h = paidHi (cutI at' c X) (cutI at' c Y) (o.map (dnP (tookT X Y o at'))) →
    cutI at' c X ≤ h ∧ h - cutI at' c X = tookT X Y o (at' + c) - tookT X Y o at' ∧ (cutI at' c X < h → cutI at' c X + at' = X + tookT X Y o at')
  | none, _, h, e => by
    have e' : h = CR.maxI (cutI at' c X) (cutI at' c Y) := e
    show cutI at' c X ≤ h ∧ h - cutI at' c X = gone X Y (at' + c) - gone X Y at' ∧ (cutI at' c X < h → cutI at' c X + at' = X + gone X Y at')
    have m := maxI_f (cutI at' c X) (cutI at' c Y)
    rw [← e'] at m
    have f1 := cutI_f (at' := at') (y := X) c0
    have f2 := cutI_f (at' := at') (y := Y) c0
    have g1 := gone_f (at' := at') xy
    have g2 := gone_f (at' := at' + c) xy
    generalize cutI at' c X = x at m f1
    generalize cutI at' c Y = y at m f2
    generalize gone X Y at' = g at g1
    generalize gone X Y (at' + c) = g' at g2
    rcases Int.le_total at' X with z | z
    · have k1 := g1.1 z
      rcases Int.le_total (at' + c) X with z2 | z2
      · have k2 := f1.2.2 z2
        have k3 := f2.2.2 (by omega)
        have k4 := g2.1 z2
        clear f1 f2 g1 g2
        omega
      · have k2 := f1.2.1 z z2
        rcases Int.le_total (at' + c) Y with z3 | z3
        · have k3 := f2.2.2 z3
          have k4 := g2.2.1 z2 z3
          clear f1 f2 g1 g2
          omega
        · have k3 := f2.2.1 (by omega) z3
          have k4 := g2.2.2 z3
          clear f1 f2 g1 g2
          omega
    · have k2 := f1.1 z
      rcases Int.le_total at' Y with z1 | z1
      · have k1 := g1.2.1 z z1
        rcases Int.le_total (at' + c) Y with z3 | z3
        · have k3 := f2.2.2 z3
          have k4 := g2.2.1 (by omega) z3
          clear f1 f2 g1 g2
          omega
        · have k3 := f2.2.1 z1 z3
          have k4 := g2.2.2 z3
          clear f1 f2 g1 g2
          omega
      · have k1 := g1.2.2 z1
        have k3 := f2.1 z1
        have k4 := g2.2.2 (by omega)
        clear f1 f2 g1 g2
        omega
  | some (n, j), n0, h, e => by
    have n1 : 0 ≤ n := n0 _ rfl
    have e' : h = CR.maxI (cutI at' c X) (CR.minI (cutI at' c Y) (cutI at' c X + (n - CR.minI (gone X Y at') n))) := e
    show cutI at' c X ≤ h ∧ h - cutI at' c X = CR.minI (gone X Y (at' + c)) n - CR.minI (gone X Y at') n ∧ (cutI at' c X < h → cutI at' c X + at' = X + CR.minI (gone X Y at') n)
    have m1 := minI_f (gone X Y at') n
    have m2 := minI_f (gone X Y (at' + c)) n
    generalize CR.minI (gone X Y at') n = t at m1 e'
    generalize CR.minI (gone X Y (at' + c)) n = t' at m2
    have m3 := minI_f (cutI at' c Y) (cutI at' c X + (n - t))
    generalize CR.minI (cutI at' c Y) (cutI at' c X + (n - t)) = w at m3 e'
    have m4 := maxI_f (cutI at' c X) w
    rw [← e'] at m4
    have f1 := cutI_f (at' := at') (y := X) c0
    have f2 := cutI_f (at' := at') (y := Y) c0
    have g1 := gone_f (at' := at') xy
    have g2 := gone_f (at' := at' + c) xy
    clear e e' n0
    generalize cutI at' c X = x at m3 m4 f1
    generalize cutI at' c Y = y at m3 f2
    generalize gone X Y at' = g at g1 m1
    generalize gone X Y (at' + c) = g' at g2 m2
    rcases Int.le_total at' X with z | z
    · have k1 := g1.1 z
      rcases Int.le_total (at' + c) X with z2 | z2
      · have k2 := f1.2.2 z2
        have k3 := f2.2.2 (by omega)
        have k4 := g2.1 z2
        clear f1 f2 g1 g2
        omega
      · have k2 := f1.2.1 z z2
        rcases Int.le_total (at' + c) Y with z3 | z3
        · have k3 := f2.2.2 z3
          have k4 := g2.2.1 z2 z3
          clear f1 f2 g1 g2
          omega
        · have k3 := f2.2.1 (by omega) z3
          have k4 := g2.2.2 z3
          clear f1 f2 g1 g2
          omega
    · have k2 := f1.1 z
      rcases Int.le_total at' Y with z1 | z1
      · have k1 := g1.2.1 z z1
        rcases Int.le_total (at' + c) Y with z3 | z3
        · have k3 := f2.2.2 z3
          have k4 := g2.2.1 (by omega) z3
          clear f1 f2 g1 g2
          omega
        · have k3 := f2.2.1 z1 z3
          have k4 := g2.2.2 z3
          clear f1 f2 g1 g2
          omega
      · have k1 := g1.2.2 z1
        have k3 := f2.1 z1
        have k4 := g2.2.2 (by omega)
        clear f1 f2 g1 g2
        omega
/-- what was paid, told -/
def paidL (X t : Int) : List CRP.Tr3 := if t = 0 then [] else [(X, X + t, 0)]
theorem paid_put {X t t' at' x h : Int} (t0 : 0 ≤ t) (e1 : h - x = t' - t) (e2 : x + at' = X + t) (lt : x < h) : putAll at' (paidL X t) [(x, h, 0)] = paidL X t' := by
  show putP (paidL X t) (x + at') (h + at') 0 = paidL X t'
  unfold paidL
  rw [if_neg (show ¬ t' = 0 by omega)]
  by_cases z : t = 0
  · rw [if_pos z, putP_nil, show x + at' = X by omega, show h + at' = X + t' by omega]
  · rw [if_neg z]
    have e3 := putP_snoc [] X (X + t) 0 (x + at') (h + at') 0
    rw [if_pos ⟨rfl, by omega⟩] at e3
    rw [show h + at' = X + t' by omega] at e3 ⊢
    exact e3
theorem cut_win {at' c X HI : Int} : (if cutI at' c HI > cutI at' c X then cutI at' c HI else cutI at' c X) = cutI at' c (if HI > X then HI else X) := by
  by_cases z : HI > X
  · rw [if_pos z]
    have := cut_mono (at' := at') (c := c) (show X ≤ HI by omega)
    split <;> omega
  · rw [if_neg z]
    have := cut_mono (at' := at') (c := c) (show HI ≤ X by omega)
    split <;> omega
theorem win_bd {rs : List Rw5} {K X HI : Int} (k0 : 0 ≤ K) (ok : ∀ r ∈ rs, okR r) (MX : isMax X (0 :: (spansOf K (rs.map clOf) (rs.map cntOf)).map (·.1))) (MN : isMin HI (K :: (spansOf K (rs.map clOf) (rs.map cntOf)).map (·.2))) : (0 ≤ X ∧ X ≤ K) ∧ (0 ≤ HI ∧ HI ≤ K) := by
  constructor
  · refine bd_rows k0 ok ?_
    rcases List.mem_cons.mp MX.1 with z | z
    · exact .inl z
    · obtain ⟨p, hp, e⟩ := List.mem_map.mp z
      exact .inr (.inr ⟨p, hp, .inl e.symm⟩)
  · refine bd_rows k0 ok ?_
    rcases List.mem_cons.mp MN.1 with z | z
    · exact .inr (.inl z)
    · obtain ⟨p, hp, e⟩ := List.mem_map.mp z
      exact .inr (.inr ⟨p, hp, .inr e.symm⟩)
theorem rest_0 {rs : List Rw5} : ∀ p, restW (rs.map roomR) 0 none = some p → 0 ≤ p.1 := by
  rintro ⟨n, k⟩ e
  rcases restW_some _ _ _ e with ⟨q, _⟩ | ⟨i, _, hi, _⟩
  · cases q
  · rw [List.getElem?_map] at hi
    obtain ⟨r, hr, er⟩ := Option.map_eq_some_iff.mp hi
    unfold roomR at er
    by_cases z : r.1 = ("limit" : Str)
    · rw [if_pos z] at er
      have := Option.some.inj er
      have m := maxI_f (r.2.2.1 - r.2.2.2.2) 0
      show 0 ≤ n
      omega
    · rw [if_neg z] at er
      cases er
theorem bump_cl (at' took : Int) (rs : List Rw5) : (rs.map (bump at' took)).map clOf = rs.map clOf := by
  rw [List.map_map]
  exact List.map_congr_left fun r _ => rfl
theorem bump_00 (rs : List Rw5) : (rs.map (bump 0 0)).map cntOf = rs.map cntOf := by
  rw [List.map_map]
  refine List.map_congr_left fun r _ => ?_
  show r.2.2.2.2 + (if r.1 = ("limit" : Str) then 0 else 0) = r.2.2.2.2
  split <;> omega
theorem sum_nn : ∀ {l : List Int}, (∀ y ∈ l, 0 ≤ y) → 0 ≤ l.sum
  | [], _ => Int.le_refl 0
  | x :: l, h => by
    rw [List.sum_cons]
    have := sum_nn fun y hy => h y (List.mem_cons_of_mem x hy)
    have := h x List.mem_cons_self
    omega
theorem sum_take {l : List Int} {i : Nat} {c : Int} (nn : ∀ y ∈ l, 0 ≤ y) (h : l[i]? = some c) : (l.take (i + 1)).sum = (l.take i).sum + c ∧ (l.take i).sum + c ≤ l.sum := by
  have e : (l.take (i + 1)).sum = (l.take i).sum + c := by rw [take_snoc h, List.sum_append, List.sum_cons, List.sum_nil]; omega
  refine ⟨e, ?_⟩
  have e2 : l.sum = (l.take (i + 1)).sum + (l.drop (i + 1)).sum := by rw [← List.sum_append, List.take_append_drop]
  have := sum_nn fun y hy => nn y (List.mem_of_mem_drop (i := i + 1) hy)
  omega
theorem seq_ifG {c : TT} {t u : TS} {D : Ends} {σ : St} {H : Hp} (G : Hp → Prop) (R : ∀ H1, G H1 → u D σ H1) (h : ∀ D' : Ends, (∀ H1, G H1 → D'.nx σ H1) → c σ H fun b H1 => if b = true then t D' σ H1 else D'.nx σ H1) : tSeq (tIfS c t tNext) u D σ H := h { D with nx := u D } R
theorem unit_b {i : Int} (h0 : 0 ≤ i) (h : i < 4) : 0 ≤ ([1, 97, (10 : Int) ^ (9 : Int).toNat + 7, (10 : Int) ^ (9 : Int).toNat] : List Int).getD i.toNat 0 ∧ ([1, 97, (10 : Int) ^ (9 : Int).toNat + 7, (10 : Int) ^ (9 : Int).toNat] : List Int).getD i.toNat 0 ≤ 20000000000 := by
  have z : i = 0 ∨ i = 1 ∨ i = 2 ∨ i = 3 := by omega
  rcases z with rfl | rfl | rfl | rfl <;> decide +kernel
theorem small_b {i : Int} (h0 : 0 ≤ i) (h : i < 3) : 1 ≤ ([12, 39, (10 : Int) ^ (9 : Int).toNat] : List Int).getD i.toNat 0 ∧ ([12, 39, (10 : Int) ^ (9 : Int).toNat] : List Int).getD i.toNat 0 ≤ 1000000000 := by
  have z : i = 0 ∨ i = 1 ∨ i = 2 := by omega
  rcases z with rfl | rfl | rfl <;> decide +kernel
theorem rep_pr {K : PySem.W.Frag} {H : Hp} {t : Addr} {a b : Int} (h : H t = some (.tup [.int a, .int b])) : Rep K H (.seq true [.at (.int a), .at (.int b)]) (.ref t) := by
  unfold Rep
  refine ⟨t, _, rfl, fun _ => SqT.of h, fun z => (nomatch z), ?_⟩
  unfold Reps
  refine ⟨_, _, rfl, ?_, ?_⟩
  · unfold Rep; exact ⟨rfl, rfl⟩
  unfold Reps
  refine ⟨_, _, rfl, ?_, ?_⟩
  · unfold Rep; exact ⟨rfl, rfl⟩
  unfold Reps
  rfl
theorem pr_same (a b : Int) : eqDs [.at (.int a), .at (.int b)] [.at (.int a), .at (.int b)] = true := by
  unfold eqDs eqDs eqDs eqD
  show (a == a && (b == b && true)) = true
  simp
theorem pr_dep (a b : Int) : deps [.at (.int a), .at (.int b)] ≤ 1 := by
  unfold deps deps deps dep
  decide
theorem cut_ints (ns : List Int) (lo hi : Option Int) : ∃ js : List Int, cutV (ns.map V.int) lo hi = js.map V.int ∧ js.length ≤ ns.length := by
  refine ⟨(ns.drop (HT.sIx (ns.map V.int).length 0 lo)).take (HT.sIx (ns.map V.int).length (ns.map V.int).length hi - HT.sIx (ns.map V.int).length 0 lo), ?_, ?_⟩
  · unfold cutV
    rw [← List.map_drop, ← List.map_take]
  · rw [List.length_take, List.length_drop]
    omega
theorem set_e10 : (0 : Int) < 2 * (10 : Int) ^ (10 : Int).toNat := by decide +kernel


theorem tnext {D : Ends} {σ : St} {H : Hp} (h : D.nx σ H) : tNext D σ H := h
def spLaw (K : PySem.W.Frag) : Sp := fun vs H Q _ => ∃ (a : Addr) (ns : List Int), vs = [.ref a] ∧ SqL K H a (ns.map V.int) ∧ ns.length ≤ 63 ∧ ∀ H', Q (.bl true) H'
section
variable {P : Program} {w : World} {K : PySem.W.Frag} {mg : Str → Option Value} {base : Heap} {C_Clause C_Own C_Layer C_Limit C_Deal C_Cover C_Condition : Addr}
theorem sc_law : FnScope ["_law_script", "_law_head", "_law_unit", "_law_rows", "_law_cover", "_law_first", "_law_small", "_law_sizes", "_law_whole", "_law_counts", "_law_at", "_law_parts", "_law_paid_here", "_law_took", "_law_cents", "_law_low", "_law_high"] ["_law_script"] (defScope s_law) := ⟨rfl, rfl, rfl, by decide +kernel, rfl, by decide +kernel, by decide +kernel⟩
seal L2.PS L2.PSs L2.PE L2.PA
theorem ok_law {f : Addr} {fd : FuncData} (F : Fun K "law" "law" s_law f fd) (T : Txt K mg) (L : Kl K mg C_Clause C_Own C_Layer C_Limit C_Deal C_Cover C_Condition) (NCondition : Mk0 K mg "Condition" C_Condition) (C_law_cell : Cal P w K mg base 1 "_law_cell" ["_law_script", "_law_k"] (spCell K)) (C_law_row : Cal P w K mg base 2 "_law_row" ["_law_script", "_law_at", "_law_unit"] (spRow K))
    (C_law_clause : Cal P w K mg base 6 "_law_clause" ["_law_row_here"] (spClause C_Clause C_Own C_Layer C_Limit)) (C_law_paid : Cal P w K mg base 5 "_law_paid" ["_law_cover", "_law_counts", "_law_cents"] (spPaid C_Clause C_Own C_Layer C_Limit C_Cover)) (C_law_put : Cal P w K mg base 1 "_law_put" ["_law_parts", "_law_more", "_law_by"] spPut) (C_law_behind : Cal P w K mg base 1 "_law_behind" ["_law_rows", "_law_counts", "_law_cents", "_law_paid_here"] spBeh)
    (C_law_rest_left : Cal P w K mg base 1 "_law_rest_left" ["_law_first", "_law_rest", "_law_paid_here"] spLeft) (C_law_cut_off : Cal P w K mg base 1 "_law_cut_off" ["_law_whole", "_law_told", "_law_at", "_law_cents"] spOff)
    (KCover : KCalD P w K mg base 6 "Cover" C_Cover ["self", "name", "condition", "clauses", "houses", "waits"] [.non, .bl false] (spCover C_Cover))
    (Mwindow : MCal P w K mg base 4 C_Cover "window" ["self", "counts", "cents"] (spWin C_Clause C_Own C_Layer C_Limit C_Cover)) (Mparts : MCal P w K mg base 4 C_Cover "parts" ["self", "counts", "cents"] (spPts C_Clause C_Own C_Layer C_Limit C_Cover)) (Mrest : MCal P w K mg base 2 C_Cover "rest" ["self", "counts"] (spRest C_Clause C_Own C_Layer C_Limit C_Cover)) : FnOk P w K mg base CX0 8 f fd ["_law_script"] (spLaw K) := by
  have sc := sc_law
  refine F.ok sc (fun vs H Q E h => ?_) (fun cdv A outer s H vs Q E hr h => ?_)
  · obtain ⟨_, _, rfl, _⟩ := h
    rfl
  have hu := room_u hr
  have hu64 := room_64 hr
  obtain ⟨a, ns, rfl, ha, h63, q⟩ := h
  refine ⟨_, (pss_cons (ps_set (i := 1) sc.nd rfl (Or.inl rfl) (pe_op op_mod (pe_callC C_law_cell (hr.mono (by decide)) rfl (pa_cons (pv 0) (pa_cons pe_int pa_nil))) (pe_op op_pow pe_int pe_int)))
      (pss_cons (ps_set (i := 2) sc.nd rfl (Or.inr rfl) (pe_ix ix_list (pe_lst (pa_cons pe_int (pa_cons pe_int (pa_cons (pe_op op_add (pe_op op_pow pe_int pe_int) pe_int) (pa_cons (pe_op op_pow pe_int pe_int) pa_nil))))) (pe_op op_mod (pe_op op_fdiv (pv 1) pe_int) pe_int) (fun _ _ => rfl)))
      (pss_cons (ps_comp (NC := ["_law_k", "_law_script", "_law_unit"]) (own := ["_law_k"]) (cs := ["_law_script", "_law_unit"]) (ix := [0, 2]) (j := 3) sc.nd rfl rfl rfl (CompScope.of rfl) rfl ⟨⟨rfl, .inl rfl, rfl⟩, ⟨⟨rfl, .inl rfl, rfl⟩, trivial⟩⟩ (pi_range1 rfl T.n_range (pa_cons (pe_op op_mod (pv 1) pe_int) pa_nil)) (fun _ _ _ => (pg_name (i := 0) (show (["_law_k", "_law_script", "_law_unit"] : List Str).Nodup from by decide +kernel) rfl (Or.inl rfl))) (fun _ _ _ => pts_nil) (fun _ _ _ => (pe_callC C_law_row (hr.mono (by decide)) rfl (pa_cons (pv 1) (pa_cons (pe_op op_add pe_int (pe_op op_mul pe_int (pv 0))) (pa_cons (pv 2) pa_nil))))))
      (pss_cons (ps_set (i := 4) sc.nd rfl (Or.inl rfl) (pe_makeD KCover (hr.mono (by decide)) rfl (pa_cons pe_str (pa_cons (pe_new0 NCondition rfl) (pa_cons (pe_comp (NC := ["_law_row_here"]) (own := ["_law_row_here"]) (cs := []) (ix := []) rfl (CompScope.of rfl) rfl trivial (pi_list (pv 3)) (fun _ _ _ => (pg_name (i := 0) (show (["_law_row_here"] : List Str).Nodup from by decide +kernel) rfl (Or.inl rfl))) (fun _ _ _ => pts_nil) (fun _ _ _ => (pe_callC C_law_clause (hr.mono (by decide)) rfl (pa_cons (pv 0) pa_nil)))) pa_nil)))))
      (pss_cons (ps_comp (NC := ["_law_row_here"]) (own := ["_law_row_here"]) (cs := []) (ix := []) (j := 5) sc.nd rfl rfl rfl (CompScope.of rfl) rfl trivial (pi_list (pv 3)) (fun _ _ _ => (pg_name (i := 0) (show (["_law_row_here"] : List Str).Nodup from by decide +kernel) rfl (Or.inl rfl))) (fun _ _ _ => pts_nil) (fun _ _ _ => (pe_ix (ix_tupK (K := K) rfl) (pv 0) pe_int (fun _ _ => rfl))))
      (pss_cons (ps_set (i := 6) sc.nd rfl (Or.inr rfl) (pe_ix ix_list (pe_lst (pa_cons pe_int (pa_cons pe_int (pa_cons (pe_op op_pow pe_int pe_int) pa_nil)))) (pe_op op_mod (pe_op op_fdiv (pv 1) pe_int) pe_int) (fun _ _ => rfl)))
      (pss_cons (ps_comp (NC := ["_law_cell_here", "_law_small", "_law_unit"]) (own := ["_law_cell_here"]) (cs := ["_law_small", "_law_unit"]) (ix := [6, 2]) (j := 7) sc.nd rfl rfl rfl (CompScope.of rfl) rfl ⟨⟨rfl, .inl rfl, rfl⟩, ⟨⟨rfl, .inl rfl, rfl⟩, trivial⟩⟩ (pi_list (pe_slice sl_list (pv 0) (po_some pe_int) (po_some pe_int))) (fun _ _ _ => (pg_name (i := 0) (show (["_law_cell_here", "_law_small", "_law_unit"] : List Str).Nodup from by decide +kernel) rfl (Or.inl rfl))) (fun _ _ _ => pts_nil) (fun _ _ _ => (pe_op op_mod (pe_op op_mul (pe_op op_mod (pv 0) (pv 1)) (pe_ix (ix_listK (K := K) rfl) (pe_lst (pa_cons (pv 2) (pa_cons pe_int pa_nil))) (pe_op op_mod (pe_op op_fdiv (pv 0) pe_int) pe_int) (fun _ _ => rfl))) (pe_op op_mul pe_int (pe_op op_pow pe_int pe_int)))))
      (pss_cons (ps_set (i := 8) sc.nd rfl (Or.inl rfl) (pe_methC Mwindow (hr.mono (by decide)) (pv 4) (pa_cons (pv 5) (pa_cons (pe_callB (call_sum rfl) rfl T.n_sum (show bootBuiltins _ = some (.builtin "sum") from rfl) (pa_cons (pv 7) pa_nil)) pa_nil))))
      (pss_cons (ps_set (i := 9) sc.nd rfl (Or.inl rfl) (pe_callTy call_list_of rfl T.n_list (show bootBuiltins _ = some (.type "list") from rfl) (pa_cons (pv 5) pa_nil)))
      (pss_cons (ps_set (i := 10) sc.nd rfl (Or.inl rfl) pe_int)
      (pss_cons (ps_set (i := 11) sc.nd rfl (Or.inl rfl) (pe_lst pa_nil))
      (pss_cons (ps_set (i := 12) sc.nd rfl (Or.inl rfl) (pe_lst pa_nil))
      (pss_cons (ps_set (i := 13) sc.nd rfl (Or.inl rfl) pe_int)
      (pss_cons (ps_for PassesOwn.never rfl (pi_list (pv 7)) (pg_name (i := 14) sc.nd rfl (Or.inl rfl))
        (pss_cons (ps_asg (pe_callC C_law_paid (hr.mono (by decide)) rfl (pa_cons (pv 4) (pa_cons (pv 9) (pa_cons (pv 14) pa_nil)))) (pg_tup (n := 2) rfl (pgs_cons (pg_name (i := 15) sc.nd rfl (Or.inl rfl)) (pgs_cons (pg_name (i := 16) sc.nd rfl (Or.inl rfl)) pgs_nil))))
      (pss_cons (ps_expr (pe_callC C_law_put (hr.mono (by decide)) rfl (pa_cons (pv 11) (pa_cons (pe_methC Mparts (hr.mono (by decide)) (pv 4) (pa_cons (pv 9) (pa_cons (pv 14) pa_nil))) (pa_cons (pv 10) pa_nil)))))
      (pss_cons (ps_if (pt_not (pt_val (pe_callC C_law_cut_off (hr.mono (by decide)) rfl (pa_cons (pv 8) (pa_cons (pe_methC Mwindow (hr.mono (by decide)) (pv 4) (pa_cons (pv 9) (pa_cons (pv 14) pa_nil))) (pa_cons (pv 10) (pa_cons (pv 14) pa_nil)))))))
        (pss_one (ps_ret pe_bl))
        pss_nil)
      (pss_cons (ps_if (pt_cmpR op_lt (pv 15) (pv 16) (nomark _))
        (pss_one (ps_expr (pe_callC C_law_put (hr.mono (by decide)) rfl (pa_cons (pv 12) (pa_cons (pe_lst (pa_cons (pe_tup (pa_cons (pv 15) (pa_cons (pv 16) (pa_cons pe_int pa_nil)))) pa_nil)) (pa_cons (pv 10) pa_nil))))))
        pss_nil)
      (pss_cons (ps_set (i := 13) sc.nd rfl (Or.inl rfl) (pe_op op_sub (pe_op op_add (pv 13) (pv 16)) (pv 15)))
      (pss_cons (ps_set (i := 9) sc.nd rfl (Or.inl rfl) (pe_callC C_law_behind (hr.mono (by decide)) rfl (pa_cons (pv 3) (pa_cons (pv 9) (pa_cons (pv 14) (pa_cons (pe_op op_sub (pv 16) (pv 15)) pa_nil))))))
      (pss_cons (ps_set (i := 10) sc.nd rfl (Or.inl rfl) (pe_op op_add (pv 10) (pv 14)))
      (pss_one (ps_if (pt_not (pt_val (pe_callC C_law_rest_left (hr.mono (by decide)) rfl (pa_cons (pe_methC Mrest (hr.mono (by decide)) (pv 4) (pa_cons (pv 5) pa_nil)) (pa_cons (pe_methC Mrest (hr.mono (by decide)) (pv 4) (pa_cons (pv 9) pa_nil)) (pa_cons (pv 13) pa_nil))))))
        (pss_one (ps_ret pe_bl))
        pss_nil))))))))))
      (pss_cons (ps_if (PW.pt (pw_or (pt_cmpR (op_neD (K := K) hu64) (pv 11) (pe_methC Mparts (hr.mono (by decide)) (pv 4) (pa_cons (pv 5) (pa_cons (pv 10) pa_nil))) (nomark _)) (pw_or1 (pt_cmpR (op_neD (K := K) hu64) (pv 8) (pe_methC Mwindow (hr.mono (by decide)) (pv 4) (pa_cons (pv 5) (pa_cons (pv 10) pa_nil))) (nomark _)))))
        (pss_one (ps_ret pe_bl))
        pss_nil)
      (pss_cons (ps_asg (pe_callC C_law_paid (hr.mono (by decide)) rfl (pa_cons (pv 4) (pa_cons (pv 5) (pa_cons (pv 10) pa_nil)))) (pg_tup (n := 2) rfl (pgs_cons (pg_name (i := 15) sc.nd rfl (Or.inl rfl)) (pgs_cons (pg_name (i := 16) sc.nd rfl (Or.inl rfl)) pgs_nil))))
      (pss_cons (ps_if (pt_cmpR op_eq (pv 15) (pv 16) (nomark _))
        (pss_one (ps_ret (pe_cmpR (op_eqD (K := K) hu64) (pv 12) (pe_lst pa_nil) (nomark _))))
        pss_nil)
      (pss_one (ps_ret (pe_cmpR (op_eqD (K := K) hu64) (pv 12) (pe_lst (pa_cons (pe_tup (pa_cons (pv 15) (pa_cons (pv 16) (pa_cons pe_int pa_nil)))) pa_nil)) (nomark _))))))))))))))))))))), ?_⟩
  have one : 1 ≤ sizeLine := by rw [sizeLine_eq]; decide
  have two : 2 ≤ sizeLine := by rw [sizeLine_eq]; decide
  have three : 3 ≤ sizeLine := by rw [sizeLine_eq]; decide
  have four : 4 ≤ sizeLine := by rw [sizeLine_eq]; decide
  -- head
  refine ⟨_, rfl, a, ns, 0, rfl, ha, Int.le_refl 0, h63, _, _, rfl, rfl, ⟨by decide, by decide, by decide⟩, _, _, rfl, rfl, (by show (0 : Int) < (10 : Int) ^ (9 : Int).toNat; rw [e9]; decide), ?_⟩
  refine hideI 0 ((10 : Int) ^ (9 : Int).toNat - 1) (md (by rw [e9]; decide)) fun hd hd0 _ => ?_
  refine atG [some (.ref a), some (.int hd), none, none, none, none, none, none, none, none, none, none, none, none, none, none, none] rfl ?_
  -- unit
  have u4 := md (a := hd / 6) (b := 4) (by decide)
  refine ⟨_, _, rfl, rfl, ⟨by decide, by decide, by decide⟩, _, _, rfl, rfl, _, _, rfl, rfl, ⟨by decide, by decide, by decide⟩, four, fun p2 n2 => ?_⟩
  have s1 := same_new n2 (.lst (List.map V.int [1, 97, (10 : Int) ^ (9 : Int).toNat + 7, (10 : Int) ^ (9 : Int).toNat]))
  refine ⟨_, rfl, _, _, rfl, rfl, ⟨by decide, by decide⟩, _, _, rfl, rfl, (by show (0 : Int) < 4; decide), p2, List.map V.int [1, 97, (10 : Int) ^ (9 : Int).toNat + 7, (10 : Int) ^ (9 : Int).toNat], _, _, rfl, rfl, SqL.of upd_same, at_intI u4.1 (by show _ < (4 : Int); omega), ?_⟩
  refine hideI 0 20000000000 (unit_b u4.1 (by omega)) fun u u0 u1 => ?_
  refine atG [some (.ref a), some (.int hd), some (.int u), none, none, none, none, none, none, none, none, none, none, none, none, none, none] rfl ?_
  -- rows
  have mb := md (a := hd) (b := 6) (by decide)
  refine ⟨_, rfl, _, _, rfl, rfl, (by show (0 : Int) < 6; decide), ?_⟩
  refine ⟨_, rfl, by omega, by omega, fun b nb => ?_⟩
  refine comp_range (lo := 0) (n := (hd % 6).toNat) (fun i ys H2 => (∃ rs : List Rw5, Rws5 H2 ys rs ∧ rs.length = i ∧ ∀ r ∈ rs, okR r) ∧ H2 b = some (.lst ys) ∧ Same H H2) ⟨⟨[], trivial, rfl, fun _ z => (nomatch z)⟩, upd_same, s1.trans (same_new nb _)⟩
    (fun i ys H2 _ ⟨⟨rs, pr, e, _⟩, h1, _⟩ => ⟨h1, by rw [pr.len, e]; exact Nat.le_refl _⟩) (by rw [sizeLine_eq]; omega) (fun i ys H2 hi ⟨⟨rs, pr, e, ok⟩, h1, s2⟩ => ?_) (fun ys H2 ⟨⟨rs, pr, e, ok⟩, hb, s2⟩ => ?_)
  · refine ⟨_, rfl, _, rfl, _, _, rfl, rfl, .inl ⟨by decide, by decide⟩, _, _, rfl, rfl, _, rfl, a, ns, _, u, rfl, s2.seq ha, h63, by omega, u0, u1, fun t r H3 s3 nt et okr => ?_⟩
    refine ⟨s3 _ _ h1, rfl, ⟨rs ++ [r], ((pr.mono (tst_same s3)).snoc et).mono (tst_lst (s3 _ _ h1) _), by rw [List.length_append, e]; rfl, fun r' hr' => ?_⟩, upd_same, fun x o z => ?_⟩
    · rcases List.mem_append.mp hr' with z | z
      · exact ok r' z
      · rw [List.mem_singleton] at z; subst z; exact okr
    · rw [upd_ne (ne_of_none z (s1.free nb))]
      exact s3 _ _ (s2 x o z)
  have l8 : rs.length ≤ 8 := by omega
  have ly := pr.len
  clear s1 e n2 nb
  refine atG [some (.ref a), some (.int hd), some (.int u), some (.ref b), none, none, none, none, none, none, none, none, none, none, none, none, none] rfl ?_
  -- cover
  refine fun cy cdy ncy ncdy ney => ?_
  have s3 : Same H2 (upd (upd H2 cdy (.own cy)) cy (.ins C_Condition cdy [])) := fun x o z => by rw [upd_ne (ne_of_none z ncy), upd_ne (ne_of_none z ncdy)]; exact z
  generalize upd (upd H2 cdy (.own cy)) cy (.ins C_Condition cdy []) = H3 at s3
  have hb3 := s3 _ _ hb
  have pr3 := pr.mono (tst_same s3)
  have S3 := s2.trans s3
  refine ⟨_, rfl, b, rfl, ⟨_, SqL.of hb3⟩, fun c0 nc0 => ?_⟩
  refine comp_list (K := K) (a := b) (xs := ys) (fun i zs H6 => Cls4 C_Clause C_Own C_Layer C_Limit H6 zs ((rs.take i).map clOf) ∧ H6 c0 = some (.lst zs) ∧ Same H3 H6) ⟨trivial, upd_same, same_new nc0 _⟩
    (fun i zs H6 _ ⟨e, h2, s6⟩ => ⟨h2, by rw [e.len, List.length_map, List.length_take]; omega, SqL.of (s6 _ _ hb3)⟩) (by rw [sizeLine_eq]; omega) (fun i x zs H6 hi ⟨e, h2, s6⟩ => ?_) (fun cs H4 ⟨c4, h4, s4⟩ => ?_)
  · obtain ⟨t, r, hp, rfl, ht⟩ := pr3.get hi
    refine ⟨_, rfl, t, r, rfl, s6 _ _ ht, ok r (List.mem_of_getElem? hp), fun pc H7 s7 ca => ?_⟩
    refine ⟨s7 _ _ h2, rfl, ?_, upd_same, fun x o z => ?_⟩
    · rw [take_snoc hp, List.map_append]
      exact Cls4.mono (ist_lst (s7 _ _ h2) _) (Cls4.snoc (e.mono (ist_same s7)) ca)
    · rw [upd_ne (ne_of_none z nc0)]
      exact s7 _ _ (s6 x o z)
  rw [ly, List.take_length] at c4
  have lc := c4.len
  rw [List.length_map] at lc
  have hb4 := s4 _ _ hb3
  have pr4 := pr3.mono (tst_same s4)
  have S4 := S3.trans s4
  refine fun x dx nx ndx nex => ?_
  have n0x : c0 ≠ x := ne_of_none h4 nx
  have n0d : c0 ≠ dx := ne_of_none h4 ndx
  refine ⟨x, dx, "acme", .ref cy, c0, cs, .bl false, rfl, upd_same, by decide +kernel, by decide +kernel, by decide +kernel, by rw [upd_ne n0x, upd_ne n0d]; exact h4, by omega, fun kl H5 nkl kb cv ek => ⟨rfl, ?_⟩⟩
  have s5 : Same H4 H5 := made_same nx ndx kb
  have S5 := S4.trans s5
  have hb5 := s5 _ _ hb4
  have pr5 := pr4.mono (tst_same s5)
  have c5 := c4.mono (ist_same s5)
  obtain ⟨dx7, fs7, e5, fc7, nm⟩ := cv
  clear s5 S4 pr4 hb4 s4 S3 pr3 hb3 s3 s2 hb pr kb nkl nx ndx nex h4 nc0 c4
  refine atG [some (.ref a), some (.int hd), some (.int u), some (.ref b), some (.ref x), none, none, none, none, none, none, none, none, none, none, none, none] rfl ?_
  -- first
  refine ⟨_, rfl, b, rfl, ⟨_, SqL.of hb5⟩, fun fr nfr => ?_⟩
  refine comp_list (K := K) (a := b) (xs := ys) (fun i zs H6 => zs = ((rs.take i).map cntOf).map V.int ∧ H6 fr = some (.lst zs) ∧ Same H5 H6) ⟨rfl, upd_same, same_new nfr _⟩
    (fun i zs H6 _ ⟨e, h2, s6⟩ => ⟨h2, by rw [e, List.length_map, List.length_map, List.length_take]; omega, SqL.of (s6 _ _ hb5)⟩) (by rw [sizeLine_eq]; omega) (fun i x zs H6 hi ⟨e, h2, s6⟩ => ?_) (fun zs H6 ⟨e, h6, s6⟩ => ?_)
  · obtain ⟨t, r, hp, rfl, ht⟩ := pr5.get hi
    have ht6 : H6 t = some (.tup [.str r.1, .str r.2.1, .int r.2.2.1, .int r.2.2.2.1, .int (cntOf r)]) := s6 _ _ ht
    refine ⟨_, rfl, t, _, _, _, rfl, rfl, SqT.of ht6, rfl, h2, rfl, ?_, upd_same, fun x o z => ?_⟩
    · rw [take_snoc hp, List.map_append, List.map_append, e]
      rfl
    · rw [upd_ne (ne_of_none z nfr)]
      exact s6 x o z
  rw [ly, List.take_length] at e
  subst e
  have S6 := S5.trans s6
  refine atG [some (.ref a), some (.int hd), some (.int u), some (.ref b), some (.ref x), some (.ref fr), none, none, none, none, none, none, none, none, none, none, none] rfl ?_
  -- small
  have u3 := md (a := hd / 24) (b := 3) (by decide)
  refine ⟨_, _, rfl, rfl, ⟨by decide, by decide, by decide⟩, three, fun p3 n3 => ?_⟩
  have s7 := same_new n3 (.lst (List.map V.int [12, 39, (10 : Int) ^ (9 : Int).toNat]))
  refine ⟨_, rfl, _, _, rfl, rfl, ⟨by decide, by decide⟩, _, _, rfl, rfl, (by show (0 : Int) < 3; decide), p3, List.map V.int [12, 39, (10 : Int) ^ (9 : Int).toNat], _, _, rfl, rfl, SqL.of upd_same, at_intI u3.1 (by show _ < (3 : Int); omega), ?_⟩
  refine hideI 1 1000000000 (small_b u3.1 (by omega)) fun sm sm0 sm1 => ?_
  refine atG [some (.ref a), some (.int hd), some (.int u), some (.ref b), some (.ref x), some (.ref fr), some (.int sm), none, none, none, none, none, none, none, none, none, none] rfl ?_
  -- sizes
  refine ⟨_, rfl, _, rfl, _, rfl, a, _, rfl, (S6.trans s7).seq ha, fun p4 n4 => ?_⟩
  obtain ⟨js, ejs, ljs⟩ := cut_ints ns (some 23) (some 63)
  rw [ejs]
  have s8 := same_new n4 (.lst (js.map V.int))
  have S8 := s7.trans s8
  refine ⟨p4, rfl, ⟨_, SqL.of upd_same⟩, fun sz nsz => ?_⟩
  have np4 : p4 ≠ sz := ne_of_none upd_same nsz
  refine comp_list (K := K) (a := p4) (xs := js.map V.int) (fun i zs H9 => (∃ us : List Int, zs = us.map V.int ∧ us.length ≤ i ∧ ∀ y ∈ us, 0 ≤ y) ∧ H9 sz = some (.lst zs) ∧ H9 p4 = some (.lst (js.map V.int)) ∧ Same H6 H9) ⟨⟨[], rfl, Nat.le_refl _, fun _ z => (nomatch z)⟩, upd_same, by rw [upd_ne np4]; exact upd_same, S8.trans (same_new nsz _)⟩
    (fun i zs H9 _ ⟨⟨us, e, l, _⟩, h2, h3, s9⟩ => ⟨h2, by rw [e, List.length_map]; exact l, SqL.of h3⟩) (by rw [List.length_map, sizeLine_eq]; omega) (fun i v zs H9 hi ⟨⟨us, e, l, nn⟩, h2, h3, s9⟩ => ?_) (fun zs H9 ⟨⟨us, e, l, nn⟩, hsz, _, s9⟩ => ?_)
  · rw [List.getElem?_map] at hi
    obtain ⟨y, hy, rfl⟩ := Option.map_eq_some_iff.mp hi
    have m1 := md (a := y) (b := sm) (by omega)
    have m2 := md (a := y / 7) (b := 2) (by decide)
    have pick : ∃ z : Int, atI [V.int u, V.int 1] (y / 7 % 2) = some (.int z) := by
      have z : y / 7 % 2 = 0 ∨ y / 7 % 2 = 1 := by omega
      rcases z with z | z <;> rw [z]
      · exact ⟨u, rfl⟩
      · exact ⟨1, rfl⟩
    obtain ⟨z, ez⟩ := pick
    refine ⟨_, rfl, _, rfl, _, _, rfl, rfl, (by show 0 < sm; omega), _, rfl, two, fun l9 nl9 => ⟨_, rfl, _, _, rfl, rfl, ⟨by decide, by decide⟩, _, _, rfl, rfl, (by show (0 : Int) < 2; decide), l9, _, _, _, rfl, rfl, SqL.of upd_same, ez, _, _, rfl, rfl, .inl ⟨by omega, by omega⟩, _, _, rfl, rfl, ⟨by decide, by decide, by decide⟩, _, _, rfl, rfl, .inl ⟨by decide, by decide⟩, _, _, rfl, rfl, set_e10, ?_⟩⟩
    have s10 := same_new nl9 (.lst [V.int u, V.int 1])
    refine ⟨s10 _ _ h2, rfl, ⟨us ++ [y % sm * z % (2 * (10 : Int) ^ (10 : Int).toNat)], by rw [e, List.map_append]; rfl, by rw [List.length_append]; show _ + 1 ≤ _; omega, fun k hk => ?_⟩, upd_same, by rw [upd_ne np4]; exact s10 _ _ h3, fun b' o w => ?_⟩
    · rcases List.mem_append.mp hk with q | q
      · exact nn k q
      · rw [List.mem_singleton.mp q]; exact (md set_e10).1
    · rw [upd_ne (ne_of_none w (S8.free nsz))]
      exact s10 _ _ (s9 b' o w)
  subst e
  rw [List.length_map] at l
  have t9 := s6.trans s9
  have hb9 := t9 _ _ hb5
  have pr9 := pr5.mono (tst_same t9)
  have c9 := c5.mono (ist_same t9)
  have e9x := t9 _ _ e5
  have ek9 := t9 _ _ ek
  have hfr9 := s9 _ _ h6
  clear t9 s9 S8 s8 s7 S6 s6 hb5 pr5 c5 e5 ek h6 np4 n4 nsz n3 nfr S5
  refine atG [some (.ref a), some (.int hd), some (.int u), some (.ref b), some (.ref x), some (.ref fr), some (.int sm), some (.ref sz), none, none, none, none, none, none, none, none, none] rfl ?_
  have cvr9 : Cvr C_Clause C_Own C_Layer C_Limit C_Cover H9 x kl fr (rs.map clOf) (rs.map cntOf) := ⟨⟨dx7, fs7, e9x, fc7, nm⟩, ⟨cs, ek9, c9⟩, hfr9, by rw [List.length_map, List.length_map], by rw [List.length_map]; exact l8⟩
  refine ⟨_, rfl, x, dx7, fs7, rfl, e9x, nm.2.1, _, rfl, _, rfl, sz, us, rfl, SqL.of hsz, x, kl, fr, _, _, us.sum, rfl, cvr9, fun tw X HI H10 s10 htw MX MN => ?_⟩
  have K0 : 0 ≤ us.sum := sum_nn nn
  obtain ⟨⟨x0, xK⟩, ⟨hi0, hiK⟩⟩ := win_bd K0 ok MX MN
  have hY : ∃ Y, Y = (if HI > X then HI else X) := ⟨_, rfl⟩
  obtain ⟨Y, hY⟩ := hY
  rw [← hY] at htw
  have xy : X ≤ Y := by rw [hY]; split <;> omega
  have yK : Y ≤ us.sum := by rw [hY]; split <;> omega
  have ho : ∃ o, o = restW (rs.map roomR) 0 none := ⟨_, rfl⟩
  obtain ⟨o, ho⟩ := ho
  have o0 : ∀ p, o = some p → 0 ≤ p.1 := fun p e => rest_0 (rs := rs) p (by rw [← ho]; exact e)
  refine atG [some (.ref a), some (.int hd), some (.int u), some (.ref b), some (.ref x), some (.ref fr), some (.int sm), some (.ref sz), some (.ref tw), none, none, none, none, none, none, none, none] rfl ?_
  -- counts, parts, paid
  refine ⟨_, rfl, fr, _, rfl, .inl (SqL.of (s10 _ _ hfr9)), fun cn0 ncn => ?_⟩
  have s11 := same_new ncn (.lst ((rs.map cntOf).map V.int))
  have hcn0 : upd H10 cn0 (.lst ((rs.map cntOf).map V.int)) cn0 = some (.lst ((rs.map cntOf).map V.int)) := upd_same
  generalize upd H10 cn0 (.lst ((rs.map cntOf).map V.int)) = H11 at s11 hcn0
  refine atG [some (.ref a), some (.int hd), some (.int u), some (.ref b), some (.ref x), some (.ref fr), some (.int sm), some (.ref sz), some (.ref tw), some (.ref cn0), none, none, none, none, none, none, none] rfl ?_
  refine ⟨Nat.zero_le _, fun r nr => ?_⟩
  have s12 := same_new nr (.lst [])
  have hr12 : upd H11 r (.lst []) r = some (.lst []) := upd_same
  generalize upd H11 r (.lst []) = H12 at s12 hr12
  refine atG [some (.ref a), some (.int hd), some (.int u), some (.ref b), some (.ref x), some (.ref fr), some (.int sm), some (.ref sz), some (.ref tw), some (.ref cn0), some (.int 0), some (.ref r), none, none, none, none, none] rfl ?_
  refine ⟨Nat.zero_le _, fun d nd => ?_⟩
  have s13 := same_new nd (.lst [])
  have hdL : upd H12 d (.lst []) d = some (.lst []) := upd_same
  generalize upd H12 d (.lst []) = HL at s13 hdL
  refine atG [some (.ref a), some (.int hd), some (.int u), some (.ref b), some (.ref x), some (.ref fr), some (.int sm), some (.ref sz), some (.ref tw), some (.ref cn0), some (.int 0), some (.ref r), some (.ref d), none, none, none, none] rfl ?_
  have sLL := s10.trans (s11.trans (s12.trans s13))
  have hrL := s13 _ _ hr12
  have hcnL := s13 _ _ (s12 _ _ hcn0)
  have nrd : r ≠ d := ne_of_none hr12 nd
  have f1 : ∀ {b' : Addr} {o' : HO}, H9 b' = some o' → b' ≠ r ∧ b' ≠ d := fun z => ⟨ne_of_none (s11 _ _ (s10 _ _ z)) nr, ne_of_none (s12 _ _ (s11 _ _ (s10 _ _ z))) nd⟩
  have hbL := sLL _ _ hb9
  have prL := pr9.mono (tst_same sLL)
  have cL := c9.mono (ist_same sLL)
  have eL := sLL _ _ e9x
  have ekL := sLL _ _ ek9
  have hfrL := sLL _ _ hfr9
  have hszL := sLL _ _ hsz
  have htwL := s11.trans (s12.trans s13) _ _ htw
  have nb2 := f1 hb9
  have nk2 := f1 ek9
  have nf2 := f1 hfr9
  have ns2 := f1 hsz
  have nx2 := f1 e9x
  have nt2 : tw ≠ r ∧ tw ≠ d := ⟨ne_of_none (s11 _ _ htw) nr, ne_of_none (s12 _ _ (s11 _ _ htw)) nd⟩
  have nc2 : cn0 ≠ r ∧ cn0 ≠ d := ⟨ne_of_none hcn0 nr, ne_of_none (s12 _ _ hcn0) nd⟩
  have T0 : tookT X Y o 0 = 0 := by
    have g := (gone_f (at' := 0) xy).1 x0
    have w0 := took_0 (at' := 0) xy o0
    cases o with
    | none => exact g
    | some p =>
      have m := minI_f (gone X Y 0) p.1
      have w1 : 0 ≤ CR.minI (gone X Y 0) p.1 := w0.1
      show CR.minI (gone X Y 0) p.1 = 0
      omega
  clear f1 s10 s11 s12 s13 sLL hr12 hcn0 nr nd ncn hb9 pr9 c9 e9x ek9 hfr9 hsz htw cvr9
  -- what is kept
  have tK : ∀ {H' : Hp}, (∀ b' o', HL b' = some o' → b' ≠ r → b' ≠ d → H' b' = some o') → Tst HL H' := fun k t xs z => k _ _ z (ne_of z hrL (by intro e; cases e)) (ne_of z hdL (by intro e; cases e))
  have iK : ∀ {H' : Hp}, (∀ b' o', HL b' = some o' → b' ≠ r → b' ≠ d → H' b' = some o') → Ist HL H' := fun k t _ _ _ z => k _ _ z (ne_of z hrL (by intro e; cases e)) (ne_of z hdL (by intro e; cases e))
  have cvrOf : ∀ (H' : Hp) (cn : Addr) (nms : List Int), (∀ b' o', HL b' = some o' → b' ≠ r → b' ≠ d → H' b' = some o') → H' cn = some (.lst (nms.map V.int)) → nms.length = rs.length → Cvr C_Clause C_Own C_Layer C_Limit C_Cover H' x kl cn (rs.map clOf) nms := fun H' cn nms k z ln => ⟨⟨dx7, fs7, k _ _ eL nx2.1 nx2.2, fc7, nm⟩, ⟨cs, k _ _ ekL nk2.1 nk2.2, cL.mono (iK k)⟩, z, by rw [List.length_map]; exact ln, by rw [List.length_map]; exact l8⟩
  refine ⟨_, rfl, sz, rfl, ⟨_, SqL.of hszL⟩, for_list (K := K) (a := sz) (xs := us.map V.int)
    (fun i σ H2 => (∃ cn at' took o14 o15 o16 zs ws told, σ = [some (.ref a), some (.int hd), some (.int u), some (.ref b), some (.ref x), some (.ref fr), some (.int sm), some (.ref sz), some (.ref tw), some (.ref cn), some (.int at'), some (.ref r), some (.ref d), some (.int took), o14, o15, o16] ∧ at' = (us.take i).sum ∧ took = tookT X Y o at' ∧ H2 r = some (.lst zs) ∧ Trs H2 zs told ∧ CRP.Ch (outFrom rs 0) 0 none told at' ∧ told.length ≤ 20 * i ∧
      H2 d = some (.lst ws) ∧ Trs H2 ws (paidL X took) ∧ H2 cn = some (.lst (((rs.map (bump at' took)).map cntOf).map V.int)) ∧ cn ≠ r ∧ cn ≠ d) ∧ ∀ b' o', HL b' = some o' → b' ≠ r → b' ≠ d → H2 b' = some o')
    ⟨⟨cn0, 0, 0, none, none, none, [], [], [], rfl, rfl, T0.symm, hrL, trivial, rfl, Nat.zero_le _, hdL, trivial, by rw [bump_00]; exact hcnL, nc2.1, nc2.2⟩, fun _ _ z _ _ => z⟩ (fun i σ H2 _ ⟨_, k⟩ => SqL.of (k _ _ hszL ns2.1 ns2.2)) ?_ ?_⟩
  · rintro i v σ H2 hi ⟨⟨cn, at', took, o14, o15, o16, zs, ws, told, rfl, eat, etk, hr2, tr2, ch, ltd, hd2, td2, hcn, ncr, ncd⟩, kp⟩
    rw [List.getElem?_map] at hi
    obtain ⟨c, hc, rfl⟩ := Option.map_eq_some_iff.mp hi
    have c0 := nn c (List.mem_of_getElem? hc)
    obtain ⟨st1, st2⟩ := sum_take nn hc
    have a0 : 0 ≤ at' := by rw [eat]; exact sum_nn fun y hy => nn y (List.mem_of_mem_take hy)
    have ck : at' + c ≤ us.sum := by omega
    have il : i < us.length := (List.getElem?_eq_some_iff.mp hc).1
    obtain ⟨tk0, wi⟩ := took_0 (at' := at') xy o0
    rw [← etk] at tk0 wi
    have okq : ∀ r ∈ rs.map (bump at' took), okR r := fun r hr => by
      obtain ⟨r0, h0, rfl⟩ := List.mem_map.mp hr
      exact bump_ok a0 tk0 (ok r0 h0)
    have lq : ((rs.map (bump at' took)).map cntOf).length = rs.length := by rw [List.length_map, List.length_map]
    have rq : restW (roomsOf (rs.map clOf) ((rs.map (bump at' took)).map cntOf)) 0 none = o.map (dnP took) := by
      rw [← bump_cl at' took rs, rooms_of _ okq, rest_bump tk0 (by rw [← ho]; exact wi), ← ho]
    refine atG [some (.ref a), some (.int hd), some (.int u), some (.ref b), some (.ref x), some (.ref fr), some (.int sm), some (.ref sz), some (.ref tw), some (.ref cn), some (.int at'), some (.ref r), some (.ref d), some (.int took), some (.int c), o15, o16] rfl ?_
    have cvr2 := cvrOf H2 cn _ kp hcn lq
    -- paid
    refine ⟨_, rfl, _, rfl, _, rfl, x, kl, cn, _, _, c, rfl, cvr2, fun t1 lo hi1 H3 s3 mx mn ht1 => ?_⟩
    rw [← bump_cl at' took rs] at mx mn
    obtain ⟨elo, ehi⟩ := win_cut ok a0 c0 ck MX MN mx mn
    subst elo ehi
    rw [rq, cut_win, ← hY] at ht1
    have hh : ∃ h, h = paidHi (cutI at' c X) (cutI at' c Y) (o.map (dnP took)) := ⟨_, rfl⟩
    obtain ⟨h, hh⟩ := hh
    rw [← hh] at ht1
    obtain ⟨p1, p2, p3⟩ := pay_step (at' := at') x0 xy c0 o0 h (by rw [hh, etk])
    rw [← etk] at p2 p3
    clear mx mn
    refine ⟨t1, _, rfl, SqT.of ht1, rfl, _, _, rfl, _, _, rfl, rfl, ?_⟩
    refine atσ [some (.ref a), some (.int hd), some (.int u), some (.ref b), some (.ref x), some (.ref fr), some (.int sm), some (.ref sz), some (.ref tw), some (.ref cn), some (.int at'), some (.ref r), some (.ref d), some (.int took), some (.int c), some (.int (cutI at' c X)), some (.int h)] rfl ?_
    have kp3 : ∀ b' o', HL b' = some o' → b' ≠ r → b' ≠ d → H3 b' = some o' := fun b' o' z n1 n2 => s3 _ _ (kp b' o' z n1 n2)
    -- put
    refine ⟨_, rfl, _, rfl, x, dx7, fs7, rfl, kp3 _ _ eL nx2.1 nx2.2, nm.2.2.1, _, rfl, _, rfl, x, kl, cn, _, _, c, rfl, cvr2.same s3, fun r2 vs ms H4 s4 nr2 hr4 up mem l20 tr4 => ?_⟩
    have s24 := s3.trans s4
    have nrr : r ≠ r2 := ne_of_none (s3 _ _ hr2) nr2
    rw [← bump_cl at' took rs] at mem tr4
    have lf := CRP.foldP_len (spansOf c ((rs.map (bump at' took)).map clOf) ((rs.map (bump at' took)).map cntOf)) ms (ms.length - 1)
    have lus : us.length ≤ 63 := by omega
    refine ⟨_, rfl, r, r2, zs, vs, told, _, at', rfl, s24 _ _ hr2, tr2.mono (tst_same s24), hr4, tr4, nrr, by omega, fun H5 zs5 kp5 hr5 tr5 => ?_⟩
    have ch5 := Ch.putAll (g := outFrom (rs.map (bump at' took)) 0) (by' := at') (fun c => bump_from rs 0) (told := told) (t := 0) (by rw [Int.add_zero]; exact ch) (ch_rows c0 okq up mem)
    have l5 := putAll_len at' (CRP.foldP (spansOf c ((rs.map (bump at' took)).map clOf) ((rs.map (bump at' took)).map cntOf)) ms (ms.length - 1)) told
    generalize putAll at' told (CRP.foldP (spansOf c ((rs.map (bump at' took)).map clOf) ((rs.map (bump at' took)).map cntOf)) ms (ms.length - 1)) = told5 at tr5 ch5 l5
    have kpx : ∀ b' o', HL b' = some o' → b' ≠ r → b' ≠ d → H5 b' = some o' := fun b' o' z n1 n2 => kp5 _ _ (s4 _ _ (kp3 b' o' z n1 n2)) n1
    have hcn5 := kp5 _ _ (s24 _ _ hcn) ncr
    have hd5 := kp5 _ _ (s24 _ _ hd2) nrd.symm
    have t25 : Tst H2 H5 := fun t xs z => kp5 _ _ (s24 _ _ z) (ne_of z hr2 (by intro e; cases e))
    have td5 := td2.mono t25
    have ll5 : told5.length ≤ 20 * (i + 1) := by omega
    clear tr4 mem up nr2 hr4 kp3 s24 s4 s3 ht1 lf l5 tr2 td2 t25 kp5
    -- cut off
    refine ⟨_, rfl, _, rfl, x, dx7, fs7, rfl, kpx _ _ eL nx2.1 nx2.2, nm.2.1, _, rfl, _, rfl, x, kl, cn, _, _, c, rfl, cvrOf H5 cn _ kpx hcn5 lq, fun t2 lo2 hi2 H6 s6 ht2 mx2 mn2 => ?_⟩
    rw [← bump_cl at' took rs] at mx2 mn2
    obtain ⟨elo, ehi⟩ := win_cut ok a0 c0 ck MX MN mx2 mn2
    subst elo ehi
    rw [cut_win, ← hY] at ht2
    have kp6 : ∀ b' o', HL b' = some o' → b' ≠ r → b' ≠ d → H6 b' = some o' := fun b' o' z n1 n2 => s6 _ _ (kpx b' o' z n1 n2)
    refine ⟨_, rfl, _, rfl, tw, t2, X, Y, at', c, rfl, kp6 _ _ htwL nt2.1 nt2.2, ht2, _, rfl, iteF ?_⟩
    have hcn6 := s6 _ _ hcn5
    have hd6 := s6 _ _ hd5
    have td6 := td5.mono (tst_same s6)
    have hr6 := s6 _ _ hr5
    have tr6 := tr5.mono (tst_same s6)
    clear mx2 mn2 ht2 s6 kpx hcn5 hd5 td5 hr5 tr5
    -- if low < high
    with_reducible refine tnext ?_
    with_reducible refine seq_ifG (fun H7 => (∃ ws', H7 d = some (.lst ws') ∧ Trs H7 ws' (paidL X (tookT X Y o (at' + c)))) ∧ ∀ b' o', H6 b' = some o' → b' ≠ d → H7 b' = some o') ?_ ?_
    rotate_left
    · intro D' R
      refine ⟨_, rfl, _, rfl, _, _, rfl, rfl, _, rfl, ite2 (fun cd => ?_) (fun cd => R _ ⟨⟨ws, hd6, ?_⟩, fun _ _ z _ => z⟩)⟩
      · have cd' : cutI at' c X < h := of_decide_eq_true cd
        refine ⟨_, rfl, _, rfl, _, rfl, three, fun u1 nu1 => ⟨one, fun l1 nl1 => ?_⟩⟩
        have g1 := same_new nu1 (.tup [V.int (cutI at' c X), V.int h, V.int 0])
        have g2 := same_new nl1 (.lst [V.ref u1])
        have g12 := g1.trans g2
        refine ⟨_, rfl, d, l1, ws, [.ref u1], _, [(cutI at' c X, h, 0)], at', rfl, g12 _ _ hd6, td6.mono (tst_same g12), upd_same, ⟨⟨u1, rfl, g2 _ _ upd_same⟩, trivial⟩, ne_of_none (g1 _ _ hd6) nl1, ?_, fun H7 ws7 kp7 hd7 td7 => R H7 ⟨⟨ws7, hd7, ?_⟩, fun b' o' z n => kp7 _ _ (g12 _ _ z) n⟩⟩
        · have : (paidL X took).length ≤ 1 := by unfold paidL; split <;> simp
          show (paidL X took).length + 1 ≤ 2000
          omega
        · rw [paid_put tk0 p2 (p3 cd') cd'] at td7
          exact td7
      · have cd' : ¬ cutI at' c X < h := of_decide_eq_false (Bool.eq_false_iff.mpr cd)
        rw [show tookT X Y o (at' + c) = took by omega]
        exact td6
    rintro H7 ⟨⟨ws7, hd7, td7⟩, kp7⟩
    have kp7' : ∀ b' o', HL b' = some o' → b' ≠ r → b' ≠ d → H7 b' = some o' := fun b' o' z n1 n2 => kp7 _ _ (kp6 b' o' z n1 n2) n2
    have hcn7 := kp7 _ _ hcn6 ncd
    have hr7 := kp7 _ _ hr6 nrd
    have t67 : Tst H6 H7 := fun t xs z => kp7 _ _ z (ne_of z hd6 (by intro e; cases e))
    have tr7 := tr6.mono t67
    have etk' : took + h - cutI at' c X = tookT X Y o (at' + c) := by omega
    clear t67 kp7 kp6 hcn6 hd6 td6 hr6 tr6
    -- took
    refine ⟨_, rfl, _, rfl, _, _, rfl, rfl, _, rfl, _, _, rfl, rfl, ?_⟩
    refine atG [some (.ref a), some (.int hd), some (.int u), some (.ref b), some (.ref x), some (.ref fr), some (.int sm), some (.ref sz), some (.ref tw), some (.ref cn), some (.int at'), some (.ref r), some (.ref d), some (.int (took + h - cutI at' c X)), some (.int c), some (.int (cutI at' c X)), some (.int h)] rfl ?_
    -- counts
    refine ⟨_, rfl, _, rfl, _, rfl, _, rfl, _, rfl, _, _, rfl, rfl, b, cn, ys, rs, at', took, c, h - cutI at' c X, rfl, kp7' _ _ hbL nb2.1 nb2.2, prL.mono (tK kp7'), l8, hcn7, fun l' H8 s8 nl hl => ?_⟩
    rw [show took + (h - cutI at' c X) = took + h - cutI at' c X by omega] at hl
    have nlr : l' ≠ r := (ne_of_none hr7 nl).symm
    have nld : l' ≠ d := (ne_of_none hd7 nl).symm
    have kp8 : ∀ b' o', HL b' = some o' → b' ≠ r → b' ≠ d → H8 b' = some o' := fun b' o' z n1 n2 => s8 _ _ (kp7' b' o' z n1 n2)
    refine atG [some (.ref a), some (.int hd), some (.int u), some (.ref b), some (.ref x), some (.ref fr), some (.int sm), some (.ref sz), some (.ref tw), some (.ref l'), some (.int at'), some (.ref r), some (.ref d), some (.int (took + h - cutI at' c X)), some (.int c), some (.int (cutI at' c X)), some (.int h)] rfl ?_
    -- at
    refine ⟨_, rfl, _, rfl, _, _, rfl, rfl, ?_⟩
    refine atG [some (.ref a), some (.int hd), some (.int u), some (.ref b), some (.ref x), some (.ref fr), some (.int sm), some (.ref sz), some (.ref tw), some (.ref l'), some (.int (at' + c)), some (.ref r), some (.ref d), some (.int (took + h - cutI at' c X)), some (.int c), some (.int (cutI at' c X)), some (.int h)] rfl ?_
    rw [etk'] at hl ⊢
    obtain ⟨tk1, wi1⟩ := took_0 (at' := at' + c) xy o0
    generalize hq : tookT X Y o (at' + c) = took' at hl tk1 wi1 td7
    have okq' : ∀ r ∈ rs.map (bump (at' + c) took'), okR r := fun r hr => by
      obtain ⟨r0, h0, rfl⟩ := List.mem_map.mp hr
      exact bump_ok (by omega) tk1 (ok r0 h0)
    have lq' : ((rs.map (bump (at' + c) took')).map cntOf).length = rs.length := by rw [List.length_map, List.length_map]
    have rq' : restW (roomsOf (rs.map clOf) ((rs.map (bump (at' + c) took')).map cntOf)) 0 none = o.map (dnP took') := by
      rw [← bump_cl (at' + c) took' rs, rooms_of _ okq', rest_bump tk1 (by rw [← ho]; exact wi1), ← ho]
    -- rest left
    refine ⟨_, rfl, x, dx7, fs7, rfl, kp8 _ _ eL nx2.1 nx2.2, nm.2.2.2, _, rfl, x, kl, fr, cs, rs.map clOf, rs.map cntOf, rfl, ⟨dx7, fs7, kp8 _ _ eL nx2.1 nx2.2, fc7, nm⟩, kp8 _ _ ekL nk2.1 nk2.2, cL.mono (iK kp8), kp8 _ _ hfrL nf2.1 nf2.2, by rw [List.length_map, List.length_map], fun v1 H9' s9' rv1 => ?_⟩
    have kp9 : ∀ b' o', HL b' = some o' → b' ≠ r → b' ≠ d → H9' b' = some o' := fun b' o' z n1 n2 => s9' _ _ (kp8 b' o' z n1 n2)
    refine ⟨_, rfl, x, dx7, fs7, rfl, kp9 _ _ eL nx2.1 nx2.2, nm.2.2.2, _, rfl, x, kl, l', cs, rs.map clOf, _, rfl, ⟨dx7, fs7, kp9 _ _ eL nx2.1 nx2.2, fc7, nm⟩, kp9 _ _ ekL nk2.1 nk2.2, cL.mono (iK kp9), s9' _ _ hl, by rw [lq', List.length_map], fun v2 H10' s10' rv2 => ?_⟩
    rw [rooms_of rs ok, ← ho] at rv1
    rw [rq'] at rv2
    refine ⟨_, rfl, v1, v2, o, took', rfl, rv1.same s10', rv2, _, rfl, iteF ?_⟩
    have s79 := s8.trans (s9'.trans s10')
    exact ⟨⟨l', at' + c, took', _, _, _, zs5, ws7, told5, rfl, by rw [st1, ← eat], hq.symm, s79 _ _ hr7, tr7.mono (tst_same s79), ch5, ll5, s79 _ _ hd7, td7.mono (tst_same s79), s10' _ _ (s9' _ _ hl), nlr, nld⟩, fun b' o' z n1 n2 => s10' _ _ (kp9 b' o' z n1 n2)⟩
  rintro σ H2 ⟨⟨cn, at', took, o14, o15, o16, zs, ws, told, rfl, eat, etk, hr2, tr2, ch, ltd, hd2, td2, hcn, ncr, ncd⟩, kp⟩
  rw [List.length_map, List.take_length] at eat
  subst eat
  have hfr2 := kp _ _ hfrL nf2.1 nf2.2
  have cvr2 := cvrOf H2 fr (rs.map cntOf) kp hfr2 (List.length_map _)
  have e2 := kp _ _ eL nx2.1 nx2.2
  -- parts
  refine ⟨_, rfl, _, rfl, x, dx7, fs7, rfl, e2, nm.2.2.1, _, rfl, _, rfl, x, kl, fr, _, _, us.sum, rfl, cvr2, fun r2 vs ms H3 s3 nr2 hr3 up mem l20 tr3 => ?_⟩
  obtain rfl := Ch.uniq ch (ch_rows K0 ok up mem)
  have d2 := dTr_dep (CRP.foldP (spansOf us.sum (rs.map clOf) (rs.map cntOf)) ms (ms.length - 1))
  refine ⟨false, _, _, rep_lst (s3 _ _ hr2) (tr2.mono (tst_same s3)), rep_lst hr3 tr3, by omega, _, rfl, bF (by rw [dTrs_same]; rfl) ?_⟩
  -- window
  refine ⟨_, rfl, _, rfl, x, dx7, fs7, rfl, s3 _ _ e2, nm.2.1, _, rfl, _, rfl, x, kl, fr, _, _, us.sum, rfl, cvr2.same s3, fun t4 X2 HI2 H4 s4 ht4 MX2 MN2 => ?_⟩
  obtain rfl := max_eq MX MX2
  obtain rfl := min_eq MN MN2
  rw [← hY] at ht4
  have d3 := pr_dep X Y
  have s24 := s3.trans s4
  refine ⟨true, _, _, rep_pr (s24 _ _ (kp _ _ htwL nt2.1 nt2.2)), rep_pr ht4, by omega, _, rfl, bF (by rw [pr_same]; rfl) ?_⟩
  -- paid
  refine ⟨_, rfl, _, rfl, _, rfl, x, kl, fr, _, _, us.sum, rfl, cvr2.same s24, fun t5 X3 HI3 H5 s5 MX3 MN3 ht5 => ?_⟩
  obtain rfl := max_eq MX MX3
  obtain rfl := min_eq MN MN3
  rw [← hY, rooms_of rs ok, ← ho] at ht5
  have eh : paidHi X Y o = X + took := by
    have g := (gone_f (at' := us.sum) xy).2.2 yK
    cases o with
    | none =>
      have m := maxI_f X Y
      have e' : took = gone X Y us.sum := etk
      show CR.maxI X Y = X + took
      omega
    | some p =>
      have n0 := o0 p rfl
      have e' : took = CR.minI (gone X Y us.sum) p.1 := etk
      have m1 := minI_f (gone X Y us.sum) p.1
      have m2 := minI_f Y (X + p.1)
      have m3 := maxI_f X (CR.minI Y (X + p.1))
      show CR.maxI X (CR.minI Y (X + p.1)) = X + took
      omega
  rw [eh] at ht5
  have s25 := s24.trans s5
  have hd5 := s25 _ _ hd2
  have td5 := td2.mono (tst_same s25)
  refine ⟨t5, _, rfl, SqT.of ht5, rfl, _, _, rfl, _, _, rfl, rfl, ?_⟩
  refine ⟨_, rfl, _, rfl, rfl, _, rfl, ?_⟩
  have d4 := dTr_dep (paidL X took)
  by_cases tz : took = 0
  · refine dT (congrArg V.int (by omega)) ?_
    refine ⟨_, rfl, Nat.zero_le _, fun l6 nl6 => ?_⟩
    have s6 := same_new nl6 (.lst [])
    have pz : paidL X took = [] := if_pos tz
    rw [pz] at td5 d4
    refine ⟨false, _, _, rep_lst (s6 _ _ hd5) (td5.mono (tst_same s6)), rep_lst (ps := []) upd_same trivial, by show deps [] + deps [] ≤ 40; unfold deps; decide, ?_⟩
    show Q (.bl (eqDs [] [])) _
    rw [show eqDs [] [] = true by unfold eqDs; rfl]
    exact q _
  · refine dF (fun z => tz (by have := V.int.inj z; omega)) ?_
    refine ⟨_, rfl, _, rfl, _, rfl, three, fun u1 nu1 => ⟨one, fun l1 nl1 => ?_⟩⟩
    have g1 := same_new nu1 (.tup [V.int X, V.int (X + took), V.int 0])
    have g2 := same_new nl1 (.lst [V.ref u1])
    have g12 := g1.trans g2
    have pz : paidL X took = [(X, X + took, 0)] := if_neg tz
    rw [pz] at td5 d4
    refine ⟨false, _, _, rep_lst (g12 _ _ hd5) (td5.mono (tst_same g12)), rep_lst (ps := [(X, X + took, 0)]) upd_same ⟨⟨u1, rfl, g2 _ _ upd_same⟩, trivial⟩, by omega, ?_⟩
    show Q (.bl (eqDs (List.map dTr [(X, X + took, 0)]) (List.map dTr [(X, X + took, 0)]))) _
    rw [dTrs_same]
    exact q _
end


/- (pss_cons (ps_for PassesOwn.never rfl (pi_enum rfl T.n_enumerate (pa_cons (pv 0) pa_nil)) (pg_tup (n := 2) rfl (pgs_cons (pg_name (i := 2) sc.nd rfl (Or.inl rfl)) (pgs_cons (pg_name (i := 3) sc.nd rfl (Or.inl rfl)) pgs_nil)))
        (pss_one (ps_if (PW.pt (pw_or (pt_cmpR op_lt (pv 1) (pe_ix ix_tup (pv 3) pe_int (fun _ _ => rfl)) (nomark _)) (pw_or1 (pt_cmpR op_ge (pv 1) (pe_ix ix_tup (pv 3) pe_int (fun _ _ => rfl)) (nomark _)))))
        (pss_one (ps_ret (pv 2)))
        pss_nil)))
      (pss_one (ps_ret (pe_un un_neg pe_int)))) (pss_cons (ps_set (i := 2) sc.nd rfl (Or.inl rfl) (pe_lst (pa_cons pe_int (pa_cons (pv 1) pa_nil))))
      (pss_cons (ps_for PassesOwn.never rfl (pi_list (pv 0)) (pg_name (i := 3) sc.nd rfl (Or.inl rfl))
        (pss_one (ps_expr (pe_bm PySem.F.plainAttrs_list PySem.F.slot_list_extend PySem.F.type_list_extend mt_extendT (pv 2) (pa_cons (pv 3) pa_nil)))))
      (pss_one (ps_ret (pe_sortSet (pv 2) rfl rfl T.n_sorted rfl T.n_set))))) (pss_one (ps_ret (pe_comp (NC := ["k", "clause", "cents", "counts"]) (own := ["k", "clause"]) (cs := ["cents", "counts"]) (ix := [2, 1]) rfl (CompScope.of rfl) rfl ⟨⟨rfl, .inl rfl, rfl⟩, ⟨⟨rfl, .inl rfl, rfl⟩, trivial⟩⟩ (pi_enum rfl T.n_enumerate (pa_cons (pe_fld (pv 0) rfl) pa_nil)) (fun _ _ _ => (pg_tupK (K := K) (n := 2) rfl rfl (pgs_cons (pg_name (i := 0) (show (["k", "clause", "cents", "counts"] : List Str).Nodup from by decide +kernel) rfl (Or.inl rfl)) (pgs_cons (pg_name (i := 1) (show (["k", "clause", "cents", "counts"] : List Str).Nodup from by decide +kernel) rfl (Or.inl rfl)) pgs_nil)))) (fun _ _ _ => pts_nil) (fun _ _ _ => (pe_methD Mspan (hr.mono (by decide)) (pv 1) (pa_cons (pe_ix (ix_listK (K := K) rfl) (pv 3) (pv 0) (fun _ _ => rfl)) (pa_cons (pv 2) pa_nil))))))) (pss_cons (ps_set (i := 3) sc.nd rfl (Or.inl rfl) (pe_methC Mspans (hr.mono (by decide)) (pv 0) (pa_cons (pv 1) (pa_cons (pv 2) pa_nil))))
      (pss_cons (ps_set (i := 4) sc.nd rfl (Or.inl rfl) (pe_callB (call_maxX rfl) rfl T.n_max (show bootBuiltins _ = some (.builtin "max") from rfl) (pa_cons (pe_op op_cat (pe_lst (pa_cons pe_int pa_nil)) (pe_comp (NC := ["span"]) (own := ["span"]) (cs := []) (ix := []) rfl (CompScope.of rfl) rfl trivial (pi_list (pv 3)) (fun _ _ _ => (pg_name (i := 0) (show (["span"] : List Str).Nodup from by decide +kernel) rfl (Or.inl rfl))) (fun _ _ _ => pts_nil) (fun _ _ _ => (pe_ix (ix_tupK (K := K) rfl) (pv 0) pe_int (fun _ _ => rfl))))) pa_nil)))
      (pss_cons (ps_set (i := 5) sc.nd rfl (Or.inl rfl) (pe_callB (call_minX rfl) rfl T.n_min (show bootBuiltins _ = some (.builtin "min") from rfl) (pa_cons (pe_op op_cat (pe_lst (pa_cons (pv 2) pa_nil)) (pe_comp (NC := ["span"]) (own := ["span"]) (cs := []) (ix := []) rfl (CompScope.of rfl) rfl trivial (pi_list (pv 3)) (fun _ _ _ => (pg_name (i := 0) (show (["span"] : List Str).Nodup from by decide +kernel) rfl (Or.inl rfl))) (fun _ _ _ => pts_nil) (fun _ _ _ => (pe_ix (ix_tupK (K := K) rfl) (pv 0) pe_int (fun _ _ => rfl))))) pa_nil)))
      (pss_one (ps_ret (pe_tup (pa_cons (pv 4) (pa_cons (pe_callB (call_max2 rfl) rfl T.n_max (show bootBuiltins _ = some (.builtin "max") from rfl) (pa_cons (pv 4) (pa_cons (pv 5) pa_nil))) pa_nil)))))))) (pss_cons (ps_set (i := 3) sc.nd rfl (Or.inl rfl) (pe_methC Mspans (hr.mono (by decide)) (pv 0) (pa_cons (pv 1) (pa_cons (pv 2) pa_nil))))
      (pss_cons (ps_set (i := 4) sc.nd rfl (Or.inl rfl) (pe_callC Cbounds_of (hr.mono (by decide)) rfl (pa_cons (pv 3) (pa_cons (pv 2) pa_nil))))
      (pss_cons (ps_set (i := 5) sc.nd rfl (Or.inl rfl) (pe_lst pa_nil))
      (pss_cons (ps_for PassesOwn.never rfl (pi_zip rfl T.n_zip (pa_cons (pv 4) (pa_cons (pe_slice sl_list (pv 4) (po_some pe_int) po_none) pa_nil))) (pg_tup (n := 2) rfl (pgs_cons (pg_name (i := 6) sc.nd rfl (Or.inl rfl)) (pgs_cons (pg_name (i := 7) sc.nd rfl (Or.inl rfl)) pgs_nil)))
        (pss_cons (ps_set (i := 8) sc.nd rfl (Or.inl rfl) (pe_callC Cfirst_without (hr.mono (by decide)) rfl (pa_cons (pv 3) (pa_cons (pv 6) pa_nil))))
      (pss_cons (ps_if (PW.pt (pw_and (pt_tru (pv 5)) (pw_and1 (pt_cmpR op_eq (pe_ix ix_tup (pe_ix ix_list (pv 5) (pe_un un_neg pe_int) (fun _ _ => rfl)) pe_int (fun _ _ => rfl)) (pv 8) (nomark _)))))
        (pss_one (ps_set (i := 6) sc.nd rfl (Or.inl rfl) (pe_ix ix_tup (pe_bm0 PySem.F.plainAttrs_list PySem.F.slot_list_pop PySem.F.type_list_pop mt_pop (pv 5)) pe_int (fun _ _ => rfl))))
        pss_nil)
      (pss_one (ps_expr (pe_bm PySem.F.plainAttrs_list PySem.F.slot_list_append PySem.F.type_list_append mt_append (pv 5) (pa_cons (pe_tup (pa_cons (pv 6) (pa_cons (pv 7) (pa_cons (pv 8) pa_nil)))) pa_nil)))))))
      (pss_one (ps_ret (pv 5))))))) (pss_cons (ps_set (i := 2) sc.nd rfl (Or.inl rfl) pe_non)
      (pss_cons (ps_for PassesOwn.never rfl (pi_enum rfl T.n_enumerate (pa_cons (pe_fld (pv 0) rfl) pa_nil)) (pg_tup (n := 2) rfl (pgs_cons (pg_name (i := 3) sc.nd rfl (Or.inl rfl)) (pgs_cons (pg_name (i := 4) sc.nd rfl (Or.inl rfl)) pgs_nil)))
        (pss_cons (ps_set (i := 5) sc.nd rfl (Or.inl rfl) (pe_methD Mroom (hr.mono (by decide)) (pv 4) (pa_cons (pe_ix ix_list (pv 1) (pv 3) (fun _ _ => rfl)) pa_nil)))
      (pss_one (ps_if (PW.pt (pw_and (pt_cmpR op_notN (pv 5) pe_non (nomark _)) (pw_and1 (PW.pt (pw_or (pt_cmpR op_isN (pv 2) pe_non (nomark _)) (pw_or1 (pt_cmpR op_lt (pv 5) (pe_ix ix_tup (pv 2) pe_int (fun _ _ => rfl)) (nomark _))))))))
        (pss_one (ps_set (i := 2) sc.nd rfl (Or.inl rfl) (pe_tup (pa_cons (pv 5) (pa_cons (pv 3) pa_nil)))))
        pss_nil))))
      (pss_one (ps_ret (pv 2))))) (pss_cons (ps_set (i := 2) sc.nd rfl (Or.inl rfl) (pe_op op_mod (pv 0) pe_int))
      (pss_cons (ps_if (pt_cmpR op_eq (pv 2) pe_int (nomark _))
        (pss_one (ps_ret (pe_op op_mod (pe_op op_fdiv (pv 0) pe_int) (pe_op op_sub (pe_op op_pow pe_int pe_int) pe_int))))
        pss_nil)
      (pss_cons (ps_if (pt_cmpR op_eq (pv 2) pe_int (nomark _))
        (pss_one (ps_ret (pe_op op_mod (pe_op op_fdiv (pv 0) pe_int) pe_int)))
        pss_nil)
      (pss_one (ps_ret (pe_op op_add (pe_op op_mul (pe_op op_mod (pe_op op_fdiv (pv 0) pe_int) pe_int) (pv 1)) (pe_op op_mul (pe_op op_mod (pe_op op_fdiv (pv 0) pe_int) pe_int) (pv 2)))))))) (pss_cons (ps_if (pt_cmpR op_eq (pe_op op_mod (pv 0) pe_int) pe_int (nomark _))
        (pss_one (ps_ret pe_int))
        pss_nil)
      (pss_cons (ps_if (pt_cmpR op_eq (pe_op op_mod (pv 0) pe_int) pe_int (nomark _))
        (pss_one (ps_ret (pe_op op_mod (pe_op op_fdiv (pv 0) pe_int) (pe_op op_pow pe_int pe_int))))
        pss_nil)
      (pss_one (ps_ret (pe_op op_add (pe_op op_mul (pe_op op_mod (pe_op op_fdiv (pv 0) pe_int) pe_int) (pv 1)) (pe_op op_mod (pe_op op_fdiv (pv 0) pe_int) pe_int)))))) (pss_cons (ps_set (i := 3) sc.nd rfl (Or.inl rfl) (pe_callC C_law_cell (hr.mono (by decide)) rfl (pa_cons (pv 0) (pa_cons (pv 1) pa_nil))))
      (pss_cons (ps_set (i := 4) sc.nd rfl (Or.inl rfl) (pe_ix ix_list (pe_lst (pa_cons pe_str (pa_cons pe_str (pa_cons pe_str (pa_cons pe_str pa_nil))))) (pe_op op_mod (pv 3) pe_int) (fun _ _ => rfl)))
      (pss_cons (ps_set (i := 5) sc.nd rfl (Or.inl rfl) (pe_ix ix_list (pe_lst (pa_cons pe_str (pa_cons pe_str (pa_cons pe_str (pa_cons pe_str pa_nil))))) (pe_op op_mod (pe_op op_fdiv (pv 3) pe_int) pe_int) (fun _ _ => rfl)))
      (pss_cons (ps_set (i := 6) sc.nd rfl (Or.inl rfl) (pe_callC C_law_amount (hr.mono (by decide)) rfl (pa_cons (pe_callC C_law_cell (hr.mono (by decide)) rfl (pa_cons (pv 0) (pa_cons (pe_op op_add (pv 1) pe_int) pa_nil))) (pa_cons (pv 2) pa_nil))))
      (pss_cons (ps_set (i := 7) sc.nd rfl (Or.inl rfl) (pe_callC C_law_amount (hr.mono (by decide)) rfl (pa_cons (pe_callC C_law_cell (hr.mono (by decide)) rfl (pa_cons (pv 0) (pa_cons (pe_op op_add (pv 1) pe_int) pa_nil))) (pa_cons (pv 2) pa_nil))))
      (pss_cons (ps_set (i := 8) sc.nd rfl (Or.inl rfl) (pe_op op_fdiv (pe_callB (call_min2 rfl) rfl T.n_min (show bootBuiltins _ = some (.builtin "min") from rfl) (pa_cons (pv 6) (pa_cons (pv 7) pa_nil))) (pe_op op_add pe_int (pe_op op_mod (pe_op op_fdiv (pv 3) pe_int) pe_int))))
      (pss_cons (ps_set (i := 9) sc.nd rfl (Or.inl rfl) (pe_callB (call_max2 rfl) rfl T.n_max (show bootBuiltins _ = some (.builtin "max") from rfl) (pa_cons (pe_op op_add (pv 8) pe_int) (pa_cons (pe_callB (call_max2 rfl) rfl T.n_max (show bootBuiltins _ = some (.builtin "max") from rfl) (pa_cons (pv 6) (pa_cons (pv 7) pa_nil))) pa_nil))))
      (pss_cons (ps_if (pt_cmpR op_eq (pv 4) pe_str (nomark _))
        (pss_one (ps_set (i := 8) sc.nd rfl (Or.inl rfl) (pe_callB (call_max2 rfl) rfl T.n_max (show bootBuiltins _ = some (.builtin "max") from rfl) (pa_cons (pv 6) (pa_cons (pv 7) pa_nil)))))
        pss_nil)
      (pss_one (ps_ret (pe_tup (pa_cons (pv 4) (pa_cons (pv 5) (pa_cons (pv 8) (pa_cons (pv 9) (pa_cons (pe_callC C_law_count (hr.mono (by decide)) rfl (pa_cons (pe_callC C_law_cell (hr.mono (by decide)) rfl (pa_cons (pv 0) (pa_cons (pe_op op_add (pv 1) pe_int) pa_nil))) (pa_cons (pv 2) pa_nil))) pa_nil)))))))))))))))) (pss_cons (ps_if (pt_cmpR op_eq (pe_ix ix_tup (pv 0) pe_int (fun _ _ => rfl)) pe_str (nomark _))
        (pss_one (ps_ret (pe_makeC KOwn (hr.mono (by decide)) rfl (pa_cons (pe_ix ix_tup (pv 0) pe_int (fun _ _ => rfl)) (pa_cons (pe_ix ix_tup (pv 0) pe_int (fun _ _ => rfl)) pa_nil)))))
        pss_nil)
      (pss_cons (ps_if (pt_cmpR op_eq (pe_ix ix_tup (pv 0) pe_int (fun _ _ => rfl)) pe_str (nomark _))
        (pss_one (ps_ret (pe_makeC KLayer (hr.mono (by decide)) rfl (pa_cons (pe_ix ix_tup (pv 0) pe_int (fun _ _ => rfl)) (pa_cons (pe_ix ix_tup (pv 0) pe_int (fun _ _ => rfl)) (pa_cons (pe_ix ix_tup (pv 0) pe_int (fun _ _ => rfl)) pa_nil))))))
        pss_nil)
      (pss_one (ps_ret (pe_makeC KLimit (hr.mono (by decide)) rfl (pa_cons (pe_ix ix_tup (pv 0) pe_int (fun _ _ => rfl)) (pa_cons (pe_ix ix_tup (pv 0) pe_int (fun _ _ => rfl)) pa_nil))))))) (pss_cons (ps_asg (pe_methC Mwindow (hr.mono (by decide)) (pv 0) (pa_cons (pv 1) (pa_cons (pv 2) pa_nil))) (pg_tup (n := 2) rfl (pgs_cons (pg_name (i := 3) sc.nd rfl (Or.inl rfl)) (pgs_cons (pg_name (i := 4) sc.nd rfl (Or.inl rfl)) pgs_nil))))
      (pss_cons (ps_set (i := 5) sc.nd rfl (Or.inl rfl) (pe_methC Mrest (hr.mono (by decide)) (pv 0) (pa_cons (pv 1) pa_nil)))
      (pss_cons (ps_if (pt_cmpR op_notN (pv 5) pe_non (nomark _))
        (pss_one (ps_set (i := 4) sc.nd rfl (Or.inl rfl) (pe_callB (call_min2 rfl) rfl T.n_min (show bootBuiltins _ = some (.builtin "min") from rfl) (pa_cons (pv 4) (pa_cons (pe_op op_add (pv 3) (pe_ix ix_tup (pv 5) pe_int (fun _ _ => rfl))) pa_nil)))))
        pss_nil)
      (pss_one (ps_ret (pe_tup (pa_cons (pv 3) (pa_cons (pe_callB (call_max2 rfl) rfl T.n_max (show bootBuiltins _ = some (.builtin "max") from rfl) (pa_cons (pv 3) (pa_cons (pv 4) pa_nil))) pa_nil)))))))) (pss_one (ps_for PassesOwn.never rfl (pi_list (pv 1)) (pg_tup (n := 3) rfl (pgs_cons (pg_name (i := 3) sc.nd rfl (Or.inl rfl)) (pgs_cons (pg_name (i := 4) sc.nd rfl (Or.inl rfl)) (pgs_cons (pg_name (i := 5) sc.nd rfl (Or.inl rfl)) pgs_nil))))
        (pss_one (ps_if (PW.pt (pw_and (pt_cmpR (op_neD (K := K) hu64) (pv 0) (pe_lst pa_nil) (nomark _)) (pw_and (pt_cmpR op_eq (pe_ix ix_tup (pe_ix ix_list (pv 0) (pe_un un_neg pe_int) (fun _ _ => rfl)) pe_int (fun _ _ => rfl)) (pv 5) (nomark _)) (pw_and1 (pt_cmpR op_eq (pe_ix ix_tup (pe_ix ix_list (pv 0) (pe_un un_neg pe_int) (fun _ _ => rfl)) pe_int (fun _ _ => rfl)) (pe_op op_add (pv 3) (pv 2)) (nomark _))))))
        (pss_one (ps_asg (pe_tup (pa_cons (pe_ix ix_tup (pe_ix ix_list (pv 0) (pe_un un_neg pe_int) (fun _ _ => rfl)) pe_int (fun _ _ => rfl)) (pa_cons (pe_op op_add (pv 4) (pv 2)) (pa_cons (pv 5) pa_nil)))) (pg_sub (pv 0) (pe_un un_neg pe_int) set_list)))
        (pss_one (ps_expr (pe_bm PySem.F.plainAttrs_list PySem.F.slot_list_append PySem.F.type_list_append mt_append (pv 0) (pa_cons (pe_tup (pa_cons (pe_op op_add (pv 3) (pv 2)) (pa_cons (pe_op op_add (pv 4) (pv 2)) (pa_cons (pv 5) pa_nil)))) pa_nil)))))))) (pss_cons (ps_set (i := 4) sc.nd rfl (Or.inl rfl) (pe_lst pa_nil))
      (pss_cons (ps_for PassesOwn.never rfl (pi_range1 rfl T.n_range (pa_cons (pe_callB call_len_seq rfl T.n_len (show bootBuiltins _ = some (.builtin "len") from rfl) (pa_cons (pv 0) pa_nil)) pa_nil)) (pg_name (i := 5) sc.nd rfl (Or.inl rfl))
        (pss_one (ps_expr (pe_bm PySem.F.plainAttrs_list PySem.F.slot_list_append PySem.F.type_list_append mt_append (pv 4) (pa_cons (pe_op op_add (pe_ix ix_list (pv 1) (pv 5) (fun _ _ => rfl)) (pe_ix ix_list (pe_lst (pa_cons (pv 2) (pa_cons (pv 3) pa_nil))) (pe_callTy call_int1 rfl T.n_int (show bootBuiltins _ = some (.type "int") from rfl) (pa_cons (pe_cmpR op_eq (pe_ix ix_tup (pe_ix ix_list (pv 0) (pv 5) (fun _ _ => rfl)) pe_int (fun _ _ => rfl)) pe_str (nomark _)) pa_nil)) (fun _ _ => rfl))) pa_nil)))))
      (pss_one (ps_ret (pv 4))))) (pss_cons (ps_if (pt_cmpR op_isN (pv 0) pe_non (nomark _))
        (pss_one (ps_ret (pe_cmpR op_isN (pv 1) pe_non (nomark _))))
        pss_nil)
      (pss_one (ps_ret (pe_and (pe_cmpR op_notN (pv 1) pe_non (nomark _)) (pe_and (pe_cmpR op_eq (pe_ix ix_tup (pv 1) pe_int (fun _ _ => rfl)) (pe_ix ix_tup (pv 0) pe_int (fun _ _ => rfl)) (nomark _)) (pe_one (pe_cmpR op_eq (pe_ix ix_tup (pv 1) pe_int (fun _ _ => rfl)) (pe_op op_sub (pe_ix ix_tup (pv 0) pe_int (fun _ _ => rfl)) (pv 2)) (nomark _)))))))) (pss_cons (ps_if (pt_cmpR op_ne (pe_ix ix_tup (pv 1) pe_int (fun _ _ => rfl)) (pe_callB (call_min2 rfl) rfl T.n_min (show bootBuiltins _ = some (.builtin "min") from rfl) (pa_cons (pv 3) (pa_cons (pe_callB (call_max2 rfl) rfl T.n_max (show bootBuiltins _ = some (.builtin "max") from rfl) (pa_cons pe_int (pa_cons (pe_op op_sub (pe_ix ix_tup (pv 0) pe_int (fun _ _ => rfl)) (pv 2)) pa_nil))) pa_nil))) (nomark _))
        (pss_one (ps_ret pe_bl))
        pss_nil)
      (pss_one (ps_ret (pe_cmpR op_eq (pe_ix ix_tup (pv 1) pe_int (fun _ _ => rfl)) (pe_callB (call_min2 rfl) rfl T.n_min (show bootBuiltins _ = some (.builtin "min") from rfl) (pa_cons (pv 3) (pa_cons (pe_callB (call_max2 rfl) rfl T.n_max (show bootBuiltins _ = some (.builtin "max") from rfl) (pa_cons pe_int (pa_cons (pe_op op_sub (pe_ix ix_tup (pv 0) pe_int (fun _ _ => rfl)) (pv 2)) pa_nil))) pa_nil))) (nomark _))))) (pss_cons (ps_set (i := 1) sc.nd rfl (Or.inl rfl) (pe_op op_mod (pe_callC C_law_cell (hr.mono (by decide)) rfl (pa_cons (pv 0) (pa_cons pe_int pa_nil))) (pe_op op_pow pe_int pe_int)))
      (pss_cons (ps_set (i := 2) sc.nd rfl (Or.inr rfl) (pe_ix ix_list (pe_lst (pa_cons pe_int (pa_cons pe_int (pa_cons (pe_op op_add (pe_op op_pow pe_int pe_int) pe_int) (pa_cons (pe_op op_pow pe_int pe_int) pa_nil))))) (pe_op op_mod (pe_op op_fdiv (pv 1) pe_int) pe_int) (fun _ _ => rfl)))
      (pss_cons (ps_comp (NC := ["_law_k", "_law_script", "_law_unit"]) (own := ["_law_k"]) (cs := ["_law_script", "_law_unit"]) (ix := [0, 2]) (j := 3) sc.nd rfl rfl rfl (CompScope.of rfl) rfl ⟨⟨rfl, .inl rfl, rfl⟩, ⟨⟨rfl, .inl rfl, rfl⟩, trivial⟩⟩ (pi_range1 rfl T.n_range (pa_cons (pe_op op_mod (pv 1) pe_int) pa_nil)) (fun _ _ _ => (pg_name (i := 0) (show (["_law_k", "_law_script", "_law_unit"] : List Str).Nodup from by decide +kernel) rfl (Or.inl rfl))) (fun _ _ _ => pts_nil) (fun _ _ _ => (pe_callC C_law_row (hr.mono (by decide)) rfl (pa_cons (pv 1) (pa_cons (pe_op op_add pe_int (pe_op op_mul pe_int (pv 0))) (pa_cons (pv 2) pa_nil))))))
      (pss_cons (ps_set (i := 4) sc.nd rfl (Or.inl rfl) (pe_makeD KCover (hr.mono (by decide)) rfl (pa_cons pe_str (pa_cons (pe_new0 NCondition rfl) (pa_cons (pe_comp (NC := ["_law_row_here"]) (own := ["_law_row_here"]) (cs := []) (ix := []) rfl (CompScope.of rfl) rfl trivial (pi_list (pv 3)) (fun _ _ _ => (pg_name (i := 0) (show (["_law_row_here"] : List Str).Nodup from by decide +kernel) rfl (Or.inl rfl))) (fun _ _ _ => pts_nil) (fun _ _ _ => (pe_callC C_law_clause (hr.mono (by decide)) rfl (pa_cons (pv 0) pa_nil)))) pa_nil)))))
      (pss_cons (ps_comp (NC := ["_law_row_here"]) (own := ["_law_row_here"]) (cs := []) (ix := []) (j := 5) sc.nd rfl rfl rfl (CompScope.of rfl) rfl trivial (pi_list (pv 3)) (fun _ _ _ => (pg_name (i := 0) (show (["_law_row_here"] : List Str).Nodup from by decide +kernel) rfl (Or.inl rfl))) (fun _ _ _ => pts_nil) (fun _ _ _ => (pe_ix (ix_tupK (K := K) rfl) (pv 0) pe_int (fun _ _ => rfl))))
      (pss_cons (ps_set (i := 6) sc.nd rfl (Or.inr rfl) (pe_ix ix_list (pe_lst (pa_cons pe_int (pa_cons pe_int (pa_cons (pe_op op_pow pe_int pe_int) pa_nil)))) (pe_op op_mod (pe_op op_fdiv (pv 1) pe_int) pe_int) (fun _ _ => rfl)))
      (pss_cons (ps_comp (NC := ["_law_cell_here", "_law_small", "_law_unit"]) (own := ["_law_cell_here"]) (cs := ["_law_small", "_law_unit"]) (ix := [6, 2]) (j := 7) sc.nd rfl rfl rfl (CompScope.of rfl) rfl ⟨⟨rfl, .inl rfl, rfl⟩, ⟨⟨rfl, .inl rfl, rfl⟩, trivial⟩⟩ (pi_list (pe_slice sl_list (pv 0) (po_some pe_int) (po_some pe_int))) (fun _ _ _ => (pg_name (i := 0) (show (["_law_cell_here", "_law_small", "_law_unit"] : List Str).Nodup from by decide +kernel) rfl (Or.inl rfl))) (fun _ _ _ => pts_nil) (fun _ _ _ => (pe_op op_mod (pe_op op_mul (pe_op op_mod (pv 0) (pv 1)) (pe_ix (ix_listK (K := K) rfl) (pe_lst (pa_cons (pv 2) (pa_cons pe_int pa_nil))) (pe_op op_mod (pe_op op_fdiv (pv 0) pe_int) pe_int) (fun _ _ => rfl))) (pe_op op_mul pe_int (pe_op op_pow pe_int pe_int)))))
      (pss_cons (ps_set (i := 8) sc.nd rfl (Or.inl rfl) (pe_methC Mwindow (hr.mono (by decide)) (pv 4) (pa_cons (pv 5) (pa_cons (pe_callB (call_sum rfl) rfl T.n_sum (show bootBuiltins _ = some (.builtin "sum") from rfl) (pa_cons (pv 7) pa_nil)) pa_nil))))
      (pss_cons (ps_set (i := 9) sc.nd rfl (Or.inl rfl) (pe_callTy call_list_of rfl T.n_list (show bootBuiltins _ = some (.type "list") from rfl) (pa_cons (pv 5) pa_nil)))
      (pss_cons (ps_set (i := 10) sc.nd rfl (Or.inl rfl) pe_int)
      (pss_cons (ps_set (i := 11) sc.nd rfl (Or.inl rfl) (pe_lst pa_nil))
      (pss_cons (ps_set (i := 12) sc.nd rfl (Or.inl rfl) (pe_lst pa_nil))
      (pss_cons (ps_set (i := 13) sc.nd rfl (Or.inl rfl) pe_int)
      (pss_cons (ps_for PassesOwn.never rfl (pi_list (pv 7)) (pg_name (i := 14) sc.nd rfl (Or.inl rfl))
        (pss_cons (ps_asg (pe_callC C_law_paid (hr.mono (by decide)) rfl (pa_cons (pv 4) (pa_cons (pv 9) (pa_cons (pv 14) pa_nil)))) (pg_tup (n := 2) rfl (pgs_cons (pg_name (i := 15) sc.nd rfl (Or.inl rfl)) (pgs_cons (pg_name (i := 16) sc.nd rfl (Or.inl rfl)) pgs_nil))))
      (pss_cons (ps_expr (pe_callC C_law_put (hr.mono (by decide)) rfl (pa_cons (pv 11) (pa_cons (pe_methC Mparts (hr.mono (by decide)) (pv 4) (pa_cons (pv 9) (pa_cons (pv 14) pa_nil))) (pa_cons (pv 10) pa_nil)))))
      (pss_cons (ps_if (pt_not (pt_val (pe_callC C_law_cut_off (hr.mono (by decide)) rfl (pa_cons (pv 8) (pa_cons (pe_methC Mwindow (hr.mono (by decide)) (pv 4) (pa_cons (pv 9) (pa_cons (pv 14) pa_nil))) (pa_cons (pv 10) (pa_cons (pv 14) pa_nil)))))))
        (pss_one (ps_ret pe_bl))
        pss_nil)
      (pss_cons (ps_if (pt_cmpR op_lt (pv 15) (pv 16) (nomark _))
        (pss_one (ps_expr (pe_callC C_law_put (hr.mono (by decide)) rfl (pa_cons (pv 12) (pa_cons (pe_lst (pa_cons (pe_tup (pa_cons (pv 15) (pa_cons (pv 16) (pa_cons pe_int pa_nil)))) pa_nil)) (pa_cons (pv 10) pa_nil))))))
        pss_nil)
      (pss_cons (ps_set (i := 13) sc.nd rfl (Or.inl rfl) (pe_op op_sub (pe_op op_add (pv 13) (pv 16)) (pv 15)))
      (pss_cons (ps_set (i := 9) sc.nd rfl (Or.inl rfl) (pe_callC C_law_behind (hr.mono (by decide)) rfl (pa_cons (pv 3) (pa_cons (pv 9) (pa_cons (pv 14) (pa_cons (pe_op op_sub (pv 16) (pv 15)) pa_nil))))))
      (pss_cons (ps_set (i := 10) sc.nd rfl (Or.inl rfl) (pe_op op_add (pv 10) (pv 14)))
      (pss_one (ps_if (pt_not (pt_val (pe_callC C_law_rest_left (hr.mono (by decide)) rfl (pa_cons (pe_methC Mrest (hr.mono (by decide)) (pv 4) (pa_cons (pv 5) pa_nil)) (pa_cons (pe_methC Mrest (hr.mono (by decide)) (pv 4) (pa_cons (pv 9) pa_nil)) (pa_cons (pv 13) pa_nil))))))
        (pss_one (ps_ret pe_bl))
        pss_nil))))))))))
      (pss_cons (ps_if (PW.pt (pw_or (pt_cmpR (op_neD (K := K) hu64) (pv 11) (pe_methC Mparts (hr.mono (by decide)) (pv 4) (pa_cons (pv 5) (pa_cons (pv 10) pa_nil))) (nomark _)) (pw_or1 (pt_cmpR (op_neD (K := K) hu64) (pv 8) (pe_methC Mwindow (hr.mono (by decide)) (pv 4) (pa_cons (pv 5) (pa_cons (pv 10) pa_nil))) (nomark _)))))
        (pss_one (ps_ret pe_bl))
        pss_nil)
      (pss_cons (ps_asg (pe_callC C_law_paid (hr.mono (by decide)) rfl (pa_cons (pv 4) (pa_cons (pv 5) (pa_cons (pv 10) pa_nil)))) (pg_tup (n := 2) rfl (pgs_cons (pg_name (i := 15) sc.nd rfl (Or.inl rfl)) (pgs_cons (pg_name (i := 16) sc.nd rfl (Or.inl rfl)) pgs_nil))))
      (pss_cons (ps_if (pt_cmpR op_eq (pv 15) (pv 16) (nomark _))
        (pss_one (ps_ret (pe_cmpR (op_eqD (K := K) hu64) (pv 12) (pe_lst pa_nil) (nomark _))))
        pss_nil)
      (pss_one (ps_ret (pe_cmpR (op_eqD (K := K) hu64) (pv 12) (pe_lst (pa_cons (pe_tup (pa_cons (pv 15) (pa_cons (pv 16) (pa_cons pe_int pa_nil)))) pa_nil)) (nomark _))))))))))))))))))))) -/


theorem all_mk {l : PySem.W.OpenLaw} {w : World} {K : PySem.W.Frag} {h : Heap} {mg : Str → Option Value} {fa : Addr} (X : K.In h) (G : h.Ns mainGlobals mg) (hfa : mg "law" = some (.ref fa))
    {f0 : Addr} {od0 an0 : Option Addr} {sl0 : Array (Option Value)} {oc0 kV0 dc0 pm0 cd0 ct0 : Value}
    (a0 : PySem.W.nsIn K mainGlobals "is_whole" = some (some (.ref f0))) (l0 : K.lookup f0 = some ⟨oc0, od0, .func (PySem.W.fnOf "is_whole" "is_whole" (defArgs s_is_whole) (defBody s_is_whole) (defScope s_is_whole) .none kV0 dc0 pm0 an0 cd0 ct0), sl0⟩) (c0 : PySem.W.codeIn K cd0 "is_whole" = true) (k0 : PySem.W.keepIn K (.ref f0) = true)
    {f1 : Addr} {od1 an1 : Option Addr} {sl1 : Array (Option Value)} {oc1 kV1 dc1 pm1 cd1 ct1 : Value}
    (a1 : PySem.W.nsIn K mainGlobals "has_letters_alone" = some (some (.ref f1))) (l1 : K.lookup f1 = some ⟨oc1, od1, .func (PySem.W.fnOf "has_letters_alone" "has_letters_alone" (defArgs s_has_letters_alone) (defBody s_has_letters_alone) (defScope s_has_letters_alone) .none kV1 dc1 pm1 an1 cd1 ct1), sl1⟩) (c1 : PySem.W.codeIn K cd1 "has_letters_alone" = true) (k1 : PySem.W.keepIn K (.ref f1) = true)
    {f2 : Addr} {od2 an2 : Option Addr} {sl2 : Array (Option Value)} {oc2 kV2 dc2 pm2 cd2 ct2 : Value}
    (a2 : PySem.W.nsIn K mainGlobals "is_name" = some (some (.ref f2))) (l2 : K.lookup f2 = some ⟨oc2, od2, .func (PySem.W.fnOf "is_name" "is_name" (defArgs s_is_name) (defBody s_is_name) (defScope s_is_name) .none kV2 dc2 pm2 an2 cd2 ct2), sl2⟩) (c2 : PySem.W.codeIn K cd2 "is_name" = true) (k2 : PySem.W.keepIn K (.ref f2) = true)
    {f3 : Addr} {od3 an3 : Option Addr} {sl3 : Array (Option Value)} {oc3 kV3 dc3 pm3 cd3 ct3 : Value}
    (a3 : PySem.W.nsIn K mainGlobals "is_amount" = some (some (.ref f3))) (l3 : K.lookup f3 = some ⟨oc3, od3, .func (PySem.W.fnOf "is_amount" "is_amount" (defArgs s_is_amount) (defBody s_is_amount) (defScope s_is_amount) .none kV3 dc3 pm3 an3 cd3 ct3), sl3⟩) (c3 : PySem.W.codeIn K cd3 "is_amount" = true) (k3 : PySem.W.keepIn K (.ref f3) = true)
    {f4 : Addr} {od4 an4 : Option Addr} {sl4 : Array (Option Value)} {oc4 kV4 dc4 pm4 cd4 ct4 : Value}
    (a4 : PySem.W.nsIn K mainGlobals "are_weights" = some (some (.ref f4))) (l4 : K.lookup f4 = some ⟨oc4, od4, .func (PySem.W.fnOf "are_weights" "are_weights" (defArgs s_are_weights) (defBody s_are_weights) (defScope s_are_weights) .none kV4 dc4 pm4 an4 cd4 ct4), sl4⟩) (c4 : PySem.W.codeIn K cd4 "are_weights" = true) (k4 : PySem.W.keepIn K (.ref f4) = true)
    {f5 : Addr} {od5 an5 : Option Addr} {sl5 : Array (Option Value)} {oc5 kV5 dc5 pm5 cd5 ct5 : Value}
    (a5 : PySem.W.nsIn K mainGlobals "may_have" = some (some (.ref f5))) (l5 : K.lookup f5 = some ⟨oc5, od5, .func (PySem.W.fnOf "may_have" "may_have" (defArgs s_may_have) (defBody s_may_have) (defScope s_may_have) .none kV5 dc5 pm5 an5 cd5 ct5), sl5⟩) (c5 : PySem.W.codeIn K cd5 "may_have" = true) (k5 : PySem.W.keepIn K (.ref f5) = true)
    {f6 : Addr} {od6 an6 : Option Addr} {sl6 : Array (Option Value)} {oc6 kV6 dc6 pm6 cd6 ct6 : Value}
    (a6 : PySem.W.nsIn K mainGlobals "due_by" = some (some (.ref f6))) (l6 : K.lookup f6 = some ⟨oc6, od6, .func (PySem.W.fnOf "due_by" "due_by" (defArgs s_due_by) (defBody s_due_by) (defScope s_due_by) .none kV6 dc6 pm6 an6 cd6 ct6), sl6⟩) (c6 : PySem.W.codeIn K cd6 "due_by" = true) (k6 : PySem.W.keepIn K (.ref f6) = true)
    {f7 : Addr} {od7 an7 : Option Addr} {sl7 : Array (Option Value)} {oc7 kV7 dc7 pm7 cd7 ct7 : Value}
    (a7 : PySem.W.nsIn K mainGlobals "place_of_turn" = some (some (.ref f7))) (l7 : K.lookup f7 = some ⟨oc7, od7, .func (PySem.W.fnOf "place_of_turn" "place_of_turn" (defArgs s_place_of_turn) (defBody s_place_of_turn) (defScope s_place_of_turn) .none kV7 dc7 pm7 an7 cd7 ct7), sl7⟩) (c7 : PySem.W.codeIn K cd7 "place_of_turn" = true) (k7 : PySem.W.keepIn K (.ref f7) = true)
    {f8 : Addr} {od8 an8 : Option Addr} {sl8 : Array (Option Value)} {oc8 kV8 dc8 pm8 cd8 ct8 : Value}
    (a8 : PySem.W.nsIn K mainGlobals "turns" = some (some (.ref f8))) (l8 : K.lookup f8 = some ⟨oc8, od8, .func (PySem.W.fnOf "turns" "turns" (defArgs s_turns) (defBody s_turns) (defScope s_turns) .none kV8 dc8 pm8 an8 cd8 ct8), sl8⟩) (c8 : PySem.W.codeIn K cd8 "turns" = true) (k8 : PySem.W.keepIn K (.ref f8) = true)
    {f9 : Addr} {od9 an9 : Option Addr} {sl9 : Array (Option Value)} {oc9 kV9 dc9 pm9 cd9 ct9 : Value}
    (a9 : PySem.W.nsIn K mainGlobals "check_houses" = some (some (.ref f9))) (l9 : K.lookup f9 = some ⟨oc9, od9, .func (PySem.W.fnOf "check_houses" "check_houses" (defArgs s_check_houses) (defBody s_check_houses) (defScope s_check_houses) .none kV9 dc9 pm9 an9 cd9 ct9), sl9⟩) (c9 : PySem.W.codeIn K cd9 "check_houses" = true) (k9 : PySem.W.keepIn K (.ref f9) = true)
    {f10 : Addr} {od10 an10 : Option Addr} {sl10 : Array (Option Value)} {oc10 kV10 dc10 pm10 cd10 ct10 : Value}
    (a10 : PySem.W.nsIn K mainGlobals "first_without" = some (some (.ref f10))) (l10 : K.lookup f10 = some ⟨oc10, od10, .func (PySem.W.fnOf "first_without" "first_without" (defArgs s_first_without) (defBody s_first_without) (defScope s_first_without) .none kV10 dc10 pm10 an10 cd10 ct10), sl10⟩) (c10 : PySem.W.codeIn K cd10 "first_without" = true) (k10 : PySem.W.keepIn K (.ref f10) = true)
    {f11 : Addr} {od11 an11 : Option Addr} {sl11 : Array (Option Value)} {oc11 kV11 dc11 pm11 cd11 ct11 : Value}
    (a11 : PySem.W.nsIn K mainGlobals "bounds_of" = some (some (.ref f11))) (l11 : K.lookup f11 = some ⟨oc11, od11, .func (PySem.W.fnOf "bounds_of" "bounds_of" (defArgs s_bounds_of) (defBody s_bounds_of) (defScope s_bounds_of) .none kV11 dc11 pm11 an11 cd11 ct11), sl11⟩) (c11 : PySem.W.codeIn K cd11 "bounds_of" = true) (k11 : PySem.W.keepIn K (.ref f11) = true)
    {f12 : Addr} {od12 an12 : Option Addr} {sl12 : Array (Option Value)} {oc12 kV12 dc12 pm12 cd12 ct12 : Value}
    (a12 : PySem.W.nsIn K mainGlobals "checked_amount" = some (some (.ref f12))) (l12 : K.lookup f12 = some ⟨oc12, od12, .func (PySem.W.fnOf "checked_amount" "checked_amount" (defArgs s_checked_amount) (defBody s_checked_amount) (defScope s_checked_amount) .none kV12 dc12 pm12 an12 cd12 ct12), sl12⟩) (c12 : PySem.W.codeIn K cd12 "checked_amount" = true) (k12 : PySem.W.keepIn K (.ref f12) = true)
    {f13 : Addr} {od13 an13 : Option Addr} {sl13 : Array (Option Value)} {oc13 kV13 dc13 pm13 cd13 ct13 : Value}
    (a13 : PySem.W.nsIn K mainGlobals "cent_at" = some (some (.ref f13))) (l13 : K.lookup f13 = some ⟨oc13, od13, .func (PySem.W.fnOf "cent_at" "cent_at" (defArgs s_cent_at) (defBody s_cent_at) (defScope s_cent_at) .none kV13 dc13 pm13 an13 cd13 ct13), sl13⟩) (c13 : PySem.W.codeIn K cd13 "cent_at" = true) (k13 : PySem.W.keepIn K (.ref f13) = true)
    {f14 : Addr} {od14 an14 : Option Addr} {sl14 : Array (Option Value)} {oc14 kV14 dc14 pm14 cd14 ct14 : Value}
    (a14 : PySem.W.nsIn K mainGlobals "_law_cell" = some (some (.ref f14))) (l14 : K.lookup f14 = some ⟨oc14, od14, .func (PySem.W.fnOf "_law_cell" "_law_cell" (defArgs s__law_cell) (defBody s__law_cell) (defScope s__law_cell) .none kV14 dc14 pm14 an14 cd14 ct14), sl14⟩) (c14 : PySem.W.codeIn K cd14 "_law_cell" = true) (k14 : PySem.W.keepIn K (.ref f14) = true)
    {f15 : Addr} {od15 an15 : Option Addr} {sl15 : Array (Option Value)} {oc15 kV15 dc15 pm15 cd15 ct15 : Value}
    (a15 : PySem.W.nsIn K mainGlobals "_law_amount" = some (some (.ref f15))) (l15 : K.lookup f15 = some ⟨oc15, od15, .func (PySem.W.fnOf "_law_amount" "_law_amount" (defArgs s__law_amount) (defBody s__law_amount) (defScope s__law_amount) .none kV15 dc15 pm15 an15 cd15 ct15), sl15⟩) (c15 : PySem.W.codeIn K cd15 "_law_amount" = true) (k15 : PySem.W.keepIn K (.ref f15) = true)
    {f16 : Addr} {od16 an16 : Option Addr} {sl16 : Array (Option Value)} {oc16 kV16 dc16 pm16 cd16 ct16 : Value}
    (a16 : PySem.W.nsIn K mainGlobals "_law_count" = some (some (.ref f16))) (l16 : K.lookup f16 = some ⟨oc16, od16, .func (PySem.W.fnOf "_law_count" "_law_count" (defArgs s__law_count) (defBody s__law_count) (defScope s__law_count) .none kV16 dc16 pm16 an16 cd16 ct16), sl16⟩) (c16 : PySem.W.codeIn K cd16 "_law_count" = true) (k16 : PySem.W.keepIn K (.ref f16) = true)
    {f17 : Addr} {od17 an17 : Option Addr} {sl17 : Array (Option Value)} {oc17 kV17 dc17 pm17 cd17 ct17 : Value}
    (a17 : PySem.W.nsIn K mainGlobals "_law_row" = some (some (.ref f17))) (l17 : K.lookup f17 = some ⟨oc17, od17, .func (PySem.W.fnOf "_law_row" "_law_row" (defArgs s__law_row) (defBody s__law_row) (defScope s__law_row) .none kV17 dc17 pm17 an17 cd17 ct17), sl17⟩) (c17 : PySem.W.codeIn K cd17 "_law_row" = true) (k17 : PySem.W.keepIn K (.ref f17) = true)
    {f18 : Addr} {od18 an18 : Option Addr} {sl18 : Array (Option Value)} {oc18 kV18 dc18 pm18 cd18 ct18 : Value}
    (a18 : PySem.W.nsIn K mainGlobals "_law_clause" = some (some (.ref f18))) (l18 : K.lookup f18 = some ⟨oc18, od18, .func (PySem.W.fnOf "_law_clause" "_law_clause" (defArgs s__law_clause) (defBody s__law_clause) (defScope s__law_clause) .none kV18 dc18 pm18 an18 cd18 ct18), sl18⟩) (c18 : PySem.W.codeIn K cd18 "_law_clause" = true) (k18 : PySem.W.keepIn K (.ref f18) = true)
    {f19 : Addr} {od19 an19 : Option Addr} {sl19 : Array (Option Value)} {oc19 kV19 dc19 pm19 cd19 ct19 : Value}
    (a19 : PySem.W.nsIn K mainGlobals "_law_paid" = some (some (.ref f19))) (l19 : K.lookup f19 = some ⟨oc19, od19, .func (PySem.W.fnOf "_law_paid" "_law_paid" (defArgs s__law_paid) (defBody s__law_paid) (defScope s__law_paid) .none kV19 dc19 pm19 an19 cd19 ct19), sl19⟩) (c19 : PySem.W.codeIn K cd19 "_law_paid" = true) (k19 : PySem.W.keepIn K (.ref f19) = true)
    {f20 : Addr} {od20 an20 : Option Addr} {sl20 : Array (Option Value)} {oc20 kV20 dc20 pm20 cd20 ct20 : Value}
    (a20 : PySem.W.nsIn K mainGlobals "_law_put" = some (some (.ref f20))) (l20 : K.lookup f20 = some ⟨oc20, od20, .func (PySem.W.fnOf "_law_put" "_law_put" (defArgs s__law_put) (defBody s__law_put) (defScope s__law_put) .none kV20 dc20 pm20 an20 cd20 ct20), sl20⟩) (c20 : PySem.W.codeIn K cd20 "_law_put" = true) (k20 : PySem.W.keepIn K (.ref f20) = true)
    {f21 : Addr} {od21 an21 : Option Addr} {sl21 : Array (Option Value)} {oc21 kV21 dc21 pm21 cd21 ct21 : Value}
    (a21 : PySem.W.nsIn K mainGlobals "_law_behind" = some (some (.ref f21))) (l21 : K.lookup f21 = some ⟨oc21, od21, .func (PySem.W.fnOf "_law_behind" "_law_behind" (defArgs s__law_behind) (defBody s__law_behind) (defScope s__law_behind) .none kV21 dc21 pm21 an21 cd21 ct21), sl21⟩) (c21 : PySem.W.codeIn K cd21 "_law_behind" = true) (k21 : PySem.W.keepIn K (.ref f21) = true)
    {f22 : Addr} {od22 an22 : Option Addr} {sl22 : Array (Option Value)} {oc22 kV22 dc22 pm22 cd22 ct22 : Value}
    (a22 : PySem.W.nsIn K mainGlobals "_law_rest_left" = some (some (.ref f22))) (l22 : K.lookup f22 = some ⟨oc22, od22, .func (PySem.W.fnOf "_law_rest_left" "_law_rest_left" (defArgs s__law_rest_left) (defBody s__law_rest_left) (defScope s__law_rest_left) .none kV22 dc22 pm22 an22 cd22 ct22), sl22⟩) (c22 : PySem.W.codeIn K cd22 "_law_rest_left" = true) (k22 : PySem.W.keepIn K (.ref f22) = true)
    {f23 : Addr} {od23 an23 : Option Addr} {sl23 : Array (Option Value)} {oc23 kV23 dc23 pm23 cd23 ct23 : Value}
    (a23 : PySem.W.nsIn K mainGlobals "_law_cut_off" = some (some (.ref f23))) (l23 : K.lookup f23 = some ⟨oc23, od23, .func (PySem.W.fnOf "_law_cut_off" "_law_cut_off" (defArgs s__law_cut_off) (defBody s__law_cut_off) (defScope s__law_cut_off) .none kV23 dc23 pm23 an23 cd23 ct23), sl23⟩) (c23 : PySem.W.codeIn K cd23 "_law_cut_off" = true) (k23 : PySem.W.keepIn K (.ref f23) = true)
    {f24 : Addr} {od24 an24 : Option Addr} {sl24 : Array (Option Value)} {oc24 kV24 dc24 pm24 cd24 ct24 : Value}
    (a24 : PySem.W.nsIn K mainGlobals "law" = some (some (.ref f24))) (l24 : K.lookup f24 = some ⟨oc24, od24, .func (PySem.W.fnOf "law" "law" (defArgs s_law) (defBody s_law) (defScope s_law) .none kV24 dc24 pm24 an24 cd24 ct24), sl24⟩) (c24 : PySem.W.codeIn K cd24 "law" = true) (k24 : PySem.W.keepIn K (.ref f24) = true)
    {C_Clause : Addr} (q_Clause : PySem.W.nsIn K mainGlobals "Clause" = some (some (.ref C_Clause)))
    (pg_Clause : PySem.W.plainGet K C_Clause Str.empty = true) (hd_Clause : PySem.W.hasDictIn K C_Clause = true) (po_Clause : PySem.W.plainOver K C_Clause = true) (sa_Clause : PySem.W.findIn K (.ref C_Clause) "__setattr__" = some (some (.builtin "object.__setattr__"))) (mk_Clause : PySem.W.makesIn K C_Clause = true) (kc_Clause : PySem.W.keepIn K (.ref C_Clause) = true)
    (na_Clause_by : PySem.W.findIn K (.ref C_Clause) "by" = some none)
    {C_Own : Addr} (q_Own : PySem.W.nsIn K mainGlobals "Own" = some (some (.ref C_Own)))
    (pg_Own : PySem.W.plainGet K C_Own Str.empty = true) (hd_Own : PySem.W.hasDictIn K C_Own = true) (po_Own : PySem.W.plainOver K C_Own = true) (sa_Own : PySem.W.findIn K (.ref C_Own) "__setattr__" = some (some (.builtin "object.__setattr__"))) (mk_Own : PySem.W.makesIn K C_Own = true) (kc_Own : PySem.W.keepIn K (.ref C_Own) = true)
    (na_Own_cents : PySem.W.findIn K (.ref C_Own) "cents" = some none)
    (na_Own_by : PySem.W.findIn K (.ref C_Own) "by" = some none)
    {C_Layer : Addr} (q_Layer : PySem.W.nsIn K mainGlobals "Layer" = some (some (.ref C_Layer)))
    (pg_Layer : PySem.W.plainGet K C_Layer Str.empty = true) (hd_Layer : PySem.W.hasDictIn K C_Layer = true) (po_Layer : PySem.W.plainOver K C_Layer = true) (sa_Layer : PySem.W.findIn K (.ref C_Layer) "__setattr__" = some (some (.builtin "object.__setattr__"))) (mk_Layer : PySem.W.makesIn K C_Layer = true) (kc_Layer : PySem.W.keepIn K (.ref C_Layer) = true)
    (na_Layer_first : PySem.W.findIn K (.ref C_Layer) "first" = some none)
    (na_Layer_upto : PySem.W.findIn K (.ref C_Layer) "upto" = some none)
    (na_Layer_by : PySem.W.findIn K (.ref C_Layer) "by" = some none)
    {C_Limit : Addr} (q_Limit : PySem.W.nsIn K mainGlobals "Limit" = some (some (.ref C_Limit)))
    (pg_Limit : PySem.W.plainGet K C_Limit Str.empty = true) (hd_Limit : PySem.W.hasDictIn K C_Limit = true) (po_Limit : PySem.W.plainOver K C_Limit = true) (sa_Limit : PySem.W.findIn K (.ref C_Limit) "__setattr__" = some (some (.builtin "object.__setattr__"))) (mk_Limit : PySem.W.makesIn K C_Limit = true) (kc_Limit : PySem.W.keepIn K (.ref C_Limit) = true)
    (na_Limit_most : PySem.W.findIn K (.ref C_Limit) "most" = some none)
    (na_Limit_by : PySem.W.findIn K (.ref C_Limit) "by" = some none)
    {C_Deal : Addr} (q_Deal : PySem.W.nsIn K mainGlobals "Deal" = some (some (.ref C_Deal)))
    (pg_Deal : PySem.W.plainGet K C_Deal Str.empty = true) (hd_Deal : PySem.W.hasDictIn K C_Deal = true) (po_Deal : PySem.W.plainOver K C_Deal = true) (sa_Deal : PySem.W.findIn K (.ref C_Deal) "__setattr__" = some (some (.builtin "object.__setattr__"))) (mk_Deal : PySem.W.makesIn K C_Deal = true) (kc_Deal : PySem.W.keepIn K (.ref C_Deal) = true)
    (na_Deal_wheel : PySem.W.findIn K (.ref C_Deal) "wheel" = some none)
    (na_Deal_weights : PySem.W.findIn K (.ref C_Deal) "weights" = some none)
    {C_Cover : Addr} (q_Cover : PySem.W.nsIn K mainGlobals "Cover" = some (some (.ref C_Cover)))
    (pg_Cover : PySem.W.plainGet K C_Cover Str.empty = true) (hd_Cover : PySem.W.hasDictIn K C_Cover = true) (po_Cover : PySem.W.plainOver K C_Cover = true) (sa_Cover : PySem.W.findIn K (.ref C_Cover) "__setattr__" = some (some (.builtin "object.__setattr__"))) (mk_Cover : PySem.W.makesIn K C_Cover = true) (kc_Cover : PySem.W.keepIn K (.ref C_Cover) = true)
    (na_Cover_name : PySem.W.findIn K (.ref C_Cover) "name" = some none)
    (na_Cover_condition : PySem.W.findIn K (.ref C_Cover) "condition" = some none)
    (na_Cover_clauses : PySem.W.findIn K (.ref C_Cover) "clauses" = some none)
    (na_Cover_houses : PySem.W.findIn K (.ref C_Cover) "houses" = some none)
    (na_Cover_deal : PySem.W.findIn K (.ref C_Cover) "deal" = some none)
    (na_Cover_waits : PySem.W.findIn K (.ref C_Cover) "waits" = some none)
    {C_Condition : Addr} (q_Condition : PySem.W.nsIn K mainGlobals "Condition" = some (some (.ref C_Condition)))
    (pg_Condition : PySem.W.plainGet K C_Condition Str.empty = true) (hd_Condition : PySem.W.hasDictIn K C_Condition = true) (po_Condition : PySem.W.plainOver K C_Condition = true) (sa_Condition : PySem.W.findIn K (.ref C_Condition) "__setattr__" = some (some (.builtin "object.__setattr__"))) (mk_Condition : PySem.W.makesIn K C_Condition = true) (kc_Condition : PySem.W.keepIn K (.ref C_Condition) = true)
    (nd_C : ([C_Clause, C_Own, C_Layer, C_Limit, C_Deal, C_Cover, C_Condition] : List Addr).Nodup)
    {fClause___init__ : Addr} {odClause___init__ anClause___init__ : Option Addr} {slClause___init__ : Array (Option Value)} {ocClause___init__ kVClause___init__ dcClause___init__ pmClause___init__ cdClause___init__ ctClause___init__ : Value}
    (a_Clause___init__ : PySem.W.findIn K (.ref C_Clause) "__init__" = some (some (.ref fClause___init__)))
    (iClause___init__ : PySem.W.isFn K (.ref fClause___init__) = true) (lClause___init__ : K.lookup fClause___init__ = some ⟨ocClause___init__, odClause___init__, .func (PySem.W.fnOf "__init__" "Clause.__init__" (defArgs s_Clause___init__) (defBody s_Clause___init__) (defScope s_Clause___init__) .none kVClause___init__ dcClause___init__ pmClause___init__ anClause___init__ cdClause___init__ ctClause___init__), slClause___init__⟩) (cClause___init__ : PySem.W.codeIn K cdClause___init__ "Clause.__init__" = true) (kClause___init__ : PySem.W.keepIn K (.ref fClause___init__) = true)
    {fClause_span : Addr} {odClause_span anClause_span : Option Addr} {slClause_span : Array (Option Value)} {ocClause_span kVClause_span dcClause_span pmClause_span cdClause_span ctClause_span : Value}
    (a_Clause_span : PySem.W.findIn K (.ref C_Clause) "span" = some (some (.ref fClause_span)))
    (iClause_span : PySem.W.isFn K (.ref fClause_span) = true) (lClause_span : K.lookup fClause_span = some ⟨ocClause_span, odClause_span, .func (PySem.W.fnOf "span" "Clause.span" (defArgs s_Clause_span) (defBody s_Clause_span) (defScope s_Clause_span) .none kVClause_span dcClause_span pmClause_span anClause_span cdClause_span ctClause_span), slClause_span⟩) (cClause_span : PySem.W.codeIn K cdClause_span "Clause.span" = true) (kClause_span : PySem.W.keepIn K (.ref fClause_span) = true)
    {fClause_room : Addr} {odClause_room anClause_room : Option Addr} {slClause_room : Array (Option Value)} {ocClause_room kVClause_room dcClause_room pmClause_room cdClause_room ctClause_room : Value}
    (a_Clause_room : PySem.W.findIn K (.ref C_Clause) "room" = some (some (.ref fClause_room)))
    (iClause_room : PySem.W.isFn K (.ref fClause_room) = true) (lClause_room : K.lookup fClause_room = some ⟨ocClause_room, odClause_room, .func (PySem.W.fnOf "room" "Clause.room" (defArgs s_Clause_room) (defBody s_Clause_room) (defScope s_Clause_room) .none kVClause_room dcClause_room pmClause_room anClause_room cdClause_room ctClause_room), slClause_room⟩) (cClause_room : PySem.W.codeIn K cdClause_room "Clause.room" = true) (kClause_room : PySem.W.keepIn K (.ref fClause_room) = true)
    {fOwn___init__ : Addr} {odOwn___init__ anOwn___init__ : Option Addr} {slOwn___init__ : Array (Option Value)} {ocOwn___init__ kVOwn___init__ dcOwn___init__ pmOwn___init__ cdOwn___init__ ctOwn___init__ : Value}
    (a_Own___init__ : PySem.W.findIn K (.ref C_Own) "__init__" = some (some (.ref fOwn___init__)))
    (iOwn___init__ : PySem.W.isFn K (.ref fOwn___init__) = true) (lOwn___init__ : K.lookup fOwn___init__ = some ⟨ocOwn___init__, odOwn___init__, .func (PySem.W.fnOf "__init__" "Own.__init__" (defArgs s_Own___init__) (defBody s_Own___init__) (defScope s_Own___init__) .none kVOwn___init__ dcOwn___init__ pmOwn___init__ anOwn___init__ cdOwn___init__ ctOwn___init__), slOwn___init__⟩) (cOwn___init__ : PySem.W.codeIn K cdOwn___init__ "Own.__init__" = true) (kOwn___init__ : PySem.W.keepIn K (.ref fOwn___init__) = true)
    {fOwn_span : Addr} {odOwn_span anOwn_span : Option Addr} {slOwn_span : Array (Option Value)} {ocOwn_span kVOwn_span dcOwn_span pmOwn_span cdOwn_span ctOwn_span : Value}
    (a_Own_span : PySem.W.findIn K (.ref C_Own) "span" = some (some (.ref fOwn_span)))
    (iOwn_span : PySem.W.isFn K (.ref fOwn_span) = true) (lOwn_span : K.lookup fOwn_span = some ⟨ocOwn_span, odOwn_span, .func (PySem.W.fnOf "span" "Own.span" (defArgs s_Own_span) (defBody s_Own_span) (defScope s_Own_span) .none kVOwn_span dcOwn_span pmOwn_span anOwn_span cdOwn_span ctOwn_span), slOwn_span⟩) (cOwn_span : PySem.W.codeIn K cdOwn_span "Own.span" = true) (kOwn_span : PySem.W.keepIn K (.ref fOwn_span) = true)
    {fLayer___init__ : Addr} {odLayer___init__ anLayer___init__ : Option Addr} {slLayer___init__ : Array (Option Value)} {ocLayer___init__ kVLayer___init__ dcLayer___init__ pmLayer___init__ cdLayer___init__ ctLayer___init__ : Value}
    (a_Layer___init__ : PySem.W.findIn K (.ref C_Layer) "__init__" = some (some (.ref fLayer___init__)))
    (iLayer___init__ : PySem.W.isFn K (.ref fLayer___init__) = true) (lLayer___init__ : K.lookup fLayer___init__ = some ⟨ocLayer___init__, odLayer___init__, .func (PySem.W.fnOf "__init__" "Layer.__init__" (defArgs s_Layer___init__) (defBody s_Layer___init__) (defScope s_Layer___init__) .none kVLayer___init__ dcLayer___init__ pmLayer___init__ anLayer___init__ cdLayer___init__ ctLayer___init__), slLayer___init__⟩) (cLayer___init__ : PySem.W.codeIn K cdLayer___init__ "Layer.__init__" = true) (kLayer___init__ : PySem.W.keepIn K (.ref fLayer___init__) = true)
    {fLayer_span : Addr} {odLayer_span anLayer_span : Option Addr} {slLayer_span : Array (Option Value)} {ocLayer_span kVLayer_span dcLayer_span pmLayer_span cdLayer_span ctLayer_span : Value}
    (a_Layer_span : PySem.W.findIn K (.ref C_Layer) "span" = some (some (.ref fLayer_span)))
    (iLayer_span : PySem.W.isFn K (.ref fLayer_span) = true) (lLayer_span : K.lookup fLayer_span = some ⟨ocLayer_span, odLayer_span, .func (PySem.W.fnOf "span" "Layer.span" (defArgs s_Layer_span) (defBody s_Layer_span) (defScope s_Layer_span) .none kVLayer_span dcLayer_span pmLayer_span anLayer_span cdLayer_span ctLayer_span), slLayer_span⟩) (cLayer_span : PySem.W.codeIn K cdLayer_span "Layer.span" = true) (kLayer_span : PySem.W.keepIn K (.ref fLayer_span) = true)
    {fLimit___init__ : Addr} {odLimit___init__ anLimit___init__ : Option Addr} {slLimit___init__ : Array (Option Value)} {ocLimit___init__ kVLimit___init__ dcLimit___init__ pmLimit___init__ cdLimit___init__ ctLimit___init__ : Value}
    (a_Limit___init__ : PySem.W.findIn K (.ref C_Limit) "__init__" = some (some (.ref fLimit___init__)))
    (iLimit___init__ : PySem.W.isFn K (.ref fLimit___init__) = true) (lLimit___init__ : K.lookup fLimit___init__ = some ⟨ocLimit___init__, odLimit___init__, .func (PySem.W.fnOf "__init__" "Limit.__init__" (defArgs s_Limit___init__) (defBody s_Limit___init__) (defScope s_Limit___init__) .none kVLimit___init__ dcLimit___init__ pmLimit___init__ anLimit___init__ cdLimit___init__ ctLimit___init__), slLimit___init__⟩) (cLimit___init__ : PySem.W.codeIn K cdLimit___init__ "Limit.__init__" = true) (kLimit___init__ : PySem.W.keepIn K (.ref fLimit___init__) = true)
    {fLimit_room : Addr} {odLimit_room anLimit_room : Option Addr} {slLimit_room : Array (Option Value)} {ocLimit_room kVLimit_room dcLimit_room pmLimit_room cdLimit_room ctLimit_room : Value}
    (a_Limit_room : PySem.W.findIn K (.ref C_Limit) "room" = some (some (.ref fLimit_room)))
    (iLimit_room : PySem.W.isFn K (.ref fLimit_room) = true) (lLimit_room : K.lookup fLimit_room = some ⟨ocLimit_room, odLimit_room, .func (PySem.W.fnOf "room" "Limit.room" (defArgs s_Limit_room) (defBody s_Limit_room) (defScope s_Limit_room) .none kVLimit_room dcLimit_room pmLimit_room anLimit_room cdLimit_room ctLimit_room), slLimit_room⟩) (cLimit_room : PySem.W.codeIn K cdLimit_room "Limit.room" = true) (kLimit_room : PySem.W.keepIn K (.ref fLimit_room) = true)
    {fDeal___init__ : Addr} {odDeal___init__ anDeal___init__ : Option Addr} {slDeal___init__ : Array (Option Value)} {ocDeal___init__ kVDeal___init__ dcDeal___init__ pmDeal___init__ cdDeal___init__ ctDeal___init__ : Value}
    (a_Deal___init__ : PySem.W.findIn K (.ref C_Deal) "__init__" = some (some (.ref fDeal___init__)))
    (iDeal___init__ : PySem.W.isFn K (.ref fDeal___init__) = true) (lDeal___init__ : K.lookup fDeal___init__ = some ⟨ocDeal___init__, odDeal___init__, .func (PySem.W.fnOf "__init__" "Deal.__init__" (defArgs s_Deal___init__) (defBody s_Deal___init__) (defScope s_Deal___init__) .none kVDeal___init__ dcDeal___init__ pmDeal___init__ anDeal___init__ cdDeal___init__ ctDeal___init__), slDeal___init__⟩) (cDeal___init__ : PySem.W.codeIn K cdDeal___init__ "Deal.__init__" = true) (kDeal___init__ : PySem.W.keepIn K (.ref fDeal___init__) = true)
    {fCover___init__ dvCover___init__ : Addr} {odCover___init__ anCover___init__ : Option Addr} {slCover___init__ : Array (Option Value)} {ocCover___init__ kVCover___init__ dcCover___init__ pmCover___init__ cdCover___init__ ctCover___init__ : Value}
    (a_Cover___init__ : PySem.W.findIn K (.ref C_Cover) "__init__" = some (some (.ref fCover___init__)))
    (iCover___init__ : PySem.W.isFn K (.ref fCover___init__) = true) (lCover___init__ : K.lookup fCover___init__ = some ⟨ocCover___init__, odCover___init__, .func (PySem.W.fnOf "__init__" "Cover.__init__" (defArgs s_Cover___init__) (defBody s_Cover___init__) (defScope s_Cover___init__) (.ref dvCover___init__) kVCover___init__ dcCover___init__ pmCover___init__ anCover___init__ cdCover___init__ ctCover___init__), slCover___init__⟩) (cCover___init__ : PySem.W.codeIn K cdCover___init__ "Cover.__init__" = true) (kCover___init__ : PySem.W.keepIn K (.ref fCover___init__) = true)
    {ndCover___init__ : Nat} (dlCover___init__ : K.lookup dvCover___init__ = some ⟨.type "tuple", none, .seq #[.none, .none, .bool false] ndCover___init__, #[]⟩)
    {fCover_spans : Addr} {odCover_spans anCover_spans : Option Addr} {slCover_spans : Array (Option Value)} {ocCover_spans kVCover_spans dcCover_spans pmCover_spans cdCover_spans ctCover_spans : Value}
    (a_Cover_spans : PySem.W.findIn K (.ref C_Cover) "spans" = some (some (.ref fCover_spans)))
    (iCover_spans : PySem.W.isFn K (.ref fCover_spans) = true) (lCover_spans : K.lookup fCover_spans = some ⟨ocCover_spans, odCover_spans, .func (PySem.W.fnOf "spans" "Cover.spans" (defArgs s_Cover_spans) (defBody s_Cover_spans) (defScope s_Cover_spans) .none kVCover_spans dcCover_spans pmCover_spans anCover_spans cdCover_spans ctCover_spans), slCover_spans⟩) (cCover_spans : PySem.W.codeIn K cdCover_spans "Cover.spans" = true) (kCover_spans : PySem.W.keepIn K (.ref fCover_spans) = true)
    {fCover_window : Addr} {odCover_window anCover_window : Option Addr} {slCover_window : Array (Option Value)} {ocCover_window kVCover_window dcCover_window pmCover_window cdCover_window ctCover_window : Value}
    (a_Cover_window : PySem.W.findIn K (.ref C_Cover) "window" = some (some (.ref fCover_window)))
    (iCover_window : PySem.W.isFn K (.ref fCover_window) = true) (lCover_window : K.lookup fCover_window = some ⟨ocCover_window, odCover_window, .func (PySem.W.fnOf "window" "Cover.window" (defArgs s_Cover_window) (defBody s_Cover_window) (defScope s_Cover_window) .none kVCover_window dcCover_window pmCover_window anCover_window cdCover_window ctCover_window), slCover_window⟩) (cCover_window : PySem.W.codeIn K cdCover_window "Cover.window" = true) (kCover_window : PySem.W.keepIn K (.ref fCover_window) = true)
    {fCover_parts : Addr} {odCover_parts anCover_parts : Option Addr} {slCover_parts : Array (Option Value)} {ocCover_parts kVCover_parts dcCover_parts pmCover_parts cdCover_parts ctCover_parts : Value}
    (a_Cover_parts : PySem.W.findIn K (.ref C_Cover) "parts" = some (some (.ref fCover_parts)))
    (iCover_parts : PySem.W.isFn K (.ref fCover_parts) = true) (lCover_parts : K.lookup fCover_parts = some ⟨ocCover_parts, odCover_parts, .func (PySem.W.fnOf "parts" "Cover.parts" (defArgs s_Cover_parts) (defBody s_Cover_parts) (defScope s_Cover_parts) .none kVCover_parts dcCover_parts pmCover_parts anCover_parts cdCover_parts ctCover_parts), slCover_parts⟩) (cCover_parts : PySem.W.codeIn K cdCover_parts "Cover.parts" = true) (kCover_parts : PySem.W.keepIn K (.ref fCover_parts) = true)
    {fCover_rest : Addr} {odCover_rest anCover_rest : Option Addr} {slCover_rest : Array (Option Value)} {ocCover_rest kVCover_rest dcCover_rest pmCover_rest cdCover_rest ctCover_rest : Value}
    (a_Cover_rest : PySem.W.findIn K (.ref C_Cover) "rest" = some (some (.ref fCover_rest)))
    (iCover_rest : PySem.W.isFn K (.ref fCover_rest) = true) (lCover_rest : K.lookup fCover_rest = some ⟨ocCover_rest, odCover_rest, .func (PySem.W.fnOf "rest" "Cover.rest" (defArgs s_Cover_rest) (defBody s_Cover_rest) (defScope s_Cover_rest) .none kVCover_rest dcCover_rest pmCover_rest anCover_rest cdCover_rest ctCover_rest), slCover_rest⟩) (cCover_rest : PySem.W.codeIn K cdCover_rest "Cover.rest" = true) (kCover_rest : PySem.W.keepIn K (.ref fCover_rest) = true)
    (a_Own_room : PySem.W.findIn K (.ref C_Own) "room" = some (some (.ref fClause_room)))
    (a_Layer_room : PySem.W.findIn K (.ref C_Layer) "room" = some (some (.ref fClause_room)))
    (a_Limit_span : PySem.W.findIn K (.ref C_Limit) "span" = some (some (.ref fClause_span)))
    (bg_Clause___init__ : PySem.W.specialIn K (.ref C_Clause) "__getattribute__" = some (some (.builtin "type.__getattribute__"))) (br_Clause___init__ : PySem.W.readsIn K C_Clause (.type "type") = true) (bf_Clause___init__ : PySem.W.findCls K (.ref C_Clause) (.type "type") "__init__" = some (.val (.ref fClause___init__)))
    (ni_Condition : PySem.W.findIn K (.ref C_Condition) "__init__" = some (some (.builtin "object.__init__")))
    {w_WAYS : Addr} {nw_WAYS : Nat} {tk_WAYS0 tk_WAYS1 tk_WAYS2 tk_WAYS3 : Tok} (z_WAYS : PySem.W.nsIn K mainGlobals "WAYS" = some (some (.ref w_WAYS))) (lw_WAYS : K.lookup w_WAYS = some ⟨.type "tuple", none, .seq #[.str "event" tk_WAYS0, .str "thing" tk_WAYS1, .str "year" tk_WAYS2, .str "loss" tk_WAYS3] nw_WAYS, #[]⟩)
    {tk_COVERED_ONE : Tok} (z_COVERED_ONE : PySem.W.nsIn K mainGlobals "COVERED_ONE" = some (some (.str "self" tk_COVERED_ONE)))
    {tk_LETTERS : Tok} (z_LETTERS : PySem.W.nsIn K mainGlobals "LETTERS" = some (some (.str "abcdefghijklmnopqrstuvwxyz" tk_LETTERS)))
    {tk_LONGEST_NAME : Tok} (z_LONGEST_NAME : PySem.W.nsIn K mainGlobals "LONGEST_NAME" = some (some (.int 8 tk_LONGEST_NAME)))
    {tk_MOST_CENTS : Tok} (z_MOST_CENTS : PySem.W.nsIn K mainGlobals "MOST_CENTS" = some (some (.int 999999999999 tk_MOST_CENTS)))
    {tk_MOST_CLAUSES : Tok} (z_MOST_CLAUSES : PySem.W.nsIn K mainGlobals "MOST_CLAUSES" = some (some (.int 8 tk_MOST_CLAUSES)))
    {tk_MOST_PLACES : Tok} (z_MOST_PLACES : PySem.W.nsIn K mainGlobals "MOST_PLACES" = some (some (.int 8 tk_MOST_PLACES)))
    {tk_MOST_TURNS : Tok} (z_MOST_TURNS : PySem.W.nsIn K mainGlobals "MOST_TURNS" = some (some (.int 100 tk_MOST_TURNS)))
    (z_bool : PySem.W.nsIn K mainGlobals "bool" = some none)
    (z_enumerate : PySem.W.nsIn K mainGlobals "enumerate" = some none)
    (z_int : PySem.W.nsIn K mainGlobals "int" = some none)
    (z_isinstance : PySem.W.nsIn K mainGlobals "isinstance" = some none)
    (z_len : PySem.W.nsIn K mainGlobals "len" = some none)
    (z_list : PySem.W.nsIn K mainGlobals "list" = some none)
    (z_max : PySem.W.nsIn K mainGlobals "max" = some none)
    (z_min : PySem.W.nsIn K mainGlobals "min" = some none)
    (z_range : PySem.W.nsIn K mainGlobals "range" = some none)
    (z_set : PySem.W.nsIn K mainGlobals "set" = some none)
    (z_sorted : PySem.W.nsIn K mainGlobals "sorted" = some none)
    (z_str : PySem.W.nsIn K mainGlobals "str" = some none)
    (z_sum : PySem.W.nsIn K mainGlobals "sum" = some none)
    (z_zip : PySem.W.nsIn K mainGlobals "zip" = some none) :
    ∃ fd : FuncData, (∀ (s : Shared) (v : Value), BindsTo s fd ⟨[v], []⟩ [("_law_script", v)]) ∧ ∀ base : Heap, K.In base → base.Ns mainGlobals mg → FnOk l.prog w K mg base CX0 8 fa fd ["_law_script"] (spLaw K) := by
  have e := hfa.symm.trans (PySem.W.mg_of X G a24)
  cases e
  have F0 := fun_mk (st := s_is_whole) l0 c0 k0
  have B0 := F0.binds (ps := ["thing"]) fun _ _ _ _ _ _ us hl => match us, hl with | [_], _ => rfl
  have D_is_whole : Def K mg "is_whole" s_is_whole ["thing"] := ⟨f0, _, F0, B0, PySem.W.mg_of X G a0⟩
  have F1 := fun_mk (st := s_has_letters_alone) l1 c1 k1
  have B1 := F1.binds (ps := ["text"]) fun _ _ _ _ _ _ us hl => match us, hl with | [_], _ => rfl
  have D_has_letters_alone : Def K mg "has_letters_alone" s_has_letters_alone ["text"] := ⟨f1, _, F1, B1, PySem.W.mg_of X G a1⟩
  have F2 := fun_mk (st := s_is_name) l2 c2 k2
  have B2 := F2.binds (ps := ["thing"]) fun _ _ _ _ _ _ us hl => match us, hl with | [_], _ => rfl
  have D_is_name : Def K mg "is_name" s_is_name ["thing"] := ⟨f2, _, F2, B2, PySem.W.mg_of X G a2⟩
  have F3 := fun_mk (st := s_is_amount) l3 c3 k3
  have B3 := F3.binds (ps := ["thing"]) fun _ _ _ _ _ _ us hl => match us, hl with | [_], _ => rfl
  have D_is_amount : Def K mg "is_amount" s_is_amount ["thing"] := ⟨f3, _, F3, B3, PySem.W.mg_of X G a3⟩
  have F4 := fun_mk (st := s_are_weights) l4 c4 k4
  have B4 := F4.binds (ps := ["thing"]) fun _ _ _ _ _ _ us hl => match us, hl with | [_], _ => rfl
  have D_are_weights : Def K mg "are_weights" s_are_weights ["thing"] := ⟨f4, _, F4, B4, PySem.W.mg_of X G a4⟩
  have F5 := fun_mk (st := s_may_have) l5 c5 k5
  have B5 := F5.binds (ps := ["weight", "dealt", "total", "turn"]) fun _ _ _ _ _ _ us hl => match us, hl with | [_, _, _, _], _ => rfl
  have D_may_have : Def K mg "may_have" s_may_have ["weight", "dealt", "total", "turn"] := ⟨f5, _, F5, B5, PySem.W.mg_of X G a5⟩
  have F6 := fun_mk (st := s_due_by) l6 c6 k6
  have B6 := F6.binds (ps := ["weight", "dealt", "total"]) fun _ _ _ _ _ _ us hl => match us, hl with | [_, _, _], _ => rfl
  have D_due_by : Def K mg "due_by" s_due_by ["weight", "dealt", "total"] := ⟨f6, _, F6, B6, PySem.W.mg_of X G a6⟩
  have F7 := fun_mk (st := s_place_of_turn) l7 c7 k7
  have B7 := F7.binds (ps := ["weights", "dealt", "turn"]) fun _ _ _ _ _ _ us hl => match us, hl with | [_, _, _], _ => rfl
  have D_place_of_turn : Def K mg "place_of_turn" s_place_of_turn ["weights", "dealt", "turn"] := ⟨f7, _, F7, B7, PySem.W.mg_of X G a7⟩
  have F8 := fun_mk (st := s_turns) l8 c8 k8
  have B8 := F8.binds (ps := ["weights"]) fun _ _ _ _ _ _ us hl => match us, hl with | [_], _ => rfl
  have D_turns : Def K mg "turns" s_turns ["weights"] := ⟨f8, _, F8, B8, PySem.W.mg_of X G a8⟩
  have F9 := fun_mk (st := s_check_houses) l9 c9 k9
  have B9 := F9.binds (ps := ["houses"]) fun _ _ _ _ _ _ us hl => match us, hl with | [_], _ => rfl
  have D_check_houses : Def K mg "check_houses" s_check_houses ["houses"] := ⟨f9, _, F9, B9, PySem.W.mg_of X G a9⟩
  have F10 := fun_mk (st := s_first_without) l10 c10 k10
  have B10 := F10.binds (ps := ["spans", "cent"]) fun _ _ _ _ _ _ us hl => match us, hl with | [_, _], _ => rfl
  have D_first_without : Def K mg "first_without" s_first_without ["spans", "cent"] := ⟨f10, _, F10, B10, PySem.W.mg_of X G a10⟩
  have F11 := fun_mk (st := s_bounds_of) l11 c11 k11
  have B11 := F11.binds (ps := ["spans", "cents"]) fun _ _ _ _ _ _ us hl => match us, hl with | [_, _], _ => rfl
  have D_bounds_of : Def K mg "bounds_of" s_bounds_of ["spans", "cents"] := ⟨f11, _, F11, B11, PySem.W.mg_of X G a11⟩
  have F12 := fun_mk (st := s_checked_amount) l12 c12 k12
  have B12 := F12.binds (ps := ["thing"]) fun _ _ _ _ _ _ us hl => match us, hl with | [_], _ => rfl
  have D_checked_amount : Def K mg "checked_amount" s_checked_amount ["thing"] := ⟨f12, _, F12, B12, PySem.W.mg_of X G a12⟩
  have F13 := fun_mk (st := s_cent_at) l13 c13 k13
  have B13 := F13.binds (ps := ["bound", "count", "cents"]) fun _ _ _ _ _ _ us hl => match us, hl with | [_, _, _], _ => rfl
  have D_cent_at : Def K mg "cent_at" s_cent_at ["bound", "count", "cents"] := ⟨f13, _, F13, B13, PySem.W.mg_of X G a13⟩
  have F14 := fun_mk (st := s__law_cell) l14 c14 k14
  have B14 := F14.binds (ps := ["_law_script", "_law_k"]) fun _ _ _ _ _ _ us hl => match us, hl with | [_, _], _ => rfl
  have D__law_cell : Def K mg "_law_cell" s__law_cell ["_law_script", "_law_k"] := ⟨f14, _, F14, B14, PySem.W.mg_of X G a14⟩
  have F15 := fun_mk (st := s__law_amount) l15 c15 k15
  have B15 := F15.binds (ps := ["_law_cell_here", "_law_unit"]) fun _ _ _ _ _ _ us hl => match us, hl with | [_, _], _ => rfl
  have D__law_amount : Def K mg "_law_amount" s__law_amount ["_law_cell_here", "_law_unit"] := ⟨f15, _, F15, B15, PySem.W.mg_of X G a15⟩
  have F16 := fun_mk (st := s__law_count) l16 c16 k16
  have B16 := F16.binds (ps := ["_law_cell_here", "_law_unit"]) fun _ _ _ _ _ _ us hl => match us, hl with | [_, _], _ => rfl
  have D__law_count : Def K mg "_law_count" s__law_count ["_law_cell_here", "_law_unit"] := ⟨f16, _, F16, B16, PySem.W.mg_of X G a16⟩
  have F17 := fun_mk (st := s__law_row) l17 c17 k17
  have B17 := F17.binds (ps := ["_law_script", "_law_at", "_law_unit"]) fun _ _ _ _ _ _ us hl => match us, hl with | [_, _, _], _ => rfl
  have D__law_row : Def K mg "_law_row" s__law_row ["_law_script", "_law_at", "_law_unit"] := ⟨f17, _, F17, B17, PySem.W.mg_of X G a17⟩
  have F18 := fun_mk (st := s__law_clause) l18 c18 k18
  have B18 := F18.binds (ps := ["_law_row_here"]) fun _ _ _ _ _ _ us hl => match us, hl with | [_], _ => rfl
  have D__law_clause : Def K mg "_law_clause" s__law_clause ["_law_row_here"] := ⟨f18, _, F18, B18, PySem.W.mg_of X G a18⟩
  have F19 := fun_mk (st := s__law_paid) l19 c19 k19
  have B19 := F19.binds (ps := ["_law_cover", "_law_counts", "_law_cents"]) fun _ _ _ _ _ _ us hl => match us, hl with | [_, _, _], _ => rfl
  have D__law_paid : Def K mg "_law_paid" s__law_paid ["_law_cover", "_law_counts", "_law_cents"] := ⟨f19, _, F19, B19, PySem.W.mg_of X G a19⟩
  have F20 := fun_mk (st := s__law_put) l20 c20 k20
  have B20 := F20.binds (ps := ["_law_parts", "_law_more", "_law_by"]) fun _ _ _ _ _ _ us hl => match us, hl with | [_, _, _], _ => rfl
  have D__law_put : Def K mg "_law_put" s__law_put ["_law_parts", "_law_more", "_law_by"] := ⟨f20, _, F20, B20, PySem.W.mg_of X G a20⟩
  have F21 := fun_mk (st := s__law_behind) l21 c21 k21
  have B21 := F21.binds (ps := ["_law_rows", "_law_counts", "_law_cents", "_law_paid_here"]) fun _ _ _ _ _ _ us hl => match us, hl with | [_, _, _, _], _ => rfl
  have D__law_behind : Def K mg "_law_behind" s__law_behind ["_law_rows", "_law_counts", "_law_cents", "_law_paid_here"] := ⟨f21, _, F21, B21, PySem.W.mg_of X G a21⟩
  have F22 := fun_mk (st := s__law_rest_left) l22 c22 k22
  have B22 := F22.binds (ps := ["_law_first", "_law_rest", "_law_paid_here"]) fun _ _ _ _ _ _ us hl => match us, hl with | [_, _, _], _ => rfl
  have D__law_rest_left : Def K mg "_law_rest_left" s__law_rest_left ["_law_first", "_law_rest", "_law_paid_here"] := ⟨f22, _, F22, B22, PySem.W.mg_of X G a22⟩
  have F23 := fun_mk (st := s__law_cut_off) l23 c23 k23
  have B23 := F23.binds (ps := ["_law_whole", "_law_told", "_law_at", "_law_cents"]) fun _ _ _ _ _ _ us hl => match us, hl with | [_, _, _, _], _ => rfl
  have D__law_cut_off : Def K mg "_law_cut_off" s__law_cut_off ["_law_whole", "_law_told", "_law_at", "_law_cents"] := ⟨f23, _, F23, B23, PySem.W.mg_of X G a23⟩
  have F24 := fun_mk (st := s_law) l24 c24 k24
  have B24 := F24.binds (ps := ["_law_script"]) fun _ _ _ _ _ _ us hl => match us, hl with | [_], _ => rfl
  have F_Clause___init__ := fun_mk (x := "__init__") (qual := "Clause.__init__") (st := s_Clause___init__) lClause___init__ cClause___init__ kClause___init__
  have B_Clause___init__ := F_Clause___init__.binds (ps := ["self", "by"]) fun _ _ _ _ _ _ us hl => match us, hl with | [_, _], _ => rfl
  have F_Clause_span := fun_mk (x := "span") (qual := "Clause.span") (st := s_Clause_span) lClause_span cClause_span kClause_span
  have B_Clause_span := F_Clause_span.binds (ps := ["self", "count", "cents"]) fun _ _ _ _ _ _ us hl => match us, hl with | [_, _, _], _ => rfl
  have F_Clause_room := fun_mk (x := "room") (qual := "Clause.room") (st := s_Clause_room) lClause_room cClause_room kClause_room
  have B_Clause_room := F_Clause_room.binds (ps := ["self", "paid"]) fun _ _ _ _ _ _ us hl => match us, hl with | [_, _], _ => rfl
  have F_Own___init__ := fun_mk (x := "__init__") (qual := "Own.__init__") (st := s_Own___init__) lOwn___init__ cOwn___init__ kOwn___init__
  have B_Own___init__ := F_Own___init__.binds (ps := ["self", "by", "cents"]) fun _ _ _ _ _ _ us hl => match us, hl with | [_, _, _], _ => rfl
  have F_Own_span := fun_mk (x := "span") (qual := "Own.span") (st := s_Own_span) lOwn_span cOwn_span kOwn_span
  have B_Own_span := F_Own_span.binds (ps := ["self", "count", "cents"]) fun _ _ _ _ _ _ us hl => match us, hl with | [_, _, _], _ => rfl
  have F_Layer___init__ := fun_mk (x := "__init__") (qual := "Layer.__init__") (st := s_Layer___init__) lLayer___init__ cLayer___init__ kLayer___init__
  have B_Layer___init__ := F_Layer___init__.binds (ps := ["self", "by", "first", "upto"]) fun _ _ _ _ _ _ us hl => match us, hl with | [_, _, _, _], _ => rfl
  have F_Layer_span := fun_mk (x := "span") (qual := "Layer.span") (st := s_Layer_span) lLayer_span cLayer_span kLayer_span
  have B_Layer_span := F_Layer_span.binds (ps := ["self", "count", "cents"]) fun _ _ _ _ _ _ us hl => match us, hl with | [_, _, _], _ => rfl
  have F_Limit___init__ := fun_mk (x := "__init__") (qual := "Limit.__init__") (st := s_Limit___init__) lLimit___init__ cLimit___init__ kLimit___init__
  have B_Limit___init__ := F_Limit___init__.binds (ps := ["self", "by", "most"]) fun _ _ _ _ _ _ us hl => match us, hl with | [_, _, _], _ => rfl
  have F_Limit_room := fun_mk (x := "room") (qual := "Limit.room") (st := s_Limit_room) lLimit_room cLimit_room kLimit_room
  have B_Limit_room := F_Limit_room.binds (ps := ["self", "paid"]) fun _ _ _ _ _ _ us hl => match us, hl with | [_, _], _ => rfl
  have F_Deal___init__ := fun_mk (x := "__init__") (qual := "Deal.__init__") (st := s_Deal___init__) lDeal___init__ cDeal___init__ kDeal___init__
  have B_Deal___init__ := F_Deal___init__.binds (ps := ["self", "weights"]) fun _ _ _ _ _ _ us hl => match us, hl with | [_, _], _ => rfl
  have F_Cover___init__ := funD_mk (x := "__init__") (qual := "Cover.__init__") (st := s_Cover___init__) lCover___init__ cCover___init__ kCover___init__
  have B_Cover___init__ : Binds K _ ["self", "name", "condition", "clauses", "houses", "waits"] [] := fun s us X hl => by
    rw [List.append_nil] at hl ⊢
    match us, hl with | [_, _, _, _, _, _], _ => exact BindsTo.of_defaults (fd := PySem.W.fnOf "__init__" "Cover.__init__" (defArgs s_Cover___init__) (defBody s_Cover___init__) (defScope s_Cover___init__) (.ref dvCover___init__) kVCover___init__ dcCover___init__ pmCover___init__ anCover___init__ cdCover___init__ ctCover___init__) rfl (X _ _ dlCover___init__) rfl rfl rfl
  have F_Cover_spans := fun_mk (x := "spans") (qual := "Cover.spans") (st := s_Cover_spans) lCover_spans cCover_spans kCover_spans
  have B_Cover_spans := F_Cover_spans.binds (ps := ["self", "counts", "cents"]) fun _ _ _ _ _ _ us hl => match us, hl with | [_, _, _], _ => rfl
  have F_Cover_window := fun_mk (x := "window") (qual := "Cover.window") (st := s_Cover_window) lCover_window cCover_window kCover_window
  have B_Cover_window := F_Cover_window.binds (ps := ["self", "counts", "cents"]) fun _ _ _ _ _ _ us hl => match us, hl with | [_, _, _], _ => rfl
  have F_Cover_parts := fun_mk (x := "parts") (qual := "Cover.parts") (st := s_Cover_parts) lCover_parts cCover_parts kCover_parts
  have B_Cover_parts := F_Cover_parts.binds (ps := ["self", "counts", "cents"]) fun _ _ _ _ _ _ us hl => match us, hl with | [_, _, _], _ => rfl
  have F_Cover_rest := fun_mk (x := "rest") (qual := "Cover.rest") (st := s_Cover_rest) lCover_rest cCover_rest kCover_rest
  have B_Cover_rest := F_Cover_rest.binds (ps := ["self", "counts"]) fun _ _ _ _ _ _ us hl => match us, hl with | [_, _], _ => rfl
  have H_Clause_make : Mk K C_Clause fClause___init__ := ⟨mk_Clause, a_Clause___init__, iClause___init__, kc_Clause⟩
  have H_Clause_span : Meth K C_Clause "span" fClause_span := ⟨a_Clause_span, iClause_span, kClause_span⟩
  have H_Clause_room : Meth K C_Clause "room" fClause_room := ⟨a_Clause_room, iClause_room, kClause_room⟩
  have H_Own_make : Mk K C_Own fOwn___init__ := ⟨mk_Own, a_Own___init__, iOwn___init__, kc_Own⟩
  have H_Own_span : Meth K C_Own "span" fOwn_span := ⟨a_Own_span, iOwn_span, kOwn_span⟩
  have H_Own_room : Meth K C_Own "room" fClause_room := ⟨a_Own_room, iClause_room, kClause_room⟩
  have H_Layer_make : Mk K C_Layer fLayer___init__ := ⟨mk_Layer, a_Layer___init__, iLayer___init__, kc_Layer⟩
  have H_Layer_span : Meth K C_Layer "span" fLayer_span := ⟨a_Layer_span, iLayer_span, kLayer_span⟩
  have H_Layer_room : Meth K C_Layer "room" fClause_room := ⟨a_Layer_room, iClause_room, kClause_room⟩
  have H_Limit_make : Mk K C_Limit fLimit___init__ := ⟨mk_Limit, a_Limit___init__, iLimit___init__, kc_Limit⟩
  have H_Limit_span : Meth K C_Limit "span" fClause_span := ⟨a_Limit_span, iClause_span, kClause_span⟩
  have H_Limit_room : Meth K C_Limit "room" fLimit_room := ⟨a_Limit_room, iLimit_room, kLimit_room⟩
  have H_Deal_make : Mk K C_Deal fDeal___init__ := ⟨mk_Deal, a_Deal___init__, iDeal___init__, kc_Deal⟩
  have H_Cover_make : Mk K C_Cover fCover___init__ := ⟨mk_Cover, a_Cover___init__, iCover___init__, kc_Cover⟩
  have H_Cover_spans : Meth K C_Cover "spans" fCover_spans := ⟨a_Cover_spans, iCover_spans, kCover_spans⟩
  have H_Cover_window : Meth K C_Cover "window" fCover_window := ⟨a_Cover_window, iCover_window, kCover_window⟩
  have H_Cover_parts : Meth K C_Cover "parts" fCover_parts := ⟨a_Cover_parts, iCover_parts, kCover_parts⟩
  have H_Cover_rest : Meth K C_Cover "rest" fCover_rest := ⟨a_Cover_rest, iCover_rest, kCover_rest⟩
  have Z_Clause___init__ : BMeth K C_Clause "__init__" fClause___init__ := ⟨bg_Clause___init__, br_Clause___init__, bf_Clause___init__, kClause___init__⟩
  have NCondition : Mk0 K mg "Condition" C_Condition := ⟨mk_Condition, ni_Condition, kc_Condition, PySem.W.mg_of X G q_Condition⟩
  have L : Kl K mg C_Clause C_Own C_Layer C_Limit C_Deal C_Cover C_Condition := ⟨PySem.W.mg_of X G q_Clause, ⟨pg_Clause, hd_Clause, po_Clause, sa_Clause⟩, na_Clause_by, PySem.W.mg_of X G q_Own, ⟨pg_Own, hd_Own, po_Own, sa_Own⟩, na_Own_cents, na_Own_by, PySem.W.mg_of X G q_Layer, ⟨pg_Layer, hd_Layer, po_Layer, sa_Layer⟩, na_Layer_first, na_Layer_upto, na_Layer_by, PySem.W.mg_of X G q_Limit, ⟨pg_Limit, hd_Limit, po_Limit, sa_Limit⟩, na_Limit_most, na_Limit_by, PySem.W.mg_of X G q_Deal, ⟨pg_Deal, hd_Deal, po_Deal, sa_Deal⟩, na_Deal_wheel, na_Deal_weights, PySem.W.mg_of X G q_Cover, ⟨pg_Cover, hd_Cover, po_Cover, sa_Cover⟩, na_Cover_name, na_Cover_condition, na_Cover_clauses, na_Cover_houses, na_Cover_deal, na_Cover_waits, PySem.W.mg_of X G q_Condition, ⟨pg_Condition, hd_Condition, po_Condition, sa_Condition⟩, nd_C⟩
  have T : Txt K mg := ⟨⟨tk_COVERED_ONE, PySem.W.mg_of X G z_COVERED_ONE⟩, ⟨tk_LETTERS, PySem.W.mg_of X G z_LETTERS⟩, ⟨tk_LONGEST_NAME, PySem.W.mg_of X G z_LONGEST_NAME⟩, ⟨tk_MOST_CENTS, PySem.W.mg_of X G z_MOST_CENTS⟩, ⟨tk_MOST_CLAUSES, PySem.W.mg_of X G z_MOST_CLAUSES⟩, ⟨tk_MOST_PLACES, PySem.W.mg_of X G z_MOST_PLACES⟩, ⟨tk_MOST_TURNS, PySem.W.mg_of X G z_MOST_TURNS⟩, PySem.W.mg_none_of X G z_bool, PySem.W.mg_none_of X G z_enumerate, PySem.W.mg_none_of X G z_int, PySem.W.mg_none_of X G z_isinstance, PySem.W.mg_none_of X G z_len, PySem.W.mg_none_of X G z_list, PySem.W.mg_none_of X G z_max, PySem.W.mg_none_of X G z_min, PySem.W.mg_none_of X G z_range, PySem.W.mg_none_of X G z_set, PySem.W.mg_none_of X G z_sorted, PySem.W.mg_none_of X G z_str, PySem.W.mg_none_of X G z_sum, PySem.W.mg_none_of X G z_zip, ⟨w_WAYS, PySem.W.mg_of X G z_WAYS, fun H => .inr ⟨_, _, _, lw_WAYS, rfl, rfl, by show 4 ≤ sizeLine; rw [sizeLine_eq]; decide, .cons ⟨_, rfl⟩ (.cons ⟨_, rfl⟩ (.cons ⟨_, rfl⟩ (.cons ⟨_, rfl⟩ (.nil))))⟩⟩⟩
  refine ⟨PySem.W.fnOf "law" "law" (defArgs s_law) (defBody s_law) (defScope s_law) .none kV24 dc24 pm24 an24 cd24 ct24, fun s v => .of_eq rfl, fun base _ _ => ?_⟩
  have Cis_whole : Cal l.prog w K mg base 1 "is_whole" ["thing"] (spWhole K) := D_is_whole.cal fun f fd F => ok_is_whole F T
  have Cis_amount : Cal l.prog w K mg base 2 "is_amount" ["thing"] (spInB K 999999999999) := D_is_amount.cal fun f fd F => ok_is_amount F T Cis_whole
  have Cchecked_amount : Cal l.prog w K mg base 3 "checked_amount" ["thing"] spChk := D_checked_amount.cal fun f fd F => ok_checked_amount F T Cis_amount
  have BClause___init__ : BCal l.prog w K mg base 2 "Clause" "__init__" ["self", "by"] (spCI C_Clause C_Own C_Layer C_Limit) := ⟨_, _, _, ok_Clause___init__ F_Clause___init__ T L, B_Clause___init__, Z_Clause___init__, L.mg_Clause⟩
  have KOwn : KCal l.prog w K mg base 4 "Own" C_Own ["self", "by", "cents"] (spOwn C_Clause C_Own C_Layer C_Limit) := ⟨_, _, H_Own_make, ok_Own___init__ F_Own___init__ T L BClause___init__ Cchecked_amount, B_Own___init__, L.mg_Own⟩
  have KLayer : KCal l.prog w K mg base 4 "Layer" C_Layer ["self", "by", "first", "upto"] (spLay C_Clause C_Own C_Layer C_Limit) := ⟨_, _, H_Layer_make, ok_Layer___init__ F_Layer___init__ T L BClause___init__ Cchecked_amount, B_Layer___init__, L.mg_Layer⟩
  have KLimit : KCal l.prog w K mg base 4 "Limit" C_Limit ["self", "by", "most"] (spLim C_Clause C_Own C_Layer C_Limit) := ⟨_, _, H_Limit_make, ok_Limit___init__ F_Limit___init__ T L BClause___init__ Cchecked_amount, B_Limit___init__, L.mg_Limit⟩
  have Ccent_at : Cal l.prog w K mg base 1 "cent_at" ["bound", "count", "cents"] spCent := D_cent_at.cal fun f fd F => ok_cent_at F T
  have Mroom : MFam l.prog w K mg base 1 (Fam C_Clause C_Own C_Layer C_Limit) "room" ["self", "paid"] (spRoom C_Clause C_Own C_Layer C_Limit) := ⟨fun C hC => by
    rcases hC with rfl | rfl | rfl | rfl
    · exact ⟨⟨_, _, ok_Clause_room F_Clause_room T (fun c h n => by obtain ⟨y, rfl⟩ := cls_any L h; rfl), B_Clause_room, H_Clause_room⟩, L.cl_Clause⟩
    · exact ⟨⟨_, _, ok_Clause_room F_Clause_room T (fun c h n => by obtain ⟨y, d, rfl⟩ := cls_own L h; rfl), B_Clause_room, H_Own_room⟩, L.cl_Own⟩
    · exact ⟨⟨_, _, ok_Clause_room F_Clause_room T (fun c h n => by obtain ⟨y, a, b, rfl⟩ := cls_lay L h; rfl), B_Clause_room, H_Layer_room⟩, L.cl_Layer⟩
    · exact ⟨⟨_, _, ok_Limit_room F_Limit_room T L, B_Limit_room, H_Limit_room⟩, L.cl_Limit⟩⟩
  have Mspan : MFam l.prog w K mg base 2 (Fam C_Clause C_Own C_Layer C_Limit) "span" ["self", "count", "cents"] (spSpan C_Clause C_Own C_Layer C_Limit) := ⟨fun C hC => by
    rcases hC with rfl | rfl | rfl | rfl
    · exact ⟨⟨_, _, ok_Clause_span F_Clause_span T (fun c h n k => by obtain ⟨y, rfl⟩ := cls_any L h; exact ⟨rfl, rfl⟩), B_Clause_span, H_Clause_span⟩, L.cl_Clause⟩
    · exact ⟨⟨_, _, ok_Own_span F_Own_span T L Ccent_at, B_Own_span, H_Own_span⟩, L.cl_Own⟩
    · exact ⟨⟨_, _, ok_Layer_span F_Layer_span T L Ccent_at, B_Layer_span, H_Layer_span⟩, L.cl_Layer⟩
    · exact ⟨⟨_, _, ok_Clause_span F_Clause_span T (fun c h n k => by obtain ⟨y, m, rfl⟩ := cls_lim L h; exact ⟨rfl, rfl⟩), B_Clause_span, H_Limit_span⟩, L.cl_Limit⟩⟩
  have Care_weights : Cal l.prog w K mg base 2 "are_weights" ["thing"] spWeights := D_are_weights.cal fun f fd F => ok_are_weights F T Cis_whole
  have Cmay_have : Cal l.prog w K mg base 1 "may_have" ["weight", "dealt", "total", "turn"] spMay := D_may_have.cal fun f fd F => ok_may_have F T
  have Cdue_by : Cal l.prog w K mg base 1 "due_by" ["weight", "dealt", "total"] spDue := D_due_by.cal fun f fd F => ok_due_by F T
  have Cplace_of_turn : Cal l.prog w K mg base 2 "place_of_turn" ["weights", "dealt", "turn"] spPlace := D_place_of_turn.cal fun f fd F => ok_place_of_turn F T Cmay_have Cdue_by
  have Cturns : Cal l.prog w K mg base 3 "turns" ["weights"] spTurns := D_turns.cal fun f fd F => ok_turns F T Care_weights Cplace_of_turn
  have DL : Dl K C_Deal := ⟨L.cl_Deal, L.na_Deal_wheel, L.na_Deal_weights⟩
  have KDeal : KCal l.prog w K mg base 4 "Deal" C_Deal ["self", "weights"] (spInit C_Deal) := ⟨_, _, H_Deal_make, ok_Deal___init__ F_Deal___init__ T DL Cturns, B_Deal___init__, L.mg_Deal⟩
  have Chas_letters_alone : Cal l.prog w K mg base 1 "has_letters_alone" ["text"] spLet := D_has_letters_alone.cal fun f fd F => ok_has_letters_alone F T
  have Cis_name : Cal l.prog w K mg base 2 "is_name" ["thing"] (spName K) := D_is_name.cal fun f fd F => ok_is_name F T Chas_letters_alone
  have Ccheck_houses : Cal l.prog w K mg base 3 "check_houses" ["houses"] spHouses := D_check_houses.cal fun f fd F => ok_check_houses F T Cis_name
  have BD4 : Binds K (PySem.W.fnOf "__init__" "Cover.__init__" (defArgs s_Cover___init__) (defBody s_Cover___init__) (defScope s_Cover___init__) (.ref dvCover___init__) kVCover___init__ dcCover___init__ pmCover___init__ anCover___init__ cdCover___init__ ctCover___init__) ["self", "name", "condition", "clauses", "houses", "waits"] [.none, .bool false] := fun s us X hl => by
    have hl' : us.length = 4 := by simpa using hl
    match us, hl' with | [_, _, _, _], _ => exact BindsTo.of_defaults rfl (X _ _ dlCover___init__) rfl rfl rfl
  have KCover : KCalD l.prog w K mg base 6 "Cover" C_Cover ["self", "name", "condition", "clauses", "houses", "waits"] [.non, .bl false] (spCover C_Cover) := ⟨_, _, [.none, .bool false], H_Cover_make, ok_Cover___init__ F_Cover___init__ T L Cis_name Ccheck_houses KDeal, BD4, .cons rfl (.cons rfl .nil), L.mg_Cover⟩
  have Cfirst_without : Cal l.prog w K mg base 1 "first_without" ["spans", "cent"] spFW := D_first_without.cal fun f fd F => ok_first_without F T
  have Cbounds_of : Cal l.prog w K mg base 1 "bounds_of" ["spans", "cents"] spBnd := D_bounds_of.cal fun f fd F => ok_bounds_of F T
  have Mspans : MCal l.prog w K mg base 3 C_Cover "spans" ["self", "counts", "cents"] (spSpans C_Clause C_Own C_Layer C_Limit C_Cover) := ⟨⟨_, _, ok_Cover_spans F_Cover_spans T L Mspan, B_Cover_spans, H_Cover_spans⟩, L.cl_Cover⟩
  have Mwindow : MCal l.prog w K mg base 4 C_Cover "window" ["self", "counts", "cents"] (spWin C_Clause C_Own C_Layer C_Limit C_Cover) := ⟨⟨_, _, ok_Cover_window F_Cover_window T L Mspans, B_Cover_window, H_Cover_window⟩, L.cl_Cover⟩
  have Mparts : MCal l.prog w K mg base 4 C_Cover "parts" ["self", "counts", "cents"] (spPts C_Clause C_Own C_Layer C_Limit C_Cover) := ⟨⟨_, _, ok_Cover_parts F_Cover_parts T L Mspans Cbounds_of Cfirst_without, B_Cover_parts, H_Cover_parts⟩, L.cl_Cover⟩
  have Mrest : MCal l.prog w K mg base 2 C_Cover "rest" ["self", "counts"] (spRest C_Clause C_Own C_Layer C_Limit C_Cover) := ⟨⟨_, _, ok_Cover_rest F_Cover_rest T L Mroom, B_Cover_rest, H_Cover_rest⟩, L.cl_Cover⟩
  have C_law_cell : Cal l.prog w K mg base 1 "_law_cell" ["_law_script", "_law_k"] (spCell K) := D__law_cell.cal fun f fd F => ok__law_cell F T
  have C_law_amount : Cal l.prog w K mg base 1 "_law_amount" ["_law_cell_here", "_law_unit"] spAmt := D__law_amount.cal fun f fd F => ok__law_amount F T
  have C_law_count : Cal l.prog w K mg base 1 "_law_count" ["_law_cell_here", "_law_unit"] spCnt := D__law_count.cal fun f fd F => ok__law_count F T
  have C_law_row : Cal l.prog w K mg base 2 "_law_row" ["_law_script", "_law_at", "_law_unit"] (spRow K) := D__law_row.cal fun f fd F => ok__law_row F T C_law_cell C_law_amount C_law_count
  have C_law_clause : Cal l.prog w K mg base 6 "_law_clause" ["_law_row_here"] (spClause C_Clause C_Own C_Layer C_Limit) := D__law_clause.cal fun f fd F => ok__law_clause F T L KLimit KOwn KLayer
  have C_law_paid : Cal l.prog w K mg base 5 "_law_paid" ["_law_cover", "_law_counts", "_law_cents"] (spPaid C_Clause C_Own C_Layer C_Limit C_Cover) := D__law_paid.cal fun f fd F => ok__law_paid F T L Mwindow Mrest
  have C_law_put : Cal l.prog w K mg base 1 "_law_put" ["_law_parts", "_law_more", "_law_by"] spPut := D__law_put.cal fun f fd F => ok__law_put F T
  have C_law_behind : Cal l.prog w K mg base 1 "_law_behind" ["_law_rows", "_law_counts", "_law_cents", "_law_paid_here"] spBeh := D__law_behind.cal fun f fd F => ok__law_behind F T
  have C_law_rest_left : Cal l.prog w K mg base 1 "_law_rest_left" ["_law_first", "_law_rest", "_law_paid_here"] spLeft := D__law_rest_left.cal fun f fd F => ok__law_rest_left F T
  have C_law_cut_off : Cal l.prog w K mg base 1 "_law_cut_off" ["_law_whole", "_law_told", "_law_at", "_law_cents"] spOff := D__law_cut_off.cal fun f fd F => ok__law_cut_off F T
  exact ok_law F24 T L NCondition C_law_cell C_law_row C_law_clause C_law_paid C_law_put C_law_behind C_law_rest_left C_law_cut_off KCover Mwindow Mparts Mrest

theorem walk {l : PySem.W.OpenLaw} {q : Program} {loose : List Str} {XP : (Str → Option Value) → Heap → Prop} {YP : World → Heap → Prop} {d : DefRec} {K : Params → PySem.W.Frag} (hn : l.most = some 63) (hdf : d.params.defaults = [])
    (hY : ∀ (w : World) (h : Heap), YP w h → (K w.params).In h)
    (F : ∀ (w : World) (mg : Str → Option Value) (fa : Addr) (h : Heap), (K w.params).In h → h.Ns mainGlobals mg → mg d.name = some (.ref fa) →
      ∃ fd : FuncData, (∀ (s : Shared) (u : Value), BindsTo s fd ⟨[u], []⟩ [("_law_script", u)]) ∧ ∀ base : Heap, (K w.params).In base → base.Ns mainGlobals mg → FnOk l.prog w (K w.params) mg base CX0 8 fa fd ["_law_script"] (spLaw (K w.params))) :
    PySem.W.WalkO q loose XP YP l.row.toRowW d [] (fun f vs => PySem.call f vs) :=
  L2.walk_of (n := 63) (k := 8) (x := "_law_script") (CX := fun _ => CX0) (sp := fun w => spLaw (K w.params)) hn (by decide) hdf ⟨rfl, by decide, by decide⟩ hY F (fun _ _ a ns hl _ hS => ⟨a, ns, rfl, hS, hl, fun _ => rfl⟩) fun _ _ _ _ _ z => z
end CRL
open PySem PySem.W PyProof.Rows
def PySem.W.Fast.tw16627351497382883220 : Unit := ()
def PySem.W.Fast.tw11455415651042575385 : Unit := ()
def PySem.W.Fast.tw11445639477892093678 : Unit := ()
def PySem.W.Fast.tw4508616130516368242 : Unit := ()
def PySem.W.Fast.tw9949223640822558896 : Unit := ()
def PySem.W.Fast.tw9425715451763617002 : Unit := ()
def PySem.W.Fast.tw2948522569209086676 : Unit := ()
def PySem.W.Fast.tw5638686121891538594 : Unit := ()
def PySem.W.Fast.tw15277007946792289273 : Unit := ()
def PySem.W.Fast.tw1340493167805369721 : Unit := ()
def PySem.W.Fast.tw13053453168383514006 : Unit := ()
def PySem.W.Fast.tw4570710405013266065 : Unit := ()
def PySem.W.Fast.tw13989610463696728084 : Unit := ()
def PySem.W.Fast.tw17223916848174619060 : Unit := ()
set_option maxRecDepth 100000 in
set_option maxHeartbeats 0 in
theorem PySem.Challenge.cw_coverroll_k39_whole_a_loss_in_pieces_holds : PySem.Challenge.rw_coverroll_k39_whole_a_loss_in_pieces.Holds := by
  w_on; o_law; k_head; (case hw => w_witness2)
  k_fill
  refine CRL.walk (l := PySem.Challenge.rw_coverroll_k39_whole_a_loss_in_pieces) rfl rfl (fun w h Y => PySem.W.kIn_of Y) ?F
  case F =>
    intro w mg fa h KX G hmg
    refine' CRL.all_mk KX G hmg ?a0 ?l0 ?c0 ?k0 ?a1 ?l1 ?c1 ?k1 ?a2 ?l2 ?c2 ?k2 ?a3 ?l3 ?c3 ?k3 ?a4 ?l4 ?c4 ?k4 ?a5 ?l5 ?c5 ?k5 ?a6 ?l6 ?c6 ?k6 ?a7 ?l7 ?c7 ?k7 ?a8 ?l8 ?c8 ?k8 ?a9 ?l9 ?c9 ?k9 ?a10 ?l10 ?c10 ?k10 ?a11 ?l11 ?c11 ?k11 ?a12 ?l12 ?c12 ?k12 ?a13 ?l13 ?c13 ?k13 ?a14 ?l14 ?c14 ?k14 ?a15 ?l15 ?c15 ?k15 ?a16 ?l16 ?c16 ?k16 ?a17 ?l17 ?c17 ?k17 ?a18 ?l18 ?c18 ?k18 ?a19 ?l19 ?c19 ?k19 ?a20 ?l20 ?c20 ?k20 ?a21 ?l21 ?c21 ?k21 ?a22 ?l22 ?c22 ?k22 ?a23 ?l23 ?c23 ?k23 ?a24 ?l24 ?c24 ?k24 ?q_Clause ?pg_Clause ?hd_Clause ?po_Clause ?sa_Clause ?mk_Clause ?kc_Clause ?na_Clause_by ?q_Own ?pg_Own ?hd_Own ?po_Own ?sa_Own ?mk_Own ?kc_Own ?na_Own_cents ?na_Own_by ?q_Layer ?pg_Layer ?hd_Layer ?po_Layer ?sa_Layer ?mk_Layer ?kc_Layer ?na_Layer_first ?na_Layer_upto ?na_Layer_by ?q_Limit ?pg_Limit ?hd_Limit ?po_Limit ?sa_Limit ?mk_Limit ?kc_Limit ?na_Limit_most ?na_Limit_by ?q_Deal ?pg_Deal ?hd_Deal ?po_Deal ?sa_Deal ?mk_Deal ?kc_Deal ?na_Deal_wheel ?na_Deal_weights ?q_Cover ?pg_Cover ?hd_Cover ?po_Cover ?sa_Cover ?mk_Cover ?kc_Cover ?na_Cover_name ?na_Cover_condition ?na_Cover_clauses ?na_Cover_houses ?na_Cover_deal ?na_Cover_waits ?q_Condition ?pg_Condition ?hd_Condition ?po_Condition ?sa_Condition ?mk_Condition ?kc_Condition ?nd_C ?a_Clause___init__ ?iClause___init__ ?lClause___init__ ?cClause___init__ ?kClause___init__ ?a_Clause_span ?iClause_span ?lClause_span ?cClause_span ?kClause_span ?a_Clause_room ?iClause_room ?lClause_room ?cClause_room ?kClause_room ?a_Own___init__ ?iOwn___init__ ?lOwn___init__ ?cOwn___init__ ?kOwn___init__ ?a_Own_span ?iOwn_span ?lOwn_span ?cOwn_span ?kOwn_span ?a_Layer___init__ ?iLayer___init__ ?lLayer___init__ ?cLayer___init__ ?kLayer___init__ ?a_Layer_span ?iLayer_span ?lLayer_span ?cLayer_span ?kLayer_span ?a_Limit___init__ ?iLimit___init__ ?lLimit___init__ ?cLimit___init__ ?kLimit___init__ ?a_Limit_room ?iLimit_room ?lLimit_room ?cLimit_room ?kLimit_room ?a_Deal___init__ ?iDeal___init__ ?lDeal___init__ ?cDeal___init__ ?kDeal___init__ ?a_Cover___init__ ?iCover___init__ ?lCover___init__ ?cCover___init__ ?kCover___init__ ?dlCover___init__ ?a_Cover_spans ?iCover_spans ?lCover_spans ?cCover_spans ?kCover_spans ?a_Cover_window ?iCover_window ?lCover_window ?cCover_window ?kCover_window ?a_Cover_parts ?iCover_parts ?lCover_parts ?cCover_parts ?kCover_parts ?a_Cover_rest ?iCover_rest ?lCover_rest ?cCover_rest ?kCover_rest ?a_Own_room ?a_Layer_room ?a_Limit_span ?bg_Clause___init__ ?br_Clause___init__ ?bf_Clause___init__ ?ni_Condition ?z_WAYS ?lw_WAYS ?z_COVERED_ONE ?z_LETTERS ?z_LONGEST_NAME ?z_MOST_CENTS ?z_MOST_CLAUSES ?z_MOST_PLACES ?z_MOST_TURNS ?z_bool ?z_enumerate ?z_int ?z_isinstance ?z_len ?z_list ?z_max ?z_min ?z_range ?z_set ?z_sorted ?z_str ?z_sum ?z_zip
    (case a0 => k_is)
    (case l0 => k_is)
    (case c0 => k_is)
    (case k0 => k_is)
    (case a1 => k_is)
    (case l1 => k_is)
    (case c1 => k_is)
    (case k1 => k_is)
    (case a2 => k_is)
    (case l2 => k_is)
    (case c2 => k_is)
    (case k2 => k_is)
    (case a3 => k_is)
    (case l3 => k_is)
    (case c3 => k_is)
    (case k3 => k_is)
    (case a4 => k_is)
    (case l4 => k_is)
    (case c4 => k_is)
    (case k4 => k_is)
    (case a5 => k_is)
    (case l5 => k_is)
    (case c5 => k_is)
    (case k5 => k_is)
    (case a6 => k_is)
    (case l6 => k_is)
    (case c6 => k_is)
    (case k6 => k_is)
    (case a7 => k_is)
    (case l7 => k_is)
    (case c7 => k_is)
    (case k7 => k_is)
    (case a8 => k_is)
    (case l8 => k_is)
    (case c8 => k_is)
    (case k8 => k_is)
    (case a9 => k_is)
    (case l9 => k_is)
    (case c9 => k_is)
    (case k9 => k_is)
    (case a10 => k_is)
    (case l10 => k_is)
    (case c10 => k_is)
    (case k10 => k_is)
    (case a11 => k_is)
    (case l11 => k_is)
    (case c11 => k_is)
    (case k11 => k_is)
    (case a12 => k_is)
    (case l12 => k_is)
    (case c12 => k_is)
    (case k12 => k_is)
    (case a13 => k_is)
    (case l13 => k_is)
    (case c13 => k_is)
    (case k13 => k_is)
    (case a14 => k_is)
    (case l14 => k_is)
    (case c14 => k_is)
    (case k14 => k_is)
    (case a15 => k_is)
    (case l15 => k_is)
    (case c15 => k_is)
    (case k15 => k_is)
    (case a16 => k_is)
    (case l16 => k_is)
    (case c16 => k_is)
    (case k16 => k_is)
    (case a17 => k_is)
    (case l17 => k_is)
    (case c17 => k_is)
    (case k17 => k_is)
    (case a18 => k_is)
    (case l18 => k_is)
    (case c18 => k_is)
    (case k18 => k_is)
    (case a19 => k_is)
    (case l19 => k_is)
    (case c19 => k_is)
    (case k19 => k_is)
    (case a20 => k_is)
    (case l20 => k_is)
    (case c20 => k_is)
    (case k20 => k_is)
    (case a21 => k_is)
    (case l21 => k_is)
    (case c21 => k_is)
    (case k21 => k_is)
    (case a22 => k_is)
    (case l22 => k_is)
    (case c22 => k_is)
    (case k22 => k_is)
    (case a23 => k_is)
    (case l23 => k_is)
    (case c23 => k_is)
    (case k23 => k_is)
    (case a24 => k_is)
    (case l24 => k_is)
    (case c24 => k_is)
    (case k24 => k_is)
    (case q_Clause => k_is)
    (case pg_Clause => k_is)
    (case hd_Clause => k_is)
    (case po_Clause => k_is)
    (case sa_Clause => k_is)
    (case mk_Clause => k_is)
    (case kc_Clause => k_is)
    (case na_Clause_by => k_is)
    (case q_Own => k_is)
    (case pg_Own => k_is)
    (case hd_Own => k_is)
    (case po_Own => k_is)
    (case sa_Own => k_is)
    (case mk_Own => k_is)
    (case kc_Own => k_is)
    (case na_Own_cents => k_is)
    (case na_Own_by => k_is)
    (case q_Layer => k_is)
    (case pg_Layer => k_is)
    (case hd_Layer => k_is)
    (case po_Layer => k_is)
    (case sa_Layer => k_is)
    (case mk_Layer => k_is)
    (case kc_Layer => k_is)
    (case na_Layer_first => k_is)
    (case na_Layer_upto => k_is)
    (case na_Layer_by => k_is)
    (case q_Limit => k_is)
    (case pg_Limit => k_is)
    (case hd_Limit => k_is)
    (case po_Limit => k_is)
    (case sa_Limit => k_is)
    (case mk_Limit => k_is)
    (case kc_Limit => k_is)
    (case na_Limit_most => k_is)
    (case na_Limit_by => k_is)
    (case q_Deal => k_is)
    (case pg_Deal => k_is)
    (case hd_Deal => k_is)
    (case po_Deal => k_is)
    (case sa_Deal => k_is)
    (case mk_Deal => k_is)
    (case kc_Deal => k_is)
    (case na_Deal_wheel => k_is)
    (case na_Deal_weights => k_is)
    (case q_Cover => k_is)
    (case pg_Cover => k_is)
    (case hd_Cover => k_is)
    (case po_Cover => k_is)
    (case sa_Cover => k_is)
    (case mk_Cover => k_is)
    (case kc_Cover => k_is)
    (case na_Cover_name => k_is)
    (case na_Cover_condition => k_is)
    (case na_Cover_clauses => k_is)
    (case na_Cover_houses => k_is)
    (case na_Cover_deal => k_is)
    (case na_Cover_waits => k_is)
    (case q_Condition => k_is)
    (case pg_Condition => k_is)
    (case hd_Condition => k_is)
    (case po_Condition => k_is)
    (case sa_Condition => k_is)
    (case mk_Condition => k_is)
    (case kc_Condition => k_is)
    (case nd_C => decide)
    (case a_Clause___init__ => k_is)
    (case iClause___init__ => k_is)
    (case lClause___init__ => k_is)
    (case cClause___init__ => k_is)
    (case kClause___init__ => k_is)
    (case a_Clause_span => k_is)
    (case iClause_span => k_is)
    (case lClause_span => k_is)
    (case cClause_span => k_is)
    (case kClause_span => k_is)
    (case a_Clause_room => k_is)
    (case iClause_room => k_is)
    (case lClause_room => k_is)
    (case cClause_room => k_is)
    (case kClause_room => k_is)
    (case a_Own___init__ => k_is)
    (case iOwn___init__ => k_is)
    (case lOwn___init__ => k_is)
    (case cOwn___init__ => k_is)
    (case kOwn___init__ => k_is)
    (case a_Own_span => k_is)
    (case iOwn_span => k_is)
    (case lOwn_span => k_is)
    (case cOwn_span => k_is)
    (case kOwn_span => k_is)
    (case a_Layer___init__ => k_is)
    (case iLayer___init__ => k_is)
    (case lLayer___init__ => k_is)
    (case cLayer___init__ => k_is)
    (case kLayer___init__ => k_is)
    (case a_Layer_span => k_is)
    (case iLayer_span => k_is)
    (case lLayer_span => k_is)
    (case cLayer_span => k_is)
    (case kLayer_span => k_is)
    (case a_Limit___init__ => k_is)
    (case iLimit___init__ => k_is)
    (case lLimit___init__ => k_is)
    (case cLimit___init__ => k_is)
    (case kLimit___init__ => k_is)
    (case a_Limit_room => k_is)
    (case iLimit_room => k_is)
    (case lLimit_room => k_is)
    (case cLimit_room => k_is)
    (case kLimit_room => k_is)
    (case a_Deal___init__ => k_is)
    (case iDeal___init__ => k_is)
    (case lDeal___init__ => k_is)
    (case cDeal___init__ => k_is)
    (case kDeal___init__ => k_is)
    (case a_Cover___init__ => k_is)
    (case iCover___init__ => k_is)
    (case lCover___init__ => k_is)
    (case cCover___init__ => k_is)
    (case kCover___init__ => k_is)
    (case dlCover___init__ => k_is)
    (case a_Cover_spans => k_is)
    (case iCover_spans => k_is)
    (case lCover_spans => k_is)
    (case cCover_spans => k_is)
    (case kCover_spans => k_is)
    (case a_Cover_window => k_is)
    (case iCover_window => k_is)
    (case lCover_window => k_is)
    (case cCover_window => k_is)
    (case kCover_window => k_is)
    (case a_Cover_parts => k_is)
    (case iCover_parts => k_is)
    (case lCover_parts => k_is)
    (case cCover_parts => k_is)
    (case kCover_parts => k_is)
    (case a_Cover_rest => k_is)
    (case iCover_rest => k_is)
    (case lCover_rest => k_is)
    (case cCover_rest => k_is)
    (case kCover_rest => k_is)
    (case a_Own_room => k_is)
    (case a_Layer_room => k_is)
    (case a_Limit_span => k_is)
    (case bg_Clause___init__ => k_is)
    (case br_Clause___init__ => k_is)
    (case bf_Clause___init__ => k_is)
    (case ni_Condition => k_is)
    (case z_WAYS => k_is)
    (case lw_WAYS => k_is)
    (case z_COVERED_ONE => k_is)
    (case z_LETTERS => k_is)
    (case z_LONGEST_NAME => k_is)
    (case z_MOST_CENTS => k_is)
    (case z_MOST_CLAUSES => k_is)
    (case z_MOST_PLACES => k_is)
    (case z_MOST_TURNS => k_is)
    (case z_bool => k_is)
    (case z_enumerate => k_is)
    (case z_int => k_is)
    (case z_isinstance => k_is)
    (case z_len => k_is)
    (case z_list => k_is)
    (case z_max => k_is)
    (case z_min => k_is)
    (case z_range => k_is)
    (case z_set => k_is)
    (case z_sorted => k_is)
    (case z_str => k_is)
    (case z_sum => k_is)
    (case z_zip => k_is)
