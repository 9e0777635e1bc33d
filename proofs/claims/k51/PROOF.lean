import PyProof.Rows.All
import Wide.All
import OpenK.AllK
import Wide.FinOn
import Lean
import PyProof.EqAt
import PyProof.EqKinds
import PyProof.TupleCall
import PySem.Challenge.RW_coverroll_k51_rows_that_wait
set_option Elab.async false
set_option linter.all false
set_option maxRecDepth 100000
set_option maxHeartbeats 4000000
/-! THE HAND LAYER, for ints, bools, texts, own classes, LISTS and tuples (index, slices, in, append, pop ..), calls, loops. Paste it whole ahead of your own text; what your proof does not reach may be deleted. -/
namespace L2
open PySem PySem.Spec PyProof.Rows

/-- a key: an int or a str -/
abbrev Key := Sum Int Str
def keyIs : Key → Value → Bool
  | .inl k, v => Value.isInt k v
  | .inr x, v => Value.isStrOf x v
def keyH (w : World) : Key → Int
  | .inl k => hashInt k
  | .inr x => hashStr w x
theorem keyIs_shape : ∀ {k : Key} {v : Value}, keyIs k v = true → (∃ i t, k = Sum.inl i ∧ v = Value.int i t) ∨ (∃ x t, k = Sum.inr x ∧ v = Value.str x t)
  | .inl i, v, h => by
    obtain ⟨t, e⟩ := Value.isInt_shape (k := i) (v := v) h
    exact .inl ⟨i, t, rfl, e⟩
  | .inr x, v, h => by
    obtain ⟨t, e⟩ := Value.isStrOf_shape (x := x) (v := v) h
    exact .inr ⟨x, t, rfl, e⟩
theorem keyIs_int (i : Int) (t : Tok) : keyIs (.inl i) (.int i t) = true := by simp [keyIs, Value.isInt]
theorem keyIs_str (x : Str) (t : Tok) : keyIs (.inr x) (.str x t) = true := by simp [keyIs, Value.isStrOf]
theorem key_ll (a b : Int) : decide ((Sum.inl a : Key) = Sum.inl b) = (a == b) := by
  by_cases e : a = b
  · subst e; simp
  · have h : ¬ (Sum.inl a : Key) = Sum.inl b := fun q => e (Sum.inl.inj q)
    rw [decide_eq_false h]
    exact (beq_eq_false_iff_ne.mpr e).symm
theorem key_rr (a b : Str) : decide ((Sum.inr a : Key) = Sum.inr b) = decide (a = b) := by
  by_cases e : a = b
  · subst e; simp
  · have h : ¬ (Sum.inr a : Key) = Sum.inr b := fun q => e (Sum.inr.inj q)
    rw [decide_eq_false h, decide_eq_false e]
theorem key_lr (a : Int) (b : Str) : decide ((Sum.inl a : Key) = Sum.inr b) = false := decide_eq_false (fun q => nomatch q)
theorem key_rl (a : Str) (b : Int) : decide ((Sum.inr a : Key) = Sum.inl b) = false := decide_eq_false (fun q => nomatch q)

def mixKind (prog : Program) (w : World) : PySem.KeyKind prog w Key where
  is := keyIs
  hash := keyH w
  inj := fun v a b ha hb => by
    rcases keyIs_shape ha with ⟨i, t, rfl, rfl⟩ | ⟨x, t, rfl, rfl⟩
    · rcases keyIs_shape hb with ⟨j, u, rfl, e⟩ | ⟨y, u, rfl, e⟩
      · injection e with e1 _; rw [e1]
      · exact nomatch e
    · rcases keyIs_shape hb with ⟨j, u, rfl, e⟩ | ⟨y, u, rfl, e⟩
      · exact nomatch e
      · injection e with e1 _; rw [e1]
  byValue := fun k v h => by
    rcases keyIs_shape h with ⟨i, t, rfl, rfl⟩ | ⟨x, t, rfl, rfl⟩ <;> rfl
  pyHash := fun hv h => by
    rcases keyIs_shape hv with ⟨i, t, rfl, rfl⟩ | ⟨x, t, rfl, rfl⟩
    · exact wpAny_pyHash_int h
    · exact wpAny_pyHash_str h
  eqBool := fun hu hv h => by
    rcases keyIs_shape hu with ⟨i, t, rfl, rfl⟩ | ⟨x, t, rfl, rfl⟩
    · rcases keyIs_shape hv with ⟨j, u, rfl, rfl⟩ | ⟨y, u, rfl, rfl⟩
      · rw [key_ll] at h; exact wpAny_eqBool_int h
      · rw [key_lr] at h; exact SeqAt.EqAt.int_str i t y u _ _ _ _ h
    · rcases keyIs_shape hv with ⟨j, u, rfl, rfl⟩ | ⟨y, u, rfl, rfl⟩
      · rw [key_rl] at h; exact SeqAt.EqAt.str_int x t j u _ _ _ _ h
      · rw [key_rr] at h; exact wpAny_eqBool_str h
  «strs» := fun k x t v h => by
    rcases keyIs_shape h with ⟨i, u, rfl, e⟩ | ⟨y, u, rfl, e⟩
    · exact nomatch e
    · injection e with e1 _
      subst e1
      cases v <;> rfl

theorem mixKind_int (prog : Program) (w : World) (i : Int) (t : Tok) : (mixKind prog w).is (.inl i) (.int i t) = true := keyIs_int i t
theorem mixKind_str (prog : Program) (w : World) (x : Str) (t : Tok) : (mixKind prog w).is (.inr x) (.str x t) = true := keyIs_str x t
end L2

namespace L2
open PySem PySem.Spec PyProof.Rows

/-- a value, without the heap -/
inductive V where
  | non | bl (b : Bool) | int (i : Int) | str (x : Str) | byt (b : Array UInt8) | flt (b : UInt64) | ref (a : Addr) | ty (n : String)
  deriving DecidableEq

def RelV : V → Value → Prop
  | .non, u => u = Value.none
  | .bl b, u => u = Value.bool b
  | .int i, u => ∃ t, u = Value.int i t
  | .str x, u => ∃ t, u = Value.str x t
  | .byt b, u => ∃ t, u = Value.bytes b t
  | .flt b, u => ∃ t, u = Value.float b t
  | .ref a, u => u = Value.ref a
  | .ty n, u => u = Value.type n

abbrev Vals : List V → List Value → Prop := Paired RelV
theorem Vals.length {xs : List V} {us : List Value} (r : Vals xs us) : xs.length = us.length := Paired.length r
theorem Vals.get : ∀ {xs : List V} {us : List Value} {i : Nat} {x : V}, Vals xs us → xs[i]? = some x → ∃ u, us[i]? = some u ∧ RelV x u
  | _, _, _, _, .nil, e => by simp at e
  | _, _, 0, _, .cons r _, e => by simp at e; subst e; exact ⟨_, rfl, r⟩
  | _, _, i + 1, x, .cons _ t, e => by
    obtain ⟨u, h1, h2⟩ := Vals.get (i := i) (x := x) t (by simpa using e)
    exact ⟨u, by simpa using h1, h2⟩
theorem Vals.set {x : V} {u : Value} (r : RelV x u) : ∀ {xs : List V} {us : List Value} (i : Nat), Vals xs us → Vals (xs.set i x) (us.set i u)
  | _, _, _, .nil => .nil
  | _, _, 0, .cons _ t => .cons r t
  | _, _, i + 1, .cons q t => .cons q (Vals.set r i t)
theorem Vals.append : ∀ {xs ys : List V} {us ws : List Value}, Vals xs us → Vals ys ws → Vals (xs ++ ys) (us ++ ws)
  | _, _, _, _, .nil, s => s
  | _, _, _, _, .cons r t, s => .cons r (Vals.append t s)
theorem Vals.take : ∀ {xs : List V} {us : List Value} (n : Nat), Vals xs us → Vals (xs.take n) (us.take n)
  | _, _, 0, _ => .nil
  | _, _, _ + 1, .nil => .nil
  | _, _, n + 1, .cons r t => .cons r (Vals.take n t)
theorem Vals.drop : ∀ {xs : List V} {us : List Value} (n : Nat), Vals xs us → Vals (xs.drop n) (us.drop n)
  | _, _, 0, r => r
  | _, _, _ + 1, .nil => .nil
  | _, _, n + 1, .cons _ t => Vals.drop n t
theorem Vals.none_of : ∀ {xs : List V} {us : List Value} {i : Nat}, Vals xs us → xs[i]? = none → us[i]? = none := fun {xs us i} r e => by
  have h1 := r.length
  have h2 : xs.length ≤ i := List.getElem?_eq_none_iff.mp e
  exact List.getElem?_eq_none_iff.mpr (by omega)

def RelO : Option V → Option Value → Prop
  | some v, some u => RelV v u
  | none, none => True
  | _, _ => False
def KV {κ : Type} : List (κ × V) → List (κ × Value) → Prop := Paired fun (p : κ × V) (q : κ × Value) => p.1 = q.1 ∧ RelV p.2 q.2

/-- a key of a dict (00_mix): an int or a text -/
def kV : Key → V
  | .inl i => .int i
  | .inr x => .str x

/-- what stands at a tracked address -/
inductive HO where
  /-- a list -/
  | lst (xs : List V)
  /-- a tuple (never changes) -/
  | tup (xs : List V)
  /-- a dict whose keys are ints and texts; one whose keys are tuples of ints and texts (the empty one is both) -/
  | dK (kvs : List (Key × V)) | dT (kvs : List (List Key × V))
  /-- a set of ints: its members, its size -/
  | set (S : Int → Bool) (n : Nat)
  /-- an instance of the class at C, its dict at dx, its attributes -/
  | ins (C dx : Addr) (fs : List (Str × V))
  /-- the dict of the instance at x -/
  | own (x : Addr)
  /-- the dict of an exception -/
  | xd (fs : List (Str × V))
  /-- a bound method, f of x -/
  | met (f x : Addr)
  /-- a range object lo, lo + 1, .. below hi -/
  | rng (lo hi : Int)
  /-- a thing that is known to the object (the script; a dict while a loop walks it): read, never written while it is so -/
  | frz (o : Obj) (u : HO)
  /-- a code object's table -/
  | tbl (ps : Array Value)
  /-- any other thing, by what is true of its one object (a def of one's own: SetO a S n := HO.ext fun h => ..) -/
  | ext (φ : Heap → Prop)

abbrev Hp := Addr → Option HO
def upd (H : Hp) (a : Addr) (o : HO) : Hp := fun b => if b = a then some o else H b
theorem upd_same {H : Hp} {a : Addr} {o : HO} : upd H a o a = some o := by unfold upd; rw [if_pos rfl]
theorem upd_ne {H : Hp} {a b : Addr} {o : HO} (h : b ≠ a) : upd H a o b = H b := by unfold upd; rw [if_neg h]
theorem upd_upd {H : Hp} {a : Addr} {o u : HO} : upd (upd H a o) a u = upd H a u := by
  funext b; unfold upd; split <;> rfl
/-- two objects of different content stand apart -/
theorem ne_of {H : Hp} {a b : Addr} {o u : HO} (h : H a = some o) (h' : H b = some u) (d : o ≠ u) : a ≠ b := by
  intro e; subst e; rw [h] at h'; exact d (Option.some.inj h')
theorem ne_of_none {H : Hp} {a b : Addr} {o : HO} (h : H a = some o) (h' : H b = none) : a ≠ b := by
  intro e; subst e; rw [h] at h'; cases h'

section
variable (P : Program) (w : World)
def ObjOk (H : Hp) (h : Heap) (a : Addr) : HO → Prop
  | .lst xs => xs.length ≤ sizeLine ∧ ∃ (its : List Value) (n : Nat), Vals xs its ∧ h.get? a = some { cls := .type "list", data := .seq its.toArray n }
  | .tup xs => xs.length ≤ sizeLine ∧ ∃ its : List Value, Vals xs its ∧ IsTup h a its.toArray
  | .dK kvs => kvs.length ≤ sizeLine ∧ (a == sysModules) = false ∧ ∃ vs, KV kvs vs ∧ h.DictOf (mixKind P w) a vs
  | .dT kvs => kvs.length ≤ sizeLine ∧ (a == sysModules) = false ∧ ∃ xs : List (List Key × Addr × Value),
      Paired (fun (p : List Key × V) (q : List Key × Addr × Value) => p.1 = q.1 ∧ H q.2.1 = some (.tup (p.1.map kV)) ∧ RelV p.2 q.2.2) kvs xs ∧
      ∃ o es ep, h.get? a = some o ∧ o.ExactDict ∧ o.data = .dict es ep ∧ es.toList = xs.map (entryOfKey (tupleKind (mixKind P w))) ∧ (xs.map (·.1)).Nodup
  | .set S n => h.SetOf (intKind P w) a S n
  | .ins C dx fs => H dx = some (.own a) ∧ fs.length ≤ 1000 ∧ dx ≠ a ∧ h.get? a = some (PySem.W.instObj C dx) ∧
      ∃ mA, h.Ns1 dx mA ∧ (∀ f, RelO (fs.lookup f) (mA f)) ∧ PySem.Within mA (fs.map (·.1))
  | .own _ => ∃ o, h.get? a = some o
  | .xd fs => ∃ mA, h.Ns1 a mA ∧ ∀ f, RelO (fs.lookup f) (mA f)
  | .rng lo hi => ∃ t u v, h.get? a = some { cls := .type "range", data := .fields #[.int lo t, .int hi u, .int 1 v] }
  | .frz o u => h.get? a = some o ∧ ObjOk H h a u
  | .tbl ps => h.get? a = some { cls := .none, data := .fields ps }
  | .met f x => h.get? a = some (PySem.W.methodObj (.ref f) (.ref x))
  | .ext φ => φ h ∧ (∃ o, h.get? a = some o) ∧ ∀ h1 h2 : Heap, φ h1 → (∀ o, h1.get? a = some o → h2.get? a = some o) → φ h2
/-- the abstract heap is held -/
def HOk (H : Hp) (h : Heap) : Prop := ∀ a o, H a = some o → ObjOk P w H h a o
end

section
variable {P : Program} {w : World} {H H' : Hp} {h h' : Heap} {a : Addr} {o : HO}
theorem ObjOk.lt (x : ObjOk P w H h a o) : a < h.objs.size := by
  cases o with
  | lst xs => obtain ⟨_, _, _, _, e⟩ := x; exact Heap.lt_size e
  | tup xs => obtain ⟨_, _, _, p⟩ := x; exact p.lt
  | dK kvs => obtain ⟨_, _, _, _, o, _, _, e, _⟩ := x; exact Heap.lt_size e
  | dT kvs => obtain ⟨_, _, _, _, o, _, _, e, _⟩ := x; exact Heap.lt_size e
  | set S n => obtain ⟨o, _, _, _, e, _⟩ := x; exact Heap.lt_size e
  | ins C dx fs => obtain ⟨_, _, _, e, _⟩ := x; exact Heap.lt_size e
  | own y => obtain ⟨_, e⟩ := x; exact Heap.lt_size e
  | xd fs => obtain ⟨_, ⟨_, _, _, e, _⟩, _⟩ := x; exact Heap.lt_size e
  | rng lo hi => obtain ⟨_, _, _, e⟩ := x; exact Heap.lt_size e
  | frz ob u => obtain ⟨e, _⟩ := x; exact Heap.lt_size e
  | tbl ps => exact Heap.lt_size (show h.get? a = some _ from x)
  | met f y => exact Heap.lt_size (show h.get? a = some _ from x)
  | ext φ => obtain ⟨_, ⟨_, e⟩, _⟩ := x; exact Heap.lt_size e
theorem Paired.mapP {α β : Type} {F G : α → β → Prop} : ∀ {l₁ : List α} {l₂ : List β}, Paired F l₁ l₂ → (∀ a b, F a b → G a b) → Paired G l₁ l₂
  | _, _, .nil, _ => .nil
  | _, _, .cons r t, f => .cons (f _ _ r) (Paired.mapP t f)
/-- what an object's description leans on: its own object, its own dict, the tuples -/
theorem ObjOk.stay (x : ObjOk P w H h a o) (k : ∀ b u, (b = a ∨ H b = some (.own a)) → h.get? b = some u → h'.get? b = some u)
    (ho : ∀ b, H b = some (.own a) → H' b = some (.own a)) (ht : ∀ b xs, H b = some (.tup xs) → H' b = some (.tup xs)) : ObjOk P w H' h' a o := by
  induction o with
  | lst xs => obtain ⟨z, its, n, r, e⟩ := x; exact ⟨z, its, n, r, k _ _ (.inl rfl) e⟩
  | tup xs => obtain ⟨z, its, r, ob, e, c⟩ := x; exact ⟨z, its, r, ob, k _ _ (.inl rfl) e, c⟩
  | dK kvs => obtain ⟨z, y, vs, r, ob, es, ep, e, c⟩ := x; exact ⟨z, y, vs, r, ob, es, ep, k _ _ (.inl rfl) e, c⟩
  | dT kvs =>
    obtain ⟨z, y, xs, r, ob, es, ep, e, c⟩ := x
    exact ⟨z, y, xs, Paired.mapP r fun p q z => ⟨z.1, ht _ _ z.2.1, z.2.2⟩, ob, es, ep, k _ _ (.inl rfl) e, c⟩
  | set S n => obtain ⟨ob, es, ep, t, e, c⟩ := x; exact ⟨ob, es, ep, t, k _ _ (.inl rfl) e, c⟩
  | ins C dx fs =>
    obtain ⟨d, z, ne, e, mA, ⟨od, es, ep, e2, c⟩, r⟩ := x
    exact ⟨ho _ d, z, ne, k _ _ (.inl rfl) e, mA, ⟨od, es, ep, k _ _ (.inr d) e2, c⟩, r⟩
  | own y => obtain ⟨ob, e⟩ := x; exact ⟨ob, k _ _ (.inl rfl) e⟩
  | xd fs => obtain ⟨mA, ⟨od, es, ep, e, c⟩, r⟩ := x; exact ⟨mA, ⟨od, es, ep, k _ _ (.inl rfl) e, c⟩, r⟩
  | rng lo hi => obtain ⟨t, u, v, e⟩ := x; exact ⟨t, u, v, k _ _ (.inl rfl) e⟩
  | frz ob u ih => obtain ⟨e, q⟩ := x; exact ⟨k _ _ (.inl rfl) e, ih q⟩
  | tbl ps =>
    have e : h.get? a = some { cls := .none, data := .fields ps } := x
    show h'.get? a = some { cls := .none, data := .fields ps }
    exact k a _ (.inl rfl) e
  | met f y =>
    have e : h.get? a = some (PySem.W.methodObj (.ref f) (.ref y)) := x
    show h'.get? a = some (PySem.W.methodObj (.ref f) (.ref y))
    exact k a _ (.inl rfl) e
  | ext φ => obtain ⟨p, ⟨o, e⟩, st⟩ := x; exact ⟨st _ _ p fun o q => k _ _ (.inl rfl) q, ⟨o, k _ _ (.inl rfl) e⟩, st⟩
theorem HOk.lt (x : HOk P w H h) (e : H a = some o) : a < h.objs.size := (x a o e).lt
theorem HOk.fresh (x : HOk P w H h) (e : h.objs.size ≤ a) : H a = none := by
  cases q : H a with
  | none => rfl
  | some u => exact absurd (Nat.lt_of_lt_of_le (x.lt q) e) (Nat.lt_irrefl _)
/-- every object of the heap is kept -/
theorem HOk.kept (x : HOk P w H h) (k : ∀ b u, h.get? b = some u → h'.get? b = some u) : HOk P w H h' := fun a o e =>
  (x a o e).stay (fun b u _ q => k b u q) (fun _ q => q) fun _ _ q => q
/-- a new object is laid and tracked -/
theorem HOk.laid (x : HOk P w H h) (k : ∀ b u, h.get? b = some u → h'.get? b = some u) (hp : h.objs.size ≤ a) (new : ObjOk P w (upd H a o) h' a o) : HOk P w (upd H a o) h' := fun b u e => by
  have hn := x.fresh hp
  by_cases hb : b = a
  · subst hb; rw [upd_same] at e; cases e; exact new
  · rw [upd_ne hb] at e
    exact (x b u e).stay (fun c v _ q => k c v q) (fun c q => by rw [upd_ne (ne_of_none q hn)]; exact q) fun c xs q => by rw [upd_ne (ne_of_none q hn)]; exact q
end

/-- what may be read as u: it is u, or a known u -/
def Rd (H : Hp) (a : Addr) (u : HO) : Prop := H a = some u ∨ ∃ o, H a = some (.frz o u)
theorem Rd.ok {P : Program} {w : World} {H : Hp} {h : Heap} {a : Addr} {u : HO} (r : Rd H a u) (x : HOk P w H h) : ObjOk P w H h a u := by
  rcases r with r | ⟨o, r⟩
  · exact x a u r
  · obtain ⟨_, q⟩ := x a _ r
    exact q
/-- what may be written -/
def Mut : Option HO → Prop
  | some (.lst _) => True
  | some (.dK _) => True
  | some (.dT _) => True
  | some (.set _ _) => True
  | some (.ins _ _ _) => True
  | some (.ext _) => True
  | _ => False
section
variable {P : Program} {w : World} {H : Hp} {h h' : Heap} {x e : Addr} {o' : HO}
/-- the object at e is changed: x itself, or the dict of the instance x -/
theorem HOk.write (ok : HOk P w H h) (mu : Mut (H x)) (he : e = x ∨ H e = some (.own x)) (k : ∀ b u, b ≠ e → h.get? b = some u → h'.get? b = some u) (heo : ∃ u, h'.get? e = some u)
    (new : ObjOk P w (upd H x o') h' x o') : HOk P w (upd H x o') h' := fun b u q => by
  have nown : ∀ c y, H c = some (.own y) → c ≠ x := fun c y r z => by subst z; rw [r] at mu; exact mu
  have ntup : ∀ c xs, H c = some (.tup xs) → c ≠ x := fun c xs r z => by subst z; rw [r] at mu; exact mu
  by_cases hb : b = x
  · subst hb; rw [upd_same] at q; cases q; exact new
  · rw [upd_ne hb] at q
    by_cases hbe : b = e
    · have q' : H b = some (.own x) := by
        rcases he with z | z
        · exact absurd (hbe.trans z) hb
        · rw [hbe]; exact z
      rw [q] at q'; cases q'
      obtain ⟨v, hv⟩ := heo
      exact ⟨v, by rw [hbe]; exact hv⟩
    · refine (ok b u q).stay (fun c v hc r => k c v ?_ r) (fun c r => by rw [upd_ne (nown c b r)]; exact r) fun c xs r => by rw [upd_ne (ntup c xs r)]; exact r
      rcases hc with rfl | hc
      · exact hbe
      · rintro rfl
        rcases he with z | z
        · exact nown c b hc z
        · rw [hc] at z; cases z; exact hb rfl
end

/-! ### kept unless tracked; of the frames at fs (the callers') the slots may change (an exception that passes writes there); of the records at ex (iterators) nothing is said -/
structure Un (fs ex : List Addr) (H H' : Hp) (h h' : Heap) : Prop where
  keep : ∀ b o, h.get? b = some o → H b = none → b ∉ fs → b ∉ ex → h'.get? b = some o
  slot : ∀ b o, h.get? b = some o → H b = none → b ∈ fs → b ∉ ex → ∃ sl, h'.get? b = some { o with slots := sl }
  free : ∀ b o, h.get? b = some o → H b = none → b ∉ ex → H' b = none
  there : ∀ b o, h.get? b = some o → b ∉ ex → ∃ o', h'.get? b = some o'
  tups : ∀ b xs, H b = some (.tup xs) → H' b = some (.tup xs)
  frzs : ∀ b o u, H b = some (.frz o u) → H' b = some (.frz o u)
  tbls : ∀ b ps, H b = some (.tbl ps) → ∃ more, H' b = some (.tbl (ps ++ more))
section
variable {fs fs' ex ex' : List Addr} {H H1 H2 : Hp} {h h1 h2 h' : Heap} {a x e : Addr} {o : HO}
theorem Un.any (u : Un fs ex H H1 h h1) {b : Addr} {ob : Obj} (q : h.get? b = some ob) (n : H b = none) (hx : b ∉ ex) : ∃ sl, h1.get? b = some { ob with slots := sl } := by
  by_cases hb : b ∈ fs
  · exact u.slot b ob q n hb hx
  · exact ⟨ob.slots, u.keep b ob q n hb hx⟩
theorem Un.kept (k : ∀ b u, h.get? b = some u → h'.get? b = some u) : Un fs ex H H h h' :=
  ⟨fun b ob q _ _ _ => k b ob q, fun b ob q _ _ _ => ⟨ob.slots, k b ob q⟩, fun _ _ _ n _ => n, fun b ob q _ => ⟨ob, k b ob q⟩, fun _ _ q => q, fun _ _ _ q => q, fun _ ps q => ⟨#[], by rw [q]; simp⟩⟩
theorem Un.refl : Un fs ex H H h h := Un.kept fun _ _ q => q
theorem Un.laid (k : ∀ b u, h.get? b = some u → h'.get? b = some u) (hp : h.objs.size ≤ a) (hn : H a = none) : Un fs ex H (upd H a o) h h' where
  keep := fun b u q _ _ _ => k b u q
  slot := fun b u q _ _ _ => ⟨u.slots, k b u q⟩
  free := fun b u q n _ => by rw [upd_ne (Nat.ne_of_lt (Nat.lt_of_lt_of_le (Heap.lt_size q) hp))]; exact n
  there := fun b u q _ => ⟨u, k b u q⟩
  tups := fun b xs q => by rw [upd_ne (ne_of_none q hn)]; exact q
  frzs := fun b u xs q => by rw [upd_ne (ne_of_none q hn)]; exact q
  tbls := fun b ps q => ⟨#[], by rw [upd_ne (ne_of_none q hn), q]; simp⟩
theorem Un.write (mu : Mut (H x)) (he : e = x ∨ H e = some (.own x)) (k : ∀ b u, b ≠ e → h.get? b = some u → h'.get? b = some u) (heo : ∃ u, h'.get? e = some u) : Un fs ex H (upd H x o) h h' := by
  have hx : ∀ b, H b = none → b ≠ x := fun b n z => by subst z; rw [n] at mu; exact mu
  have hb : ∀ b, H b = none → b ≠ e := fun b n z => by
    subst z
    rcases he with r | r
    · exact hx b n r
    · rw [n] at r; cases r
  have hm : ∀ b u, H b = some u → ¬ Mut (some u) → b ≠ x := fun b u q nm z => by subst z; rw [q] at mu; exact nm mu
  refine ⟨fun b u q n _ _ => k b u (hb b n) q, fun b u q n _ _ => ⟨u.slots, k b u (hb b n) q⟩, fun b u q n _ => by rw [upd_ne (hx b n)]; exact n, fun b u q _ => ?_,
    fun b xs q => by rw [upd_ne (hm b _ q fun z => z)]; exact q, fun b u xs q => by rw [upd_ne (hm b _ q fun z => z)]; exact q, fun b ps q => ⟨#[], by rw [upd_ne (hm b _ q fun z => z), q]; simp⟩⟩
  by_cases hbe : b = e
  · subst hbe; exact heo
  · exact ⟨u, k b u hbe q⟩
end

/-! ### the heap without what is tracked -/
def trk (h : Heap) (H : Hp) : List Addr := (List.range h.objs.size).filter fun a => (H a).isSome
def hidT (h : Heap) (H : Hp) : Heap := PySem.W.hideAll h (trk h H)
theorem hidT_size (h : Heap) (H : Hp) : (hidT h H).objs.size = h.objs.size := PySem.W.hideAll_size _ _
theorem hidT_get {h : Heap} {H : Hp} {b : Addr} {o : Obj} (e : h.get? b = some o) (n : H b = none) : (hidT h H).get? b = some o :=
  PySem.W.hideAll_get _ e fun hm => by
    have q : (H b).isSome = true := (List.mem_filter.mp hm).2
    rw [n] at q; simp at q
theorem of_hidT {h : Heap} {H : Hp} {b : Addr} {o : Obj} (e : (hidT h H).get? b = some o) : h.get? b = some o ∧ H b = none := by
  have e' : h.get? b = some o := PySem.W.of_hideAll (trk h H) e
  refine ⟨e', ?_⟩
  cases q : H b with
  | none => rfl
  | some x =>
    have hm : b ∈ trk h H := List.mem_filter.mpr ⟨List.mem_range.mpr (Heap.lt_size e'), by simp [q]⟩
    have z : (hidT h H).get? b = none := PySem.W.hideAll_none (trk h H) hm
    rw [z] at e; cases e

/-! ### OpenK's ledger, filled with every new object but one -/
end L2

namespace L2
open PySem PySem.Spec PyProof.Rows

/-- the module's facts, over the base: the heap at the law's entry without what is tracked there -/
structure Mod (K : PySem.W.Frag) (mg : Str → Option Value) (base : Heap) : Prop where
  kin : K.In base
  glob : base.Ns mainGlobals mg
  blt : ∃ mb, base.Ns builtinsNs mb ∧ ∀ x : Str, x ≠ "__name__" → mb x = bootBuiltins x
  nolimit : base.NoLimit

/-- the context: a def's body (or a comprehension's block) running. base: fixed through the whole law; s₀, H₀: the entry; outer: the frames whose slots others may change (a def's callers); stack: all frames that run;
   ex: iterators that were made ahead of the entry and are walked here (a comprehension's); fn: the names whose cells were made at the entry (a def: all; a comprehension's block: its own); calm: not within an except suite; pn: pins that every state bears; xe: what is wanted of an exception that leaves the code -/
structure Cx where
  prog : Program
  w : World
  K : PySem.W.Frag
  mg : Str → Option Value
  base : Heap
  A : Around
  N : List Str
  s₀ : Shared
  H₀ : Hp
  env : Env
  outer : List Env
  stack : List Env
  ex : List Addr
  fn : Str → Bool
  calm : Bool
  pn : List (Addr × Obj)
  xe : Value → Shared → Prop
/-- the callers' frames -/
def frs (l : List Env) : List Addr := l.filterMap (·.frame)
abbrev Cx.fs (X : Cx) : List Addr := frs X.outer

def Vis (sc : Scope) (x : Str) : Prop := sc.names.lookup x = some .local ∨ sc.names.lookup x = some .cell ∨ sc.names.lookup x = some .free
def Loc (sc : Scope) (x : Str) : Prop := sc.names.lookup x = some .local ∨ sc.names.lookup x = some .cell
def Look (env : Env) (h : Heap) (m : Str → Option Value) (x : Str) (u : Value) : Prop :=
  (env.kindOf x = some .local ∧ m x = some u) ∨ ((env.kindOf x = some .cell ∨ env.kindOf x = some .free) ∧ ∃ c, env.cells.lookup x = some c ∧ h.IsCell c (some u))

structure Cx.Ok (X : Cx) : Prop where
  mod : Mod X.K X.mg X.base
  kind : X.env.scope.kind = .function
  glob : X.env.globals = mainGlobals
  blt : X.env.builtins = builtinsNs
  above : X.s₀.heap.objs.size ≤ X.env.locals
  inj : ∀ x y c, X.env.cells.lookup x = some c → X.env.cells.lookup y = some c → x = y
  has : ∀ x, (X.env.kindOf x = some .cell ∨ X.env.kindOf x = some .free) → ∃ c, X.env.cells.lookup x = some c
  cab : ∀ x c, X.fn x = true → X.env.cells.lookup x = some c → X.s₀.heap.objs.size ≤ c
  hd : X.calm = true → X.A.handled = none
  frames : X.A.frames = some X.stack
  stk : X.stack = X.outer ∨ (X.stack = X.env :: X.outer ∧ X.env.frame = some X.env.locals)
  exf : ∀ b ∈ X.ex, b ≠ X.env.locals ∧ ∀ x c, X.env.cells.lookup x = some c → c ≠ b
  bs : ∀ b o, X.base.get? b = some o → X.s₀.heap.get? b = some o ∧ X.H₀ b = none
  bsz : X.base.objs.size ≤ X.s₀.heap.objs.size
  noex : ∀ b o, X.base.get? b = some o → b ∉ X.ex
  exfs : ∀ b ∈ X.ex, b ∉ X.fs
  funs : X.s₀.heap.FunFrames X.base X.outer
  frf : ∀ b ∈ X.fs, X.H₀ b = none

structure Inv (X : Cx) (pins : List (Addr × Obj)) (σ : List (Option V)) (H : Hp) (s : Shared) : Prop where
  ok : X.Ok
  os : s.os = X.s₀.os
  bare : AllBare s.gens
  base : Un X.fs X.ex X.H₀ H X.s₀.heap s.heap
  loc : ∃ m, s.heap.Ns X.env.locals m ∧ ∀ (i : Nat) (x : Str) (v : V), X.N[i]? = some x → σ[i]? = some (some v) → Vis X.env.scope x → ∃ u, RelV v u ∧ Look X.env s.heap m x u
  cell : ∀ x c, X.env.cells.lookup x = some c → ∃ v, s.heap.IsCell c v
  free : H X.env.locals = none
  freeC : ∀ x c, X.env.cells.lookup x = some c → H c = none
  pin : ∀ p ∈ X.pn ++ pins, s.heap.get? p.1 = some p.2 ∧ H p.1 = none ∧ p.1 ≠ X.env.locals ∧ p.1 ∉ X.fs ∧ ∀ v, p.2.data ≠ .cell v
  hok : HOk X.prog X.w H s.heap
  len : σ.length = X.N.length

section
variable {X : Cx} {pins : List (Addr × Obj)} {σ : List (Option V)} {H H' : Hp} {s : Shared} {h' : Heap}

theorem Cx.Ok.nofr (ok : X.Ok) {b : Addr} {o : Obj} (e : X.base.get? b = some o) : b ∉ X.fs := fun hb => by
  have := (ok.funs.mem hb).1
  rw [e] at this; cases this
theorem Inv.bs (I : Inv X pins σ H s) : ∀ b o, X.base.get? b = some o → s.heap.get? b = some o ∧ H b = none := fun b o e =>
  ⟨I.base.keep b o (I.ok.bs b o e).1 (I.ok.bs b o e).2 (I.ok.nofr e) (I.ok.noex b o e), I.base.free b o (I.ok.bs b o e).1 (I.ok.bs b o e).2 (I.ok.noex b o e)⟩
theorem Inv.bk (I : Inv X pins σ H s) : ∀ b o, X.base.get? b = some o → s.heap.get? b = some o := fun b o e => (I.bs b o e).1
theorem Inv.mod (I : Inv X pins σ H s) : Mod X.K X.mg X.base := I.ok.mod
theorem Inv.kIn (I : Inv X pins σ H s) : X.K.In s.heap := I.ok.mod.kin.keeps I.bk
theorem Inv.lt (I : Inv X pins σ H s) : X.env.locals < s.heap.objs.size := let ⟨_, hn, _⟩ := I.loc; hn.lt
theorem Inv.sz (I : Inv X pins σ H s) : X.s₀.heap.objs.size ≤ s.heap.objs.size := Nat.le_trans I.ok.above (Nat.le_of_lt I.lt)
theorem Inv.nofs (I : Inv X pins σ H s) {a : Addr} (h : s.heap.objs.size ≤ a) : a ∉ X.fs := fun hb => by
  obtain ⟨_, o, ho, _⟩ := I.ok.funs.mem hb
  exact absurd (Nat.lt_of_lt_of_le (Heap.lt_size ho) (Nat.le_trans I.sz h)) (Nat.lt_irrefl _)
theorem Inv.cne (I : Inv X pins σ H s) : ∀ x c, X.env.cells.lookup x = some c → c ≠ X.env.locals := fun x c e z => by
  obtain ⟨v, o, ho, hd⟩ := I.cell x c e
  obtain ⟨m, ⟨o', es, ep, ho', hd', _⟩, _⟩ := I.loc
  rw [z, ho'] at ho; cases ho; rw [hd'] at hd; cases hd
theorem Inv.funs (I : Inv X pins σ H s) : s.heap.FunFrames X.base X.outer := by
  have all : ∀ (l : List Env), (∀ b ∈ frs l, b ∈ X.fs) → X.s₀.heap.FunFrames X.base l → s.heap.FunFrames X.base l := by
    intro l
    induction l with
    | nil => intro _ _; trivial
    | cons env r ih =>
      intro hs hl
      obtain ⟨hk, ⟨L, o, hf, hn, ho, hd⟩, hr⟩ := hl
      have hL : L ∈ X.fs := hs L (by unfold frs; rw [List.filterMap_cons, hf]; exact List.mem_cons_self)
      obtain ⟨sl, e⟩ := I.base.slot L o ho (I.ok.frf L hL) hL fun z => I.ok.exfs L z hL
      exact ⟨hk, ⟨L, _, hf, hn, e, hd⟩, ih (fun b hb => hs b (by unfold frs; rw [List.filterMap_cons, hf]; exact List.mem_cons_of_mem _ hb)) hr⟩
  exact all X.outer (fun _ hb => hb) I.ok.funs

/-- the frames that run, for a call -/
theorem Inv.stack (I : Inv X pins σ H s) : s.heap.FunFrames X.base X.stack := by
  rcases I.ok.stk with e | ⟨e, hf⟩
  · rw [e]; exact I.funs
  · rw [e]
    obtain ⟨m, hn, _⟩ := I.loc
    refine .cons (by rw [I.ok.kind]; decide) hf hn ?_ I.funs
    exact Heap.get?_none_of_le (Nat.le_trans I.ok.bsz I.ok.above)
theorem Inv.stkSub (I : Inv X pins σ H s) : ∀ b ∈ frs X.stack, b ∈ X.env.locals :: X.fs := fun b hb => by
  rcases I.ok.stk with e | ⟨e, hf⟩
  · rw [e] at hb; exact List.mem_cons_of_mem _ hb
  · rw [e] at hb
    unfold frs at hb
    rw [List.filterMap_cons, hf] at hb
    exact hb
theorem Inv.stkFree (I : Inv X pins σ H s) : ∀ b ∈ frs X.stack, H b = none := fun b hb => by
  rcases List.mem_cons.mp (I.stkSub b hb) with e | hb
  · rw [e]; exact I.free
  · obtain ⟨_, o, ho, _⟩ := I.ok.funs.mem hb
    exact I.base.free b o ho (I.ok.frf b hb) fun z => I.ok.exfs b z hb

/-- THE STEP: the untracked objects but the frame and the records at ch are kept (the callers' frames up to slots), the frame's map is kept, the new abstract heap is held -/
theorem Inv.step {g' : Array GenState} {t' : Nat} {d' : Drawn} {ch : List Addr} (I : Inv X pins σ H s)
    (hch : ∀ b ∈ ch, (b ∈ X.ex ∨ X.s₀.heap.objs.size ≤ b) ∧ b ≠ X.env.locals ∧ (∀ x c, X.env.cells.lookup x = some c → c ≠ b) ∧ ∀ p ∈ X.pn ++ pins, p.1 ≠ b)
    (keep : ∀ b o, b ≠ X.env.locals → b ∉ X.fs → b ∉ ch → s.heap.get? b = some o → H b = none → h'.get? b = some o)
    (slot : ∀ b o, b ≠ X.env.locals → b ∈ X.fs → b ∉ ch → s.heap.get? b = some o → H b = none → ∃ sl, h'.get? b = some { o with slots := sl }) (free : ∀ b o, b ∉ ch → s.heap.get? b = some o → H b = none → H' b = none)
    (there : ∀ b o, b ∉ ch → s.heap.get? b = some o → ∃ o', h'.get? b = some o')
    (tups : ∀ b xs, H b = some (.tup xs) → H' b = some (.tup xs)) (frzs : ∀ b o u, H b = some (.frz o u) → H' b = some (.frz o u)) (tbls : ∀ b ps, H b = some (.tbl ps) → ∃ more, H' b = some (.tbl (ps ++ more)))
    (ns : ∀ m, s.heap.Ns X.env.locals m → h'.Ns X.env.locals m) (hok : HOk X.prog X.w H' h') (hg : AllBare g') :
    Inv X pins σ H' { s with heap := h', gens := g', drawn := d', toks := t' } := by
  have neL : ∀ b o, X.s₀.heap.get? b = some o → b ≠ X.env.locals := fun b o e => Nat.ne_of_lt (Nat.lt_of_lt_of_le (Heap.lt_size e) I.ok.above)
  have neC : ∀ b o, X.s₀.heap.get? b = some o → b ∉ X.ex → b ∉ ch := fun b o e hx hb => by
    rcases (hch b hb).1 with z | z
    · exact hx z
    · exact absurd (Nat.lt_of_lt_of_le (Heap.lt_size e) z) (Nat.lt_irrefl _)
  have cellK : ∀ x c, X.env.cells.lookup x = some c → ∀ v, s.heap.IsCell c v → h'.IsCell c v := fun x c e v ⟨o, ho, hd⟩ => by
    have nch : c ∉ ch := fun z => (hch c z).2.2.1 x c e rfl
    by_cases hc : c ∈ X.fs
    · obtain ⟨sl, q⟩ := slot c o (I.cne x c e) hc nch ho (I.freeC x c e)
      exact ⟨_, q, hd⟩
    · exact ⟨o, keep c o (I.cne x c e) hc nch ho (I.freeC x c e), hd⟩
  refine ⟨I.ok, I.os, hg, ⟨fun b o e n hb hx => ?_, fun b o e n hb hx => ?_, fun b o e n hx => ?_, fun b o e hx => ?_, fun b xs e => tups b xs (I.base.tups b xs e), fun b o xs e => frzs b o xs (I.base.frzs b o xs e), fun b ps e => ?_⟩, ?_, fun x c e => ?_, ?_, fun x c e => ?_, fun p hp => ?_, hok, I.len⟩
  · exact keep b o (neL b o e) hb (neC b o e hx) (I.base.keep b o e n hb hx) (I.base.free b o e n hx)
  · obtain ⟨sl, e1⟩ := I.base.slot b o e n hb hx
    obtain ⟨sl', e2⟩ := slot b _ (neL b o e) hb (neC b o e hx) e1 (I.base.free b o e n hx)
    exact ⟨sl', e2⟩
  · obtain ⟨o', e1⟩ := I.base.there b o e hx
    exact free b o' (neC b o e hx) e1 (I.base.free b o e n hx)
  · obtain ⟨o', e1⟩ := I.base.there b o e hx
    exact there b o' (neC b o e hx) e1
  · obtain ⟨m1, e1⟩ := I.base.tbls b ps e
    obtain ⟨m2, e2⟩ := tbls b _ e1
    exact ⟨m1 ++ m2, by rw [e2, Array.append_assoc]⟩
  · obtain ⟨m, hn, hl⟩ := I.loc
    refine ⟨m, ns m hn, fun i x v e1 e2 e3 => ?_⟩
    obtain ⟨u, r, l⟩ := hl i x v e1 e2 e3
    refine ⟨u, r, ?_⟩
    rcases l with l | ⟨k, c, e, z⟩
    · exact .inl l
    · exact .inr ⟨k, c, e, cellK x c e _ z⟩
  · obtain ⟨v, z⟩ := I.cell x c e
    exact ⟨v, cellK x c e v z⟩
  · obtain ⟨m, ⟨o, _, _, ho, _⟩, _⟩ := I.loc
    exact free _ o (fun z => (hch _ z).2.1 rfl) ho I.free
  · obtain ⟨v, o, ho, hd⟩ := I.cell x c e
    exact free c o (fun z => (hch c z).2.2.1 x c e rfl) ho (I.freeC x c e)
  · obtain ⟨e, n, ne, nf, d⟩ := I.pin p hp
    have nch : p.1 ∉ ch := fun z => (hch p.1 z).2.2.2 p hp rfl
    exact ⟨keep p.1 p.2 ne nf nch e n, free p.1 p.2 nch e n, ne, nf, d⟩
/-- .. where the frame's own object is kept too -/
theorem Inv.un {t' : Nat} (I : Inv X pins σ H s) (u : Un X.fs [] H H' s.heap h') (hok : HOk X.prog X.w H' h') : Inv X pins σ H' { s with heap := h', toks := t' } := by
  obtain ⟨m, ⟨o, es, ep, ho, r⟩, _⟩ := id I.loc
  obtain ⟨sl, hL⟩ := u.any ho I.free (by simp)
  exact I.step (g' := s.gens) (d' := s.drawn) (ch := []) (fun _ z => nomatch z) (fun b o _ hb _ e n => u.keep b o e n hb (by simp)) (fun b o _ hb _ e n => u.slot b o e n hb (by simp)) (fun b o _ e n => u.free b o e n (by simp)) (fun b o _ e => u.there b o e (by simp)) u.tups u.frzs u.tbls (fun m' hm => by
    obtain ⟨o', es', ep', ho', r'⟩ := hm
    rw [ho] at ho'; cases ho'
    exact ⟨_, es', ep', hL, r'⟩) hok I.bare
/-- behind a call (or a comprehension's block): the slots of this frame may have changed too, the records at ch may have turned -/
theorem Inv.call {g' : Array GenState} {t' : Nat} {d' : Drawn} {ch : List Addr} (I : Inv X pins σ H s) (u : Un (frs X.stack) ch H H' s.heap h') (hok : HOk X.prog X.w H' h') (hg : AllBare g')
    (hch : ∀ b ∈ ch, (b ∈ X.ex ∨ X.s₀.heap.objs.size ≤ b) ∧ b ≠ X.env.locals ∧ (∀ x c, X.env.cells.lookup x = some c → c ≠ b) ∧ ∀ p ∈ X.pn ++ pins, p.1 ≠ b) :
    Inv X pins σ H' { s with heap := h', gens := g', drawn := d', toks := t' } := by
  obtain ⟨m, ⟨o, es, ep, ho, r⟩, _⟩ := id I.loc
  obtain ⟨sl, hL⟩ := u.any ho I.free fun z => (hch _ z).2.1 rfl
  exact I.step (ch := ch) hch (fun b o hL hb hc e n => u.keep b o e n (fun z => (List.mem_cons.mp (I.stkSub b z)).elim hL hb) hc) (fun b o _ _ hc e n => u.any e n hc) (fun b o hc e n => u.free b o e n hc) (fun b o hc e => u.there b o e hc) u.tups u.frzs u.tbls (fun m' hm => by
    obtain ⟨o', es', ep', ho', r'⟩ := hm
    rw [ho] at ho'; cases ho'
    exact ⟨_, es', ep', hL, r'⟩) hok hg
/-- an untracked record of ours (an iterator) has turned -/
theorem Inv.turned {t' : Nat} {it : Addr} (I : Inv X pins σ H s) (k : ∀ b o, b ≠ it → s.heap.get? b = some o → h'.get? b = some o) (hn : H it = none) (hL : it ≠ X.env.locals)
    (h1 : it ∈ X.ex ∨ X.s₀.heap.objs.size ≤ it) (h2 : ∀ x c, X.env.cells.lookup x = some c → c ≠ it) (h3 : ∀ p ∈ X.pn ++ pins, p.1 ≠ it) : Inv X pins σ H { s with heap := h', toks := t' } := by
  have nit : ∀ b u, H b = some u → b ≠ it := fun b u e z => by rw [z, hn] at e; cases e
  refine I.step (g' := s.gens) (d' := s.drawn) (ch := [it]) (fun b hb => ?_) (fun b o _ _ hc e _ => k b o (fun z => hc (by simp [z])) e) (fun b o _ _ hc e _ => ⟨o.slots, k b o (fun z => hc (by simp [z])) e⟩) (fun _ _ _ _ n => n)
    (fun b o hc e => ⟨o, k b o (fun z => hc (by simp [z])) e⟩) (fun _ _ e => e) (fun _ _ _ e => e) (fun b ps e => ⟨#[], by rw [e]; simp⟩) (fun m hm => ?_) (fun b u e => ?_) I.bare
  · have e : b = it := by simpa using hb
    subst e
    exact ⟨h1, hL, h2, h3⟩
  · obtain ⟨o, es, ep, ho, r⟩ := hm
    exact ⟨o, es, ep, k _ o (Ne.symm hL) ho, r⟩
  · refine (I.hok b u e).stay (fun c v hc q => k c v ?_ q) (fun _ q => q) fun _ _ q => q
    rcases hc with z | z
    · rw [z]; exact nit b u e
    · exact nit c _ z
theorem Inv.tok (I : Inv X pins σ H s) (t : Nat) : Inv X pins σ H { s with toks := t } := I.un (h' := s.heap) (t' := t) Un.refl I.hok
/-- all objects kept -/
theorem Inv.kept {t' : Nat} (I : Inv X pins σ H s) (k : ∀ b u, s.heap.get? b = some u → h'.get? b = some u) : Inv X pins σ H { s with heap := h', toks := t' } := I.un (Un.kept k) (I.hok.kept k)
/-- a new object laid and tracked -/
theorem Inv.laid {a : Addr} {o : HO} {t' : Nat} (I : Inv X pins σ H s) (k : ∀ b u, s.heap.get? b = some u → h'.get? b = some u) (hp : s.heap.objs.size ≤ a) (new : ObjOk X.prog X.w (upd H a o) h' a o) :
    Inv X pins σ (upd H a o) { s with heap := h', toks := t' } := I.un (Un.laid k hp (I.hok.fresh hp)) (I.hok.laid k hp new)
/-- an object written -/
theorem Inv.write {x e : Addr} {o : HO} {t' : Nat} (I : Inv X pins σ H s) (mu : Mut (H x)) (he : e = x ∨ H e = some (.own x)) (k : ∀ b u, b ≠ e → s.heap.get? b = some u → h'.get? b = some u) (heo : ∃ u, h'.get? e = some u)
    (new : ObjOk X.prog X.w (upd H x o) h' x o) : Inv X pins σ (upd H x o) { s with heap := h', toks := t' } := I.un (Un.write mu he k heo) (I.hok.write mu he k heo new)
theorem Inv.pins_of {pins' : List (Addr × Obj)} (I : Inv X pins σ H s) (h : ∀ p ∈ pins', s.heap.get? p.1 = some p.2 ∧ H p.1 = none ∧ p.1 ≠ X.env.locals ∧ p.1 ∉ X.fs ∧ ∀ v, p.2.data ≠ .cell v) : Inv X pins' σ H s :=
  ⟨I.ok, I.os, I.bare, I.base, I.loc, I.cell, I.free, I.freeC, fun p hp => (List.mem_append.mp hp).elim (fun z => I.pin p (List.mem_append_left _ z)) (h p), I.hok, I.len⟩

theorem nodup_ix {N : List Str} (hN : N.Nodup) {i j : Nat} {x : Str} (a : N[i]? = some x) (b : N[j]? = some x) : i = j := by
  obtain ⟨h1, e1⟩ := List.getElem?_eq_some_iff.mp a
  obtain ⟨h2, e2⟩ := List.getElem?_eq_some_iff.mp b
  exact (List.getElem_inj hN).mp (e1.trans e2.symm)

/-- a name is stored; what changed -/
theorem store_ok2 {M : Model} {A : Around} {E : Value → Shared → Prop} {i : Nat} {x : Str} {v : V} {u : Value} {Q : Unit → Shared → Prop} (I : Inv X pins σ H s) (hN : X.N.Nodup) (hi : X.N[i]? = some x) (hx : Loc X.env.scope x) (r : RelV v u)
    (h : ∀ s', Inv X pins (σ.set i (some v)) H s' → (∃ a, Heap.SameBut a s.heap s'.heap ∧ (a = X.env.locals ∨ X.env.cells.lookup x = some a)) → Q () s') (hf : X.fn x = true ∨ X.env.scope.names.lookup x = some .local := by first | exact .inl rfl | exact .inr rfl | assumption) : wpAny M A (storeName X.env x u) Q E s := by
  obtain ⟨m, hn, hl⟩ := id I.loc
  have hcls : (X.env.scope.kind == .class || (X.env.scope.kind == .module && X.env.locals != X.env.globals)) = false := by rw [I.ok.kind]; rfl
  have hiσ : i < σ.length := by rw [I.len]; exact (List.getElem?_eq_some_iff.mp hi).1
  have cne := I.cne
  have tracked : ∀ {a : Addr} {h' : Heap}, (∃ o, s.heap.get? a = some o ∧ H a = none) → Heap.SameBut a s.heap h' → HOk X.prog X.w H h' := fun {a h'} ha hs b ob e => by
    obtain ⟨_, _, hfree⟩ := ha
    refine (I.hok b ob e).stay (fun c w' hc q => (hs.2 c ?_).trans q) (fun _ q => q) fun _ _ q => q
    rintro rfl
    rcases hc with rfl | hc
    · rw [hfree] at e; cases e
    · rw [hfree] at hc; cases hc
  rcases hx with hk | hk
  · refine wpAny_storeName_local hk hn (fun h' hn' hs => ?_) hcls
    obtain ⟨oL, _, _, hoL, _⟩ := id hn
    refine h _ ⟨I.ok, I.os, I.bare, ⟨fun b o e n hb hx => ?_, fun b o e n hb hx => ?_, I.base.free, fun b o e hx => ?_, I.base.tups, I.base.frzs, I.base.tbls⟩, ⟨_, hn', fun j y v' e1 e2 e3 => ?_⟩, fun y c e => ?_, I.free, I.freeC, fun p hp => ?_, tracked ⟨oL, hoL, I.free⟩ hs, by simpa using I.len⟩ ⟨_, hs, .inl rfl⟩
    · exact (hs.2 b (Nat.ne_of_lt (Nat.lt_of_lt_of_le (Heap.lt_size e) I.ok.above))).trans (I.base.keep b o e n hb hx)
    · obtain ⟨sl, e1⟩ := I.base.slot b o e n hb hx
      exact ⟨sl, (hs.2 b (Nat.ne_of_lt (Nat.lt_of_lt_of_le (Heap.lt_size e) I.ok.above))).trans e1⟩
    · obtain ⟨o', e1⟩ := I.base.there b o e hx
      exact ⟨o', (hs.2 b (Nat.ne_of_lt (Nat.lt_of_lt_of_le (Heap.lt_size e) I.ok.above))).trans e1⟩
    · by_cases hj : j = i
      · subst hj
        rw [hi] at e1; cases e1
        rw [List.getElem?_set_self hiσ] at e2
        cases e2
        exact ⟨u, r, .inl ⟨hk, by simp⟩⟩
      · rw [List.getElem?_set_ne (Ne.symm hj)] at e2
        obtain ⟨u', r', q⟩ := hl j y v' e1 e2 e3
        refine ⟨u', r', ?_⟩
        rcases q with ⟨k, e⟩ | ⟨k, c, e, z⟩
        · refine .inl ⟨k, ?_⟩
          have : y ≠ x := fun e => hj (nodup_ix hN e1 (e ▸ hi))
          simp [this, e]
        · exact .inr ⟨k, c, e, z.sameBut hs (cne y c e)⟩
    · obtain ⟨w', z⟩ := I.cell y c e
      exact ⟨w', z.sameBut hs (cne y c e)⟩
    · obtain ⟨e, n, ne, nf, d⟩ := I.pin p hp
      exact ⟨(hs.2 p.1 ne).trans e, n, ne, nf, d⟩
  · have hfn : X.fn x = true := by
      rcases hf with z | z
      · exact z
      · rw [z] at hk; cases hk
    obtain ⟨c, hc⟩ := I.ok.has x (.inl hk)
    obtain ⟨w', z⟩ := I.cell x c hc
    refine wpAny_storeName_cell I.ok.kind hk hc z (fun h' hc' hs => ?_)
    obtain ⟨oc, hoc, hocd⟩ := id z
    refine h { s with heap := h' } ⟨I.ok, I.os, I.bare, ⟨fun b o e n hb hx => ?_, fun b o e n hb hx => ?_, I.base.free, fun b o e hx => ?_, I.base.tups, I.base.frzs, I.base.tbls⟩, ⟨m, hn.sameBut hs (Ne.symm (cne x c hc)), fun j y v' e1 e2 e3 => ?_⟩, fun y c' e => ?_, I.free, I.freeC, fun p hp => ?_, tracked ⟨oc, hoc, I.freeC x c hc⟩ hs, by simpa using I.len⟩ ⟨c, hs, .inr hc⟩
    · exact (hs.2 b (Nat.ne_of_lt (Nat.lt_of_lt_of_le (Heap.lt_size e) (I.ok.cab x c hfn hc)))).trans (I.base.keep b o e n hb hx)
    · obtain ⟨sl, e1⟩ := I.base.slot b o e n hb hx
      exact ⟨sl, (hs.2 b (Nat.ne_of_lt (Nat.lt_of_lt_of_le (Heap.lt_size e) (I.ok.cab x c hfn hc)))).trans e1⟩
    · obtain ⟨o', e1⟩ := I.base.there b o e hx
      exact ⟨o', (hs.2 b (Nat.ne_of_lt (Nat.lt_of_lt_of_le (Heap.lt_size e) (I.ok.cab x c hfn hc)))).trans e1⟩
    · by_cases hj : j = i
      · subst hj
        rw [hi] at e1; cases e1
        rw [List.getElem?_set_self hiσ] at e2
        cases e2
        exact ⟨u, r, .inr ⟨.inl hk, c, hc, hc'⟩⟩
      · rw [List.getElem?_set_ne (Ne.symm hj)] at e2
        obtain ⟨u', r', q⟩ := hl j y v' e1 e2 e3
        refine ⟨u', r', ?_⟩
        rcases q with q | ⟨k, c', e, z'⟩
        · exact .inl q
        · refine .inr ⟨k, c', e, z'.sameBut hs ?_⟩
          rintro rfl
          exact hj (nodup_ix hN e1 (I.ok.inj _ _ _ e hc ▸ hi))
    · by_cases hcc : c' = c
      · subst hcc; exact ⟨_, hc'⟩
      · obtain ⟨w2, z2⟩ := I.cell y c' e
        exact ⟨w2, z2.sameBut hs hcc⟩
    · obtain ⟨e, n, ne, nf, d⟩ := I.pin p hp
      refine ⟨(hs.2 p.1 ?_).trans e, n, ne, nf, d⟩
      intro q
      rw [q, hoc] at e
      have q' : oc = p.2 := Option.some.inj e
      exact d w' (by rw [← q']; exact hocd)
theorem store_ok {M : Model} {A : Around} {E : Value → Shared → Prop} {i : Nat} {x : Str} {v : V} {u : Value} {Q : Unit → Shared → Prop} (I : Inv X pins σ H s) (hN : X.N.Nodup) (hi : X.N[i]? = some x) (hx : Loc X.env.scope x) (r : RelV v u)
    (h : ∀ s', Inv X pins (σ.set i (some v)) H s' → Q () s') (hf : X.fn x = true ∨ X.env.scope.names.lookup x = some .local := by first | exact .inl rfl | exact .inr rfl | assumption) : wpAny M A (storeName X.env x u) Q E s :=
  store_ok2 I hN hi hx r (fun s' I' _ => h s' I') hf
end

/-! ### the judgements -/
/-- an exception: its class, its own dict's address (where it has one), the abstract heap behind it -/
abbrev XK := Value → Option Addr → Hp → Prop
abbrev St := List (Option V)
abbrev VK := V → Hp → Prop
/-- an expression's reading; a test's; an argument list's -/
abbrev TE := St → Hp → VK → Prop
abbrev TT := St → Hp → (Bool → Hp → Prop) → Prop
abbrev TA := St → Hp → (List V → Hp → Prop) → Prop
/-- what is wanted behind a statement -/
structure Ends where
  nx : St → Hp → Prop
  rt : VK
  bk : St → Hp → Prop := fun _ _ => False
  ct : St → Hp → Prop := fun _ _ => False
abbrev TS := Ends → St → Hp → Prop

def EP (X : Cx) (pins : List (Addr × Obj)) (σ : St) (Q : VK) (u : Value) (s' : Shared) : Prop := ∃ v H', Inv X pins σ H' s' ∧ RelV v u ∧ Q v H'
def TP (X : Cx) (pins : List (Addr × Obj)) (σ : St) (Q : Bool → Hp → Prop) (b : Bool) (s' : Shared) : Prop := ∃ H', Inv X pins σ H' s' ∧ Q b H'
def AP (X : Cx) (pins : List (Addr × Obj)) (σ : St) (Q : List V → Hp → Prop) (us : List Value) (s' : Shared) : Prop := ∃ vs H', Inv X pins σ H' s' ∧ Vals vs us ∧ Q vs H'
def SP (X : Cx) (pins : List (Addr × Obj)) (D : Ends) (f : Flow) (s' : Shared) : Prop :=
  match f with
  | .next => ∃ σ' H', Inv X pins σ' H' s' ∧ D.nx σ' H'
  | .brk => ∃ σ' H', Inv X pins σ' H' s' ∧ D.bk σ' H'
  | .cont => ∃ σ' H', Inv X pins σ' H' s' ∧ D.ct σ' H'
  | .ret u => ∃ v σ' H', Inv X pins σ' H' s' ∧ RelV v u ∧ D.rt v H'

def PE (X : Cx) (e : Expr) (t : TE) : Prop :=
  ∀ (pins : List (Addr × Obj)) (s : Shared) (σ : St) (H : Hp) (Q : VK), Inv X pins σ H s → t σ H Q → wpAny (model X.prog X.w) X.A (eval e X.env) (EP X pins σ Q) X.xe s
def PT (X : Cx) (e : Expr) (t : TT) : Prop :=
  ∀ (pins : List (Addr × Obj)) (s : Shared) (σ : St) (H : Hp) (Q : Bool → Hp → Prop), Inv X pins σ H s → t σ H Q → wpAny (model X.prog X.w) X.A (isTrue e X.env (eval e X.env)) (TP X pins σ Q) X.xe s
/-- a test whatever its 'whole' is (and, or) -/
def PW (X : Cx) (e : Expr) (t : TT) : Prop :=
  ∀ (whole : Sem Value) (pins : List (Addr × Obj)) (s : Shared) (σ : St) (H : Hp) (Q : Bool → Hp → Prop), Inv X pins σ H s → t σ H Q → wpAny (model X.prog X.w) X.A (isTrue e X.env whole) (TP X pins σ Q) X.xe s
theorem PW.pt {X : Cx} {e : Expr} {t : TT} (h : PW X e t) : PT X e t := h _
/-- an argument list (no star), from the left -/
def PA (X : Cx) (es : List Expr) (t : TA) : Prop :=
  ∀ (pos : Pos) (pins : List (Addr × Obj)) (s : Shared) (σ : St) (H : Hp) (Q : List V → Hp → Prop), Inv X pins σ H s → t σ H Q → wpAny (model X.prog X.w) X.A (spliced (backTo pos (starEach es X.env))) (AP X pins σ Q) X.xe s
def PS (X : Cx) (st : Stmt) (t : TS) : Prop :=
  ∀ (pins : List (Addr × Obj)) (s : Shared) (σ : St) (H : Hp) (D : Ends), Inv X pins σ H s → t D σ H → wpAny (model X.prog X.w) X.A (exec st X.env) (SP X pins D) X.xe s
def PSs (X : Cx) (st : List Stmt) (t : TS) : Prop :=
  ∀ (pins : List (Addr × Obj)) (s : Shared) (σ : St) (H : Hp) (D : Ends), Inv X pins σ H s → t D σ H → wpAny (model X.prog X.w) X.A (execs st X.env) (SP X pins D) X.xe s
/-- weaken the end -/
theorem thn {α : Type} {t : Sem α} {Q Q' : α → Shared → Prop} {M : Model} {A : Around} {E : Value → Shared → Prop} {s : Shared} (h : wpAny M A t Q E s) (hQ : ∀ a s, Q a s → Q' a s) : wpAny M A t Q' E s := wpAny_mono h hQ fun _ _ x => x
end L2

namespace L2
open PySem PySem.Spec PyProof.Rows
section
variable {X : Cx}

/-- two expressions in a row -/
theorem bin {a b : Expr} {ta tb : TE} (ha : PE X a ta) (hb : PE X b tb) {pins : List (Addr × Obj)} {s : Shared} {σ : St} {H : Hp} {R : V → V → Hp → Prop} (I : Inv X pins σ H s) (h : ta σ H fun x H1 => tb σ H1 fun y H2 => R x y H2)
    {α : Type} {Q : α → Shared → Prop} {f : Value → Value → Sem α}
    (hf : ∀ v u s2 x y H2, Inv X pins σ H2 s2 → RelV x v → RelV y u → R x y H2 → wpAny (model X.prog X.w) X.A (f v u) Q X.xe s2) :
    wpAny (model X.prog X.w) X.A (eval a X.env) (fun v s₁ => wpAny (model X.prog X.w) X.A (eval b X.env) (fun u s₂ => wpAny (model X.prog X.w) X.A (f v u) Q X.xe s₂) X.xe s₁) X.xe s := by
  refine thn (ha pins s σ H _ I h) fun v s1 ⟨x, H1, I1, r1, q1⟩ => ?_
  refine thn (hb pins s1 σ H1 _ I1 q1) fun u s2 ⟨y, H2, I2, r2, q2⟩ => ?_
  exact hf v u s2 x y H2 I2 r1 r2 q2

/-! ### names and constants -/
def tVar (i : Nat) : TE := fun σ H Q => ∃ v, σ[i]? = some (some v) ∧ Q v H
def tC (v : V) : TE := fun _ H Q => Q v H
theorem pe_var {i : Nat} {x : Str} {pos : Pos} (hN : X.N[i]? = some x) (hv : Vis X.env.scope x) (hd : (x == ("__debug__" : Str)) = false := by decide) (hcd : (x == ("__classdict__" : Str)) = false := by decide) : PE X (.Name x pos) (tVar i) := by
  intro pins s σ H Q I h
  obtain ⟨v, e, h⟩ := h
  obtain ⟨m, hn, hl⟩ := I.loc
  obtain ⟨u, r, l⟩ := hl i x v hN e hv
  have fin : EP X pins σ Q u s := ⟨v, H, I, r, h⟩
  rcases l with ⟨hk, hm⟩ | ⟨hk, c, hc, hcell⟩
  · exact wpAny_Name (wpAny_loadName_local I.ok.kind hk hn hm fin) hd
  · rcases hk with hk | hk
    · exact wpAny_Name (wpAny_loadName_cell I.ok.kind hk hc hcell fin) hd
    · exact wpAny_Name (wpAny_loadName_free I.ok.kind hk hc hcell fin hcd) hd
theorem pe_int {i j pos} : PE X (.Constant (.int i) j pos) (tC (.int i)) := fun _ _ _ H _ I h => wpAny_Constant_int ⟨.int i, H, I.tok _, ⟨_, rfl⟩, h⟩
theorem pe_bl {b j pos} : PE X (.Constant (.bool b) j pos) (tC (.bl b)) := fun _ _ _ H _ I h => Constant_bool ⟨.bl b, H, I, rfl, h⟩
theorem pe_non {j pos} : PE X (.Constant .none j pos) (tC .non) := fun _ _ _ H _ I h => Constant_none ⟨.non, H, I, rfl, h⟩
theorem pe_str {x j pos} : PE X (.Constant (.str x) j pos) (tC (.str x)) := fun _ _ _ H _ I h => Calls.Constant_str ⟨.str x, H, I.tok _, ⟨_, rfl⟩, h⟩

/-- a global name of the def -/
def Gl (X : Cx) (x : Str) : Prop := X.env.kindOf x = some .globalImplicit
theorem ld_glob {E : Value → Shared → Prop} {pins : List (Addr × Obj)} {s : Shared} {σ : St} {H : Hp} {x : Str} {u : Value} {pos : Pos} {Q : Value → Shared → Prop} (I : Inv X pins σ H s) (hg : Gl X x) (hm : X.mg x = some u) (h : Q u s)
    (hd : (x == ("__debug__" : Str)) = false := by decide) : wpAny (model X.prog X.w) X.A (eval (.Name x pos) X.env) Q E s :=
  Calls.Name_function_global I.ok.kind hg (Calls.loadGlobal_global (by rw [I.ok.glob]; exact I.mod.glob.keeps I.bk) hm h) hd
theorem ld_blt {E : Value → Shared → Prop} {pins : List (Addr × Obj)} {s : Shared} {σ : St} {H : Hp} {x : Str} {u : Value} {pos : Pos} {Q : Value → Shared → Prop} (I : Inv X pins σ H s) (hg : Gl X x) (hm : X.mg x = none) (hv : bootBuiltins x = some u) (h : Q u s)
    (hn : x ≠ "__name__" := by decide) (hd : (x == ("__debug__" : Str)) = false := by decide) : wpAny (model X.prog X.w) X.A (eval (.Name x pos) X.env) Q E s := by
  obtain ⟨mb, h1, h2⟩ := I.mod.blt
  exact Calls.Name_function_global I.ok.kind hg (Calls.loadGlobal_builtin (by rw [I.ok.glob]; exact I.mod.glob.keeps I.bk) hm (by rw [I.ok.blt]; exact h1.keeps I.bk) ((h2 x hn).trans hv) h) hd
theorem pe_bltn {x : Str} {v : V} {u : Value} {pos : Pos} (hg : Gl X x) (hm : X.mg x = none) (hv : bootBuiltins x = some u) (r : RelV v u) (hn : x ≠ "__name__" := by decide) (hd : (x == ("__debug__" : Str)) = false := by decide) : PE X (.Name x pos) (tC v) :=
  fun _ _ _ H _ I h => ld_blt I hg hm hv ⟨v, H, I, r, h⟩ hn hd

/-! ### arithmetic -/
variable {a b : Expr} {ta tb : TE} {pos : Pos}

/-! ### comparisons -/
def PC (X : Cx) (op : CmpOp) (a b : Expr) (t : TE) : Prop :=
  ∀ (pins : List (Addr × Obj)) (s : Shared) (σ : St) (H : Hp) (Q : VK), Inv X pins σ H s → t σ H Q →
    wpAny (model X.prog X.w) X.A (eval a X.env) (fun v s₁ => wpAny (model X.prog X.w) X.A (eval b X.env) (fun u s₂ => wpAny (model X.prog X.w) X.A (compareOp op v u) (EP X pins σ Q) X.xe s₂) X.xe s₁) X.xe s
/-- a comparison as a value, as a test -/
def tB (t : TE) : TT := fun σ H Q => t σ H fun x H1 => ∃ c, x = .bl c ∧ Q c H1
theorem pe_cmp {op : CmpOp} {t : TE} (h : PC X op a b t) (h1 : behindInMarks op b = false := by first | exact nobehind _ (by decide) (by decide) | rfl) : PE X (.Compare a [op] [b] pos) t := fun pins s σ H Q I hw => wpAny_Compare1 (h pins s σ H Q I hw) h1
theorem pt_cmp {op : CmpOp} {t : TE} (h : PC X op a b t) (h1 : behindInMarks op b = false := by first | exact nobehind _ (by decide) (by decide) | rfl) : PT X (.Compare a [op] [b] pos) (tB t) := by
  intro pins s σ H Q I hw
  refine wpAny_isTrue_Compare1 (thn (h pins s σ H _ I hw) fun v s1 h1 => thn h1 fun u s2 h2 => thn h2 fun c s3 ⟨x, H1, I1, r1, q1⟩ => ?_) h1
  obtain ⟨d, rfl, q⟩ := q1
  cases r1
  exact wpAny_truthy_bool ⟨H1, I1, q⟩
/-- an expression whose value is a bool, as a test -/
theorem pt_val {e : Expr} {t : TE} (h : PE X e t) (he : ∀ whole, isTrue e X.env whole = (do let v ← whole; standAt e.pos; holding [v] (truthy v)) := by intro _; rfl) : PT X e (tB t) := by
  intro pins s σ H Q I hw
  refine isTrue_plain (thn (h pins s σ H _ I hw) fun v s1 ⟨x, H1, I1, r1, q1⟩ => ?_) (he _)
  obtain ⟨d, rfl, q⟩ := q1
  cases r1
  exact wpAny_truthy_bool ⟨H1, I1, q⟩

/-! ### and, or, not -/
variable {tA tB' : TT} {rest : List Expr}
def tAnd (t u : TT) : TT := fun σ H Q => t σ H fun c H1 => if c = true then u σ H1 Q else Q false H1
def tOr (t u : TT) : TT := fun σ H Q => t σ H fun c H1 => if c = true then Q true H1 else u σ H1 Q
def tNot (t : TT) : TT := fun σ H Q => t σ H fun c H1 => Q (!c) H1
theorem pw_and1 (ha : PT X a tA) : PW X (.BoolOp .And [a] pos) tA := by
  intro wh pins s σ H Q I h
  refine isTrue_and (thn (ha pins s σ H Q I h) fun c s1 e => ?_)
  cases c with
  | true => exact isTrue_and_nil e
  | false => exact e
theorem pw_or1 (ha : PT X a tA) : PW X (.BoolOp .Or [a] pos) tA := by
  intro wh pins s σ H Q I h
  refine isTrue_or (thn (ha pins s σ H Q I h) fun c s1 e => ?_)
  cases c with
  | false => exact isTrue_or_nil e
  | true => exact e
theorem pw_and (ha : PT X a tA) (hb : PW X (.BoolOp .And (b :: rest) pos) tB') : PW X (.BoolOp .And (a :: b :: rest) pos) (tAnd tA tB') := by
  intro wh pins s σ H Q I h
  refine isTrue_and (thn (ha pins s σ H _ I h) fun c s1 ⟨H1, I1, q1⟩ => ?_)
  cases c with
  | true => exact hb wh pins s1 σ H1 Q I1 q1
  | false => exact ⟨H1, I1, q1⟩
theorem pw_or (ha : PT X a tA) (hb : PW X (.BoolOp .Or (b :: rest) pos) tB') : PW X (.BoolOp .Or (a :: b :: rest) pos) (tOr tA tB') := by
  intro wh pins s σ H Q I h
  refine isTrue_or (thn (ha pins s σ H _ I h) fun c s1 ⟨H1, I1, q1⟩ => ?_)
  cases c with
  | true => exact ⟨H1, I1, q1⟩
  | false => exact hb wh pins s1 σ H1 Q I1 q1
theorem pt_not (ha : PT X a tA) : PT X (.UnaryOp .Not a pos) (tNot tA) := by
  intro pins s σ H Q I h
  exact isTrue_not (ha pins s σ H (fun c H1 => Q (!c) H1) I h)
/-- .. as values (bools) -/
def tAndV (ta tb : TE) : TE := fun σ H Q => ta σ H fun x H1 => ∃ c, x = .bl c ∧ if c = true then tb σ H1 Q else Q (.bl false) H1
def tNotV (ta : TE) : TE := fun σ H Q => ta σ H fun x H1 => ∃ c, x = .bl c ∧ Q (.bl (!c)) H1
theorem pe_one {op} {t : TE} (h : PE X a t) : PE X (.BoolOp op [a] pos) t := fun pins s σ H Q I hw => BoolOp_one (h pins s σ H Q I hw)
theorem pe_and (ha : PE X a ta) (hb : PE X (.BoolOp .And (b :: rest) pos) tb) : PE X (.BoolOp .And (a :: b :: rest) pos) (tAndV ta tb) := by
  intro pins s σ H Q I h
  refine BoolOp_and (thn (ha pins s σ H _ I h) fun v s1 ⟨x, H1, I1, r1, q1⟩ => ?_)
  obtain ⟨c, rfl, q1⟩ := q1
  cases r1
  refine wpAny_truthy_bool ?_
  cases c with
  | true => exact hb pins s1 σ H1 Q I1 q1
  | false => exact ⟨.bl false, H1, I1, rfl, q1⟩
theorem pe_not (ha : PE X a ta) : PE X (.UnaryOp .Not a pos) (tNotV ta) := by
  intro pins s σ H Q I h
  refine UnaryOp_ (thn (ha pins s σ H _ I h) fun v s1 ⟨x, H1, I1, r1, q1⟩ => ?_)
  obtain ⟨c, rfl, q1⟩ := q1
  cases r1
  exact not_of (wpAny_truthy_bool ⟨.bl (!c), H1, I1, rfl, q1⟩)
end
end L2

namespace L2
open PySem PySem.Spec PyProof.Rows

/-! ### a list, a tuple that is read: tracked, frozen, or an object of the module -/
def SqL (K : PySem.W.Frag) (H : Hp) (a : Addr) (xs : List V) : Prop :=
  Rd H a (.lst xs) ∨
    ∃ (o : Obj) (its : Array Value) (n : Nat), K.lookup a = some o ∧ o.cls = .type "list" ∧ o.dict = none ∧ o.data = .seq its n ∧ its.size ≤ sizeLine ∧ Vals xs its.toList
def SqT (K : PySem.W.Frag) (H : Hp) (a : Addr) (xs : List V) : Prop :=
  Rd H a (.tup xs) ∨
    ∃ (o : Obj) (its : Array Value) (n : Nat), K.lookup a = some o ∧ o.cls = .type "tuple" ∧ o.data = .seq its n ∧ its.size ≤ sizeLine ∧ Vals xs its.toList
def absV : Value → Option V
  | .none => some .non
  | .bool b => some (.bl b)
  | .int i _ => some (.int i)
  | .str x _ => some (.str x)
  | .bytes b _ => some (.byt b)
  | .float b _ => some (.flt b)
  | .ref a => some (.ref a)
  | .type n => some (.ty n)
  | _ => none
theorem RelV.abs {x : V} {u : Value} (r : RelV x u) : absV u = some x := by
  cases x with
  | non => cases r; rfl
  | bl _ => cases r; rfl
  | int _ => obtain ⟨t, rfl⟩ := r; rfl
  | str _ => obtain ⟨t, rfl⟩ := r; rfl
  | byt _ => obtain ⟨t, rfl⟩ := r; rfl
  | flt _ => obtain ⟨t, rfl⟩ := r; rfl
  | ref _ => cases r; rfl
  | ty _ => cases r; rfl
theorem RelV.inj {x y : V} {u : Value} (r : RelV x u) (q : RelV y u) : x = y := Option.some.inj (r.abs.symm.trans q.abs)
theorem Vals.inj : ∀ {xs ys : List V} {us : List Value}, Vals xs us → Vals ys us → xs = ys
  | _, _, _, .nil, .nil => rfl
  | _, _, _, .cons r t, .cons r' t' => by rw [r.inj r', Vals.inj t t']
section
variable {X : Cx} {pins : List (Addr × Obj)} {σ : St} {H : Hp} {s : Shared} {a : Addr} {xs ys : List V}
theorem SqL.of {K : PySem.W.Frag} (h : H a = some (.lst xs)) : SqL K H a xs := .inl (.inl h)
theorem SqT.of {K : PySem.W.Frag} (h : H a = some (.tup xs)) : SqT K H a xs := .inl (.inl h)
theorem Inv.list (I : Inv X pins σ H s) (h : SqL X.K H a xs) : ∃ its : List Value, Vals xs its ∧ PlainL s.heap a its.toArray ∧ xs.length ≤ sizeLine := by
  rcases h with h | ⟨o, its, n, hk, hc, hd, hs, hz, r⟩
  · obtain ⟨z, its, n, r, e⟩ := h.ok I.hok
    exact ⟨its, r, ⟨_, n, e, rfl, rfl, rfl⟩, z⟩
  · refine ⟨its.toList, r, ⟨o, n, I.kIn a o hk, hc, hd, by simpa using hs⟩, ?_⟩
    have e := r.length
    simp only [Array.length_toList] at e
    omega
theorem Inv.tuple (I : Inv X pins σ H s) (h : SqT X.K H a xs) : ∃ its : List Value, Vals xs its ∧ IsTup s.heap a its.toArray ∧ xs.length ≤ sizeLine := by
  rcases h with h | ⟨o, its, n, hk, hc, hs, hz, r⟩
  · obtain ⟨z, its, r, p⟩ := h.ok I.hok
    exact ⟨its, r, p, z⟩
  · refine ⟨its.toList, r, ⟨o, I.kIn a o hk, hc, n, by simpa using hs⟩, ?_⟩
    have e := r.length
    simp only [Array.length_toList] at e
    omega
theorem Inv.list_inj (I : Inv X pins σ H s) (h : SqL X.K H a xs) (h' : SqL X.K H a ys) : xs = ys := by
  obtain ⟨its, r, ⟨o, n, e, _, _, d⟩, _⟩ := I.list h
  obtain ⟨its', r', ⟨o', n', e', _, _, d'⟩, _⟩ := I.list h'
  rw [e] at e'; cases e'
  rw [d] at d'
  injection d' with d1 _
  have : its = its' := by simpa using congrArg Array.toList d1
  subst this
  exact r.inj r'
theorem Inv.tuple_inj (I : Inv X pins σ H s) (h : SqT X.K H a xs) (h' : SqT X.K H a ys) : xs = ys := by
  obtain ⟨its, r, ⟨o, e, _, n, d⟩, _⟩ := I.tuple h
  obtain ⟨its', r', ⟨o', e', _, n', d'⟩, _⟩ := I.tuple h'
  rw [e] at e'; cases e'
  rw [d] at d'
  injection d' with d1 _
  have : its = its' := by simpa using congrArg Array.toList d1
  subst this
  exact r.inj r'
end

/-! ### another wish about exceptions -/
abbrev Cx.wish (X : Cx) (E : Value → Shared → Prop) : Cx := { X with xe := E }
/-- no exception leaves -/
abbrev Cx.nox (X : Cx) : Cx := X.wish fun _ _ => False
theorem Cx.Ok.wish {X : Cx} (ok : X.Ok) (E : Value → Shared → Prop) : (X.wish E).Ok :=
  ⟨ok.mod, ok.kind, ok.glob, ok.blt, ok.above, ok.inj, ok.has, ok.cab, ok.hd, ok.frames, ok.stk, ok.exf, ok.bs, ok.bsz, ok.noex, ok.exfs, ok.funs, ok.frf⟩
theorem Cx.Ok.unwish {X : Cx} {E : Value → Shared → Prop} (ok : (X.wish E).Ok) : X.Ok :=
  ⟨ok.mod, ok.kind, ok.glob, ok.blt, ok.above, ok.inj, ok.has, ok.cab, ok.hd, ok.frames, ok.stk, ok.exf, ok.bs, ok.bsz, ok.noex, ok.exfs, ok.funs, ok.frf⟩
section
variable {X : Cx} {pins : List (Addr × Obj)} {σ : St} {H : Hp} {s : Shared} {E : Value → Shared → Prop}
theorem Inv.wish (I : Inv X pins σ H s) (E : Value → Shared → Prop) : Inv (X.wish E) pins σ H s := ⟨I.ok.wish E, I.os, I.bare, I.base, I.loc, I.cell, I.free, I.freeC, I.pin, I.hok, I.len⟩
theorem Inv.unwish (I : Inv (X.wish E) pins σ H s) : Inv X pins σ H s := ⟨I.ok.unwish, I.os, I.bare, I.base, I.loc, I.cell, I.free, I.freeC, I.pin, I.hok, I.len⟩
theorem SP.unwish {D : Ends} {f : Flow} {s' : Shared} (h : SP (X.wish E) pins D f s') : SP X pins D f s' := by
  cases f with
  | next => obtain ⟨σ', H', I, q⟩ := h; exact ⟨σ', H', I.unwish, q⟩
  | brk => obtain ⟨σ', H', I, q⟩ := h; exact ⟨σ', H', I.unwish, q⟩
  | cont => obtain ⟨σ', H', I, q⟩ := h; exact ⟨σ', H', I.unwish, q⟩
  | ret u => obtain ⟨v, σ', H', I, r, q⟩ := h; exact ⟨v, σ', H', I.unwish, r, q⟩
theorem PSs.nox {st : List Stmt} {t : TS} (h : PSs X.nox st t) : PSs X st t := fun pins s σ H D I hw =>
  wpAny_mono (h pins s σ H D (I.wish _) hw) (fun _ _ q => q.unwish) fun _ _ z => False.elim z
end

/-! ### blocks and small statements -/
section
variable {X : Cx} {st : Stmt} {rest : List Stmt} {t u : TS} {e : Expr} {te : TE} {pos : Pos}
def tNext : TS := fun D σ H => D.nx σ H
def tSeq (t u : TS) : TS := fun D σ H => t { D with nx := u D } σ H
theorem pss_nil : PSs X [] tNext := fun _ _ σ H _ I h => wpAny_execs_nil ⟨σ, H, I, h⟩
theorem pss_cons (h1 : PS X st t) (h2 : PSs X rest u) : PSs X (st :: rest) (tSeq t u) := by
  intro pins s σ H D I h
  refine wpAny_execs_cons (thn (h1 pins s σ H { D with nx := u D } I h) fun f s1 q => ?_)
  cases f with
  | next =>
    obtain ⟨σ', H', I', q⟩ := q
    exact h2 pins s1 σ' H' D I' q
  | ret v => exact q
  | brk => exact q
  | cont => exact q
theorem pss_one (h1 : PS X st t) : PSs X [st] t := by
  intro pins s σ H D I h
  refine wpAny_execs_cons (thn (h1 pins s σ H D I h) fun f s1 q => ?_)
  cases f with
  | next => exact wpAny_execs_nil q
  | ret v => exact q
  | brk => exact q
  | cont => exact q
/-- in a def's body nothing is shown -/
theorem Inv.quiet {pins : List (Addr × Obj)} {σ : St} {H : Hp} {s : Shared} (I : Inv X pins σ H s) : interactive X.env = false := by simp [interactive, I.ok.kind]
/-- an expression whose value is dropped -/
def tDrop (te : TE) : TS := fun D σ H => te σ H fun _ H1 => D.nx σ H1
theorem ps_expr (he : PE X e te) (hs : swapsWith e none pos.line X.env = pure false := by rfl) : PS X (.Expr e pos) (tDrop te) := by
  intro pins s σ H D I h
  exact wpAny_Expr_any (thn (he pins s σ H _ I h) fun v s1 ⟨x, H1, I1, r1, q1⟩ => ⟨σ, H1, I1, q1⟩) I.quiet hs
def tRet (te : TE) : TS := fun D σ H => te σ H D.rt
theorem ps_ret (he : PE X e te) : PS X (.Return (some e) pos) (tRet te) := by
  intro pins s σ H D I h
  exact wpAny_Return_some (thn (he pins s σ H _ I h) fun v s1 ⟨x, H1, I1, r1, q1⟩ => ⟨x, σ, H1, I1, r1, q1⟩)
def tIfS (c : TT) (t u : TS) : TS := fun D σ H => c σ H fun b H1 => if b = true then t D σ H1 else u D σ H1
theorem ps_if {c : Expr} {a b : List Stmt} {tc : TT} (hc : PT X c tc) (ha : PSs X a t) (hb : PSs X b u) : PS X (.If c a b pos) (tIfS tc t u) := by
  intro pins s σ H D I h
  refine wpAny_If (thn (hc pins s σ H _ I h) fun d s1 ⟨H1, I1, q1⟩ => ?_)
  cases d with
  | true => exact ha pins s1 σ H1 D I1 q1
  | false => exact hb pins s1 σ H1 D I1 q1
end

/-! ### targets -/
abbrev TG := V → St → Hp → (St → Hp → Prop) → Prop
abbrev TGs := List V → St → Hp → (St → Hp → Prop) → Prop
def PG (X : Cx) (target : Expr) (t : TG) : Prop :=
  ∀ (pins : List (Addr × Obj)) (s : Shared) (σ : St) (H : Hp) (v : V) (u : Value) (Q : St → Hp → Prop), Inv X pins σ H s → RelV v u → t v σ H Q →
    wpAny (model X.prog X.w) X.A (assign target X.env u) (fun _ s' => ∃ σ' H', Inv X pins σ' H' s' ∧ Q σ' H') X.xe s
/-- several targets, one after another -/
def PGs (X : Cx) (ts : List Expr) (t : TGs) : Prop :=
  ∀ (pins : List (Addr × Obj)) (s : Shared) (σ : St) (H : Hp) (vs : List V) (us : List Value) (Q : St → Hp → Prop), Inv X pins σ H s → Vals vs us → t vs σ H Q →
    wpAny (model X.prog X.w) X.A (assignInOrder ((assignEach ts X.env).map (·.2)) us) (fun _ s' => ∃ σ' H', Inv X pins σ' H' s' ∧ Q σ' H') X.xe s
section
variable {X : Cx} {pos : Pos}
def gName (i : Nat) : TG := fun v σ H Q => Q (σ.set i (some v)) H
theorem pg_name {i : Nat} {x : Str} (hN : X.N.Nodup) (hi : X.N[i]? = some x) (hx : Loc X.env.scope x) (hf : X.fn x = true ∨ X.env.scope.names.lookup x = some .local := by first | exact .inl rfl | exact .inr rfl | assumption) : PG X (.Name x pos) (gName i) := by
  intro pins s σ H v u Q I r h
  exact wpAny_assign_Name (store_ok I hN hi hx r (fun s' I' => ⟨_, H, I', h⟩) hf)
def gNil : TGs := fun vs σ H Q => vs = [] ∧ Q σ H
def gCons (t : TG) (u : TGs) : TGs := fun vs σ H Q => ∃ v r, vs = v :: r ∧ t v σ H fun σ' H' => u r σ' H' Q
theorem pgs_nil : PGs X [] gNil := by
  intro pins s σ H vs us Q I r h
  obtain ⟨e, h⟩ := h
  subst e
  cases r
  exact assignInOrder_nil ⟨σ, H, I, h⟩
theorem pgs_cons {e : Expr} {es : List Expr} {t : TG} {u : TGs} (h1 : PG X e t) (h2 : PGs X es u)
    (hs : (assignEach (e :: es) X.env).map (·.2) = assign e X.env :: (assignEach es X.env).map (·.2) := by rfl) : PGs X (e :: es) (gCons t u) := by
  intro pins s σ H vs us Q I r h
  obtain ⟨v, vr, e1, h⟩ := h
  subst e1
  cases r with
  | cons r rr =>
    rw [hs]
    refine assignInOrder_cons (thn (h1 pins s σ H _ _ _ I r h) fun _ s1 ⟨σ1, H1, I1, q1⟩ => ?_)
    exact h2 pins s1 σ1 H1 _ _ Q I1 rr q1
/-- (a, b, ..) = a tuple of that length -/
def gTup (K : PySem.W.Frag) (n : Nat) (t : TGs) : TG := fun v σ H Q => ∃ a xs, v = .ref a ∧ SqT K H a xs ∧ xs.length = n ∧ t xs σ H Q
theorem pg_tup {es : List Expr} {k : Nat} {t : TGs} {n : Nat} (hc : X.calm = true) (h : PGs X es t)
    (hn : (assignEach es X.env).length = n := by rfl) (hst : (assignEach es X.env).findIdx? (·.1) = none := by rfl) : PG X (.Tuple es k pos) (gTup X.K n t) := by
  intro pins s σ H v u Q I r hw
  obtain ⟨a, xs, e1, hq, hl, hw⟩ := hw
  subst e1
  cases r
  obtain ⟨its, rv, ht, hz⟩ := I.tuple hq
  refine assign_Tuple_tuple (I.ok.hd hc) ht (by simp [hn, ← hl, rv.length]) hst fun h' hx => ?_
  have I1 : Inv X pins σ H { s with heap := h' } := I.kept (t' := s.toks) fun b o e => hx b o (Nat.ne_of_lt (Heap.lt_size e)) e
  exact h pins _ σ H xs _ Q I1 (by simpa using rv) hw
/-- target = value -/
def tAsg (te : TE) (g : TG) : TS := fun D σ H => te σ H fun x H1 => g x σ H1 D.nx
/-- name = value -/
theorem ps_set {i : Nat} {x : Str} {e : Expr} {te : TE} {pos' : Pos} (hN : X.N.Nodup) (hi : X.N[i]? = some x) (hx : Loc X.env.scope x) (he : PE X e te) (hs : swapsWith e (some (.Name x pos')) pos.line X.env = pure false := by rfl) (hf : X.fn x = true ∨ X.env.scope.names.lookup x = some .local := by first | exact .inl rfl | exact .inr rfl | assumption) :
    PS X (.Assign [.Name x pos'] e pos) (tAsg te (gName i)) := by
  intro pins s σ H D I h
  refine wpAny_Assign_Name (thn (he pins s σ H _ I h) fun v s1 ⟨y, H1, I1, r1, q1⟩ => ?_) hs
  exact store_ok I1 hN hi hx r1 (fun s2 I2 => ⟨_, H1, I2, q1⟩) hf
end

/-! ### while -/
section
variable {X : Cx} {pos : Pos}
/-- the invariant W with its measure -/
def tWhile (c : TT) (tb : TS) : TS := fun D σ H => ∃ W : Nat → St → Hp → Prop, (∃ m, W m σ H) ∧ ∀ m σ H, W m σ H →
  c σ H fun b H1 => if b = true then ∃ N : St → Hp → Prop, (∀ σ' H', N σ' H' → ∃ m', m' < m ∧ W m' σ' H') ∧ tb { D with nx := N, ct := N, bk := D.nx } σ H1 else D.nx σ H1
theorem ps_while {c : Expr} {body : List Stmt} {tc : TT} {tb : TS} (hp : PassesOwn (model X.prog X.w) X.A X.env X.xe) (hc : PT X c tc) (hb : PSs X body tb) : PS X (.While c body [] pos) (tWhile tc tb) := by
  intro pins s σ H D I h
  obtain ⟨W, ⟨m0, w0⟩, turn⟩ := h
  refine wpAny_While (codeAny_whileLoop (fun n s' => ∃ σ' H', Inv X pins σ' H' s' ∧ W n σ' H') ?_ m0 ⟨σ, H, I, w0⟩)
  rintro n s1 ⟨σ1, H1, I1, w1⟩
  refine wpAny_passesOwn hp (thn (hc pins s1 σ1 H1 _ I1 (turn n σ1 H1 w1)) fun b s2 ⟨H2, I2, q2⟩ => ?_)
  cases b with
  | true =>
    obtain ⟨N, hN, q2⟩ := q2
    rw [if_pos rfl]
    refine wpAny_passesOwn hp (thn (hb pins s2 σ1 H2 _ I2 q2) fun f s3 q3 => ?_)
    cases f with
    | next =>
      obtain ⟨σ3, H3, I3, n3⟩ := q3
      obtain ⟨m', hm, w3⟩ := hN σ3 H3 n3
      exact ⟨m', hm, σ3, H3, I3, w3⟩
    | cont =>
      obtain ⟨σ3, H3, I3, n3⟩ := q3
      obtain ⟨m', hm, w3⟩ := hN σ3 H3 n3
      exact ⟨m', hm, σ3, H3, I3, w3⟩
    | brk => exact q3
    | ret v => exact q3
  | false =>
    rw [if_neg Bool.false_ne_true]
    exact wpAny_execs_nil ⟨σ1, H2, I2, q2⟩
end

/-! ### what a loop or a comprehension walks -/
/-- at turn i: it yields x (the heap may grow), or it stops -/
structure It where
  go : Nat → Hp → Prop
  yld : Nat → Hp → V → Hp → Prop
  stop : Nat → Hp → Prop
/-- the iterator's own objects may turn: they are not the frame's, not pinned, younger than the entry (or a comprehension's own) -/
def FpOk (X : Cx) (pins : List (Addr × Obj)) (H : Hp) (b : Addr) : Prop :=
  H b = none ∧ b ≠ X.env.locals ∧ b ∉ X.fs ∧ (b ∈ X.ex ∨ X.s₀.heap.objs.size ≤ b) ∧ (∀ x c, X.env.cells.lookup x = some c → c ≠ b) ∧ ∀ p ∈ X.pn ++ pins, p.1 ≠ b
theorem Inv.fpOk {X : Cx} {pins : List (Addr × Obj)} {σ : St} {H H' : Hp} {s : Shared} {b : Addr} (I : Inv X pins σ H s) (hb : s.heap.objs.size ≤ b) (hn : H' b = none) : FpOk X pins H' b := by
  refine ⟨hn, Nat.ne_of_gt (Nat.lt_of_lt_of_le I.lt hb), I.nofs hb, .inr (Nat.le_trans I.sz hb), fun x c e z => ?_, fun p hp z => ?_⟩
  · obtain ⟨v, q⟩ := I.cell x c e
    exact absurd (Nat.lt_of_lt_of_le q.lt (by rw [z]; exact hb)) (Nat.lt_irrefl _)
  · exact absurd (Nat.lt_of_lt_of_le (Heap.lt_size (I.pin p hp).1) (by rw [z]; exact hb)) (Nat.lt_irrefl _)
structure Turn (P : Program) (w : World) (K : PySem.W.Frag) (tg : Expr) (J : It) (fp : List Addr) (it : Addr) (tn : Nat → Heap → Prop) : Prop where
  mem : it ∈ fp
  obj : ∀ i h, tn i h → ∀ b ∈ fp, ∃ o, h.get? b = some o ∧ ∀ v, o.data ≠ .cell v
  keep : ∀ i h h', tn i h → (∀ b ∈ fp, ∀ o, h.get? b = some o → h'.get? b = some o) → tn i h'
  item : ∀ (X : Cx), X.prog = P → X.w = w → X.K = K → X.calm = true → ∀ (i : Nat) (pins : List (Addr × Obj)) (s : Shared) (σ : St) (H : Hp) (E : Value → Shared → Prop), Inv X pins σ H s → (∀ b ∈ fp, FpOk X pins H b) → tn i s.heap → J.go i H →
    wpAny (model P w) X.A (pyNext (.ref it)) (fun r s1 => ∃ u, r = some u ∧
      wpAny (model P w) X.A (letOwnedTupleGo tg (.ref it) u) (fun _ s2 => ∃ x H', Inv X pins σ H' s2 ∧ RelV x u ∧ J.yld i H x H' ∧ tn (i + 1) s2.heap ∧ ∀ b ∈ fp, H' b = none) E s1) E s
  done : ∀ (X : Cx), X.prog = P → X.w = w → X.K = K → X.calm = true → ∀ (i : Nat) (pins : List (Addr × Obj)) (s : Shared) (σ : St) (H : Hp) (E : Value → Shared → Prop), Inv X pins σ H s → (∀ b ∈ fp, FpOk X pins H b) → tn i s.heap → J.stop i H →
    wpAny (model P w) X.A (pyNext (.ref it)) (fun r s1 => r = none ∧ Inv X pins σ H s1) E s
  self : ∀ (A : Around) (i : Nat) (s : Shared) (Q : Value → Shared → Prop) (E : Value → Shared → Prop), tn i s.heap → Q (.ref it) s → wpAny (model P w) A (pyIter (.ref it)) Q E s
abbrev TI := St → Hp → (It → Hp → Prop) → Prop
/-- an iterator has come -/
def PIE (X : Cx) (pins : List (Addr × Obj)) (σ : St) (tg : Expr) (R : It → Hp → Prop) (itv : Value) (s2 : Shared) : Prop :=
  ∃ (it : Addr) (fp : List Addr) (tn : Nat → Heap → Prop) (J : It) (H' : Hp), itv = .ref it ∧ Inv X pins σ H' s2 ∧ Turn X.prog X.w X.K tg J fp it tn ∧ tn 0 s2.heap ∧ (∀ b ∈ fp, FpOk X pins H' b) ∧ R J H'
def PI (X : Cx) (tg iter : Expr) (wi : TI) : Prop :=
  ∀ (pins : List (Addr × Obj)) (s : Shared) (σ : St) (H : Hp) (R : It → Hp → Prop), Inv X pins σ H s → wi σ H R →
    wpAny (model X.prog X.w) X.A (eval iter X.env) (fun v s1 => wpAny (model X.prog X.w) X.A (pyIter v) (PIE X pins σ tg R) X.xe s1) X.xe s

/-- the step ahead of the store is nothing for an iterator that keeps no tuple -/
theorem go_of {M : Model} {A : Around} {E : Value → Shared → Prop} {s : Shared} {tg : Expr} {it : Addr} {u : Value} {o : Obj} {n : String} {vs : Array Value} {Q : Unit → Shared → Prop} (ho : s.heap.get? it = some o) (hc : o.cls = .type n) (hd : o.data = .fields vs)
    (hn : ["enumerate", "zip", "dict_itemiterator", "dict_reverseitemiterator", "odict_iterator", "itertools.zip_longest", "itertools.pairwise"].contains n = false) (hQ : Q () s) : wpAny M A (letOwnedTupleGo tg (.ref it) u) Q E s := by
  unfold letOwnedTupleGo
  cases tg <;> first
    | exact wpAny_pure hQ
    | (cases u <;> first
        | exact wpAny_pure hQ
        | (refine wpAny_bind (wpAny_load ho ?_)
           rw [hc, hd]
           show wpAny M A (if (["enumerate", "zip", "dict_itemiterator", "dict_reverseitemiterator", "odict_iterator", "itertools.zip_longest", "itertools.pairwise"].contains n && vs[0]? == some (rawInt _)) = true then _ else _) Q E s
           rw [if_neg (by intro h; rw [hn, Bool.false_and] at h; cases h)]
           exact wpAny_pure hQ))

/-- the list at a, as it stands at each turn (a loop may append to it) -/
def Itl (K : PySem.W.Frag) (a : Addr) : It :=
  ⟨fun i H => ∃ xs x, SqL K H a xs ∧ xs[i]? = some x, fun i H x H' => H' = H ∧ ∀ xs, SqL K H a xs → xs[i]? = some x, fun i H => ∃ xs, SqL K H a xs ∧ xs.length ≤ i⟩
theorem turn_list {P : Program} {w : World} {K : PySem.W.Frag} {tg : Expr} (a it : Addr) : Turn P w K tg (Itl K a) [it] it (fun i h => h.IsListIter it a i) where
  mem := by simp
  obj := fun i h st b hb => by
    have e : b = it := by simpa using hb
    subst e
    obtain ⟨o, e, c, d⟩ := st
    exact ⟨o, e, fun v z => by rw [d] at z; cases z⟩
  keep := fun i h h' st k => st.at fun o e => k it (by simp) o e
  item := by
    intro X hP hw hK hc i pins s σ H E I hf st hg
    subst hP hw hK
    obtain ⟨xs, x, hq, hx⟩ := hg
    obtain ⟨its, rv, p, hz⟩ := I.list hq
    obtain ⟨u, hu, ru⟩ := rv.get hx
    obtain ⟨f0, f1, f2, f3, f4, f5⟩ := hf it (by simp)
    refine wpAny_pyNext_list_item st p.isList (x := u) (by simpa using hu) fun h' st' sb => ?_
    have I1 : Inv X pins σ H { s with heap := h' } := I.turned (t' := s.toks) (fun b o hb e => (sb.2 b hb).trans e) f0 f1 f3 f4 f5
    obtain ⟨o, e, c, d⟩ := id st'
    exact ⟨u, rfl, go_of (s := { s with heap := h' }) e c d (by decide) ⟨x, H, I1, ru, ⟨rfl, fun ys hy => by rw [I.list_inj hy hq]; exact hx⟩, st', fun b hb => (hf b hb).1⟩⟩
  done := by
    intro X hP hw hK hc i pins s σ H E I hf st hg
    subst hP hw hK
    obtain ⟨xs, hq, hx⟩ := hg
    obtain ⟨its, rv, p, hz⟩ := I.list hq
    obtain ⟨f0, f1, f2, f3, f4, f5⟩ := hf it (by simp)
    have hl := rv.length
    exact wpAny_pyNext_list_end (I.ok.hd hc) st p.isList (by simp; omega) fun h' eb => ⟨rfl, I.turned (t' := s.toks) (fun b o hb e => eb b o hb e) f0 f1 f3 f4 f5⟩
  self := fun _ _ _ _ _ st h => wpAny_pyIter_listiter st h
end L2

namespace L2
open PySem PySem.Spec PyProof.Rows
section
variable {X : Cx} {tg : Expr}
def iList (K : PySem.W.Frag) (tl : TE) : TI := fun σ H R => tl σ H fun x H1 => ∃ a, x = .ref a ∧ (∃ xs, SqL K H1 a xs) ∧ R (Itl K a) H1
theorem pi_list {l : Expr} {tl : TE} (hl : PE X l tl) : PI X tg l (iList X.K tl) := by
  intro pins s σ H R I h
  refine thn (hl pins s σ H _ I h) fun v s1 ⟨x, H1, I1, r1, q1⟩ => ?_
  obtain ⟨a, e, ⟨xs, hq⟩, q⟩ := q1
  subst e
  cases r1
  obtain ⟨its, rv, p, hz⟩ := I1.list hq
  refine wpAny_pyIter_list p.isList ?_
  refine ⟨s1.heap.objs.size, [s1.heap.objs.size], _, _, H1, rfl, I1.kept (t' := s1.toks) fun b o e => Heap.get?_push_of_some _ e, turn_list a _, ⟨_, Heap.get?_push_size _ rfl, rfl, rfl⟩, fun b hb => ?_, q⟩
  have e : b = s1.heap.objs.size := by simpa using hb
  subst e
  exact I1.fpOk (Nat.le_refl _) (I1.hok.fresh (Nat.le_refl _))

/-! ### for -/
/-- W: the invariant by the turn and a measure; N: what the body is to reach -/
def tFor (wi : TI) (g : TG) (tb : TS) : TS := fun D σ H => wi σ H fun J H1 => ∃ W : Nat → Nat → St → Hp → Prop, (∃ m, W 0 m σ H1) ∧ ∀ i m σ H, W i m σ H →
  (J.stop i H ∧ D.nx σ H) ∨ (J.go i H ∧ ∃ N : St → Hp → Prop, (∀ σ' H', N σ' H' → ∃ m', m' < m ∧ W (i + 1) m' σ' H') ∧ ∀ x H', J.yld i H x H' → g x σ H' fun σ2 H2 => tb { D with nx := N, ct := N, bk := D.nx } σ2 H2)
/-- the records at fp as they stand -/
def pinsAt (fp : List Addr) (h : Heap) : List (Addr × Obj) := fp.filterMap fun b => (h.get? b).map fun o => (b, o)
theorem mem_pinsAt {fp : List Addr} {h : Heap} {b : Addr} {o : Obj} (hb : b ∈ fp) (e : h.get? b = some o) : (b, o) ∈ pinsAt fp h := List.mem_filterMap.mpr ⟨b, hb, by rw [e]; rfl⟩
theorem of_pinsAt {fp : List Addr} {h : Heap} {p : Addr × Obj} (hp : p ∈ pinsAt fp h) : p.1 ∈ fp ∧ h.get? p.1 = some p.2 := by
  obtain ⟨b, hb, e⟩ := List.mem_filterMap.mp hp
  cases q : h.get? b with
  | none => rw [q] at e; cases e
  | some o =>
    rw [q] at e
    have e' : (b, o) = p := Option.some.inj e
    subst e'
    exact ⟨hb, q⟩
theorem Inv.pinned {pins : List (Addr × Obj)} {σ : St} {H : Hp} {s : Shared} {fp : List Addr} (I : Inv X pins σ H s) (hf : ∀ b ∈ fp, FpOk X pins H b) (ho : ∀ b ∈ fp, ∃ o, s.heap.get? b = some o ∧ ∀ v, o.data ≠ .cell v) : Inv X (pins ++ pinsAt fp s.heap) σ H s :=
  I.pins_of fun p hp => (List.mem_append.mp hp).elim (fun z => I.pin p (List.mem_append_right _ z)) fun z => by
    obtain ⟨hb, e⟩ := of_pinsAt z
    obtain ⟨f0, f1, f2, _⟩ := hf p.1 hb
    obtain ⟨o, e', d⟩ := ho p.1 hb
    rw [e] at e'; cases e'
    exact ⟨e, f0, f1, f2, d⟩
theorem Inv.unpinned {pins pl : List (Addr × Obj)} {σ : St} {H : Hp} {s : Shared} (I : Inv X (pins ++ pl) σ H s) : Inv X pins σ H s := I.pins_of fun p hp => I.pin p (List.mem_append_right _ (List.mem_append_left _ hp))
theorem ps_for {iter : Expr} {body : List Stmt} {wi : TI} {g : TG} {tb : TS} {pos : Pos} (hp : PassesOwn (model X.prog X.w) X.A X.env X.xe) (hc : X.calm = true) (hi : PI X tg iter wi) (hg : PG X tg g) (hb : PSs X body tb)
    (hs : ∀ x, foldedSetIterable iter X.env x = pure x := by intro _; rfl) : PS X (.For tg iter body [] pos) (tFor wi g tb) := by
  intro pins s σ H D I h
  refine wpAny_For (thn (hi pins s σ H _ I h) fun v s1 h1 => thn h1 fun itv s2 h2 => ?_) hs
  obtain ⟨it, fp, tn, J, H2, e, I2, T, st2, f2, W, ⟨m0, w0⟩, turn⟩ := h2
  subst e
  -- what stays true of the iterator's objects through the loop
  have stat : ∀ {H' : Hp}, (∀ b ∈ fp, H' b = none) → ∀ b ∈ fp, FpOk X pins H' b := fun hn b hb => ⟨hn b hb, (f2 b hb).2⟩
  refine codeAny_forLoop_any (fun n s' => ∃ i σ' H', Inv X pins σ' H' s' ∧ tn i s'.heap ∧ (∀ b ∈ fp, H' b = none) ∧ W i n σ' H') ?_ m0 ⟨0, σ, H2, I2, st2, fun b hb => (f2 b hb).1, w0⟩
  rintro n s3 ⟨i, σ3, H3, I3, st3, fr3, w3⟩
  rcases turn i n σ3 H3 w3 with ⟨stop, qn⟩ | ⟨go, N, hN, step⟩
  · refine wpAny_passesOwn hp (thn (T.done X rfl rfl rfl hc i pins s3 σ3 H3 X.xe I3 (stat fr3) st3 stop) fun r s4 ⟨hr, I4⟩ => ?_)
    subst hr
    exact wpAny_execs_nil ⟨σ3, H3, I4, qn⟩
  · refine wpAny_passesOwn hp (thn (T.item X rfl rfl rfl hc i pins s3 σ3 H3 X.xe I3 (stat fr3) st3 go) fun r s4 ⟨u, hr, h4⟩ => ?_)
    subst hr
    refine wpAny_passesOwn hp (thn h4 fun _ s5 ⟨x, H5, I5, r5, y5, st5, fr5⟩ => ?_)
    have I5' := I5.pinned (stat fr5) (T.obj _ _ st5)
    refine wpAny_passesOwn hp (thn (hg _ s5 σ3 H5 x u _ I5' r5 (step x H5 y5)) fun _ s6 ⟨σ6, H6, I6, q6⟩ => ?_)
    refine wpAny_passesOwn hp (thn (hb _ s6 σ6 H6 _ I6 q6) fun f s7 q7 => ?_)
    have again : ∀ {σ7 : St} {H7 : Hp}, Inv X (pins ++ pinsAt fp s5.heap) σ7 H7 s7 → N σ7 H7 → ∃ m, m < n ∧ ∃ i σ' H', Inv X pins σ' H' s7 ∧ tn i s7.heap ∧ (∀ b ∈ fp, H' b = none) ∧ W i m σ' H' := fun {σ7 H7} I7 n7 => by
      obtain ⟨m', hm, w7⟩ := hN σ7 H7 n7
      refine ⟨m', hm, i + 1, σ7, H7, I7.unpinned, T.keep _ _ _ st5 fun b hb o e => (I7.pin (b, o) (List.mem_append_right _ (List.mem_append_right _ (mem_pinsAt hb e)))).1, fun b hb => ?_, w7⟩
      obtain ⟨o, e, d⟩ := T.obj _ _ st5 b hb
      exact (I7.pin (b, o) (List.mem_append_right _ (List.mem_append_right _ (mem_pinsAt hb e)))).2.1
    cases f with
    | next => obtain ⟨σ7, H7, I7, n7⟩ := q7; exact again I7 n7
    | cont => obtain ⟨σ7, H7, I7, n7⟩ := q7; exact again I7 n7
    | brk => obtain ⟨σ7, H7, I7, q7⟩ := q7; exact ⟨σ7, H7, I7.unpinned, q7⟩
    | ret v => obtain ⟨x7, σ7, H7, I7, r7, q7⟩ := q7; exact ⟨x7, σ7, H7, I7.unpinned, r7, q7⟩
end

/-! ### the forms one uses -/
/-- over a list that the body leaves as it is -/
theorem for_list {K : PySem.W.Frag} {a : Addr} {xs : List V} {g : TG} {tb : TS} {D : Ends} {σ : St} {H : Hp} (Pv : Nat → St → Hp → Prop) (h0 : Pv 0 σ H) (hl : ∀ i σ H, i ≤ xs.length → Pv i σ H → SqL K H a xs)
    (hs : ∀ i x σ H, xs[i]? = some x → Pv i σ H → g x σ H fun σ2 H2 => tb { D with nx := Pv (i + 1), ct := Pv (i + 1), bk := D.nx } σ2 H2) (hd : ∀ σ H, Pv xs.length σ H → D.nx σ H) :
    ∃ W : Nat → Nat → St → Hp → Prop, (∃ m, W 0 m σ H) ∧ ∀ i m σ H, W i m σ H →
      ((Itl K a).stop i H ∧ D.nx σ H) ∨ ((Itl K a).go i H ∧ ∃ N : St → Hp → Prop, (∀ σ' H', N σ' H' → ∃ m', m' < m ∧ W (i + 1) m' σ' H') ∧ ∀ x H', (Itl K a).yld i H x H' → g x σ H' fun σ2 H2 => tb { D with nx := N, ct := N, bk := D.nx } σ2 H2) := by
  refine ⟨fun i m σ H => m = xs.length - i ∧ i ≤ xs.length ∧ Pv i σ H, ⟨xs.length, by simp, Nat.zero_le _, h0⟩, ?_⟩
  rintro i m σ H ⟨rfl, hi, p⟩
  have q := hl i σ H hi p
  by_cases hlt : i < xs.length
  · refine .inr ⟨⟨xs, xs[i], q, by simp [hlt]⟩, Pv (i + 1), fun σ' H' p' => ⟨xs.length - (i + 1), by omega, rfl, hlt, p'⟩, fun x H' y => ?_⟩
    obtain ⟨e, y⟩ := y
    subst e
    exact hs i x σ _ (y xs q) p
  · have e : i = xs.length := by omega
    subst e
    exact .inl ⟨⟨xs, q, Nat.le_refl _⟩, hd σ H p⟩
end L2

namespace L2
open PySem PySem.Spec PyProof.Rows

abbrev R2 := V → V → Hp → VK → Prop
/-- a two-place operation on values: f is binaryOp op, inplaceOp op or compareOp op -/
def OpR (X : Cx) (f : Value → Value → Sem Value) (r : R2) : Prop :=
  ∀ (pins : List (Addr × Obj)) (s : Shared) (σ : St) (H : Hp) (x y : V) (v u : Value) (Q : VK), Inv X pins σ H s → RelV x v → RelV y u → r x y H Q →
    wpAny (model X.prog X.w) X.A (f v u) (EP X pins σ Q) X.xe s
/-- a call of a value that is known (a builtin, a type) with values -/
def CallR (X : Cx) (f : Value) (r : List V → Hp → VK → Prop) : Prop :=
  ∀ (pins : List (Addr × Obj)) (s : Shared) (σ : St) (H : Hp) (xs : List V) (us : List Value) (Q : VK), Inv X pins σ H s → Vals xs us → r xs H Q →
    wpAny (model X.prog X.w) X.A (call f us) (EP X pins σ Q) X.xe s

def tOp (r : R2) (ta tb : TE) : TE := fun σ H Q => ta σ H fun x H1 => tb σ H1 fun y H2 => r x y H2 Q
/-- ints in, under C, and a value out -/
def rI (C : Int → Int → Prop) (g : Int → Int → V) : R2 := fun x y H Q => ∃ i j, x = .int i ∧ y = .int j ∧ C i j ∧ Q (g i j) H
def rI0 (g : Int → Int → V) : R2 := fun x y H Q => ∃ i j, x = .int i ∧ y = .int j ∧ Q (g i j) H

section
variable {X : Cx} {a b c : Expr} {ta tb tc : TE} {pos : Pos}

theorem binT (ha : PE X a ta) (hb : PE X b tb) {pins : List (Addr × Obj)} {s : Shared} {σ : St} {H : Hp} {R : V → V → Hp → Prop} (I : Inv X pins σ H s)
    (h : ta σ H fun x H1 => tb σ H1 fun y H2 => R x y H2) {Q : Value → Shared → Prop} {f : Value → Value → Sem Value}
    (hf : ∀ v u s2 x y H2, Inv X pins σ H2 s2 → RelV x v → RelV y u → R x y H2 → wpAny (model X.prog X.w) X.A (f v u) Q X.xe s2) :
    wpAny (model X.prog X.w) X.A (eval a X.env) (fun v s₁ => wpAny (model X.prog X.w) X.A (eval b X.env) (fun u s₂ => wpAny (model X.prog X.w) X.A (f v u) Q X.xe s₂) X.xe s₁) X.xe s := by
  refine thn (ha pins s σ H _ I h) fun v s1 ⟨x, H1, I1, r1, q1⟩ => ?_
  refine thn (hb pins s1 σ H1 _ I1 q1) fun u s2 ⟨y, H2, I2, r2, q2⟩ => ?_
  exact hf v u s2 x y H2 I2 r1 r2 q2

theorem pe_op {op : Operator} {r : R2} (ho : OpR X (binaryOp op) r) (ha : PE X a ta) (hb : PE X b tb) : PE X (.BinOp a op b pos) (tOp r ta tb) := by
  intro pins s σ H Q I h
  exact wpAny_BinOp (binT ha hb I h fun v u s2 x y H2 I2 rx ry q => ho pins s2 σ H2 x y v u Q I2 rx ry q)

/-! ### ints -/
theorem opI {f : Value → Value → Sem Value} {C : Int → Int → Prop} {g : Int → Int → Int}
    (rule : ∀ (i j : Int) (t u : Tok) (s : Shared) (Q : Value → Shared → Prop) (E : Value → Shared → Prop), C i j → Q (.int (g i j) s.toks) { s with toks := s.toks + 1 } → wpAny (model X.prog X.w) X.A (f (.int i t) (.int j u)) Q E s) :
    OpR X f (rI C fun i j => .int (g i j)) := by
  intro pins s σ H x y v u Q I rx ry h
  obtain ⟨i, j, rfl, rfl, hc, q⟩ := h
  obtain ⟨t, rfl⟩ := rx
  obtain ⟨t', rfl⟩ := ry
  exact rule i j t t' s _ _ hc ⟨.int (g i j), H, I.tok _, ⟨_, rfl⟩, q⟩
theorem opI0 {f : Value → Value → Sem Value} {g : Int → Int → Int}
    (rule : ∀ (i j : Int) (t u : Tok) (s : Shared) (Q : Value → Shared → Prop) (E : Value → Shared → Prop), Q (.int (g i j) s.toks) { s with toks := s.toks + 1 } → wpAny (model X.prog X.w) X.A (f (.int i t) (.int j u)) Q E s) :
    OpR X f (rI0 fun i j => .int (g i j)) := by
  intro pins s σ H x y v u Q I rx ry h
  obtain ⟨i, j, rfl, rfl, q⟩ := h
  obtain ⟨t, rfl⟩ := rx
  obtain ⟨t', rfl⟩ := ry
  exact rule i j t t' s _ _ ⟨.int (g i j), H, I.tok _, ⟨_, rfl⟩, q⟩
theorem opB0 {f : Value → Value → Sem Value} {g : Int → Int → Bool}
    (rule : ∀ (i j : Int) (t u : Tok) (s : Shared) (Q : Value → Shared → Prop) (E : Value → Shared → Prop), Q (.bool (g i j)) s → wpAny (model X.prog X.w) X.A (f (.int i t) (.int j u)) Q E s) :
    OpR X f (rI0 fun i j => .bl (g i j)) := by
  intro pins s σ H x y v u Q I rx ry h
  obtain ⟨i, j, rfl, rfl, q⟩ := h
  obtain ⟨t, rfl⟩ := rx
  obtain ⟨t', rfl⟩ := ry
  exact rule i j t t' s _ _ ⟨.bl (g i j), H, I, rfl, q⟩

def CDiv (i j : Int) : Prop := 0 < j ∧ j < 1073741824
def CPow (i j : Int) : Prop := 0 ≤ j ∧ j ≤ 1000000 ∧ i.natAbs < 2 ^ 64
def CMul (i j : Int) : Prop := (-(2 ^ 64) < i ∧ i < 2 ^ 64) ∨ (-(2 ^ 64) < j ∧ j < 2 ^ 64)
theorem CMul.ok {i j : Int} (h : CMul i j) : IntMulOk i j := by
  rcases h with ⟨h1, h2⟩ | ⟨h1, h2⟩
  · exact .of_left (intBits_le_64 h1 h2)
  · exact .of_right (intBits_le_64 h1 h2)

theorem op_add : OpR X (binaryOp .Add) (rI0 fun i j => .int (i + j)) := opI0 fun _ _ _ _ _ _ _ q => add_int q
theorem op_mul : OpR X (binaryOp .Mult) (rI CMul fun i j => .int (i * j)) := opI fun _ _ _ _ _ _ _ hc q => mul_int q hc.ok
/-- // by a positive divisor -/
theorem op_fdiv : OpR X (binaryOp .FloorDiv) (rI CDiv fun i j => .int (i / j)) := opI fun i j _ _ _ _ _ hc q => by
  have h1 : (0 : Int) < j := hc.1
  have h2 : j < 1073741824 := hc.2
  exact floordiv_int (by omega) (by rw [Int.fdiv_eq_ediv_of_nonneg i (by omega)]; exact q) (.inl (PyProof.noPylong_small (by omega)))
/-- % by a positive divisor of any size -/
theorem op_mod : OpR X (binaryOp .Mod) (rI (fun _ j => 0 < j) fun i j => .int (i % j)) := opI fun i j _ _ _ _ _ hc q => by
  have h1 : (0 : Int) < j := hc
  exact mod_int' (by omega) (by rw [Int.fmod_eq_emod_of_nonneg i (by omega)]; exact q)
theorem op_pow : OpR X (binaryOp .Pow) (rI CPow fun i j => .int (i ^ j.toNat)) := opI fun _ _ _ _ _ _ _ hc q => pow_int_small hc.1 hc.2.1 hc.2.2 q



/-! ### bools among ints: n += (a < b) -/
end

/-! ### comparisons -/
/-- the scalars that == tells apart as data does -/
def scal : V → V → Bool
  | .non, .non => true | .non, .int _ => true | .int _, .non => true | .non, .bl _ => true | .bl _, .non => true | .non, .str _ => true | .str _, .non => true
  | .int _, .int _ => true | .bl _, .bl _ => true | .str _, .str _ => true | .byt _, .byt _ => true
  | .int _, .str _ => true | .str _, .int _ => true | .bl _, .str _ => true | .str _, .bl _ => true
  | _, _ => false
def rEq : R2 := fun x y H Q => scal x y = true ∧ Q (.bl (decide (x = y))) H
def rNe : R2 := fun x y H Q => scal x y = true ∧ Q (.bl (!decide (x = y))) H

theorem dec_int {i j : Int} : decide (V.int i = V.int j) = (i == j) := by
  rw [Bool.eq_iff_iff]
  simp
theorem dec_bl {i j : Bool} : decide (V.bl i = V.bl j) = (i == j) := by
  rw [Bool.eq_iff_iff]
  simp
theorem dec_str {i j : Str} : decide (V.str i = V.str j) = (i == j) := by
  rw [Bool.eq_iff_iff]
  simp
theorem dec_byt {i j : Array UInt8} : decide (V.byt i = V.byt j) = (i.toList == j.toList) := by
  rw [Bool.eq_iff_iff]
  cases i
  cases j
  simp

section
variable {X : Cx} {a b c : Expr} {ta tb tc : TE} {pos : Pos}
theorem fin_bl {pins : List (Addr × Obj)} {σ : St} {H : Hp} {s : Shared} {Q : VK} {k k' : Bool} (I : Inv X pins σ H s) (q : Q (.bl k) H) (e : k = k') : EP X pins σ Q (.bool k') s := by
  subst e
  exact ⟨.bl k, H, I, rfl, q⟩
theorem op_eq : OpR X (compareOp .Eq) rEq := by
  intro pins s σ H x y v u Q I rx ry h
  obtain ⟨hs, q⟩ := h
  cases x with
  | non =>
    cases rx
    cases y with
    | non => cases ry; exact PySem.EqNone.eq_none_none (fin_bl I q (by simp))
    | bl j => cases ry; exact PySem.EqNone.eq_none_bool (fin_bl I q (by simp))
    | int j => obtain ⟨t', rfl⟩ := ry; exact PySem.EqNone.eq_none_int (fin_bl I q (by simp))
    | str j => obtain ⟨t', rfl⟩ := ry; exact PySem.EqNone.eq_none_str (fin_bl I q (by simp))
    | _ => exact absurd (show false = true from hs) Bool.false_ne_true
  | bl i =>
    cases rx
    cases y with
    | non => cases ry; exact PySem.EqNone.eq_bool_none (fin_bl I q (by simp))
    | bl j => cases ry; exact eq_bool (fin_bl I q dec_bl)
    | str j => obtain ⟨t', rfl⟩ := ry; exact PySem.EqMixed.eq_bool_str (fin_bl I q (by simp))
    | _ => exact absurd (show false = true from hs) Bool.false_ne_true
  | int i =>
    obtain ⟨t, rfl⟩ := rx
    cases y with
    | non => cases ry; exact PySem.EqNone.eq_int_none (fin_bl I q (by simp))
    | int j => obtain ⟨t', rfl⟩ := ry; exact eq_int (fin_bl I q dec_int)
    | str j => obtain ⟨t', rfl⟩ := ry; exact PySem.EqMixed.eq_int_str (fin_bl I q (by simp))
    | _ => exact absurd (show false = true from hs) Bool.false_ne_true
  | str i =>
    obtain ⟨t, rfl⟩ := rx
    cases y with
    | non => cases ry; exact PySem.EqNone.eq_str_none (fin_bl I q (by simp))
    | bl j => cases ry; exact PySem.EqMixed.eq_str_bool (fin_bl I q (by simp))
    | int j => obtain ⟨t', rfl⟩ := ry; exact PySem.EqMixed.eq_str_int (fin_bl I q (by simp))
    | str j => obtain ⟨t', rfl⟩ := ry; exact eq_str (fin_bl I q dec_str)
    | _ => exact absurd (show false = true from hs) Bool.false_ne_true
  | byt i =>
    obtain ⟨t, rfl⟩ := rx
    cases y with
    | byt j => obtain ⟨t', rfl⟩ := ry; exact PySem.W.eq_bytes (fin_bl I q dec_byt)
    | _ => exact absurd (show false = true from hs) Bool.false_ne_true
  | _ => cases y <;> exact absurd (show false = true from hs) Bool.false_ne_true
theorem op_ne : OpR X (compareOp .NotEq) rNe := by
  intro pins s σ H x y v u Q I rx ry h
  obtain ⟨hs, q⟩ := h
  cases x with
  | non =>
    cases rx
    cases y with
    | non => cases ry; exact PySem.EqNone.ne_none_none (fin_bl I q (by simp))
    | bl j => cases ry; exact PySem.EqNone.ne_none_bool (fin_bl I q (by simp))
    | int j => obtain ⟨t', rfl⟩ := ry; exact PySem.EqNone.ne_none_int (fin_bl I q (by simp))
    | str j => obtain ⟨t', rfl⟩ := ry; exact PySem.EqNone.ne_none_str (fin_bl I q (by simp))
    | _ => exact absurd (show false = true from hs) Bool.false_ne_true
  | bl i =>
    cases rx
    cases y with
    | non => cases ry; exact PySem.EqNone.ne_bool_none (fin_bl I q (by simp))
    | bl j => cases ry; exact ne_bool (fin_bl I q (congrArg not dec_bl))
    | str j => obtain ⟨t', rfl⟩ := ry; exact PySem.EqMixed.ne_bool_str (fin_bl I q (by simp))
    | _ => exact absurd (show false = true from hs) Bool.false_ne_true
  | int i =>
    obtain ⟨t, rfl⟩ := rx
    cases y with
    | non => cases ry; exact PySem.EqNone.ne_int_none (fin_bl I q (by simp))
    | int j => obtain ⟨t', rfl⟩ := ry; exact ne_int (fin_bl I q (congrArg not dec_int))
    | str j => obtain ⟨t', rfl⟩ := ry; exact PySem.EqMixed.ne_int_str (fin_bl I q (by simp))
    | _ => exact absurd (show false = true from hs) Bool.false_ne_true
  | str i =>
    obtain ⟨t, rfl⟩ := rx
    cases y with
    | non => cases ry; exact PySem.EqNone.ne_str_none (fin_bl I q (by simp))
    | bl j => cases ry; exact PySem.EqMixed.ne_str_bool (fin_bl I q (by simp))
    | int j => obtain ⟨t', rfl⟩ := ry; exact PySem.EqMixed.ne_str_int (fin_bl I q (by simp))
    | str j => obtain ⟨t', rfl⟩ := ry; exact ne_str (fin_bl I q (congrArg not dec_str))
    | _ => exact absurd (show false = true from hs) Bool.false_ne_true
  | byt i =>
    obtain ⟨t, rfl⟩ := rx
    cases y with
    | byt j => obtain ⟨t', rfl⟩ := ry; exact PySem.W.ne_bytes (fin_bl I q (congrArg not dec_byt))
    | _ => exact absurd (show false = true from hs) Bool.false_ne_true
  | _ => cases y <;> exact absurd (show false = true from hs) Bool.false_ne_true

theorem op_lt : OpR X (compareOp .Lt) (rI0 fun i j => .bl (decide (i < j))) := opB0 fun _ _ _ _ _ _ _ q => lt_int q
theorem op_le : OpR X (compareOp .LtE) (rI0 fun i j => .bl (decide (i ≤ j))) := opB0 fun _ _ _ _ _ _ _ q => le_int q
theorem op_gt : OpR X (compareOp .Gt) (rI0 fun i j => .bl (decide (j < i))) := opB0 fun _ _ _ _ _ _ _ q => gt_int q

theorem op_notN : OpR X (compareOp .IsNot) (fun x y H Q => y = .non ∧ Q (.bl (!decide (x = .non))) H) := by
  intro pins s σ H x y v u Q I rx ry h
  obtain ⟨rfl, q⟩ := h
  cases ry
  refine isnot_none_gen (fin_bl I q ?_)
  cases x <;> first
    | (cases rx; rfl)
    | (obtain ⟨t, rfl⟩ := rx; rfl)



theorem nomark (b : Expr) {op : CmpOp} (h : op ≠ .In := by decide) (h2 : op ≠ .NotIn := by decide) : behindInMarks op b = false := by
  have e1 : (op == CmpOp.In) = false := by cases op <;> first | rfl | exact absurd rfl h
  have e2 : (op == CmpOp.NotIn) = false := by cases op <;> first | rfl | exact absurd rfl h2
  cases b <;> simp [behindInMarks, e1, e2]
/-- a comparison as a value; hm: nomark b, or (for in, not in) by with_unfolding_all rfl -/
theorem pe_cmpR {op : CmpOp} {r : R2} (ho : OpR X (compareOp op) r) (ha : PE X a ta) (hb : PE X b tb) (hm : behindInMarks op b = false) : PE X (.Compare a [op] [b] pos) (tOp r ta tb) := by
  intro pins s σ H Q I h
  exact wpAny_Compare1 (binT ha hb I h fun v u s2 x y H2 I2 rx ry q => ho pins s2 σ H2 x y v u Q I2 rx ry q) hm
/-- a reading of a value as a test -/
def tTest (t : TE) : TT := fun σ H Q => t σ H fun x H' => ∃ k, x = .bl k ∧ Q k H'
theorem pt_cmpR {op : CmpOp} {r : R2} (ho : OpR X (compareOp op) r) (ha : PE X a ta) (hb : PE X b tb) (hm : behindInMarks op b = false) : PT X (.Compare a [op] [b] pos) (tTest (tOp r ta tb)) := by
  intro pins s σ H Q I h
  refine wpAny_isTrue_Compare1 (thn (ha pins s σ H _ I h) fun v s1 ⟨x, H1, I1, r1, q1⟩ => thn (hb pins s1 σ H1 _ I1 q1) fun u s2 ⟨y, H2, I2, r2, q2⟩ =>
    thn (ho pins s2 σ H2 x y v u _ I2 r1 r2 q2) fun c s3 ⟨z, H3, I3, r3, k, e, q3⟩ => ?_) hm
  subst e
  cases r3
  exact wpAny_truthy_bool ⟨H3, I3, q3⟩

/-! ### truth -/
theorem line63 : (sizeLine : Nat) < 2 ^ 63 := by rw [sizeLine_eq]; decide

/-! ### strs and bytes -/


/-! ### scalar builtins, by CallR -/
theorem vals1 {x : V} {us : List Value} (r : Vals [x] us) : ∃ u, us = [u] ∧ RelV x u := by
  cases r with
  | cons r1 r2 => cases r2; exact ⟨_, rfl, r1⟩
theorem vals2 {x y : V} {us : List Value} (r : Vals [x, y] us) : ∃ u w', us = [u, w'] ∧ RelV x u ∧ RelV y w' := by
  cases r with
  | cons r1 r2 =>
    cases r2 with
    | cons r3 r4 => cases r4; exact ⟨_, _, rfl, r1, r3⟩
end
end L2

namespace L2
open PySem PySem.Spec PyProof.Rows

/-! ### an instance, its attributes a map -/
structure ObjM (h : Heap) (x dx C : Addr) (mA : Str → Option Value) : Prop where
  obj : h.get? x = some (PySem.W.instObj C dx)
  ns : h.Ns1 dx mA
  ne : dx ≠ x

theorem lookIn_ns {h : Heap} {dx : Addr} {mA : Str → Option Value} (n : h.Ns1 dx mA) : ∃ od, h.get? dx = some od ∧ ∀ name, PySem.W.lookIn name od = some (mA name) := by
  obtain ⟨o, es, ep, ho, hd, hk, _, hm⟩ := n
  refine ⟨o, ho, fun name => ?_⟩
  have e := hm name
  unfold nsFind findBy at e
  rw [← Array.find?_toList] at e
  unfold PySem.W.lookIn
  rw [hd]
  dsimp only
  split
  · rename_i y q
    rw [q] at e
    exact congrArg some e
  · rename_i q
    rw [q] at e
    have a : es.toList.any (·.refKey) = false := by
      rw [List.any_eq_false]
      intro y hy
      obtain ⟨z, t, hkey⟩ := hk y (Array.mem_toList_iff.mp hy)
      simp [DictEntry.refKey, hkey]
    have a' : ¬ es.toList.any (·.refKey) = true := by rw [a]; exact Bool.false_ne_true
    rw [if_neg a']
    exact congrArg some e

theorem ObjM.look {h : Heap} {x dx C : Addr} {mA : Str → Option Value} (I : ObjM h x dx C mA) : ∃ od, PySem.W.InstAt h x (PySem.W.instObj C dx) C (some od) ∧ ∀ name, PySem.W.lookIn name od = some (mA name) :=
  let ⟨od, ho, hl⟩ := lookIn_ns I.ns
  ⟨od, ⟨I.obj, rfl, rfl, ho⟩, hl⟩

section
variable {prog : Program} {w : World} {A : Around} {E : Value → Shared → Prop} {s : Shared} {K : PySem.W.Frag} {x dx C f : Addr} {mA : Str → Option Value} {name : Str} {v : Value}

theorem get_map {expr : Bool} {Q : Value → Shared → Prop} (X : K.In s.heap) (I : ObjM s.heap x dx C mA) (hg : PySem.W.plainGet K C name = true) (hh : PySem.W.hasDictIn K C = true)
    (ha : PySem.W.findIn K (.ref C) name = some none) (hv : mA name = some v) (hv' : PySem.W.handedIn v = true) (h : Q v { s with toks := s.toks + 1 }) :
    wpAny (model prog w) A (getAttr (.ref x) name expr) Q E s := by
  obtain ⟨od, J, hl⟩ := I.look
  exact PySem.W.get_value X J (PySem.W.plainGet_of hg).1 (PySem.W.findObj_own hh ha rfl (by rw [hl, hv])) hv' h


theorem get_meth {pl : Sem Bool} {Q : Value × List Value → Shared → Prop} (X : K.In s.heap) (I : ObjM s.heap x dx C mA) (hg : PySem.W.plainGet K C name = true)
    (hf : PySem.W.findIn K (.ref C) name = some (some (.ref f))) (ht : PySem.W.isFn K (.ref f) = true) (hv : mA name = none) (h : Q (.ref f, [.ref x]) s) :
    wpAny (model prog w) A (getMethod (.ref x) name pl) Q E s := by
  obtain ⟨od, J, hl⟩ := I.look
  exact PySem.W.method_fn X J (PySem.W.plainGet_of hg).1 (PySem.W.plainGet_of hg).2 hf (beq_iff_eq.mp ht) (by show (PySem.W.lookIn name od).map (·.isSome) = some false; rw [hl, hv]; rfl) h

theorem set_map {ns : List Str} {Q : Unit → Shared → Prop} (X : K.In s.heap) (I : ObjM s.heap x dx C mA)
    (hs : PySem.W.findIn K (.ref C) "__setattr__" = some (some (.builtin "object.__setattr__"))) (hp : PySem.W.plainOver K C = true) (ht : PySem.W.takerIn K C name = some none) (hh : PySem.W.hasDictIn K C = true)
    (hw : PySem.Within mA ns) (hsz : ns.length ≤ sizeLine)
    (h : ∀ h', ObjM h' x dx C (fun y => if y = name then some v else mA y) → Heap.SameBut dx s.heap h' → Q () { s with heap := h', toks := s.toks + 2 }) :
    wpAny (model prog w) A (setAttr (.ref x) name v) Q E s := by
  obtain ⟨od, J, hl⟩ := I.look
  refine PySem.W.set_plain X J hs (PySem.W.osa_open (s := { s with toks := s.toks + 1 }) (r := none) X J hp ht fun b => ?_)
  obtain ⟨cd, hc, hd'⟩ := PySem.W.any_some hh
  have hx : s.heap.get? x = some ⟨.ref C, some dx, .plain, #[]⟩ := I.obj
  refine wpAny_bind (wpAny_pure (wpAny_bind (wpAny_bind (wpAny_loadPart hx (wpAny_bind (PySem.W.Looks.here (s := { s with toks := s.toks + 1 }) (PySem.W.looks_clsIn X hc) ?_))))))
  rw [hd']
  refine wpAny_pure (a := some dx) (wpAny_bind (wpAny_pure (wpAny_bind ?_)))
  refine wpAny_nsSet1 (s := { s with toks := s.toks + 1 }) I.ns fun h' hn2 hs2 => ?_
  obtain ⟨oD, esD, epD, hoD, hdD, hcD⟩ := hn2.count (PySem.Within.cons name v hw)
  refine wpAny_bind (wpAny_lookBehind hoD (by rw [hdD]; exact pastItsLine_dict (Nat.le_trans hcD (by rw [List.length_cons]; omega))) ?_)
  exact wpAny_pure (h _ ⟨(hs2.2 _ (Ne.symm I.ne)).trans I.obj, hn2, I.ne⟩ hs2)

/-- C(..): the dict at the heap's end, the instance behind it; then its __init__ -/
theorem make_map {R : Result → Shared → Prop} {vs : List Value} {kw : List (Str × Value)} (X : K.In s.heap) (hm : PySem.W.makesIn K C = true)
    (hi : PySem.W.findIn K (.ref C) "__init__" = some (some (.ref f))) (hf : PySem.W.typeIn K (.ref f) = some (.type "function"))
    (h : codeAny (model prog w) (A.under (.builtin "type.__call__" ⟨.ref C :: vs, kw⟩)) (.call (.ref f) ⟨.ref (s.heap.objs.size + 1) :: vs, kw⟩) (PySem.W.InitBack (s.heap.objs.size + 1) R)
      { s with heap := (s.heap.push PySem.W.emptyDict).push (PySem.W.instObj C s.heap.objs.size) }) :
    codeAny (model prog w) A (.call (.ref C) ⟨vs, kw⟩) R s := by
  obtain ⟨hh, g, d, t, os⟩ := s
  exact PySem.W.make_core (PySem.W.makes_of X hm) (PySem.W.looks_findIn X hi) (fun self => PySem.W.bind_fn X self hf) (.inl rfl) h
end

/-! ### the attributes as a list of pairs -/
def putF (f : Str) (v : V) : List (Str × V) → List (Str × V)
  | [] => [(f, v)]
  | (g, x) :: r => if g = f then (g, v) :: r else (g, x) :: putF f v r
theorem lookup_putF (f g : Str) (v : V) : ∀ fs : List (Str × V), (putF f v fs).lookup g = if g = f then some v else fs.lookup g
  | [] => by
    show List.lookup g [(f, v)] = _
    by_cases h : g = f
    · have hb : (g == f) = true := beq_iff_eq.mpr h
      simp only [List.lookup, hb, if_pos h]
    · have hb : (g == f) = false := beq_eq_false_iff_ne.mpr h
      simp only [List.lookup, hb, if_neg h]
  | (k, x) :: r => by
    have ih := lookup_putF f g v r
    rw [show putF f v ((k, x) :: r) = (if k = f then (k, v) :: r else (k, x) :: putF f v r) from rfl]
    by_cases hk : k = f
    · rw [if_pos hk]
      by_cases h : g = k
      · have hb : (g == k) = true := beq_iff_eq.mpr h
        simp only [List.lookup, hb, if_pos (h.trans hk)]
      · have hb : (g == k) = false := beq_eq_false_iff_ne.mpr h
        simp only [List.lookup, hb, if_neg (fun e : g = f => h (e.trans hk.symm))]
    · rw [if_neg hk]
      by_cases h : g = k
      · have hb : (g == k) = true := beq_iff_eq.mpr h
        simp only [List.lookup, hb, if_neg (fun e : g = f => hk (h.symm.trans e))]
      · have hb : (g == k) = false := beq_eq_false_iff_ne.mpr h
        simp only [List.lookup, hb]
        exact ih
theorem keys_putF (f : Str) (v : V) : ∀ fs : List (Str × V), f ∈ (putF f v fs).map (·.1) ∧ ∀ g, g ∈ fs.map (·.1) → g ∈ (putF f v fs).map (·.1)
  | [] => ⟨by simp [putF], fun g h => by simp at h⟩
  | (k, x) :: r => by
    obtain ⟨i1, i2⟩ := keys_putF f v r
    rw [show putF f v ((k, x) :: r) = (if k = f then (k, v) :: r else (k, x) :: putF f v r) from rfl]
    by_cases hk : k = f
    · rw [if_pos hk]
      subst hk
      exact ⟨by simp, fun g h => by simpa using h⟩
    · rw [if_neg hk]
      refine ⟨?_, fun g h => ?_⟩
      · rw [List.map_cons]
        exact List.mem_cons_of_mem _ i1
      · rw [List.map_cons] at h ⊢
        rcases List.mem_cons.mp h with e | e
        · exact List.mem_cons.mpr (.inl e)
        · exact List.mem_cons_of_mem _ (i2 g e)
theorem length_putF (f : Str) (v : V) : ∀ fs : List (Str × V), (putF f v fs).length ≤ fs.length + 1
  | [] => by simp [putF]
  | (k, x) :: r => by
    have ih := length_putF f v r
    rw [show putF f v ((k, x) :: r) = (if k = f then (k, v) :: r else (k, x) :: putF f v r) from rfl]
    by_cases hk : k = f
    · rw [if_pos hk, List.length_cons, List.length_cons]; omega
    · rw [if_neg hk, List.length_cons, List.length_cons]; omega

theorem RelO.some_of {v : V} {o : Option Value} (r : RelO (some v) o) : ∃ u, o = some u ∧ RelV v u := by
  cases o with
  | none => exact (show False from r).elim
  | some u => exact ⟨u, rfl, r⟩
theorem RelO.none_of {o : Option Value} (r : RelO none o) : o = none := by
  cases o with
  | none => rfl
  | some u => exact (show False from r).elim
theorem handed_of {v : V} {u : Value} (r : RelV v u) : PySem.W.handedIn u = true := by
  cases v with
  | non => cases (show u = Value.none from r); rfl
  | bl b => cases (show u = Value.bool b from r); rfl
  | int i => obtain ⟨t, e⟩ := (show ∃ t, u = Value.int i t from r); cases e; rfl
  | str x => obtain ⟨t, e⟩ := (show ∃ t, u = Value.str x t from r); cases e; rfl
  | byt b => obtain ⟨t, e⟩ := (show ∃ t, u = Value.bytes b t from r); cases e; rfl
  | flt b => obtain ⟨t, e⟩ := (show ∃ t, u = Value.float b t from r); cases e; rfl
  | ref a => cases (show u = Value.ref a from r); rfl
  | ty n => cases (show u = Value.type n from r); rfl

section
variable {P : Program} {w : World} {H H' : Hp} {h h' : Heap} {a C dx : Addr} {fs fs' : List (Str × V)}
theorem ins_get (hok : HOk P w H h) (e : H a = some (.ins C dx fs)) : ∃ mA, ObjM h a dx C mA ∧ (∀ f, RelO (fs.lookup f) (mA f)) ∧ PySem.Within mA (fs.map (·.1)) ∧ fs.length ≤ 1000 ∧ H dx = some (.own a) := by
  obtain ⟨d, z, ne, ob, mA, n, r, q⟩ := (show ObjOk P w H h a (.ins C dx fs) from hok a _ e)
  exact ⟨mA, ⟨ob, n, ne⟩, r, q, z, d⟩
end

/-! ### what of the text a class must have -/
structure Cls (K : PySem.W.Frag) (C : Addr) : Prop where
  pg : PySem.W.plainGet K C Str.empty = true
  hd : PySem.W.hasDictIn K C = true
  po : PySem.W.plainOver K C = true
  sa : PySem.W.findIn K (.ref C) "__setattr__" = some (some (.builtin "object.__setattr__"))
theorem Cls.get {K : PySem.W.Frag} {C : Addr} (c : Cls K C) (f : Str) : PySem.W.plainGet K C f = true := c.pg
/-- no class of it has the name -/
def NoAttr (K : PySem.W.Frag) (C : Addr) (f : Str) : Prop := PySem.W.findIn K (.ref C) f = some none
theorem NoAttr.taker {K : PySem.W.Frag} {C : Addr} {f : Str} (n : NoAttr K C f) : PySem.W.takerIn K C f = some none := by
  unfold PySem.W.takerIn
  rw [show PySem.W.findIn K (.ref C) f = some none from n]
  rfl
/-- a method: a plain def of the class or of one above it -/
structure Meth (K : PySem.W.Frag) (C : Addr) (m : Str) (f : Addr) : Prop where
  at_ : PySem.W.findIn K (.ref C) m = some (some (.ref f))
  fn : PySem.W.isFn K (.ref f) = true
  kp : PySem.W.keepIn K (.ref f) = true

section
variable {X : Cx} {pins : List (Addr × Obj)} {σ : St} {H : Hp} {s : Shared} {a C dx : Addr} {fs : List (Str × V)} {f : Str} {v : V} {A : Around} {E : Value → Shared → Prop}

theorem getattr_ok {b : Bool} {Q : Value → Shared → Prop} (I : Inv X pins σ H s) (e : H a = some (.ins C dx fs)) (c : Cls X.K C) (n : NoAttr X.K C f) (l : fs.lookup f = some v)
    (h : ∀ u s', Inv X pins σ H s' → RelV v u → Q u s') : wpAny (model X.prog X.w) A (getAttr (.ref a) f b) Q E s := by
  obtain ⟨mA, O, r, _, _, _⟩ := ins_get I.hok e
  obtain ⟨u, hu, ru⟩ := RelO.some_of (v := v) (o := mA f) (by rw [← l]; exact r f)
  exact get_map I.kIn O (c.get f) c.hd n hu (handed_of ru) (h u _ (I.tok _) ru)


theorem getmeth_ok {m : Str} {g : Addr} {pl : Sem Bool} {Q : Value × List Value → Shared → Prop} (I : Inv X pins σ H s) (e : H a = some (.ins C dx fs)) (c : Cls X.K C) (k : Meth X.K C m g) (l : fs.lookup m = none)
    (h : Q (.ref g, [.ref a]) s) : wpAny (model X.prog X.w) A (getMethod (.ref a) m pl) Q E s := by
  obtain ⟨mA, O, r, _, _, _⟩ := ins_get I.hok e
  have hn : mA m = none := RelO.none_of (by rw [← l]; exact r m)
  exact get_meth I.kIn O (c.get m) k.at_ k.fn hn h

theorem setattr_ok {y : V} {u : Value} {Q : Unit → Shared → Prop} (I : Inv X pins σ H s) (e : H a = some (.ins C dx fs)) (c : Cls X.K C) (n : NoAttr X.K C f) (hl : fs.length < 1000) (ry : RelV y u)
    (h : ∀ s', Inv X pins σ (upd H a (.ins C dx (putF f y fs))) s' → Q () s') : wpAny (model X.prog X.w) A (setAttr (.ref a) f u) Q E s := by
  obtain ⟨mA, O, r, wi, _, ho⟩ := ins_get I.hok e
  have hz : (fs.map (·.1)).length ≤ sizeLine := by rw [List.length_map, sizeLine_eq]; omega
  refine set_map I.kIn O c.sa c.po n.taker c.hd wi hz fun h' O' sb => h _ ?_
  have hd : ∃ o, h'.get? dx = some o := let ⟨o, _, _, e', _⟩ := O'.ns; ⟨o, e'⟩
  refine I.write (x := a) (e := dx) (by rw [e]; exact True.intro) (.inr ho) (fun b q hb z => (sb.2 b hb).trans z) hd ?_
  refine ⟨by rw [upd_ne O.ne]; exact ho, ?_, O.ne, O'.obj, _, O'.ns, fun g => ?_, fun g hg => ?_⟩
  · have := length_putF f y fs; omega
  · show RelO ((putF f y fs).lookup g) (if g = f then some u else mA g)
    rw [lookup_putF]
    by_cases q : g = f
    · rw [if_pos q, if_pos q]; exact ry
    · rw [if_neg q, if_neg q]; exact r g
  · by_cases q : g = f
    · rw [q]; exact (keys_putF f y fs).1
    · refine (keys_putF f y fs).2 g (wi g fun z => hg ?_)
      show (if g = f then some u else mA g) = none
      rw [if_neg q]; exact z

/-- a new instance, tracked, without attributes -/
theorem Inv.made (I : Inv X pins σ H s) : Inv X pins σ (upd (upd H s.heap.objs.size (.own (s.heap.objs.size + 1))) (s.heap.objs.size + 1) (.ins C s.heap.objs.size []))
    { s with heap := (s.heap.push PySem.W.emptyDict).push (PySem.W.instObj C s.heap.objs.size) } := by
  have e1 : (s.heap.push PySem.W.emptyDict).get? s.heap.objs.size = some PySem.W.emptyDict := Heap.get?_push_size s.heap rfl
  have e2 : ((s.heap.push PySem.W.emptyDict).push (PySem.W.instObj C s.heap.objs.size)).get? (s.heap.objs.size + 1) = some (PySem.W.instObj C s.heap.objs.size) := by
    have := Heap.get?_push_size (s.heap.push PySem.W.emptyDict) (o := PySem.W.instObj C s.heap.objs.size) rfl
    rwa [Heap.size_push] at this
  have e3 : (s.heap.push PySem.W.emptyDict).Ns s.heap.objs.size (fun _ => none) := ⟨PySem.W.emptyDict, #[], _, e1, rfl, (fun e he => absurd he (by simp)), fun _ => rfl⟩
  have I1 := I.laid (a := s.heap.objs.size) (o := .own (s.heap.objs.size + 1)) (h' := s.heap.push PySem.W.emptyDict) (t' := s.toks) (fun b u q => Heap.get?_push_of_some _ q) (Nat.le_refl _) ⟨_, e1⟩
  refine I1.laid (a := s.heap.objs.size + 1) (o := .ins C s.heap.objs.size []) (t' := s.toks) (fun b u q => Heap.get?_push_of_some _ q) (Nat.le_of_eq (Heap.size_push _ _)) ?_
  have ne : s.heap.objs.size ≠ s.heap.objs.size + 1 := Nat.ne_of_lt (Nat.lt_succ_self _)
  refine ⟨by rw [upd_ne ne, upd_same], Nat.zero_le _, ne, e2, fun _ => none, (Heap.Ns1.of_empty e3).at fun o q => Heap.get?_push_of_some _ q, fun _ => True.intro, fun y hy => absurd rfl hy⟩

/-- e.f where nothing but the object is asked: through attributeBase (super) and the last hold -/
theorem attr_of {prog : Program} {w : World} {env : Env} {e : Expr} {f : Str} {pos : Pos} {s : Shared} {Q : Value → Shared → Prop} (hb : attributeBase e f env (eval e env) = eval e env)
    (h : wpAny (model prog w) A (eval e env) (fun o s₁ => wpAny (model prog w) A (getAttr o f true) Q E s₁) E s) : wpAny (model prog w) A (eval (.Attribute e f pos) env) Q E s :=
  Attribute_any_ h (by rw [arm_eval_Attribute, hb])
end

/-! ### readings and rules -/
/-- e.f, an attribute of the instance -/
def tFld (K : PySem.W.Frag) (ta : TE) (f : Str) : TE := fun σ H Q => ta σ H fun x H1 => ∃ a C dx fs v, x = .ref a ∧ H1 a = some (.ins C dx fs) ∧ Cls K C ∧ NoAttr K C f ∧ fs.lookup f = some v ∧ Q v H1
/-- e.f = value -/
def sFld (K : PySem.W.Frag) (ta tv : TE) (f : Str) : TS := fun D σ H => tv σ H fun y H1 => ta σ H1 fun x H2 => ∃ a C dx fs, x = .ref a ∧ H2 a = some (.ins C dx fs) ∧ Cls K C ∧ NoAttr K C f ∧ fs.length < 1000 ∧
  D.nx σ (upd H2 a (.ins C dx (putF f y fs)))

section
variable {X : Cx} {o e value : Expr} {f : Str} {pos pos' tpos : Pos} {ta tv : TE}
theorem pe_fld (he : PE X e ta) (hb : attributeBase e f X.env (eval e X.env) = eval e X.env) : PE X (.Attribute e f pos) (tFld X.K ta f) := by
  intro pins s σ H Q I h
  refine attr_of hb (thn (he pins s σ H _ I h) fun u s1 ⟨x, H1, I1, rx, a, C, dx, fs, v, ex, ea, c, n, l, q⟩ => ?_)
  subst ex
  obtain rfl : u = Value.ref a := rx
  exact getattr_ok I1 ea c n l fun u' s2 I2 ru => ⟨v, H1, I2, ru, q⟩
theorem ps_fld (ha : PE X o ta) (hv : PE X value tv) (hs : swapsWith value (some (.Attribute o f pos')) pos.line X.env = pure false) : PS X (.Assign [.Attribute o f pos'] value pos) (sFld X.K ta tv f) := by
  intro pins s σ H D I h
  refine plainObj_wpAny_Assign_Attribute (thn (hv pins s σ H _ I h) fun u s1 ⟨y, H1, I1, ry, q⟩ => thn (ha pins s1 σ H1 _ I1 q) fun ov s2 ⟨x, H2, I2, rx, a, C, dx, fs, ex, ea, c, n, l, q2⟩ => ?_) hs
  subst ex
  obtain rfl : ov = Value.ref a := rx
  exact setattr_ok I2 ea c n l ry fun s3 I3 => ⟨σ, _, I3, q2⟩

/-- what is between an instance and its method: the tree of a method call -/
theorem methcall_of {pl : Sem Bool} {m : Str} {apos : Pos} {args : List Expr} {pins : List (Addr × Obj)} {s : Shared} {σ : St} {H : Hp} {Q : Value → Shared → Prop} {te : TE} (he : PE X e te) (I : Inv X pins σ H s)
    (h : te σ H fun x H1 => ∃ a C dx fs g, x = .ref a ∧ H1 a = some (.ins C dx fs) ∧ Cls X.K C ∧ Meth X.K C m g ∧ fs.lookup m = none ∧
      ∀ s1, Inv X pins σ H1 s1 → wpAny (model X.prog X.w) X.A (callWith pos (.ref g) [.ref a] (backTo pos (starEach args X.env)) (backToKw pos (keywordEach [] X.env))) Q X.xe s1)
    (ht : eval (.Call (.Attribute e m apos) args [] pos) X.env = (do
      let ov ← eval e X.env
      standAt apos.atName
      let (f, first) ← holding [ov] (getMethod ov m pl)
      callWith pos f first (backTo pos (starEach args X.env)) (backToKw pos (keywordEach [] X.env)))) :
    wpAny (model X.prog X.w) X.A (eval (.Call (.Attribute e m apos) args [] pos) X.env) Q X.xe s := by
  refine PySem.W.methodCall_KW (pl := pl) (thn (he pins s σ H _ I h) fun u s1 ⟨x, H1, I1, rx, a, C, dx, fs, g, ex, ea, c, k, l, q⟩ => ?_) ht
  subst ex
  obtain rfl : u = Value.ref a := rx
  exact getmeth_ok I1 ea c k l (q s1 I1)
end

/-! ### isinstance -/
section
variable {X : Cx} {pins : List (Addr × Obj)} {σ : St} {H : Hp} {s : Shared} {A : Around} {E : Value → Shared → Prop} {Q : Value → Shared → Prop} {c : Value} {b : Bool}
/-- the type of a value, as the fragment's deciders take it; for an instance its class -/
inductive TyOf (K : PySem.W.Frag) (H : Hp) : V → Value → Prop where
  | non : TyOf K H .non (.type "NoneType")
  | bl (x : Bool) : TyOf K H (.bl x) (.type "bool")
  | int (i : Int) : TyOf K H (.int i) (.type "int")
  | str (x : Str) : TyOf K H (.str x) (.type "str")
  | flt (x : UInt64) : TyOf K H (.flt x) (.type "float")
  | lst {a : Addr} {xs : List V} (e : H a = some (.lst xs)) : TyOf K H (.ref a) (.type "list")
  | frz {a : Addr} {o : Obj} {xs : List V} (e : H a = some (.frz o (.lst xs))) : TyOf K H (.ref a) (.type "list")
  | tup {a : Addr} {xs : List V} (e : H a = some (.tup xs)) : TyOf K H (.ref a) (.type "tuple")
  | dK {a : Addr} {kvs : List (Key × V)} (e : H a = some (.dK kvs)) : TyOf K H (.ref a) (.type "dict")
  | dT {a : Addr} {kvs : List (List Key × V)} (e : H a = some (.dT kvs)) : TyOf K H (.ref a) (.type "dict")
  | ins {a C dx : Addr} {fs : List (Str × V)} (e : H a = some (.ins C dx fs)) (cl : Cls K C) (ha : PySem.W.findIn K (.ref C) "__class__" = some (some (.builtin "object.__class__")))
      (hn : PySem.W.specialIn K (.builtin "object.__class__") "__get__" = some (some (.builtin "getset_descriptor.__get__"))) (htk : PySem.W.takesIn K (.builtin "object.__class__") = some true)
      (hm : PySem.W.mroIn K C (.type "object") = some true) : TyOf K H (.ref a) (.ref C)
/-- isinstance(x, c) for one class c, a built-in or an own one: kitOne's answer -/
theorem isinst_ok {x : V} {u t : Value} (I : Inv X pins σ H s) (rx : RelV x u) (ty : TyOf X.K H x t) (e : PySem.W.kitOne X.K t c = some b) (h : ∀ tk, Q (.bool b) { s with toks := tk }) :
    wpAny (model X.prog X.w) A (call (.builtin "isinstance") [u, c]) Q E s := by
  cases ty with
  | non => cases (show u = Value.none from rx); exact PySem.W.kia_one PySem.W.kitx_none I.kIn True.intro e (fun z => nomatch z) h
  | bl y => cases (show u = Value.bool y from rx); exact PySem.W.kia_one PySem.W.kitx_bool I.kIn True.intro e (fun z => nomatch z) h
  | int i => obtain ⟨t, q⟩ := (show ∃ t, u = Value.int i t from rx); cases q; exact PySem.W.kia_one PySem.W.kitx_int I.kIn True.intro e (fun z => nomatch z) h
  | str y => obtain ⟨t, q⟩ := (show ∃ t, u = Value.str y t from rx); cases q; exact PySem.W.kia_one PySem.W.kitx_str I.kIn True.intro e (fun z => nomatch z) h
  | flt y => obtain ⟨t, q⟩ := (show ∃ t, u = Value.float y t from rx); cases q; exact PySem.W.kia_one PySem.W.kitx_float I.kIn True.intro e (fun z => nomatch z) h
  | @lst a xs ea =>
    cases (show u = Value.ref a from rx)
    obtain ⟨_, _, n, _, h1⟩ := (show ObjOk X.prog X.w H s.heap a (.lst xs) from I.hok a _ ea)
    exact PySem.W.kia_one PySem.W.kitx_list I.kIn ⟨_, h1, rfl⟩ e (fun z => nomatch z) h
  | @frz a ob xs ea =>
    cases (show u = Value.ref a from rx)
    obtain ⟨_, _, _, n, _, h1⟩ := (show ObjOk X.prog X.w H s.heap a (.frz ob (.lst xs)) from I.hok a _ ea)
    exact PySem.W.kia_one PySem.W.kitx_list I.kIn ⟨_, h1, rfl⟩ e (fun z => nomatch z) h
  | @tup a xs ea =>
    cases (show u = Value.ref a from rx)
    obtain ⟨_, _, _, p⟩ := (show ObjOk X.prog X.w H s.heap a (.tup xs) from I.hok a _ ea)
    obtain ⟨o, h1, h2, _⟩ := p
    exact PySem.W.kia_one PySem.W.kitx_tuple I.kIn ⟨o, h1, h2⟩ e (fun z => nomatch z) h
  | @dK a kvs ea =>
    cases (show u = Value.ref a from rx)
    obtain ⟨_, _, vs, _, p⟩ := (show ObjOk X.prog X.w H s.heap a (.dK kvs) from I.hok a _ ea)
    obtain ⟨o, es, ep, h1, h2, _⟩ := p
    exact PySem.W.kia_one PySem.W.kitx_dict I.kIn ⟨o, h1, h2.1⟩ e (fun z => nomatch z) h
  | @dT a kvs ea =>
    cases (show u = Value.ref a from rx)
    obtain ⟨_, _, xs, _, o, es, ep, h1, h2, _⟩ := (show ObjOk X.prog X.w H s.heap a (.dT kvs) from I.hok a _ ea)
    exact PySem.W.kia_one PySem.W.kitx_dict I.kIn ⟨o, h1, h2.1⟩ e (fun z => nomatch z) h
  | @ins a C dx fs ea cl ha hn htk hm =>
    cases (show u = Value.ref a from rx)
    obtain ⟨mA, O, _⟩ := ins_get I.hok ea
    obtain ⟨od, J, _⟩ := O.look
    exact PySem.W.kia_one (PySem.W.kitx_own (cl.get _) cl.hd ha hn htk hm) I.kIn J e (fun z => nomatch z) h
end
end L2

namespace L2
open PySem PySem.Spec PyProof.Rows

/-! ### room -/
structure Room (k : Nat) (A : Around) : Prop where
  hd : A.handled = none
  dp : A.depth + 3 * k + 5 < recursionLimit
  un : A.units + 16 * k + 200 < cLine
theorem Room.mono {j k : Nat} {A : Around} (r : Room k A) (h : j ≤ k) : Room j A := ⟨r.hd, by have := r.dp; omega, by have := r.un; omega⟩
theorem Room.deeper {k : Nat} {A : Around} (r : Room (k + 1) A) (env : Env) : Room k (A.deeper env) :=
  ⟨r.hd, by have := r.dp; show A.depth + 1 + 3 * k + 5 < _; omega, by have := r.un; show A.units + 3 + 16 * k + 200 < _; omega⟩
theorem Room.in1 {k : Nat} {A : Around} (r : Room (k + 1) A) : Room k A.in1 :=
  ⟨r.hd, by have := r.dp; show A.depth + 3 * k + 5 < _; omega, by have := r.un; show A.units + 1 + 16 * k + 200 < _; omega⟩
theorem make_depth {A : Around} {C : Addr} {us : List Value} {kw : List (Str × Value)} : (A.under (.builtin "type.__call__" ⟨.ref C :: us, kw⟩)).depth = A.depth + 1 := by
  first | rfl | simp [Around.under, Code.weight, Code.isCreation, Code.isGuard, Code.isCaller, Code.frames, Code.isFrame, guardIds]
theorem make_units {A : Around} {C : Addr} {us : List Value} {kw : List (Str × Value)} : (A.under (.builtin "type.__call__" ⟨.ref C :: us, kw⟩)).units = A.units + 1 := by
  first | rfl | simp [Around.under, Code.cUnits, Code.frames, Code.isFrame]
theorem Room.make {k : Nat} {A : Around} (r : Room (k + 1) A) (C : Addr) (us : List Value) (kw : List (Str × Value)) : Room k (A.under (.builtin "type.__call__" ⟨.ref C :: us, kw⟩)) :=
  ⟨r.hd, by have := r.dp; rw [make_depth]; omega, by have := r.un; rw [make_units]; omega⟩
theorem Room.depth {k : Nat} {A : Around} (r : Room k A) : A.depth < recursionLimit := by have := r.dp; omega
theorem Room.units {k : Nat} {A : Around} (r : Room k A) : A.units + 64 < cLine := by have := r.un; omega
theorem Room.units0 {k : Nat} {A : Around} (r : Room k A) : A.units < cLine := by have := r.un; omega

/-! ### argument lists and displays -/
def tNil : TA := fun _ H Q => Q [] H
def tCons (ta : TE) (tr : TA) : TA := fun σ H Q => ta σ H fun x H1 => tr σ H1 fun xs H2 => Q (x :: xs) H2
section
variable {X : Cx} {e : Expr} {es : List Expr} {te : TE} {t : TA} {pos : Pos}
theorem pa_nil : PA X [] tNil := fun _ _ _ _ H Q I h => Calls.spliced_nil ⟨[], H, I, .nil, h⟩
theorem pa_cons (ha : PE X e te) (hr : PA X es t) (hs : starEach (e :: es) X.env = (false, eval e X.env) :: starEach es X.env := by rfl) : PA X (e :: es) (tCons te t) := by
  intro pos pins s σ H Q I h
  rw [hs]
  show wpAny _ _ (spliced ((false, eval e X.env) :: backTo pos (starEach es X.env))) _ _ s
  refine Calls.spliced_cons (thn (ha pins s σ H _ I h) fun u s1 ⟨x, H1, I1, r1, q1⟩ => ?_)
  exact thn (hr pos pins s1 σ H1 _ I1 q1) fun us s2 ⟨xs, H2, I2, r2, q2⟩ => ⟨x :: xs, H2, I2, .cons r1 r2, q2⟩

/-- a tuple, a list of written items -/
def tTup (t : TA) : TE := fun σ H Q => t σ H fun xs H1 => xs.length ≤ sizeLine ∧ ∀ p, H1 p = none → Q (.ref p) (upd H1 p (.tup xs))
def tLst (t : TA) : TE := fun σ H Q => t σ H fun xs H1 => xs.length ≤ sizeLine ∧ ∀ p, H1 p = none → Q (.ref p) (upd H1 p (.lst xs))
theorem pe_tup {x1} (h : PA X es t) : PE X (.Tuple es x1 pos) (tTup t) := by
  intro pins s σ H Q I hq
  refine wpAny_Tuple_spliced (thn (h pos pins s σ H _ I hq) fun us s1 ⟨xs, H1, I1, r, z, q⟩ => ⟨by rw [← r.length]; exact z, ?_⟩)
  have hf : H1 s1.heap.objs.size = none := I1.hok.fresh (Nat.le_refl _)
  refine ⟨.ref s1.heap.objs.size, upd H1 s1.heap.objs.size (.tup xs), I1.laid (t' := s1.toks) (fun b u e => Heap.get?_push_of_some _ e) (Nat.le_refl _) ?_, rfl, q _ hf⟩
  exact ⟨z, us, r, ⟨_, Heap.get?_push_size _ rfl, rfl, _, rfl⟩⟩
theorem pe_lst (h : PA X es t) : PE X (.List es pos) (tLst t) := by
  intro pins s σ H Q I hq
  refine wpAny_List_spliced (thn (h pos pins s σ H _ I hq) fun us s1 ⟨xs, H1, I1, r, z, q⟩ => ⟨by rw [← r.length]; exact z, ?_⟩)
  have hf : H1 s1.heap.objs.size = none := I1.hok.fresh (Nat.le_refl _)
  refine ⟨.ref s1.heap.objs.size, upd H1 s1.heap.objs.size (.lst xs), I1.laid (t' := s1.toks) (fun b u e => Heap.get?_push_of_some _ e) (Nat.le_refl _) ?_, rfl, q _ hf⟩
  exact ⟨z, us, 0, r, Heap.get?_push_size _ rfl⟩
end

/-! ### what a def promises -/
/-- a def's promise: the bound arguments in the parameters' order, the heap, the wanted end, the wanted exception -/
abbrev Sp := List V → Hp → VK → XK → Prop
/-- how an exception lies behind a call (file 08 gives it): the callers' frames, abstract heap and state ahead of the call, the wish, the exception, the state -/
abbrev CXT := List Env → Hp → Shared → XK → Value → Shared → Prop

/-- the state at a call -/
structure Env0 (P : Program) (w : World) (K : PySem.W.Frag) (mg : Str → Option Value) (base : Heap) (A : Around) (outer : List Env) (s : Shared) (H : Hp) : Prop where
  frames : A.frames = some outer
  mod : Mod K mg base
  bs : ∀ b o, base.get? b = some o → s.heap.get? b = some o ∧ H b = none
  bsz : base.objs.size ≤ s.heap.objs.size
  funs : s.heap.FunFrames base outer
  frf : ∀ b ∈ frs outer, H b = none
  hok : HOk P w H s.heap
  bare : AllBare s.gens
/-- a call's end -/
def CE (outer : List Env) (P : Program) (w : World) (H : Hp) (s : Shared) (Q : VK) (u : Value) (s' : Shared) : Prop :=
  ∃ v H', s'.os = s.os ∧ AllBare s'.gens ∧ Un (frs outer) [] H H' s.heap s'.heap ∧ HOk P w H' s'.heap ∧ RelV v u ∧ Q v H'
def CR (CX : CXT) (outer : List Env) (P : Program) (w : World) (H : Hp) (s : Shared) (Q : VK) (E : XK) (r : Result) (s' : Shared) : Prop :=
  match r with
  | .ok (.ret u) => CE outer P w H s Q u s'
  | .ok _ => False
  | .error e => CX outer H s E e s'
structure FnOk (P : Program) (w : World) (K : PySem.W.Frag) (mg : Str → Option Value) (base : Heap) (CX : CXT) (k : Nat) (f : Addr) (fd : FuncData) (ps : List Str) (sp : Sp) : Prop where
  len : ∀ vs H Q E, sp vs H Q E → vs.length = ps.length
  run : ∀ (A : Around) (outer : List Env) (s : Shared) (H : Hp) (args : Args) (us : List Value) (vs : List V) (Q : VK) (E : XK), Room k A → Env0 P w K mg base A outer s H → BindsTo s fd args (ps.zip us) → Vals vs us → sp vs H Q E →
    codeAny (model P w) A (.call (.ref f) args) (CR CX outer P w H s Q E) s

theorem Env0.make {P : Program} {w : World} {K : PySem.W.Frag} {mg : Str → Option Value} {base : Heap} {A : Around} {outer : List Env} {s : Shared} {H : Hp} (e : Env0 P w K mg base A outer s H) (C : Addr) (us : List Value) (kw : List (Str × Value)) :
    Env0 P w K mg base (A.under (.builtin "type.__call__" ⟨.ref C :: us, kw⟩)) outer s H := ⟨by first | exact e.frames | (simpa [Around.under, Code.envs, Code.isFrame, pushEnvs] using e.frames), e.mod, e.bs, e.bsz, e.funs, e.frf, e.hok, e.bare⟩

section
variable {X : Cx} {pins : List (Addr × Obj)} {σ : St} {H : Hp} {s s' : Shared}
/-- from a body: what a callee wants -/
theorem Inv.env0 (I : Inv X pins σ H s) : Env0 X.prog X.w X.K X.mg X.base X.A X.stack s H :=
  ⟨I.ok.frames, I.ok.mod, I.bs, Nat.le_trans I.ok.bsz I.sz, I.stack, I.stkFree, I.hok, I.bare⟩
/-- behind a call -/
theorem Inv.after {Q : VK} {u : Value} (I : Inv X pins σ H s) (h : CE X.stack X.prog X.w H s Q u s') : EP X pins σ Q u s' := by
  obtain ⟨v, H', os, bare, un, hok, r, q⟩ := h
  obtain ⟨hh, g, d, t, os'⟩ := s'
  obtain rfl : os' = s.os := os
  exact ⟨v, H', I.call (h' := hh) (g' := g) (d' := d) (t' := t) (ch := []) un hok bare (fun b z => absurd z (by simp)), r, q⟩
end

/-! ### calls -/
/-- f(..): the written arguments, then the defaults dvs; E: what is wanted of an exception -/
def tCall (sp : Sp) (dvs : List V) (E : XK) (t : TA) : TE := fun σ H Q => t σ H fun vs H1 => sp (vs ++ dvs) H1 Q E
/-- o.m(..) of an instance of the class at C -/
def tMeth (C : Addr) (m : Str) (sp : Sp) (dvs : List V) (E : XK) (ta : TE) (t : TA) : TE := fun σ H Q => ta σ H fun x H1 => ∃ a dx fs, x = .ref a ∧ H1 a = some (.ins C dx fs) ∧ fs.lookup m = none ∧
  t σ H1 fun vs H2 => sp (x :: (vs ++ dvs)) H2 Q E
/-- C(..): a new instance and its dict, then __init__ -/
def tMake (C : Addr) (sp : Sp) (dvs : List V) (E : XK) (t : TA) : TE := fun σ H Q => t σ H fun vs H1 => ∀ x dx, H1 x = none → H1 dx = none → dx ≠ x →
  sp (.ref x :: (vs ++ dvs)) (upd (upd H1 dx (.own x)) x (.ins C dx [])) (fun v H2 => v = .non ∧ Q (.ref x) H2) E

/-- how the parameters are bound: us the positional arguments, kw the keywords' values by name, ds the defaults that fill up -/
def Binds (K : PySem.W.Frag) (fd : FuncData) (ps : List Str) (ds : List Value) : Prop :=
  ∀ (s : Shared) (us : List Value), K.In s.heap → (us ++ ds).length = ps.length → BindsTo s fd ⟨us, []⟩ (ps.zip (us ++ ds))
/-- every parameter is given -/
theorem Binds.all {K : PySem.W.Frag} {fd : FuncData} {ps : List Str} (h : ∀ us : List Value, us.length = ps.length → bindArgs fd ⟨us, []⟩ = pure (ps.zip us)) : Binds K fd ps [] := fun s us _ hl => by
  rw [List.append_nil] at hl ⊢
  exact .of_eq (h us hl)

/-- an exception of a callee reaches what this body wants of exceptions -/
def Passes (CX : CXT) (X : Cx) (E : XK) : Prop := ∀ (pins : List (Addr × Obj)) (σ : St) (H : Hp) (s : Shared) (e : Value) (s' : Shared), Inv X pins σ H s → CX X.stack H s E e s' → X.xe e s'

section
variable {X : Cx} {CX : CXT} {k : Nat} {f C : Addr} {fd : FuncData} {ps : List Str} {sp : Sp} {dvs : List V} {ds : List Value} {E : XK} {x m : Str} {p pos apos : Pos} {e o : Expr} {es : List Expr} {ta : TE} {t : TA}

/-- the callee runs -/
theorem run_fn {pins : List (Addr × Obj)} {σ : St} {H : Hp} {s : Shared} {Q : VK} {us : List Value} {vs : List V} (F : FnOk X.prog X.w X.K X.mg X.base CX k f fd ps sp) (hr : Room k X.A) (hb : Binds X.K fd ps ds) (hd : Vals dvs ds) (hx : Passes CX X E)
    (I : Inv X pins σ H s) (r : Vals vs us) (h : sp (vs ++ dvs) H Q E) : wpAny (model X.prog X.w) X.A (call (.ref f) us) (EP X pins σ Q) X.xe s := by
  have r2 : Vals (vs ++ dvs) (us ++ ds) := r.append hd
  have hl : (us ++ ds).length = ps.length := by rw [← r2.length]; exact F.len _ _ _ _ h
  refine wpAny_call (codeAny_mono (F.run X.A X.stack s H ⟨us, []⟩ (us ++ ds) (vs ++ dvs) Q E hr I.env0 (hb s us I.kIn hl) r2 h) fun r s' hq => ?_)
  cases r with
  | error e => exact hx pins σ H s e s' I hq
  | ok fl =>
    cases fl with
    | ret u => exact I.after hq
    | next => exact False.elim hq
    | brk => exact False.elim hq
    | cont => exact False.elim hq

theorem pe_call (F : FnOk X.prog X.w X.K X.mg X.base CX k f fd ps sp) (hr : Room k X.A) (hg : Gl X x) (hm : X.mg x = some (.ref f)) (hk : PySem.W.keepIn X.K (.ref f) = true) (hb : Binds X.K fd ps ds) (hd : Vals dvs ds) (hx : Passes CX X E)
    (ha : PA X (e :: es) t) (hdb : (x == ("__debug__" : Str)) = false := by decide) (he : starEach (e :: es) X.env = (false, eval e X.env) :: starEach es X.env := by rfl) (hpl : (backTo pos (starEach es X.env)).any (·.1) = false := by rfl) :
    PE X (.Call (.Name x p) (e :: es) [] pos) (tCall sp dvs E t) := by
  intro pins s σ H Q I h
  refine wpAny_Call_Name_kw (ld_glob I hg hm ?_ hdb)
  refine PySem.W.callWith_K (h₀ := X.base) I.ok.mod.kin hk (thn (ha pos pins s σ H _ I h) fun us s1 ⟨vs, H1, I1, r, q⟩ => ⟨I1.kIn, ?_⟩) he hpl
  exact run_fn F hr hb hd hx I1 r q

/-- o.m(e, ..) -/
theorem pe_meth {pl : Sem Bool} (he : PE X o ta) (c : Cls X.K C) (hm : Meth X.K C m f) (F : FnOk X.prog X.w X.K X.mg X.base CX k f fd ps sp) (hr : Room k X.A) (hb : Binds X.K fd ps ds) (hd : Vals dvs ds) (hx : Passes CX X E) (ha : PA X (e :: es) t)
    (hst : starEach (e :: es) X.env = (false, eval e X.env) :: starEach es X.env := by rfl) (hpl : (backTo pos (starEach es X.env)).any (·.1) = false := by rfl)
    (ht : eval (.Call (.Attribute o m apos) (e :: es) [] pos) X.env = (do
      let ov ← eval o X.env
      standAt apos.atName
      let (f, first) ← holding [ov] (getMethod ov m pl)
      callWith pos f first (backTo pos (starEach (e :: es) X.env)) (backToKw pos (keywordEach [] X.env))) := by rfl) :
    PE X (.Call (.Attribute o m apos) (e :: es) [] pos) (tMeth C m sp dvs E ta t) := by
  intro pins s σ H Q I h
  refine PySem.W.methodCall_KW (pl := pl) (thn (he pins s σ H _ I h) fun u s1 ⟨x, H1, I1, rx, a, dx, fs, ex, ea, l, q⟩ => ?_) ht
  subst ex
  obtain rfl : u = Value.ref a := rx
  refine getmeth_ok I1 ea c hm l ?_
  refine PySem.W.callWith_K (first := [.ref a]) (h₀ := X.base) I.ok.mod.kin hm.kp (thn (ha pos pins s1 σ H1 _ I1 q) fun us s2 ⟨vs, H2, I2, r, q2⟩ => ⟨I2.kIn, ?_⟩) hst hpl
  exact run_fn (us := .ref a :: us) (vs := .ref a :: vs) F hr hb hd hx I2 (.cons rfl r) q2

/-- what a class must have to be made -/
structure Mk (K : PySem.W.Frag) (C f : Addr) : Prop where
  makes : PySem.W.makesIn K C = true
  init : PySem.W.findIn K (.ref C) "__init__" = some (some (.ref f))
  fn : PySem.W.isFn K (.ref f) = true
  kp : PySem.W.keepIn K (.ref C) = true

theorem run_make {pins : List (Addr × Obj)} {σ : St} {H : Hp} {s : Shared} {Q : VK} {us : List Value} {vs : List V} (M : Mk X.K C f) (F : FnOk X.prog X.w X.K X.mg X.base CX k f fd ps sp) (hr : Room (k + 1) X.A) (hb : Binds X.K fd ps ds) (hd : Vals dvs ds)
    (hx : Passes CX X E) (I : Inv X pins σ H s) (r : Vals vs us)
    (h : ∀ x dx, H x = none → H dx = none → dx ≠ x → sp (.ref x :: (vs ++ dvs)) (upd (upd H dx (.own x)) x (.ins C dx [])) (fun v H2 => v = .non ∧ Q (.ref x) H2) E) :
    wpAny (model X.prog X.w) X.A (call (.ref C) us) (EP X pins σ Q) X.xe s := by
  have hq := h (s.heap.objs.size + 1) s.heap.objs.size (I.hok.fresh (Nat.le_succ _)) (I.hok.fresh (Nat.le_refl _)) (Nat.ne_of_lt (Nat.lt_succ_self _))
  have I2 := Inv.made (C := C) I
  have r2 : Vals (V.ref (s.heap.objs.size + 1) :: (vs ++ dvs)) (Value.ref (s.heap.objs.size + 1) :: (us ++ ds)) := .cons rfl (r.append hd)
  have hl : (Value.ref (s.heap.objs.size + 1) :: us ++ ds).length = ps.length := by
    have e := r2.length
    rw [F.len _ _ _ _ hq] at e
    exact e.symm
  refine wpAny_call (make_map (f := f) I.kIn M.makes M.init (beq_iff_eq.mp M.fn) (codeAny_mono (F.run _ X.stack _ _ ⟨Value.ref (s.heap.objs.size + 1) :: us, []⟩ (Value.ref (s.heap.objs.size + 1) :: (us ++ ds)) _ _ E (hr.make C us [])
    (I2.env0.make C us []) (hb _ (Value.ref (s.heap.objs.size + 1) :: us) I2.kIn hl) r2 hq) fun r s' hq' => ?_))
  cases r with
  | error e => exact hx pins σ _ _ e s' I2 hq'
  | ok fl =>
    cases fl with
    | ret u =>
      obtain ⟨v, H', I3, rv, ev, q3⟩ := I2.after hq'
      subst ev
      exact ⟨rv, ⟨V.ref (s.heap.objs.size + 1), H', I3, rfl, q3⟩⟩
    | next => exact False.elim hq'
    | brk => exact False.elim hq'
    | cont => exact False.elim hq'
theorem pe_make0 (M : Mk X.K C f) (F : FnOk X.prog X.w X.K X.mg X.base CX k f fd ps sp) (hr : Room (k + 1) X.A) (hg : Gl X x) (hm : X.mg x = some (.ref C)) (hb : Binds X.K fd ps ds) (hd : Vals dvs ds) (hx : Passes CX X E)
    (hdb : (x == ("__debug__" : Str)) = false := by decide) : PE X (.Call (.Name x p) [] [] pos) (tMake C sp dvs E tNil) := by
  intro pins s σ H Q I h
  refine wpAny_Call_Name_kw (ld_glob I hg hm ?_ hdb)
  exact PySem.W.callWith_K0 I.kIn M.kp (run_make (us := []) M F hr hb hd hx I .nil h)
end

/-! ### keywords -/
section
variable {X : Cx} {CX : CXT} {k : Nat} {f C : Addr} {fd : FuncData} {ps ks : List Str} {sp : Sp} {E : XK} {x m : Str} {p pos apos kpos : Pos} {e o : Expr} {es : List Expr} {kws : List Keyword} {te ta : TE} {t tk : TA} {nm : Option Str}

variable {g : List Value → List Value → List Value} {gV : List V → List V → List V}
end

/-! ### a def's body keeps its promise -/
/-- names: the parameters first -/
structure FnScope (N P : List Str) (sc : Scope) : Prop where
  kind : sc.kind = .function
  co : sc.isCoroutine = false
  gen : sc.isGenerator = false
  nd : N.Nodup
  pre : N.take P.length = P
  par : ∀ x ∈ P, sc.names.lookup x = some .local ∨ sc.names.lookup x = some .cell
  nofree : ∀ y ∈ sc.names, y.2 ≠ .free

theorem bindL_out {kindOf : Str → Option NameKind} {x : Str} : ∀ {binds : List (Str × Value)} {m : Str → Option Value}, (∀ v, (x, v) ∉ binds) → bindL kindOf binds m x = m x
  | [], _, _ => rfl
  | (n, v) :: r, m, h => by
    unfold bindL
    rw [bindL_out fun w hw => h w (List.mem_cons_of_mem _ hw)]
    split
    · have : x ≠ n := by rintro rfl; exact h v List.mem_cons_self
      simp [this]
    · rfl
theorem bindC_out {kindOf : Str → Option NameKind} {x : Str} : ∀ {binds : List (Str × Value)} {m : Str → Option Value}, (∀ v, (x, v) ∉ binds) → bindC kindOf binds m x = m x
  | [], _, _ => rfl
  | (n, v) :: r, m, h => by
    unfold bindC
    rw [bindC_out fun w hw => h w (List.mem_cons_of_mem _ hw)]
    split
    · rfl
    · have : x ≠ n := by rintro rfl; exact h v List.mem_cons_self
      simp [this]
theorem bindL_get {kindOf : Str → Option NameKind} {x : Str} {v : Value} : ∀ {P : List Str} {vs : List Value} {i : Nat} {m : Str → Option Value}, P.Nodup → P[i]? = some x → vs[i]? = some v → kindOf x = some .local →
    bindL kindOf (P.zip vs) m x = some v
  | [], _, _, _, _, h, _, _ => by simp at h
  | _ :: _, [], _, _, _, _, h, _ => by simp at h
  | p :: P, w :: vs, 0, m, nd, h1, h2, hk => by
    simp at h1 h2; subst h1; subst h2
    show bindL kindOf ((p, w) :: P.zip vs) m p = _
    unfold bindL
    rw [bindL_out fun v hv => (List.nodup_cons.mp nd).1 (List.of_mem_zip hv).1, if_pos hk]
    simp
  | p :: P, w :: vs, i + 1, m, nd, h1, h2, hk => by
    show bindL kindOf ((p, w) :: P.zip vs) m x = _
    unfold bindL
    exact bindL_get (i := i) (List.nodup_cons.mp nd).2 (by simpa using h1) (by simpa using h2) hk
theorem bindC_get {kindOf : Str → Option NameKind} {x : Str} {v : Value} : ∀ {P : List Str} {vs : List Value} {i : Nat} {m : Str → Option Value}, P.Nodup → P[i]? = some x → vs[i]? = some v → kindOf x ≠ some .local →
    bindC kindOf (P.zip vs) m x = some v
  | [], _, _, _, _, h, _, _ => by simp at h
  | _ :: _, [], _, _, _, _, h, _ => by simp at h
  | p :: P, w :: vs, 0, m, nd, h1, h2, hk => by
    simp at h1 h2; subst h1; subst h2
    show bindC kindOf ((p, w) :: P.zip vs) m p = _
    unfold bindC
    rw [bindC_out fun v hv => (List.nodup_cons.mp nd).1 (List.of_mem_zip hv).1, if_neg hk]
    simp
  | p :: P, w :: vs, i + 1, m, nd, h1, h2, hk => by
    show bindC kindOf ((p, w) :: P.zip vs) m x = _
    unfold bindC
    exact bindC_get (i := i) (List.nodup_cons.mp nd).2 (by simpa using h1) (by simpa using h2) hk

/-- the names' values at the entry -/
def start (N : List Str) (vs : List V) : St := vs.map some ++ List.replicate (N.length - vs.length) none

/-- the context of a def's body, at its entry; an exception leaves the frame, then lies as CX says -/
def cxOf (CX : CXT) (P : Program) (w : World) (K : PySem.W.Frag) (mg : Str → Option Value) (base : Heap) (N : List Str) (qual : Str) (scope : Scope) (f : Addr) (cd : Value) (A : Around) (outer : List Env) (s : Shared) (H : Hp) (E : XK) : Cx where
  prog := P
  w := w
  K := K
  mg := mg
  base := base
  A := A.deeper (envOfC qual scope s.heap.objs.size f cd)
  N := N
  s₀ := s
  H₀ := H
  env := envOfC qual scope s.heap.objs.size f cd
  outer := outer
  stack := envOfC qual scope s.heap.objs.size f cd :: outer
  ex := []
  calm := true
  fn := fun _ => true
  pn := []
  xe := fun e s' => wpAny (model P w) (A.deeper (envOfC qual scope s.heap.objs.size f cd)) (leaving (envOfC qual scope s.heap.objs.size f cd) e) (fun _ s'' => CX outer H s E e s'') (fun e' s'' => CX outer H s E e' s'') s'

theorem cell_has {sc : Scope} {n : Nat} {x : Str} (h : sc.names.lookup x = some .cell) : ∃ c, (cellsFrom n sc.names []).lookup x = some c := by
  have q := PySem.W.cellsFrom_some sc.names n [] (.inl h)
  exact Option.isSome_iff_exists.mp q

theorem inv_start {CX : CXT} {P : Program} {w : World} {K : PySem.W.Frag} {mg : Str → Option Value} {base : Heap} {N ps : List Str} {qual : Str} {scope : Scope} {f : Addr} {cd : Value} {A : Around} {outer : List Env} {s s1 : Shared} {H : Hp} {E : XK} {us : List Value} {vs : List V}
    (S : FnScope N ps scope) (hd : A.handled = none) (e0 : Env0 P w K mg base A outer s H) (hl : vs.length = ps.length) (r : Vals vs us)
    (x : InCallC s s.heap.objs.size (bindL (envOfC qual scope s.heap.objs.size f cd).kindOf (ps.zip us) fun _ => none) (cellsFrom (s.heap.objs.size + 1) scope.names []) (bindC (envOfC qual scope s.heap.objs.size f cd).kindOf (ps.zip us) fun _ => none) s1) :
    Inv (cxOf CX P w K mg base N qual scope f cd A outer s H E) [] (start N vs) H s1 := by
  have hpl : ps.length ≤ N.length := by have := congrArg List.length S.pre; rw [List.length_take] at this; omega
  obtain ⟨h1, tk, rfl, hk⟩ := x.done
  have noA : ∀ b : Addr, b ∉ (cxOf CX P w K mg base N qual scope f cd A outer s H E).ex := fun b z => absurd (show b ∈ ([] : List Addr) from z) (by simp)
  refine ⟨⟨e0.mod, S.kind, rfl, rfl, Nat.le_refl _, fun y z c h1 h2 => ?_, fun y hy => ?_, fun y c _ h => ?_, fun _ => hd, Around.frames_deeper e0.frames, .inr ⟨rfl, rfl⟩, fun b z => absurd z (noA b), e0.bs, e0.bsz, fun b _ _ => noA b, fun b z => absurd z (noA b), e0.funs, e0.frf⟩,
    rfl, e0.bare, Un.kept hk, ⟨_, x.toInCall.ns, fun i y v h1 h2 h3 => ?_⟩, fun y c h => ⟨_, x.cell y c h⟩, e0.hok.fresh (Nat.le_refl _), fun y c h => ?_, fun p hp => absurd (show p ∈ ([] : List (Addr × Obj)) from hp) (by simp), e0.hok.kept hk, ?_⟩
  · exact name_of_addr x.apart (PySem.mem_of_lookup h1) (PySem.mem_of_lookup h2)
  · have hy : scope.names.lookup y = some .cell ∨ scope.names.lookup y = some .free := hy
    rcases hy with hy | hy
    · exact cell_has hy
    · exact absurd rfl (S.nofree _ (PySem.mem_of_lookup hy))
  · exact Nat.le_of_lt (x.above y c (PySem.mem_of_lookup h))
  · have hi : i < vs.length := by
      unfold start at h2
      by_cases hi : i < vs.length
      · exact hi
      · rw [List.getElem?_append_right (by simpa using hi)] at h2
        rw [List.getElem?_replicate] at h2
        split at h2 <;> cases h2
    have ha : vs[i]? = some v := by
      unfold start at h2
      rw [List.getElem?_append_left (by simpa using hi), List.getElem?_map] at h2
      cases e : vs[i]? with
      | none => rw [e] at h2; cases h2
      | some a => rw [e] at h2; cases h2; rfl
    obtain ⟨u, hu, rv⟩ := r.get ha
    have hp : ps[i]? = some y := by
      rw [← S.pre, List.getElem?_take_of_lt (by omega)]; exact h1
    have ndP : ps.Nodup := by rw [← S.pre]; exact S.nd.sublist (List.take_sublist _ _)
    refine ⟨u, rv, ?_⟩
    rcases S.par y (List.mem_of_getElem? hp) with k | k
    · exact .inl ⟨k, bindL_get ndP hp hu k⟩
    · obtain ⟨c, e⟩ := cell_has (n := s.heap.objs.size + 1) k
      refine .inr ⟨.inl k, c, e, ?_⟩
      have q := x.cell y c e
      rw [bindC_get ndP hp hu (by show scope.names.lookup y ≠ _; rw [k]; decide)] at q
      exact q
  · exact e0.hok.fresh (Nat.le_of_lt (x.above y c (PySem.mem_of_lookup h)))
  · unfold start
    show _ = N.length
    rw [List.length_append, List.length_map, List.length_replicate]
    omega

/-- THE RULE: a def (or a method) of the text, by its body. The body's reading t is chosen for each entry; it is run at the parameters' values -/
theorem fn_of {CX : CXT} {P : Program} {w : World} {K : PySem.W.Frag} {mg : Str → Option Value} {base : Heap} {k : Nat} {f : Addr} {name qual : Str} {params : Arguments} {body : List Stmt} {scope : Scope} {dV kV doc pm cdv ct oc : Value} {an od : Option Addr}
    {osl : Array (Option Value)} {N ps : List Str} {sp : Sp} (lk : K.lookup f = some ⟨oc, od, .func (PySem.W.fnOf name qual params body scope dV kV doc pm an cdv ct), osl⟩) (hcd : PySem.W.codeIn K cdv qual = true) (S : FnScope N ps scope)
    (len : ∀ vs H Q E, sp vs H Q E → vs.length = ps.length)
    (hbody : ∀ (A : Around) (outer : List Env) (s : Shared) (H : Hp) (vs : List V) (Q : VK) (E : XK), Room k (A.deeper (envOfC qual scope s.heap.objs.size f cdv)) → sp vs H Q E →
      ∃ t, PSs (cxOf CX P w K mg base N qual scope f cdv A outer s H E) body t ∧ t { nx := fun _ H' => Q .non H', rt := Q } (start N vs) H) :
    FnOk P w K mg base CX (k + 1) f (PySem.W.fnOf name qual params body scope dV kV doc pm an cdv ct) ps sp := by
  refine ⟨len, fun A outer s H args us vs Q E hr e0 hb r hsp => ?_⟩
  have hl := len _ _ _ _ hsp
  have KX : K.In s.heap := e0.mod.kin.keeps fun b o e => (e0.bs b o e).1
  have lim : s.heap.NoLimit := e0.mod.nolimit.keeps fun b o e => (e0.bs b o e).1
  have hkind : ∀ y ∈ ps.zip us, scope.names.lookup y.1 = some .local ∨ (scope.names.lookup y.1 = some .cell ∧ ((cellsFrom (s.heap.objs.size + 1) scope.names []).lookup y.1).isSome = true) := fun ⟨n, v⟩ hy => by
    rcases S.par n (List.of_mem_zip hy).1 with q | q
    · exact .inl q
    · exact .inr ⟨q, PySem.W.cellsFrom_some _ _ _ (.inl q)⟩
  refine codeAny_call_function hr.depth (KX _ _ lk) rfl S.co S.gen rfl (PySem.W.codeRec_of KX hcd) (hb _ _ _ _ ?_)
  refine wpAny_newFunctionEnv_cells S.kind hkind fun env he s1 x => ?_
  subst he
  refine ⟨lim.keeps x.toInCall.keep, codeAny_func ?_⟩
  obtain ⟨t, ht, hq⟩ := hbody A outer s H vs Q E (hr.deeper _) hsp
  have I : Inv (cxOf CX P w K mg base N qual scope f cdv A outer s H E) [] (start N vs) H s1 := inv_start S hr.hd e0 hl r x
  refine wpAny_mono (ht [] s1 (start N vs) H _ I hq) (fun fl s' hs => ?_) fun e s' hs => hs
  have fin : ∀ {σ' : St} {H' : Hp} {v : V} {u : Value}, Inv (cxOf CX P w K mg base N qual scope f cdv A outer s H E) [] σ' H' s' → RelV v u → Q v H' → CE outer P w H s Q u s' :=
    fun {σ' H' v u} J rv q => ⟨v, H', J.os, J.bare, J.base, J.hok, rv, q⟩
  cases fl with
  | ret u =>
    obtain ⟨v, σ', H', J, rv, q⟩ := hs
    exact fin J rv q
  | next =>
    obtain ⟨σ', H', J, q⟩ := hs
    exact fin (v := V.non) (u := Value.none) J rfl q
  | brk =>
    obtain ⟨_, _, _, q⟩ := hs
    exact False.elim q
  | cont =>
    obtain ⟨_, _, _, q⟩ := hs
    exact False.elim q
end L2

namespace L2
open PySem PySem.Spec PyProof.Rows
section
variable {X : Cx} {x : Str} {p pos : Pos} {e : Expr} {es : List Expr} {t : TA} {id T : String} {r : List V → Hp → VK → Prop}

def tCB (r : List V → Hp → VK → Prop) (t : TA) : TE := fun σ H Q => t σ H fun vs H1 => r vs H1 Q
/-- f(e, ..), f a built-in function -/
theorem pe_callB (hc : CallR X (.builtin id) r) (hg : Gl X x) (hm : X.mg x = none) (hv : bootBuiltins x = some (.builtin id)) (ha : PA X (e :: es) t) (hn : x ≠ "__name__" := by decide) (hdb : (x == ("__debug__" : Str)) = false := by decide)
    (he : starEach (e :: es) X.env = (false, eval e X.env) :: starEach es X.env := by rfl) (hpl : (backTo pos (starEach es X.env)).any (·.1) = false := by rfl) : PE X (.Call (.Name x p) (e :: es) [] pos) (tCB r t) := by
  intro pins s σ H Q I h
  refine wpAny_Call_Name_kw (ld_blt I hg hm hv ?_ hn hdb)
  exact PyProof.Rows.callWith_builtin1 (thn (ha pos pins s σ H _ I h) fun us s1 ⟨vs, H1, I1, r1, q1⟩ => hc pins s1 σ H1 vs us Q I1 r1 q1) he hpl
end
end L2

namespace HT
open PySem PyProof.Rows

/-- t < u of tuples of ints -/
def lexLt : List Int → List Int → Bool
  | [], [] => false
  | [], _ :: _ => true
  | _ :: _, [] => false
  | x :: xs, y :: ys => if x = y then lexLt xs ys else decide (x < y)
theorem lexLt_cons (x y : Int) (xs ys : List Int) : lexLt (x :: xs) (y :: ys) = if x = y then lexLt xs ys else decide (x < y) := rfl
theorem lexLt_nil_nil : lexLt [] [] = false := rfl
theorem lexLt_nil_cons (y : Int) (ys : List Int) : lexLt [] (y :: ys) = true := rfl
theorem lexLt_cons_nil (x : Int) (xs : List Int) : lexLt (x :: xs) [] = false := rfl

theorem eqAt_int (A : Around) (s : Shared) (a : Int) (t : Tok) (c : Int) (u : Tok) : ∃ e, SeqAt.EqAt A s (.int a t) (.int c u) e ∧ (e = true ↔ a = c) :=
  ⟨(a == c), SeqAt.EqAt.int_int a t c u, by simp⟩
theorem rcLt_int (A : Around) (s : Shared) (a : Int) (t : Tok) (c : Int) (u : Tok) (prog : Program) (w : World) (E : Value → Shared → Prop) (Q : Value → Shared → Prop) (h : Q (.bool (decide (a < c))) s) :
    wpAny (model prog w) A (richCompare .Lt (.int a t) (.int c u)) Q E s :=
  (PyProof.Rows.lt_int h : wpAny (model prog w) A (compareOp .Lt (.int a t) (.int c u)) Q E s)

section
open PySem.SeqAt
open PySem.AutoSeq1 (wpAny_loadPart')
open PySem.MeetsSeq PySem.MeetsSeq2 PySem.MeetsSeq3

theorem tuple_lt_ints (l b : Addr) (items items2 : Array Value) (n n2 : Nat) (dd dd2 : Option Addr) (sl sl2 : Array (Option Value)) (ns ms : List Int) (hi : IntsAre items.toList ns) (hj : IntsAre items2.toList ms) :
    Meets (Builtin.«tuple.__lt__» ⟨[.ref l, .ref b], []⟩)
      (fun _ R s => s.heap.get? l = some { cls := .type "tuple", dict := dd, data := .seq items n, slots := sl } ∧ s.heap.get? b = some { cls := .type "tuple", dict := dd2, data := .seq items2 n2, slots := sl2 } ∧
        R (.ok (.ret (.bool (lexLt ns ms)))) s) :=
  .of_wp fun prog w A R s h => by
    obtain ⟨hp, g, d, tk, os⟩ := s; obtain ⟨hl, hb, h⟩ := h
    have f2 := AutoSeq1.sub_tuple_tuple
    have z1 : items.size = ns.length := by rw [← hi.length]; simp
    have z2 : items2.size = ms.length := by rw [← hj.length]; simp
    wp_walk using wpAny_loadPart' hl, wpAny_loadPart' hb, wpAny_forIn_list _ (fun rest b s' => b.1 = none ∧ s' = ⟨hp, g, d, tk, os⟩ ∧ ∃ (vs ws : List Value) (ns' ms' : List Int), rest = vs.zip ws ∧
      IntsAre vs ns' ∧ IntsAre ws ms' ∧ ns'.length + items2.size = ms'.length + items.size ∧ R (.ok (.ret (.bool (lexLt ns' ms')))) ⟨hp, g, d, tk, os⟩) _
    case turn =>
      rintro ⟨y, x⟩ rest b s' ⟨hb', rfl, vs, ws, ns', ms', hz, hvi, hwi, hlen, hR⟩
      cases hvi with
      | nil => rw [List.zip_nil_left] at hz; cases hz
      | cons a t hvi' =>
        cases hwi with
        | nil => rw [List.zip_nil_right] at hz; cases hz
        | cons c u hwi' =>
          rw [List.zip_cons_cons] at hz
          injection hz with hyx hrest
          injection hyx with hy hx
          subst hy hx
          rw [lexLt_cons] at hR
          simp only [List.length_cons] at hlen
          obtain ⟨e, he, hiff⟩ := eqAt_int A.in1 ⟨hp, g, d, tk, os⟩ a t c u
          refine wpAny_bind (he prog w _ _ ?_)
          cases e with
          | true =>
            rw [if_pos (hiff.mp rfl)] at hR
            wp_walk
            exact ⟨rfl, rfl, _, _, _, _, hrest, hvi', hwi', by omega, hR⟩
          | false =>
            rw [if_neg (fun q => absurd (hiff.mpr q) Bool.false_ne_true)] at hR
            have hri := rcLt_int A.in1 ⟨hp, g, d, tk, os⟩ a t c u prog w
            wp_walk using hri
            exact ⟨_, rfl, by simpa using hR⟩
    case fin =>
      rintro ⟨b1, b2⟩ s' ⟨hb', rfl, vs, ws, ns', ms', hz, hvi, hwi, hlen, hR⟩
      simp only at hb'
      subst hb'
      have hv : lexLt ns' ms' = decide (items.size < items2.size) := by
        cases hvi with
        | nil =>
          cases hwi with
          | nil =>
            simp only [List.length_nil] at hlen
            rw [lexLt_nil_nil]
            exact (decide_eq_false (by omega)).symm
          | cons c u hw =>
            simp only [List.length_nil, List.length_cons] at hlen
            rw [lexLt_nil_cons]
            exact (decide_eq_true (by omega)).symm
        | cons a t hv =>
          cases hwi with
          | nil =>
            simp only [List.length_nil, List.length_cons] at hlen
            rw [lexLt_cons_nil]
            exact (decide_eq_false (by omega)).symm
          | cons c u hw =>
            rw [List.zip_cons_cons] at hz
            cases hz
      rw [hv] at hR
      wp_walk
      exact ⟨_, rfl, by simpa [Builtin.Tuple.tupleCompareSizes] using hR⟩
    case h =>
      exact ⟨rfl, rfl, items.toList, items2.toList, ns, ms, rfl, hi, hj, by omega, h⟩
end

section
variable {prog : Program} {w : World} {A : Around} {E : Value → Shared → Prop} {s : Shared}

theorem lt_tupInts {l b : Addr} {items items2 : Array Value} {ns ms : List Int} {Q : Value → Shared → Prop} (hl : IsTup s.heap l items) (hb : IsTup s.heap b items2) (hi : IntsAre items.toList ns) (hj : IntsAre items2.toList ms)
    (hu : A.units < cLine) (h : Q (.bool (lexLt ns ms)) s) : wpAny (model prog w) A (compareOp .Lt (.ref l) (.ref b)) Q E s := by
  obtain ⟨⟨cls, dd, data, sl⟩, ho, hc, n, hd⟩ := id hl
  obtain ⟨⟨cls2, dd2, data2, sl2⟩, ho2, hc2, n2, hd2⟩ := id hb
  simp only at hc hd hc2 hd2
  subst hc hd hc2 hd2
  exact richCompare_meets_room (op := .Lt) ⟨_, ho, rfl⟩ ⟨_, ho2, rfl⟩ PySem.F.slot_tuple_lt PySem.F.entry_tuple_lt (PySem.F.args_tuple_lt_2 _ _) (tuple_lt_ints l b items items2 n n2 dd dd2 sl sl2 ns ms hi hj)
    ⟨ho, ho2, show Value.bool (lexLt ns ms) ≠ Value.notImplemented ∧ Q (.bool (lexLt ns ms)) s from ⟨(fun x => nomatch x), h⟩⟩ hu

/-- t + u, t not empty -/
theorem cat_tup {t b : Addr} {vs ws : List Value} {Q : Value → Shared → Prop} (ht : IsTup s.heap t vs.toArray) (hb : IsTup s.heap b ws.toArray) (hv : vs ≠ [])
    (h1 : ws = [] → Q (.ref t) s) (h2 : ws ≠ [] → Q (.ref s.heap.objs.size) { s with heap := s.heap.push { cls := .type "tuple", data := .seq (vs ++ ws).toArray } })
    (hsz : vs.length + ws.length ≤ sizeLine) : wpAny (model prog w) A (binaryOp .Add (.ref t) (.ref b)) Q E s := by
  obtain ⟨⟨cls, dd, data, sl⟩, ho, hc, n, hd⟩ := id ht
  obtain ⟨⟨cls2, dd2, data2, sl2⟩, ho2, hc2, n2, hd2⟩ := id hb
  simp only at hc hd hc2 hd2
  subst hc hd hc2 hd2
  have e : vs.toArray ++ ws.toArray = (vs ++ ws).toArray := by simp
  by_cases hw : ws = []
  · exact concat_meets ⟨_, ho, rfl⟩ ⟨_, ho2, rfl⟩ noFill_tuple_add seq_tuple_add PySem.F.slot_tuple_add PySem.F.entry_tuple_add (PySem.F.args_tuple_add_2 _ _)
      (tuple_addW1 t b vs.toArray ws.toArray n n2 dd dd2 sl sl2 (by simpa using hv) (by simp [hw])) ⟨ho, ho2, h1 hw⟩
  · refine concat_meets ⟨_, ho, rfl⟩ ⟨_, ho2, rfl⟩ noFill_tuple_add seq_tuple_add PySem.F.slot_tuple_add PySem.F.entry_tuple_add (PySem.F.args_tuple_add_2 _ _)
      (tuple_addW2 t b vs.toArray ws.toArray n n2 dd dd2 sl sl2 (by simpa using hv) (by simpa using hw) (by rw [List.size_toArray, List.size_toArray]; exact hsz)) ⟨ho, ho2, ?_⟩
    rw [e]
    exact h2 hw

/-! ### t[a:b], not the whole -/
/-- a slice's bound as a place among n (d where it is left out) -/
def sIx (n d : Nat) : Option Int → Nat
  | none => d
  | some v => if v < 0 then (v + (n : Int)).toNat else min v.toNat n
theorem sIx_le (n d : Nat) (hd : d ≤ n) (o : Option Int) : sIx n d o ≤ n := by
  cases o with
  | none => exact hd
  | some v =>
    show (if v < 0 then (v + (n : Int)).toNat else min v.toNat n) ≤ n
    by_cases hv : v < 0
    · rw [if_pos hv]; omega
    · rw [if_neg hv]; exact Nat.min_le_right _ _
theorem clip_eq (v : Int) (n d : Nat) : (if v < 0 then max (v + (n : Int)) 0 else min v (n : Int)) = ((sIx n d (some v) : Nat) : Int) := by
  show (if v < 0 then max (v + (n : Int)) 0 else min v (n : Int)) = (((if v < 0 then (v + (n : Int)).toNat else min v.toNat n) : Nat) : Int)
  by_cases hv : v < 0
  · simp only [if_pos hv]; omega
  · simp only [if_neg hv]; omega
theorem adjust_gen (lo hi : Option Int) (n : Nat) : Builtin.Slice.sliceAdjust lo hi 1 (n : Int) = (((sIx n 0 lo : Nat) : Int), ((sIx n n hi : Nat) : Int)) := by
  have h1 : ¬ ((1 : Int) < 0) := by omega
  unfold Builtin.Slice.sliceAdjust
  simp only [h1, if_false]
  refine Prod.ext ?_ ?_
  · cases lo with
    | none => rfl
    | some v => exact clip_eq v n 0
  · cases hi with
    | none => rfl
    | some v => exact clip_eq v n n
theorem places_gen (i j : Nat) : Builtin.Slice.slicePlaces (i : Int) (j : Int) 1 = j - i := by
  unfold Builtin.Slice.slicePlaces
  have h1 : (1 : Int) > 0 := by omega
  simp only [h1, if_true, Int.ediv_one]
  split <;> omega
theorem slicePart_ {v : Value} {o : Option Int} {Q : Option Int → Shared → Prop} (p : IsPart v o) (h : Q o s) : wpAny (model prog w) A (Builtin.Slice.slicePartIndex v) Q E s := by
  cases p with
  | none => exact slicePart_none h
  | int i t => exact slicePart_int h
theorem sliceApplied_gen {sl : Addr} {vl vu : Value} {lo hi : Option Int} {n : Nat} {Q : Int × Int × Nat → Shared → Prop} (hs : s.heap.IsSliceOf sl vl vu .none) (pl : IsPart vl lo) (pu : IsPart vu hi)
    (h : Q (((sIx n 0 lo : Nat) : Int), 1, sIx n n hi - sIx n 0 lo) s) : wpAny (model prog w) A (Builtin.Slice.sliceApplied (.ref sl) (pure (n : Int))) Q E s := by
  obtain ⟨os, hos, hcs, hds⟩ := id hs
  unfold Builtin.Slice.sliceApplied Builtin.Slice.sliceFields
  refine wpAny_bind (wpAny_bind (wpAny_field hos hds (x := vl) rfl (wpAny_bind (wpAny_field hos hds (x := vu) rfl (wpAny_bind (wpAny_field hos hds (x := .none) rfl (wpAny_pure ?_)))))))
  refine wpAny_bind (slicePart_none ?_)
  show wpAny _ _ (if ((1 : Int) == 0) = true then _ else _) _ _ s
  rw [if_neg (by decide)]
  refine wpAny_bind (slicePart_ pl (wpAny_bind (slicePart_ pu (wpAny_bind (wpAny_pure ?_)))))
  show wpAny _ _ (match Builtin.Slice.sliceAdjust lo hi 1 (n : Int) with | (lo, hi) => pure (lo, (1 : Int), Builtin.Slice.slicePlaces lo hi 1)) _ _ s
  rw [adjust_gen lo hi n]
  show wpAny _ _ (pure (((sIx n 0 lo : Nat) : Int), (1 : Int), Builtin.Slice.slicePlaces ((sIx n 0 lo : Nat) : Int) ((sIx n n hi : Nat) : Int) 1)) _ _ s
  rw [places_gen]
  exact wpAny_pure h
theorem pick_gen (xs : Array Value) (i k : Nat) : ((List.range k).filterMap fun (m : Nat) => xs[((i : Int) + (m : Int) * 1).toNat]?).toArray = ((xs.toList.drop i).take k).toArray := by
  have e : (fun (m : Nat) => xs[((i : Int) + (m : Int) * 1).toNat]?) = fun m => xs[i + m]? := by
    funext m
    have : ((i : Int) + (m : Int) * 1).toNat = i + m := by omega
    rw [this]
  rw [e]
  have := pick_run xs i k
  rw [List.filterMap_map] at this
  have e2 : ((fun x => xs[x]?) ∘ fun x => i + x) = fun m => xs[i + m]? := rfl
  rw [e2] at this
  rw [this]

theorem getItem_tuple_cut {t sl : Addr} {items : Array Value} {vl vu : Value} {lo hi : Option Int} {Q : Value → Shared → Prop} (ht : IsTup s.heap t items) (hs : s.heap.IsSliceOf sl vl vu .none) (pl : IsPart vl lo) (pu : IsPart vu hi)
    (hw : ¬ (sIx items.size 0 lo = 0 ∧ sIx items.size items.size hi = items.size))
    (h : Q (.ref s.heap.objs.size) { s with heap := s.heap.push { cls := .type "tuple", data := .seq ((items.toList.drop (sIx items.size 0 lo)).take (sIx items.size items.size hi - sIx items.size 0 lo)).toArray } })
    (hsz : items.size ≤ sizeLine) : wpAny (model prog w) A (getItem (.ref t) (.ref sl)) Q E s := by
  have htake : sizeOk (.seq ((items.toList.drop (sIx items.size 0 lo)).take (sIx items.size items.size hi - sIx items.size 0 lo)).toArray) := by
    show ((items.toList.drop (sIx items.size 0 lo)).take (sIx items.size items.size hi - sIx items.size 0 lo)).toArray.size ≤ sizeLine
    rw [List.size_toArray, List.length_take, List.length_drop, Array.length_toList]
    omega
  have hj : sIx items.size items.size hi ≤ items.size := sIx_le _ _ (Nat.le_refl _) hi
  obtain ⟨os, hos, hcs, hds⟩ := id hs
  have hTs : s.TypeIs (.ref sl) "slice" := ⟨os, hos, hcs⟩
  unfold getItem
  try with_reducible refine wpAny_holding ?_
  first | refine wpAny_bind (wpAny_pure ?_) | skip
  refine wpAny_bind (wpAny_sequenceKey ht.typeIs (by decide) ?_)
  refine wpAny_bind (wpAny_callSpecial?_slot (name := Str.ofString "__getitem__") ht.typeIs PyProof.Rows.slot_tuple_getitem
    (wpAny_call_entry PyProof.Rows.slot_tuple_getitem ht.typeIs entry_tuple_getitem ?_ (args_tuple_getitem _ _)))
  show wpAny _ _ (Builtin.Tuple.tupleItemsOf (.ref t) >>= _) _ _ s
  refine wpAny_bind (tupleItemsOf_ ht ?_)
  refine wpAny_bind (wpAny_typeOf hTs ?_)
  rw [if_pos (by decide)]
  refine wpAny_bind (sliceApplied_gen hs pl pu ?_)
  have hno : ¬ ((((sIx items.size 0 lo : Nat) : Int) == 0 && (1 : Int) == 1 && (sIx items.size items.size hi - sIx items.size 0 lo) == items.size) = true) := by
    intro q
    rw [Bool.and_eq_true, Bool.and_eq_true] at q
    have q1 : ((sIx items.size 0 lo : Nat) : Int) = 0 := eq_of_beq q.1.1
    have q2 : sIx items.size items.size hi - sIx items.size 0 lo = items.size := eq_of_beq q.2
    exact hw ⟨by omega, by omega⟩
  show wpAny _ _ (if (((sIx items.size 0 lo : Nat) : Int) == 0 && (1 : Int) == 1 && (sIx items.size items.size hi - sIx items.size 0 lo) == items.size) = true then _ else _) _ _ s
  rw [if_neg hno, pick_gen]
  first
    | exact wpAny_bind (m := Builtin.Tuple.tupleExact _) (wpAny_newObj_type (wpAny_pure ⟨_, rfl, wpAny_pure h⟩) htake)
    | exact wpAny_bind (m := Builtin.Tuple.tupleExact _) (wpAny_newObj_type (wpAny_bind (wpAny_pure (wpAny_pure ⟨_, rfl, wpAny_pure h⟩))) htake)
    | exact wpAny_bind (wpAny_bind (m := Builtin.Tuple.tupleExact _) (wpAny_newObj_type (wpAny_pure (wpAny_pure ⟨_, rfl, wpAny_pure h⟩)) htake))
    | exact wpAny_bind (wpAny_bind (m := Builtin.Tuple.tupleExact _) (wpAny_newObj_type (wpAny_pure ⟨_, rfl, wpAny_pure h⟩) htake))
end
end HT

namespace L2
open PySem PySem.Spec PyProof.Rows

/-! ### the parts of a slice -/
abbrev TO := St → Hp → (Option Int → Hp → Prop) → Prop
/-- a slice's part (left out, or an int) -/
def PO (X : Cx) (e : Option Expr) (t : TO) : Prop :=
  ∀ (pins : List (Addr × Obj)) (s : Shared) (σ : St) (H : Hp) (Q : Option Int → Hp → Prop), Inv X pins σ H s → t σ H Q →
    wpAny (model X.prog X.w) X.A (evalPart e X.env) (fun u s' => ∃ o H', Inv X pins σ H' s' ∧ IsPart u o ∧ Q o H') X.xe s
def tNoPart : TO := fun _ H Q => Q none H
def tPart (t : TE) : TO := fun σ H Q => t σ H fun x H1 => ∃ i, x = .int i ∧ Q (some i) H1

theorem intsAre_of {ns : List Int} : ∀ {us : List Value}, Vals (ns.map V.int) us → IntsAre us ns := by
  induction ns with
  | nil => intro us r; rw [List.map_nil] at r; cases r; exact .nil
  | cons n ns ih =>
    intro us r
    rw [List.map_cons] at r
    cases r with
    | cons r1 r2 =>
      obtain ⟨t, e⟩ := r1
      subst e
      exact .cons n t (ih r2)

section
variable {X : Cx} {e : Expr} {te : TE} {lo hi : Option Expr} {tl th : TO} {pos p2 : Pos}

theorem po_none : PO X none tNoPart := by
  intro pins s σ H Q I h
  rw [evalPart_none]
  exact wpAny_pure ⟨none, H, I, .none, h⟩
theorem po_some (h : PE X e te) : PO X (some e) (tPart te) := by
  intro pins s σ H Q I hw
  rw [evalPart_some]
  refine thn (h pins s σ H _ I hw) fun u s1 ⟨x, H1, I1, r1, q1⟩ => ?_
  obtain ⟨i, rfl, q⟩ := q1
  obtain ⟨t, rfl⟩ := r1
  exact ⟨some i, H1, I1, .int i t, q⟩

/-- what a slice of a value is, by values: the slice object stands at sl -/
def SlR (X : Cx) (r : V → Option Int → Option Int → Hp → VK → Prop) : Prop :=
  ∀ (pins : List (Addr × Obj)) (s : Shared) (σ : St) (H : Hp) (x : V) (v vl vu : Value) (lo hi : Option Int) (sl : Addr) (Q : VK), Inv X pins σ H s → RelV x v → s.heap.IsSliceOf sl vl vu .none → IsPart vl lo → IsPart vu hi → r x lo hi H Q →
    ∃ T id, typeLookup (.type T) "__getitem__" = pure (some (.builtin id)) ∧ s.TypeIs v T ∧ wpAny (model X.prog X.w) X.A (getItem v (.ref sl)) (EP X pins σ Q) X.xe s
def tSl (r : V → Option Int → Option Int → Hp → VK → Prop) (te : TE) (tl th : TO) : TE := fun σ H Q => te σ H fun x H1 => tl σ H1 fun l H2 => th σ H2 fun u H3 => r x l u H3 Q
/-- a[lo:hi], any a -/
theorem pe_slice {r : V → Option Int → Option Int → Hp → VK → Prop} (hr : SlR X r) (he : PE X e te) (hl : PO X lo tl) (hu : PO X hi th) : PE X (.Subscript e (.Slice lo hi none p2) pos) (tSl r te tl th) := by
  intro pins s σ H Q I h
  refine Subscript_ (thn (he pins s σ H _ I h) fun v s1 ⟨x, H1, I1, r1, q1⟩ => ?_)
  refine wpAny_Slice (thn (hl pins s1 σ H1 _ I1 q1) fun vl s2 ⟨l, H2, I2, pl, q2⟩ => thn (hu pins s2 σ H2 _ I2 q2) fun vu s3 ⟨u, H3, I3, pu, q3⟩ => ?_)
  rw [evalPart_none]
  refine wpAny_pure ?_
  have I4 : Inv X pins σ H3 { s3 with heap := s3.heap.push { cls := .type "slice", data := .fields #[vl, vu, .none] } } := I3.kept (t' := s3.toks) fun b ob q => Heap.get?_push_of_some _ q
  obtain ⟨T, id, hT, ht, hg⟩ := hr pins { s3 with heap := s3.heap.push { cls := .type "slice", data := .fields #[vl, vu, .none] } } σ H3 x v vl vu l u s3.heap.objs.size Q I4 r1 (Heap.IsSliceOf.new ..) pl pu q3
  show wpAny (model X.prog X.w) X.A (subscriptTail e (.Slice lo hi none p2) v (.ref s3.heap.objs.size)) (EP X pins σ Q) X.xe { s3 with heap := s3.heap.push { cls := .type "slice", data := .fields #[vl, vu, .none] } }
  exact tail_any (ops := [.ref s3.heap.objs.size, v]) ht hT hg (by with_unfolding_all rfl)

/-- the items of xs[lo:hi] -/
def cutV (xs : List V) (lo hi : Option Int) : List V := (xs.drop (HT.sIx xs.length 0 lo)).take (HT.sIx xs.length xs.length hi - HT.sIx xs.length 0 lo)
theorem cutV_length (xs : List V) (lo hi : Option Int) : (cutV xs lo hi).length ≤ xs.length := by
  unfold cutV
  rw [List.length_take, List.length_drop]
  omega
/-- t[lo:hi], not the whole of it (the whole would be t itself) -/
def rSlT (K : PySem.W.Frag) : V → Option Int → Option Int → Hp → VK → Prop := fun x lo hi H Q => ∃ a xs, x = .ref a ∧ SqT K H a xs ∧
  ¬ (HT.sIx xs.length 0 lo = 0 ∧ HT.sIx xs.length xs.length hi = xs.length) ∧ ∀ p, H p = none → Q (.ref p) (upd H p (.tup (cutV xs lo hi)))
theorem sl_tup : SlR X (rSlT X.K) := by
  intro pins s σ H x v vl vu lo hi sl Q I rx hs pl pu h
  obtain ⟨a, xs, rfl, hx, hw, q⟩ := h
  cases rx
  obtain ⟨its, r, ht, hz⟩ := I.tuple hx
  have hlen : its.toArray.size = xs.length := by rw [List.size_toArray]; exact r.length.symm
  refine ⟨"tuple", _, PyProof.Rows.slot_tuple_getitem.lookup, ht.typeIs, ?_⟩
  refine HT.getItem_tuple_cut ht hs pl pu (by rw [hlen]; exact hw) ?_ (by rw [hlen]; exact hz)
  rw [hlen]
  refine ⟨.ref s.heap.objs.size, _, I.laid (t' := s.toks) (o := .tup (cutV xs lo hi)) (fun b ob q => Heap.get?_push_of_some _ q) (Nat.le_refl _) ?_, rfl, q _ (I.hok.fresh (Nat.le_refl _))⟩
  exact ⟨Nat.le_trans (cutV_length xs lo hi) hz, _, (r.drop (HT.sIx xs.length 0 lo)).take (HT.sIx xs.length xs.length hi - HT.sIx xs.length 0 lo), IsTup.new _ _⟩

/-! ### t < u, t + u -/
def rLtT (K : PySem.W.Frag) : R2 := fun x y H Q => ∃ a b ns ms, x = .ref a ∧ y = .ref b ∧ SqT K H a (ns.map V.int) ∧ SqT K H b (ms.map V.int) ∧ Q (.bl (HT.lexLt ns ms)) H
theorem op_ltT (hu : X.A.units < cLine) : OpR X (compareOp .Lt) (rLtT X.K) := by
  intro pins s σ H x y v u Q I rx ry h
  obtain ⟨a, b, ns, ms, rfl, rfl, ha, hb, q⟩ := h
  cases rx
  cases ry
  obtain ⟨its, r1, p1, _⟩ := I.tuple ha
  obtain ⟨its2, r2, p2, _⟩ := I.tuple hb
  have i1 : IntsAre its.toArray.toList ns := intsAre_of r1
  have i2 : IntsAre its2.toArray.toList ms := intsAre_of r2
  exact HT.lt_tupInts p1 p2 i1 i2 hu ⟨.bl (HT.lexLt ns ms), H, I, rfl, q⟩
/-- t + u, t not empty: u empty gives t itself -/
def rCatT (K : PySem.W.Frag) : R2 := fun x y H Q => ∃ a b xs ys, x = .ref a ∧ y = .ref b ∧ SqT K H a xs ∧ SqT K H b ys ∧ xs ≠ [] ∧ xs.length + ys.length ≤ sizeLine ∧
  (ys = [] → Q (.ref a) H) ∧ (ys ≠ [] → ∀ p, H p = none → Q (.ref p) (upd H p (.tup (xs ++ ys))))
theorem Vals.nil_iff {xs : List V} {us : List Value} (r : Vals xs us) : us = [] ↔ xs = [] := by
  cases r with
  | nil => simp
  | cons _ _ => simp
theorem op_catT : OpR X (binaryOp .Add) (rCatT X.K) := by
  intro pins s σ H x y v u Q I rx ry h
  obtain ⟨a, b, xs, ys, rfl, rfl, ha, hb, hx, hz, q1, q2⟩ := h
  cases rx
  cases ry
  obtain ⟨its, r1, p1, _⟩ := I.tuple ha
  obtain ⟨its2, r2, p2, _⟩ := I.tuple hb
  refine HT.cat_tup p1 p2 (fun z => hx (r1.nil_iff.mp z)) (fun z => ⟨.ref a, H, I, rfl, q1 (r2.nil_iff.mp z)⟩) (fun z => ?_) (by rw [← r1.length, ← r2.length]; exact hz)
  refine ⟨.ref s.heap.objs.size, _, I.laid (t' := s.toks) (o := .tup (xs ++ ys)) (fun b ob q => Heap.get?_push_of_some _ q) (Nat.le_refl _) ?_, rfl, q2 (fun w => z (r2.nil_iff.mpr w)) _ (I.hok.fresh (Nat.le_refl _))⟩
  exact ⟨by rw [List.length_append]; exact hz, _, r1.append r2, IsTup.new _ _⟩
end
end L2

namespace L2
open PySem PySem.Spec PyProof.Rows

/-! ### places -/
/-- the place that an index of any sign means -/
def ixN (n : Nat) (i : Int) : Option Nat := if 0 ≤ i then (if i < n then some i.toNat else none) else if -(n : Int) ≤ i then some (i + n).toNat else none
def atI {α : Type} (xs : List α) (i : Int) : Option α := (ixN xs.length i).bind fun j => xs[j]?
theorem ixN_seq {n : Nat} {i : Int} {j : Nat} (h : ixN n i = some j) : seqIndex? i n = some j ∧ j < n ∧ -(n : Int) ≤ i ∧ i < n := by
  unfold ixN at h
  by_cases h0 : 0 ≤ i
  · rw [if_pos h0] at h
    by_cases h1 : i < n
    · rw [if_pos h1] at h
      have e : i.toNat = j := Option.some.inj h
      exact ⟨by rw [seqIndex_of h0 h1, e], by omega, by omega, h1⟩
    · rw [if_neg h1] at h; cases h
  · rw [if_neg h0] at h
    by_cases h1 : -(n : Int) ≤ i
    · rw [if_pos h1] at h
      have e : (i + n).toNat = j := Option.some.inj h
      exact ⟨by rw [seqIndex_neg (by omega) h1, e], by omega, h1, by omega⟩
    · rw [if_neg h1] at h; cases h
theorem atI_get {α : Type} {xs : List α} {i : Int} {v : α} (h : atI xs i = some v) : ∃ j, seqIndex? i xs.length = some j ∧ xs[j]? = some v ∧ j < xs.length ∧ -(xs.length : Int) ≤ i ∧ i < xs.length := by
  unfold atI at h
  cases e : ixN xs.length i with
  | none => rw [e] at h; cases h
  | some j =>
    rw [e] at h
    obtain ⟨h1, h2, h3, h4⟩ := ixN_seq e
    exact ⟨j, h1, h, h2, h3, h4⟩
theorem atI_nat {α : Type} {xs : List α} {j : Nat} {v : α} (h : xs[j]? = some v) : atI xs (j : Int) = some v := by
  have hj : j < xs.length := (List.getElem?_eq_some_iff.mp h).1
  have e : ixN xs.length (j : Int) = some j := by
    unfold ixN
    rw [if_pos (by omega), if_pos (by omega)]; simp
  unfold atI; rw [e]; exact h

/-! ### what may be subscripted -/
/-- what stands as an index of a plain subscript -/
def PlainIx (b : Expr) : Prop := ∀ o i, subscripted b false o i = operate [o, i] (getItem o i)
/-- a subscript by values -/
def IxR (X : Cx) (r : R2) : Prop :=
  ∀ (value slice : Expr) (pins : List (Addr × Obj)) (s : Shared) (σ : St) (H : Hp) (x y : V) (v u : Value) (Q : VK), Inv X pins σ H s → RelV x v → RelV y u → r x y H Q →
    subscripted slice false v u = operate [v, u] (getItem v u) → wpAny (model X.prog X.w) X.A (subscriptTail value slice v u) (EP X pins σ Q) X.xe s
/-- a call of a builtin's method by values: the receiver, the arguments -/
def MtR (X : Cx) (id : String) (r : V → List V → Hp → VK → Prop) : Prop :=
  ∀ (pins : List (Addr × Obj)) (s : Shared) (σ : St) (H : Hp) (x : V) (xs : List V) (v : Value) (us : List Value) (Q : VK), Inv X pins σ H s → RelV x v → Vals xs us → r x xs H Q →
    wpAny (model X.prog X.w) X.A (call (.builtin id) (v :: us)) (EP X pins σ Q) X.xe s
section
variable {X : Cx} {a b : Expr} {ta tb : TE} {pos : Pos}
/-- a[b] -/
theorem pe_ix {r : R2} (hr : IxR X r) (ha : PE X a ta) (hb : PE X b tb) (hs : PlainIx b) : PE X (.Subscript a b pos) (tOp r ta tb) := by
  intro pins s σ H Q I h
  exact Subscript_ (binT ha hb I h fun v u s2 x y H2 I2 rx ry q => hr a b pins s2 σ H2 x y v u Q I2 rx ry q (hs _ _))

def rIxL (K : PySem.W.Frag) : R2 := fun x y H Q => ∃ p xs i v, x = .ref p ∧ y = .int i ∧ SqL K H p xs ∧ atI xs i = some v ∧ Q v H
def rIxT (K : PySem.W.Frag) : R2 := fun x y H Q => ∃ p xs i v, x = .ref p ∧ y = .int i ∧ SqT K H p xs ∧ atI xs i = some v ∧ Q v H
theorem ix_list : IxR X (rIxL X.K) := by
  intro value slice pins s σ H x y v u Q I rx ry h hs
  obtain ⟨p, xs, i, z, rfl, rfl, hq, he, q⟩ := h
  cases rx
  obtain ⟨t, rfl⟩ := ry
  obtain ⟨its, r, pl, hz⟩ := I.list hq
  obtain ⟨j, h1, h2, h3, h4, h5⟩ := atI_get he
  obtain ⟨w, ew, rw'⟩ := r.get h2
  have hl := r.length
  have hn := line63
  have fin : EP X pins σ Q w s := ⟨z, H, I, rw', q⟩
  by_cases h0 : 0 ≤ i
  · have hj : i.toNat = j := by
      rw [seqIndex_of h0 h5] at h1
      exact Option.some.inj h1
    exact item_listR pl.isList h0 (by omega) (by rw [hj]; simpa using ew) fin hs
  · have hj : (i + (its.toArray.size : Int)).toNat = j := by
      rw [seqIndex_neg (by omega) h4] at h1
      rw [List.size_toArray, ← hl]
      exact Option.some.inj h1
    exact subscriptTail_builtinR (x := w) pl.isList.typeIs slot_list_getitem.lookup
      (wpAny_getItem_list_neg (Q := fun r s' => r = w ∧ EP X pins σ Q r s') pl.isList (by omega) (by rw [List.size_toArray] <;> omega) (by omega) (by rw [hj]; simpa using ew) ⟨rfl, fin⟩) hs
theorem ix_tup : IxR X (rIxT X.K) := by
  intro value slice pins s σ H x y v u Q I rx ry h hs
  obtain ⟨p, xs, i, z, rfl, rfl, hq, he, q⟩ := h
  cases rx
  obtain ⟨t, rfl⟩ := ry
  obtain ⟨its, r, pl, hz⟩ := I.tuple hq
  obtain ⟨j, h1, h2, h3, h4, h5⟩ := atI_get he
  obtain ⟨w, ew, rw'⟩ := r.get h2
  have hl := r.length
  have hn := line63
  have fin : EP X pins σ Q w s := ⟨z, H, I, rw', q⟩
  exact subscriptTail_builtinR (x := w) pl.typeIs slot_tuple_getitem.lookup
    (getItem_tuple (j := j) (Q := fun r s' => r = w ∧ EP X pins σ Q r s') pl (by omega) (by omega) (by rw [List.size_toArray, ← hl]; exact h1) (by simpa using ew) ⟨rfl, fin⟩) hs

/-! ### xs[i] = v, any sign -/

/-! ### slices -/
theorem slice_bounds (lo hi : Option Int) (n : Nat) : (sliceBounds lo hi none n).1 = ((HT.sIx n 0 lo : Nat) : Int) ∧ (sliceBounds lo hi none n).2.1 = ((HT.sIx n n hi : Nat) : Int) ∧ (sliceBounds lo hi none n).2.2 = 1 := by
  refine ⟨?_, ?_, rfl⟩
  · cases lo with
    | none => simp [sliceBounds, HT.sIx]
    | some i =>
      simp only [sliceBounds, HT.sIx, Option.getD_none, show (1 : Int) > 0 by decide, if_true]
      by_cases h : i < 0
      · simp only [h, if_true] <;> omega
      · simp only [h, if_false] <;> omega
  · cases hi with
    | none => simp [sliceBounds, HT.sIx]
    | some i =>
      simp only [sliceBounds, HT.sIx, Option.getD_none, show (1 : Int) > 0 by decide, if_true]
      by_cases h : i < 0
      · simp only [h, if_true] <;> omega
      · simp only [h, if_false] <;> omega
theorem slicePick_cut (its : List Value) (lo hi : Option Int) : slicePick its.toArray lo hi none = ((its.drop (HT.sIx its.length 0 lo)).take (HT.sIx its.length its.length hi - HT.sIx its.length 0 lo)).toArray := by
  obtain ⟨h1, h2, h3⟩ := slice_bounds lo hi its.toArray.size
  unfold slicePick
  rw [h1, h2, h3]
  simp only [sliceRange_one, pick_run, List.size_toArray] <;> rfl
/-- xs[lo:hi] of a list: a new list -/
def rSlL (K : PySem.W.Frag) : V → Option Int → Option Int → Hp → VK → Prop := fun x lo hi H Q => ∃ a xs, x = .ref a ∧ SqL K H a xs ∧ ∀ p, H p = none → Q (.ref p) (upd H p (.lst (cutV xs lo hi)))
theorem sl_list : SlR X (rSlL X.K) := by
  intro pins s σ H x v vl vu lo hi sl Q I rx hs pl pu h
  obtain ⟨a, xs, rfl, hx, q⟩ := h
  cases rx
  obtain ⟨its, r, ht, hz⟩ := I.list hx
  have hlen := r.length
  refine ⟨"list", _, slot_list_getitem.lookup, ht.isList.typeIs, ?_⟩
  refine wpAny_getItem_list_slice ht.isList hs pl pu .none (by simp) ?_ (by rw [List.size_toArray] <;> omega)
  rw [slicePick_cut, ← hlen]
  refine ⟨.ref s.heap.objs.size, _, I.laid (t' := s.toks) (o := .lst (cutV xs lo hi)) (fun b ob q => Heap.get?_push_of_some _ q) (Nat.le_refl _) ?_, rfl, q _ (I.hok.fresh (Nat.le_refl _))⟩
  exact ⟨Nat.le_trans (cutV_length xs lo hi) hz, _, 0, (r.drop (HT.sIx xs.length 0 lo)).take (HT.sIx xs.length xs.length hi - HT.sIx xs.length 0 lo), Heap.get?_push_size _ rfl⟩

/-! ### in, not in: flat items -/
def flatV : V → Bool
  | .non => true
  | .bl _ => true
  | .int _ => true
  | .str _ => true
  | _ => false
/-- == of flat values -/
def eqV : V → V → Bool
  | .non, .non => true
  | .bl a, .bl b => a == b
  | .bl a, .int b => (if a then 1 else 0) == b
  | .int a, .bl b => a == (if b then 1 else 0)
  | .int a, .int b => a == b
  | .str a, .str b => a == b
  | _, _ => false
theorem eqAt_V {A : Around} {s : Shared} {y x : V} {u v : Value} (ry : RelV y u) (rx : RelV x v) (fy : flatV y = true) (fx : flatV x = true) : SeqAt.EqAt A s u v (eqV y x) := by
  cases y with
  | non =>
    cases ry
    cases x with
    | non => cases rx; exact SeqAt.EqAt.same _
    | bl b => cases rx; exact SeqAt.EqAt.none_bool b
    | int b => obtain ⟨t, rfl⟩ := rx; exact SeqAt.EqAt.none_int b t
    | str b => obtain ⟨t, rfl⟩ := rx; exact SeqAt.EqAt.none_str b t
    | _ => exact absurd (show false = true from fx) Bool.false_ne_true
  | bl a =>
    cases ry
    cases x with
    | non => cases rx; exact SeqAt.EqAt.bool_none a
    | bl b => cases rx; exact SeqAt.EqAt.bool_bool a b
    | int b => obtain ⟨t, rfl⟩ := rx; exact SeqAt.EqAt.bool_int a b t
    | str b => obtain ⟨t, rfl⟩ := rx; exact SeqAt.EqAt.bool_str a b t
    | _ => exact absurd (show false = true from fx) Bool.false_ne_true
  | int a =>
    obtain ⟨t', rfl⟩ := ry
    cases x with
    | non => cases rx; exact SeqAt.EqAt.int_none a t'
    | bl b => cases rx; exact SeqAt.EqAt.int_bool a t' b
    | int b => obtain ⟨t, rfl⟩ := rx; exact SeqAt.EqAt.int_int a t' b t
    | str b => obtain ⟨t, rfl⟩ := rx; exact SeqAt.EqAt.int_str a t' b t
    | _ => exact absurd (show false = true from fx) Bool.false_ne_true
  | str a =>
    obtain ⟨t', rfl⟩ := ry
    cases x with
    | non => cases rx; exact SeqAt.EqAt.str_none a t'
    | bl b => cases rx; exact SeqAt.EqAt.str_bool a t' b
    | int b => obtain ⟨t, rfl⟩ := rx; exact SeqAt.EqAt.str_int a t' b t
    | str b => obtain ⟨t, rfl⟩ := rx; exact SeqAt.EqAt.str_str a t' b t
    | _ => exact absurd (show false = true from fx) Bool.false_ne_true
  | _ => exact absurd (show false = true from fy) Bool.false_ne_true
/-- the items' answers, read off the values (a value's own answer does not lean on its token) -/
def eqU (x : V) (u : Value) : Bool := match u with
  | .none => eqV .non x
  | .bool b => eqV (.bl b) x
  | .int i _ => eqV (.int i) x
  | .str z _ => eqV (.str z) x
  | _ => false
theorem eqU_of {x y : V} {u : Value} (r : RelV y u) (f : flatV y = true) : eqU x u = eqV y x := by
  cases y with
  | non => cases r; rfl
  | bl b => cases r; rfl
  | int i => obtain ⟨t, rfl⟩ := r; rfl
  | str z => obtain ⟨t, rfl⟩ := r; rfl
  | _ => exact absurd (show false = true from f) Bool.false_ne_true
theorem any_eqU {x : V} : ∀ {xs : List V} {us : List Value}, Vals xs us → xs.all flatV = true → us.any (eqU x) = xs.any fun y => eqV y x
  | _, _, .nil, _ => rfl
  | y :: xs, u :: us, .cons r t, f => by
    rw [List.all_cons, Bool.and_eq_true] at f
    rw [List.any_cons, List.any_cons, eqU_of r f.1, any_eqU t f.2]
theorem mem_eqAt {A : Around} {s : Shared} {x : V} {v : Value} (rx : RelV x v) (fx : flatV x = true) : ∀ {xs : List V} {us : List Value}, Vals xs us → xs.all flatV = true → ∀ u ∈ us, SeqAt.EqAt A s u v (eqU x u)
  | _, _, .nil, _ => fun u hu => by cases hu
  | y :: xs, u :: us, .cons r t, f => fun u' hu => by
    rw [List.all_cons, Bool.and_eq_true] at f
    rcases List.mem_cons.mp hu with rfl | hu
    · rw [eqU_of r f.1]; exact eqAt_V r rx f.1 fx
    · exact mem_eqAt rx fx t f.2 u' hu
def inV (x : V) (xs : List V) : Bool := xs.any fun y => eqV y x
/-- x in a list or tuple of flat items -/
def rIn (K : PySem.W.Frag) (neg : Bool) : R2 := fun x y H Q => ∃ p xs, y = .ref p ∧ (SqL K H p xs ∨ SqT K H p xs) ∧ flatV x = true ∧ xs.all flatV = true ∧ Q (.bl (if neg then !inV x xs else inV x xs)) H
theorem op_in_seq : OpR X (compareOp .In) (rIn X.K false) := by
  intro pins s σ H x y v u Q I rx ry h
  obtain ⟨p, xs, rfl, hq, fx, fs, q⟩ := h
  cases ry
  rcases hq with hq | hq
  · obtain ⟨its, r, pl, hz⟩ := I.list hq
    refine SeqAt.in_listAt (eqU x) pl.isList (fun w hw => mem_eqAt rx fx r fs w (by simpa using hw)) ⟨.bl _, H, I, rfl, ?_⟩
    rw [show its.toArray.any (eqU x) = its.any (eqU x) by simp, any_eqU r fs]
    exact q
  · obtain ⟨its, r, pl, hz⟩ := I.tuple hq
    refine SeqAt.in_tupleAt (eqU x) pl (fun w hw => mem_eqAt rx fx r fs w (by simpa using hw)) ⟨.bl _, H, I, rfl, ?_⟩
    rw [show its.toArray.any (eqU x) = its.any (eqU x) by simp, any_eqU r fs]
    exact q

/-! ### len, list(x), tuple(x) of any list or tuple that is read -/
theorem call_len_seq : CallR X (.builtin "len") (fun xs H Q => ∃ p ys, xs = [.ref p] ∧ (SqL X.K H p ys ∨ SqT X.K H p ys) ∧ Q (.int ys.length) H) := by
  intro pins s σ H xs us Q I r h
  obtain ⟨p, ys, rfl, hq, q⟩ := h
  obtain ⟨u, rfl, rx⟩ := vals1 r
  cases rx
  have hn := line63
  rcases hq with hq | hq
  · obtain ⟨its, r', pl, hz⟩ := I.list hq
    have hlen := r'.length
    exact Calls.call_len_list pl.isList (by simp only [List.size_toArray] <;> omega) ⟨.int ys.length, H, I.tok _, ⟨s.toks + 1, by rw [List.size_toArray, hlen]⟩, q⟩
  · obtain ⟨its, r', pl, hz⟩ := I.tuple hq
    have hlen := r'.length
    exact len_tuple pl (by simp only [List.size_toArray] <;> omega) ⟨.int ys.length, H, I.tok _, ⟨s.toks + 1, by rw [List.size_toArray, hlen]⟩, q⟩

/-! ### the call of a builtin's method: o.m(..) -/
/-- the value is of that builtin type -/
def tyV (K : PySem.W.Frag) (T : String) (x : V) (H : Hp) : Prop := match x with
  | .str _ => T = "str"
  | .int _ => T = "int"
  | .ref p => (T = "list" ∧ ∃ xs, SqL K H p xs) ∨ (T = "tuple" ∧ ∃ o, K.lookup p = some o ∧ o.cls = .type "tuple" ∧ o.dict = none) ∨
      (T = "dict" ∧ ((∃ kvs, H p = some (.dK kvs)) ∨ ∃ kvs, H p = some (.dT kvs))) ∨ (T = "set" ∧ ∃ S n, H p = some (.set S n))
  | _ => False
theorem tyV_is {pins : List (Addr × Obj)} {σ : St} {H : Hp} {s : Shared} {T : String} {x : V} {v : Value} (I : Inv X pins σ H s) (r : RelV x v) (ty : tyV X.K T x H) :
    s.TypeIs v T ∧ ∀ a, v = .ref a → ∃ ob, s.heap.get? a = some ob ∧ ob.dict = none := by
  cases x with
  | str z =>
    obtain ⟨t, rfl⟩ := r
    cases (show T = "str" from ty)
    exact ⟨typeIs_str s z t, fun _ e => nomatch e⟩
  | int i =>
    obtain ⟨t, rfl⟩ := r
    cases (show T = "int" from ty)
    exact ⟨typeIs_int s i t, fun _ e => nomatch e⟩
  | ref p =>
    cases r
    rcases ty with ⟨rfl, xs, hq⟩ | ⟨rfl, o, hk, hc, hd⟩ | ⟨rfl, hk⟩ | ⟨rfl, S, n, hk⟩
    · obtain ⟨its, _, pl, _⟩ := I.list hq
      refine ⟨pl.isList.typeIs, fun a e => ?_⟩
      cases e
      obtain ⟨o, n, e, c, hd, _⟩ := pl
      exact ⟨o, e, hd⟩
    · refine ⟨⟨o, I.kIn p o hk, hc⟩, fun a e => ?_⟩
      cases e
      exact ⟨o, I.kIn _ o hk, hd⟩
    · have z : ∃ o, s.heap.get? p = some o ∧ o.ExactDict := by
        rcases hk with ⟨kvs, hk⟩ | ⟨kvs, hk⟩
        · obtain ⟨_, _, _, _, o, _, _, e, ex, _⟩ := I.hok p _ hk
          exact ⟨o, e, ex⟩
        · obtain ⟨_, _, _, _, o, _, _, e, ex, _⟩ := I.hok p _ hk
          exact ⟨o, e, ex⟩
      obtain ⟨o, e, ex⟩ := z
      refine ⟨⟨o, e, ex.1⟩, fun a e2 => ?_⟩
      cases e2
      exact ⟨o, e, ex.2.1⟩
    · obtain ⟨o, _, _, _, e, ex, _⟩ := I.hok p _ hk
      refine ⟨⟨o, e, ex.1⟩, fun a e2 => ?_⟩
      cases e2
      exact ⟨o, e, ex.2.1⟩
  | _ => exact False.elim ty
def tBM0 (K : PySem.W.Frag) (T : String) (r : V → List V → Hp → VK → Prop) (to : TE) : TE := fun σ H Q => to σ H fun x H1 => tyV K T x H1 ∧ r x [] H1 Q
def tBM (K : PySem.W.Frag) (T : String) (r : V → List V → Hp → VK → Prop) (to : TE) (t : TA) : TE := fun σ H Q => to σ H fun x H1 => tyV K T x H1 ∧ t σ H1 fun xs H2 => r x xs H2 Q
variable {o e : Expr} {es : List Expr} {to : TE} {t : TA} {name : Str} {apos cpos : Pos} {T id : String} {r : V → List V → Hp → VK → Prop}
theorem pe_bm0 (pa : PlainAttrs T) (slot : Slot T name id) (hty : typeOf (.builtin id) = pure (.type "method_descriptor")) (hm : MtR X id r) (ho : PE X o to)
    (hbase : attributeBase o name X.env (eval o X.env) = eval o X.env := by rfl) (hline : (apos.endLine == cpos.line) = true := by rfl) : PE X (.Call (.Attribute o name apos) [] [] cpos) (tBM0 X.K T r to) := by
  intro pins s σ H Q I h
  refine wpAny_Call_method0_late hbase hline (thn (ho pins s σ H _ I h) fun v s1 ⟨x, H1, I1, r1, ty, q1⟩ => ?_)
  obtain ⟨h1, h2⟩ := tyV_is I1 r1 ty
  exact ⟨T, id, pa, slot, hty, h1, h2, Calls.callWith_builtin rfl (PySem.evalArgs_none (hm pins s1 σ H1 x [] v [] Q I1 r1 .nil q1))⟩
theorem pe_bm (pa : PlainAttrs T) (slot : Slot T name id) (hty : typeOf (.builtin id) = pure (.type "method_descriptor")) (hm : MtR X id r) (ho : PE X o to) (ha : PA X (e :: es) t)
    (hbase : attributeBase o name X.env (eval o X.env) = eval o X.env := by rfl)
    (hfew : ((backTo cpos (starEach (e :: es) X.env)).all (fun x => !x.1) && (backToKw cpos (keywordEach [] X.env)).all (fun x => x.1.isSome)
      && decide ((e :: es).length + ([] : List Keyword).length + (if ([] : List Keyword).isEmpty then 0 else 1) < 30)) = true := by rfl)
    (hline : (apos.endLine == cpos.line) = true := by rfl) (hs : starEach (e :: es) X.env = (false, eval e X.env) :: starEach es X.env := by rfl) (hplain : (backTo cpos (starEach es X.env)).any (·.1) = false := by rfl) :
    PE X (.Call (.Attribute o name apos) (e :: es) [] cpos) (tBM X.K T r to t) := by
  intro pins s σ H Q I h
  refine wpAny_Call_method_late hbase hfew hline rfl (thn (ho pins s σ H _ I h) fun v s1 ⟨x, H1, I1, r1, ty, q1⟩ => ?_)
  obtain ⟨h1, h2⟩ := tyV_is I1 r1 ty
  refine ⟨T, id, pa, slot, hty, h1, h2, ?_⟩
  have hA := ha cpos pins s1 σ H1 _ I1 q1
  rw [hs] at hA ⊢
  refine Calls.callWith_builtin (by show (false || (backTo cpos (starEach es X.env)).any (·.1)) = false; rw [hplain] <;> rfl) (Calls.evalArgs_plain ?_)
  exact thn hA fun us s2 ⟨vs, H2, I2, r2, q2⟩ => hm pins s2 σ H2 x vs v us Q I2 r1 r2 q2
/- xs.append(e), list.index on a module's tuple .. are MtR facts of 06m -/
end
end L2

namespace L2
open PySem PySem.Spec PyProof.Rows

def MtM (X : Cx) (id : String) (r : V → List V → Hp → VK → Prop) : Prop :=
  ∀ (pins : List (Addr × Obj)) (s : Shared) (σ : St) (H : Hp) (x : V) (xs : List V) (v : Value) (us : List Value) (Q : VK), Inv X pins σ H s → RelV x v → Vals xs us → r x xs H Q →
    wpAny (model X.prog X.w) X.A (call (.builtin id) (v :: us)) (EP X pins σ Q) X.xe s

/-! ### lists of values -/
theorem Vals.one : ∀ {x : V} {us : List Value}, Vals [x] us → ∃ u, us = [u] ∧ RelV x u
  | _, _, .cons r .nil => ⟨_, rfl, r⟩
theorem Vals.zero : ∀ {us : List Value}, Vals [] us → us = []
  | _, .nil => rfl
theorem Vals.dropLast {xs : List V} {us : List Value} (h : Vals xs us) : Vals xs.dropLast us.dropLast := by
  induction h with
  | nil => exact .nil
  | cons r t ih =>
    cases t with
    | nil => exact .nil
    | cons q t' => exact .cons r ih
theorem erase_last {α : Type} (l : List α) : l.eraseIdx (l.length - 1) = l.dropLast := by
  induction l with
  | nil => rfl
  | cons a r ih =>
    cases r with
    | nil => rfl
    | cons b r =>
      have e : (a :: b :: r).length - 1 = ((b :: r).length - 1) + 1 := by
        have h1 : (a :: b :: r).length = r.length + 2 := rfl
        have h2 : (b :: r).length = r.length + 1 := rfl
        omega
      rw [e, List.eraseIdx_cons_succ, ih]
      all_goals rfl

section
variable {X : Cx} {pins : List (Addr × Obj)} {σ : St} {H : Hp} {s : Shared} {l b : Addr} {xs ys zs : List V}

/-! ### the two steps: a tracked list is rewritten, a new list is laid -/
theorem Inv.lset {its its' : List Value} {n : Nat} {f : Array Value → Array Value} {t' : Nat} (I : Inv X pins σ H s) (hH : H l = some (.lst xs))
    (e : s.heap.get? l = some { cls := .type "list", data := .seq its.toArray n }) (hf : f its.toArray = its'.toArray) (hv : Vals ys its') (hz : ys.length ≤ sizeLine) :
    Inv X pins σ (upd H l (.lst ys)) { s with heap := s.heap.update l (Obj.mapSeq f), toks := t' } := by
  have q := PySem.IsL.update e f
  rw [hf] at q
  refine I.write (x := l) (e := l) (by rw [hH]; exact trivial) (.inl rfl) (fun b' u hb hu => (Heap.get?_update_other s.heap (Obj.mapSeq f) (Ne.symm hb)).trans hu) ⟨_, q⟩ ?_
  exact ⟨hz, its', _, hv, q⟩
theorem Inv.lnew {its : List Value} {t' : Nat} (I : Inv X pins σ H s) (hv : Vals ys its) (hz : ys.length ≤ sizeLine) :
    Inv X pins σ (upd H s.heap.objs.size (.lst ys)) { s with heap := s.heap.push { cls := .type "list", data := .seq its.toArray }, toks := t' } :=
  I.laid (fun _ _ q => Heap.get?_push_of_some _ q) (Nat.le_refl _) ⟨hz, its, 0, hv, Heap.get?_push_size _ rfl⟩
theorem Inv.fresh (I : Inv X pins σ H s) : H s.heap.objs.size = none := I.hok.fresh (Nat.le_refl _)
theorem Inv.lstM (I : Inv X pins σ H s) (hH : H l = some (.lst xs)) : xs.length ≤ sizeLine ∧ ∃ (its : List Value) (n : Nat), Vals xs its ∧ xs.length = its.length ∧ s.heap.get? l = some { cls := .type "list", data := .seq its.toArray n } := by
  obtain ⟨z, its, n, r, e⟩ := I.hok l _ hH
  exact ⟨z, its, n, r, r.length, e⟩

end

section
variable {X : Cx}

/-! ### methods -/
def rAppend : V → List V → Hp → VK → Prop := fun x vs H Q => ∃ l xs y, x = .ref l ∧ vs = [y] ∧ H l = some (.lst xs) ∧ xs.length < sizeLine ∧ Q .non (upd H l (.lst (xs ++ [y])))
theorem mt_append : MtM X "list.append" rAppend := by
  intro pins s σ H x vs v us Q I rx rv h
  obtain ⟨l, xs, y, rfl, rfl, hH, hz, q⟩ := h
  cases rx
  obtain ⟨u, rfl, ru⟩ := rv.one
  obtain ⟨z, its, n, r, hl, e⟩ := I.lstM hH
  refine call_meets F.slot_list_append ⟨_, e, rfl⟩ F.entry_list_append (F.args_list_append_2 _ _) (PySem.list_append l its.toArray n u (by rw [List.size_toArray]; omega)) ⟨e, ?_⟩
  refine ⟨.non, _, I.lset (its' := its ++ [u]) hH e (by simp) (r.append (.cons ru .nil)) ?_, rfl, q⟩
  rw [List.length_append, List.length_singleton]
  omega


def rPop : V → List V → Hp → VK → Prop := fun x vs H Q => ∃ l xs y, x = .ref l ∧ vs = [] ∧ H l = some (.lst xs) ∧ xs[xs.length - 1]? = some y ∧ Q y (upd H l (.lst xs.dropLast))
theorem mt_pop : MtM X "list.pop" rPop := by
  intro pins s σ H x vs v us Q I rx rv h
  obtain ⟨l, xs, y, rfl, rfl, hH, hy, q⟩ := h
  cases rx
  have hus := rv.zero
  subst hus
  obtain ⟨z, its, n, r, hl, e⟩ := I.lstM hH
  obtain ⟨u, hu, ru⟩ := r.get hy
  have hy' : its.toArray[its.toArray.size - 1]? = some u := by
    show its.toArray[its.length - 1]? = some u
    rw [← Array.getElem?_toList, ← hl]
    exact hu
  refine call_meets F.slot_list_pop ⟨_, e, rfl⟩ F.entry_list_pop (F.args_list_pop_1 _) (MeetsSeq.list_pop_last l its.toArray n u hy' (by rw [List.size_toArray]; omega)) ⟨e, ?_⟩
  refine ⟨y, _, I.lset (its' := its.dropLast) hH e ?_ r.dropLast ?_, ru, q⟩
  · show its.toArray.eraseIdxIfInBounds (its.toArray.size - 1) = its.dropLast.toArray
    rw [List.size_toArray, List.eraseIdxIfInBounds_toArray, erase_last]
  · rw [List.length_dropLast]
    omega



def rClear : V → List V → Hp → VK → Prop := fun x vs H Q => ∃ l xs, x = .ref l ∧ vs = [] ∧ H l = some (.lst xs) ∧ Q .non (upd H l (.lst []))
theorem mt_clear : MtM X "list.clear" rClear := by
  intro pins s σ H x vs v us Q I rx rv h
  obtain ⟨l, xs, rfl, rfl, hH, q⟩ := h
  cases rx
  have hus := rv.zero
  subst hus
  obtain ⟨z, its, n, r, hl, e⟩ := I.lstM hH
  refine call_meets F.slot_list_clear ⟨_, e, rfl⟩ F.entry_list_clear (F.args_list_clear_1 _) (AutoSeq1.list_clear_list_0 l its.toArray n (by rw [List.size_toArray]; omega)) ⟨e, ?_⟩
  exact ⟨.non, _, I.lset (its' := []) (ys := []) hH e rfl .nil (Nat.zero_le _), rfl, q⟩

/-! ### list + list, list += list, list * int -/

/-! ### del xs[i] -/
end

/-! ### xs[a:b] = ys -/
section
variable {prog : Program} {w : World} {A : Around} {E : Value → Shared → Prop} {s : Shared}
end

section
variable {X : Cx}
end
end L2

namespace Att
open PySem PySem.W PySem.Calls PyProof.Rows

/-! ### the script -/
theorem ints_of_wellAll {P : Params} {h : Heap} : ∀ (ns : List Int) (vs : List Value), WellAll P h vs (ns.map WData.int) → IntsAre vs ns := by
  intro ns
  induction ns with
  | nil =>
    intro vs w
    rw [List.map_nil] at w
    cases w
    exact .nil
  | cons n ns ih =>
    intro vs w
    rw [List.map_cons] at w
    cases w with
    | cons a b =>
      cases a
      exact .cons _ _ (ih _ b)

theorem script_of {l : OpenLaw} {n : Nat} (hn : l.most = some n) {P : Params} {h : Heap} {args : List WData} {vals : List Value}
    (hpre : l.row.toRowW.claim.pre args = true) (hwl : WellAll P h vals args) :
    ∃ a vs ns, vals = [Value.ref a] ∧ args = [WData.list (ns.map WData.int)] ∧ h.get? a = some { cls := .type "list", data := .seq vs.toArray } ∧ IntsAre vs ns ∧ ns.length ≤ n := by
  have hsh : WShape.hasAll [] args [.list .int] = true := (pre_splitW hpre).1
  have hc : l.pre.holds [] { args := args } = true := (pre_splitW hpre).2
  obtain ⟨d, r, rfl, h1, h2⟩ := hasAllW_cons hsh
  obtain rfl := hasAllW_nil h2
  obtain ⟨xs, rfl, h3⟩ := hasW_list h1
  obtain ⟨ns, rfl⟩ := items_int h3
  have hlen : ns.length ≤ n := by
    unfold OpenLaw.pre at hc
    have h4 : (WTm.not (.lt (.lit (.int (n : Int))) (.len (.arg 0)))).holds [] { args := [.list (ns.map .int)] } = true := by
      have h4 := (holds_andW hc).1
      rw [hn] at h4
      exact h4
    have h5 := condW_of h4 (w_not (w_lt w_lit (w_len_list (w_arg rfl))))
    rw [List.length_map] at h5
    refine Nat.le_of_not_lt fun q => ?_
    have q' : (n : Int) < ((ns.length : Nat) : Int) := by omega
    first
      | (rw [decide_eq_true q'] at h5; exact absurd h5 (by decide))
      | (simp at h5; omega)
  cases hwl with
  | cons w1 w2 =>
    cases w2
    cases w1 with
    | list ho hall => exact ⟨_, _, ns, rfl, rfl, ho, ints_of_wellAll ns _ hall, hlen⟩

theorem post_true (l : OpenLaw) (args : List WData) : l.row.toRowW.claim.post args (.bool true) args = true :=
  postW_of (r := l.row.toRowW) (X := (true == true))
    (show WShape.has [] (.bool true) .bool = true by first | rfl | decide | simp [WShape.has, WShape.arms, WShape.armsAll])
    (show (WTm.eq .res (.lit (.bool true))).value [] { args := args, res := some (.bool true), after := args } = some (.bool (true == true)) from w_eq_bool (w_res rfl) w_lit) rfl

/-! ### the attachment: holds_open's last premise (the goal 'hc' behind k_head) from a wpAny of the law's body -/

/-- the same from a codeAny of the CALL (for a layer whose function contracts speak of calls) -/
theorem attach_call {l : OpenLaw} {n : Nat} {q : Program} {loose : List Str} {XP : (Str → Option Value) → Heap → Prop} {YP : World → Heap → Prop} {d : DefRec}
    (hn : l.most = some n) (hdf : d.params.defaults = [])
    (call : ∀ (w : World) (s₀ s₁ : Shared) (mg mb : Str → Option Value) (fa : Addr) (o : Obj) (pm cd doc : Value) (a : Addr) (vs : List Value) (ns : List Int),
      Ground q loose [] XP w s₀ mg mb s₁.heap → YP w s₁.heap →
      s₁.heap.get? fa = some o → o.data = .func (docDef d.name d.params d.body d.scope pm cd doc) → s₁.heap.CodeRec cd d.name → mg d.name = some (.ref fa) →
      s₁.heap.get? a = some { cls := .type "list", data := .seq vs.toArray } → IntsAre vs ns → ns.length ≤ n → s₁.gens = #[] →
      codeAny (model l.prog w) callerA (.call (.ref fa) ⟨[.ref a], []⟩) (fun r s' => r = .ok (.ret (.bool true)) ∧ OldK s₁.heap s'.heap ∧ s'.os = s₁.os ∧ AllBare s'.gens) s₁) :
    WalkO q loose XP YP l.row.toRowW d [] (fun f vs => PySem.call f vs) := by
  intro w s₀ s₁ mg mb G Y fa o pm cd doc dV kV ho hd hcd hD hmg hg args vals as hpre hlay hrd hwl hlo
  obtain rfl : dV = .none := Dflts.none hD hdf
  obtain rfl : kV = .none := Dflts.noKw hD
  obtain ⟨a, vs, ns, rfl, rfl, hobj, hints, hlen⟩ := script_of hn hpre hwl
  refine enter_call (codeAny_mono (call w s₀ s₁ mg mb fa o pm cd doc a vs ns G Y ho (fd_plain hd) hcd hmg hobj hints hlen hg) fun r s' hq => ?_)
  obtain ⟨rfl, h2, h3, h4⟩ := hq
  exact ⟨.inl ⟨.bool true, .bool true, [], rfl, fun _ => rfl, .bool true, post_true l _, fun _ => ⟨List.Pairwise.nil, fun _ hm => (nomatch hm)⟩⟩, h2, h3, h4⟩


/-! ### rules over ANY heap (no ledger) from facts about the written part K: the library's own take a ledger (News) for what they write -/
section
variable {prog : Program} {w : World} {A : Around} {E : Value → Shared → Prop} {s : Shared} {K : Frag}





/-! the whole heap as the ledger: makes every rule that writes through a ledger a rule over any heap -/

end
end Att

namespace L2
open PySem PySem.Spec PyProof.Rows

theorem vals_ints : ∀ {vs : List Value} {ns : List Int}, IntsAre vs ns → Vals (ns.map V.int) vs
  | _, _, .nil => .nil
  | _, _, .cons n t h => .cons ⟨t, rfl⟩ (vals_ints h)

/-- nothing is tracked but the script, known to the object (or it is an object of the module) -/
def Only (H : Hp) : Prop := ∀ b, H b = none ∨ ∃ o xs, H b = some (.frz o (.lst xs))

/-- THE HEAD: the law's promise, at the heap behind the top. F, the promise of the law's def, may use that base is part of the heap (so K.In base, base.Ns mainGlobals mg stand in Mod) -/
theorem law_call {P : Program} {w : World} {K : PySem.W.Frag} {mg mb : Str → Option Value} {CX : CXT} {k : Nat} {fa a : Addr} {fd : FuncData} {x : Str} {sp : Sp} {s₁ : Shared} {vs : List Value} {ns : List Int}
    (KX : K.In s₁.heap) (hns : s₁.heap.Ns mainGlobals mg) (hb : s₁.heap.Ns builtinsNs mb) (hbb : ∀ x : Str, x ≠ "__name__" → mb x = bootBuiltins x) (hlim : s₁.heap.NoLimit) (hg : s₁.gens = #[])
    (ha : s₁.heap.get? a = some { cls := .type "list", data := .seq vs.toArray }) (hi : IntsAre vs ns) (hl : ns.length ≤ sizeLine) (hr : Room k callerA)
    (F : ∀ base : Heap, K.In base → base.Ns mainGlobals mg → FnOk P w K mg base CX k fa fd [x] sp) (hbind : ∀ (s : Shared) (u : Value), BindsTo s fd ⟨[u], []⟩ [(x, u)])
    (hsp : ∀ H : Hp, Only H → SqL K H a (ns.map V.int) → sp [.ref a] H (fun v _ => v = .bl true) fun _ _ _ => False)
    (hCX : ∀ H e s', CX [] H s₁ (fun _ _ _ => False) e s' → False) :
    codeAny (model P w) callerA (.call (.ref fa) ⟨[.ref a], []⟩) (fun r s' => r = .ok (.ret (.bool true)) ∧ OldK s₁.heap s'.heap ∧ s'.os = s₁.os ∧ AllBare s'.gens) s₁ := by
  have rv := vals_ints hi
  have lenV := hi.length
  -- from an abstract heap in which nothing but the script may be tracked
  have core : ∀ H : Hp, Only H → SqL K H a (ns.map V.int) → HOk P w H s₁.heap → (∀ b, H b ≠ none → b = a) → (H a ≠ none → K.lookup a = none) →
      codeAny (model P w) callerA (.call (.ref fa) ⟨[.ref a], []⟩) (fun r s' => r = .ok (.ret (.bool true)) ∧ OldK s₁.heap s'.heap ∧ s'.os = s₁.os ∧ AllBare s'.gens) s₁ := by
    intro H hO hS hok hA hK
    have base_of : ∀ {b : Addr} {o : Obj}, s₁.heap.get? b = some o → H b = none → (hidT s₁.heap H).get? b = some o := fun e n => hidT_get e n
    have noA : ∀ {b : Addr} {o : Obj} {es : Array DictEntry} {ep : Nat}, s₁.heap.get? b = some o → o.data = .dict es ep → H b = none := fun {b o es ep} e d => by
      cases q : H b with
      | none => rfl
      | some u =>
        have e' : b = a := hA b (by rw [q]; simp)
        subst e'
        rw [ha] at e; cases e
        have d' : Data.seq vs.toArray _ = Data.dict es ep := d
        cases d'
    have nsK : ∀ {b : Addr} {m : Str → Option Value}, s₁.heap.Ns b m → (hidT s₁.heap H).Ns b m := fun {b m} ⟨o, es, ep, e, d, r⟩ => ⟨o, es, ep, base_of e (noA e d), d, r⟩
    have hKb : K.In (hidT s₁.heap H) := fun b o e => base_of (KX b o e) (by
      cases q : H b with
      | none => rfl
      | some u =>
        have e' : b = a := hA b (by rw [q]; simp)
        subst e'
        rw [hK (by rw [q]; simp)] at e; cases e)
    have hM : Mod K mg (hidT s₁.heap H) := ⟨hKb, nsK hns, ⟨mb, nsK hb, hbb⟩, let ⟨mc, h1, h2⟩ := hlim; ⟨mc, nsK h1, h2⟩⟩
    have e0 : Env0 P w K mg (hidT s₁.heap H) callerA [] s₁ H := ⟨rfl, hM, fun b o e => of_hidT e, Nat.le_of_eq (hidT_size _ _), trivial, fun b hb => absurd (show b ∈ ([] : List Addr) from hb) (by simp), hok, .of_eq hg⟩
    refine codeAny_mono ((F _ hKb (nsK hns)).run callerA [] s₁ H ⟨[.ref a], []⟩ [.ref a] [.ref a] _ _ hr e0 (hbind s₁ (.ref a)) (.cons rfl .nil) (hsp H hO hS)) fun r s' h => ?_
    cases r with
    | error e => exact (hCX H e s' h).elim
    | ok fl =>
      cases fl with
      | next => exact False.elim h
      | brk => exact False.elim h
      | cont => exact False.elim h
      | ret u =>
        obtain ⟨v, H', os, bare, un, hok', r', q⟩ := h
        have q' : v = .bl true := q
        subst q'
        obtain rfl : u = Value.bool true := r'
        refine ⟨rfl, OldK.of_keep fun b o e => ?_, os, bare⟩
        cases q : H b with
        | none => exact un.keep b o e q (by intro z; exact absurd (show b ∈ ([] : List Addr) from z) (by simp)) (by simp)
        | some u =>
          rcases hO b with z | ⟨ob, xs, z⟩
          · rw [q] at z; cases z
          · have z2 := un.frzs b ob _ z
            obtain ⟨e1, _⟩ := hok b _ z
            obtain ⟨e2, _⟩ := hok' b _ z2
            rw [e] at e1; cases e1
            exact e2
  cases hk : K.lookup a with
  | some o =>
    -- the script is one of the module's own objects
    have e := KX a o hk
    rw [ha] at e
    cases e
    refine core (fun _ => none) (fun _ => .inl rfl) (.inr ⟨_, vs.toArray, _, hk, rfl, rfl, rfl, by rw [List.size_toArray, lenV]; exact hl, by simpa using rv⟩) (fun b u z => by have z' : (none : Option HO) = some u := z; cases z') (fun b z => absurd rfl z) fun z => absurd rfl z
  | none =>
    refine core (fun b => if b = a then some (.frz { cls := .type "list", data := .seq vs.toArray } (.lst (ns.map V.int))) else none) (fun b => ?_) (.inl (.inr ⟨{ cls := .type "list", data := .seq vs.toArray }, if_pos rfl⟩)) (fun b u z => ?_) (fun b z => ?_) fun _ => hk
    · by_cases hb : b = a
      · exact .inr ⟨_, _, if_pos hb⟩
      · exact .inl (if_neg hb)
    · by_cases hb : b = a
      · have z' := (if_pos hb).symm.trans z
        cases z'
        subst hb
        exact ⟨ha, by rw [List.length_map]; exact hl, vs, _, rv, ha⟩
      · have z' := (if_neg hb).symm.trans z
        cases z'
    · by_cases hb : b = a
      · exact hb
      · exact absurd (if_neg hb) z
end L2

namespace L2
open PySem PySem.Spec PyProof.Rows


end L2

/- THE LAST THEOREM (shape; LID, My.* are yours):
   My.Adr: a structure of the addresses that your layer names (classes, functions); My.Txt K t: a structure (Prop) of the equations over K;
   My.txt_mk : {K} {implicit addresses ..} (e1 : nsIn K mainGlobals "law" = some (some (.ref f))) (e2 : K.lookup f = some ⟨oc, od, .func (fnOf "law" "law" params body scope dV kV doc pm an cdv ct), sl⟩) (e3 : codeIn K cdv "law" = true) .. : ∃ t, My.Txt K t

theorem PySem.Challenge.cw_LID_holds : PySem.Challenge.rw_LID.Holds := by
  w_on; o_law; k_head; (case hw => w_witness2)
  k_fill
  refine L2.walk_of (l := PySem.Challenge.rw_LID) (n := 63) (k := 40) (x := "script") (CX := fun w => ..) (sp := fun _ => My.sp_law) rfl (by decide) rfl ⟨rfl, by decide, by decide⟩ (fun w h Y => PySem.W.kIn_of Y) ?F ?S ?C
  case F =>
    intro w mg fa h KX G hmg
    have T : ∃ t, My.Txt (L2.KOf KX) t := by
      dsimp only [L2.KOf]                          -- K must stand as «<heap const> w.params» for k_is
      refine' My.txt_mk ?e1 ?e2 ?e3 ..
      (case e1 => PySem.W.k_is)                    -- in the order: a name -> its address -> its object -> its parts
      (case e2 => PySem.W.k_is)
      ..
    obtain ⟨t, T⟩ := T
    have e0 := hmg.symm.trans (PySem.W.mg_of KX G T.law)
    cases e0                                       -- fa is the law's own address
    exact ⟨_, fun s u => .of_eq rfl, fun base kb nb => My.law_fn T kb nb⟩     -- if «.of_eq rfl» comes too early: refine' ⟨_, ?b, fun base kb nb => My.law_fn T kb nb⟩; exact fun s u => .of_eq rfl
  case S => exact fun w H a ns hl hO hS => ..
  case C => exact ..
(the tactic k_is has no namespace: write k_is) -/

/-! SHORT WORDS over the layer: a def of the text, its body, what a loop and a test want. -/
namespace L2
open PySem PySem.Spec PyProof.Rows

/-! ### the text by places -/
/-- the j-th statement of a class's body -/
def inClass (s : Stmt) (j : Nat) : Stmt := match s with
  | .ClassDef _ _ _ body _ _ _ _ _ _ _ => body.getD j (.Pass ⟨0, 0, 0, 0⟩)
  | _ => .Pass ⟨0, 0, 0, 0⟩
def defArgs (s : Stmt) : Arguments := match s with
  | .FunctionDef _ a _ _ _ _ _ _ _ _ => a
  | _ => { posonlyargs := [], args := [], vararg := none, kwonlyargs := [], kw_defaults := [], kwarg := none, defaults := [] }
def defBody (s : Stmt) : List Stmt := match s with
  | .FunctionDef _ _ b _ _ _ _ _ _ _ => b
  | _ => []
def defScope (s : Stmt) : Scope := match s with
  | .FunctionDef _ _ _ _ _ _ sc _ _ _ => sc
  | _ => { kind := .function, names := [], isGenerator := false, isCoroutine := false }

/-! ### no exception leaves a def -/
abbrev CX0 : CXT := fun _ _ _ _ _ _ => False
abbrev E0 : XK := fun _ _ _ => False
theorem pass0 {X : Cx} : Passes CX0 X E0 := fun _ _ _ _ _ _ _ h => h.elim

/-! ### a def (or method) of the text as it stands behind the top -/
structure Fun (K : PySem.W.Frag) (x qual : Str) (st : Stmt) (f : Addr) (fd : FuncData) : Prop where
  ex : ∃ (oc : Value) (od : Option Addr) (kV doc pm : Value) (an : Option Addr) (cdv ct : Value) (osl : Array (Option Value)),
    fd = PySem.W.fnOf x qual (defArgs st) (defBody st) (defScope st) .none kV doc pm an cdv ct ∧ K.lookup f = some ⟨oc, od, .func fd, osl⟩ ∧ PySem.W.codeIn K cdv qual = true
  kp : PySem.W.keepIn K (.ref f) = true
section
variable {P : Program} {w : World} {K : PySem.W.Frag} {mg : Str → Option Value} {base : Heap}
/-- THE RULE for a def: its body as a term of rules, and the reading of that term -/
theorem Fun.ok {x qual : Str} {st : Stmt} {f : Addr} {fd : FuncData} {N ps : List Str} {k : Nat} {sp : Sp} (F : Fun K x qual st f fd) (S : FnScope N ps (defScope st)) (len : ∀ vs H Q E, sp vs H Q E → vs.length = ps.length)
    (hbody : ∀ (cdv : Value) (A : Around) (outer : List Env) (s : Shared) (H : Hp) (vs : List V) (Q : VK) (E : XK), Room k (A.deeper (envOfC qual (defScope st) s.heap.objs.size f cdv)) → sp vs H Q E →
      ∃ t, PSs (cxOf CX0 P w K mg base N qual (defScope st) f cdv A outer s H E).nox (defBody st) t ∧ t { nx := fun _ H' => Q .non H', rt := Q } (start N vs) H) : FnOk P w K mg base CX0 (k + 1) f fd ps sp := by
  obtain ⟨oc, od, kV, doc, pm, an, cdv, ct, osl, rfl, lk, hcd⟩ := F.ex
  refine fn_of lk hcd S len fun A outer s H vs Q E hr hsp => ?_
  obtain ⟨t, h, q⟩ := hbody cdv A outer s H vs Q E hr hsp
  exact ⟨t, h.nox, q⟩
/-- how its arguments bind (no defaults): h is «fun _ _ _ _ _ _ us hl => match us, hl with | [_, _], _ => rfl», one _ a parameter -/
theorem Fun.binds {x qual : Str} {st : Stmt} {f : Addr} {fd : FuncData} {ps : List Str} (F : Fun K x qual st f fd)
    (h : ∀ (kV doc pm : Value) (an : Option Addr) (cdv ct : Value) (us : List Value), us.length = ps.length → bindArgs (PySem.W.fnOf x qual (defArgs st) (defBody st) (defScope st) .none kV doc pm an cdv ct) ⟨us, []⟩ = pure (ps.zip us)) : Binds K fd ps [] := by
  obtain ⟨oc, od, kV, doc, pm, an, cdv, ct, osl, rfl, lk, hcd⟩ := F.ex
  exact .all (h kV doc pm an cdv ct)
theorem fun_mk {x qual : Str} {st : Stmt} {f : Addr} {oc : Value} {od an : Option Addr} {osl : Array (Option Value)} {kV doc pm cdv ct : Value} (l : K.lookup f = some ⟨oc, od, .func (PySem.W.fnOf x qual (defArgs st) (defBody st) (defScope st) .none kV doc pm an cdv ct), osl⟩)
    (c : PySem.W.codeIn K cdv qual = true) (k : PySem.W.keepIn K (.ref f) = true) : Fun K x qual st f (PySem.W.fnOf x qual (defArgs st) (defBody st) (defScope st) .none kV doc pm an cdv ct) := ⟨⟨oc, od, kV, doc, pm, an, cdv, ct, osl, rfl, l, c⟩, k⟩
end
theorem hu_of {A : Around} {k : Nat} (hr : Room k A) : A.units + 1 < cLine := Nat.lt_of_le_of_lt (Nat.add_le_add_left (by decide : 1 ≤ 64) _) hr.units
theorem small1000 {n : Nat} (h : n ≤ 1000) : n < sizeLine := Nat.lt_of_le_of_lt h (by decide)

/-! ### expressions in short: the name that stands in the i-th slot -/
section
variable {X : Cx}
theorem pv (i : Nat) {x : Str} {pos : Pos} (hN : X.N[i]? = some x := by rfl) (hv : Vis X.env.scope x := by first | exact Or.inl rfl | exact Or.inr (Or.inl rfl) | exact Or.inr (Or.inr rfl)) (hd : (x == ("__debug__" : Str)) = false := by decide)
    (hcd : (x == ("__classdict__" : Str)) = false := by decide) : PE X (.Name x pos) (tVar i) := pe_var hN hv hd hcd
end

/-! ### tests -/
theorem iteF {A B : Prop} (h : B) : if false = true then A else B := by
  rw [if_neg Bool.false_ne_true]
  exact h
theorem iteT {A B : Prop} (h : A) : if true = true then A else B := by
  rw [if_pos rfl]
  exact h
theorem ite2 {c A B : Prop} [Decidable c] (h1 : c → A) (h2 : ¬ c → B) : if c then A else B := by
  by_cases h : c
  · rw [if_pos h]
    exact h1 h
  · rw [if_neg h]
    exact h2 h

/-! ### heaps -/
/-- all that was tracked is as it was -/
def Same (H H' : Hp) : Prop := ∀ b o, H b = some o → H' b = some o
theorem Same.refl (H : Hp) : Same H H := fun _ _ h => h
theorem Same.trans {H H1 H2 : Hp} (a : Same H H1) (b : Same H1 H2) : Same H H2 := fun c o h => b c o (a c o h)
theorem Same.free {H H' : Hp} (e : Same H H') {l : Addr} (h : H' l = Option.none) : H l = Option.none := by
  cases q : H l with
  | none => rfl
  | some o =>
    rw [e l o q] at h
    cases h
theorem Same.seq {K : PySem.W.Frag} {H H' : Hp} {a : Addr} {xs : List V} (e : Same H H') (h : SqL K H a xs) : SqL K H' a xs := by
  rcases h with (h | ⟨o, h⟩) | h
  · exact .inl (.inl (e _ _ h))
  · exact .inl (.inr ⟨o, e _ _ h⟩)
  · exact .inr h

end L2

namespace L2
open PySem PySem.Spec PyProof.Rows
/-! ### lists of pairs as tables -/
section
variable {κ : Type} [DecidableEq κ]
def valV (kvs : List (κ × V)) (k : κ) : Option V := (kvs.find? fun kv => decide (kv.1 = k)).map (·.2)
/-- in its place, or at the end -/
def putK (kvs : List (κ × V)) (k : κ) (v : V) : List (κ × V) :=
  if (kvs.any fun kv => decide (kv.1 = k)) = true then kvs.map (fun kv => if kv.1 = k then (kv.1, v) else kv) else kvs ++ [(k, v)]

theorem valV_nil {k : κ} : valV ([] : List (κ × V)) k = none := rfl
theorem valV_pos {p : κ × V} {r : List (κ × V)} {k : κ} (e : p.1 = k) : valV (p :: r) k = some p.2 := by simp [valV, List.find?_cons, e]
theorem valV_neg {p : κ × V} {r : List (κ × V)} {k : κ} (e : ¬ p.1 = k) : valV (p :: r) k = valV r k := by simp [valV, List.find?_cons, e]
theorem valV_any (k : κ) : ∀ kvs : List (κ × V), (kvs.any fun kv => decide (kv.1 = k)) = (valV kvs k).isSome
  | [] => rfl
  | p :: r => by
    rw [List.any_cons]
    by_cases e : p.1 = k
    · simp only [valV_pos e, decide_eq_true e, Bool.true_or, Option.isSome_some]
    · rw [valV_neg e, decide_eq_false e, Bool.false_or]; exact valV_any k r
theorem valV_map (k j : κ) (y : V) : ∀ kvs : List (κ × V), valV (kvs.map fun kv => if kv.1 = k then (kv.1, y) else kv) j = (valV kvs j).map fun x => if j = k then y else x
  | [] => rfl
  | p :: r => by
    have ih := valV_map k j y r
    rw [List.map_cons]
    by_cases h : p.1 = k
    · rw [if_pos h]
      by_cases e : p.1 = j
      · rw [valV_pos (p := (p.1, y)) e, valV_pos e, Option.map_some, if_pos (e.symm.trans h)]
      · rw [valV_neg (p := (p.1, y)) e, valV_neg e, ih]
    · rw [if_neg h]
      by_cases e : p.1 = j
      · rw [valV_pos (p := p) e, valV_pos e, Option.map_some, if_neg (fun z => h (e.trans z))]
      · rw [valV_neg (p := p) e, valV_neg e, ih]
theorem valV_snoc (k j : κ) (y : V) : ∀ kvs : List (κ × V), valV kvs k = none → valV (kvs ++ [(k, y)]) j = if j = k then some y else valV kvs j
  | [], _ => by
    by_cases e : k = j
    · rw [if_pos e.symm]; exact valV_pos (p := (k, y)) e
    · rw [if_neg (fun z => e z.symm)]; exact valV_neg (p := (k, y)) e
  | p :: r, hn => by
    rw [List.cons_append]
    have hk : ¬ p.1 = k := fun z => by rw [valV_pos z] at hn; cases hn
    rw [valV_neg hk] at hn
    have ih := valV_snoc k j y r hn
    by_cases e : p.1 = j
    · rw [valV_pos e, valV_pos e, if_neg (fun z => hk (e.trans z))]
    · rw [valV_neg e, valV_neg e, ih]
theorem valV_put (kvs : List (κ × V)) (k j : κ) (y : V) : valV (putK kvs k y) j = if j = k then some y else valV kvs j := by
  unfold putK
  by_cases a : (kvs.any fun kv => decide (kv.1 = k)) = true
  · rw [if_pos a, valV_map]
    rw [valV_any] at a
    by_cases e : j = k
    · obtain ⟨x, hx⟩ := Option.isSome_iff_exists.mp a
      rw [if_pos e, e, hx, Option.map_some, if_pos rfl]
    · rw [if_neg e]
      cases valV kvs j with
      | none => rfl
      | some x => rw [Option.map_some, if_neg e]
  · rw [if_neg a]
    refine valV_snoc k j y kvs ?_
    rw [valV_any] at a
    cases q : valV kvs k with
    | none => rfl
    | some x => rw [q] at a; exact (a rfl).elim
theorem length_putK (kvs : List (κ × V)) (k : κ) (v : V) : (putK kvs k v).length ≤ kvs.length + 1 := by
  unfold putK
  split
  · rw [List.length_map]; omega
  · rw [List.length_append, List.length_cons, List.length_nil]; omega

theorem RelO.isSome_eq {o : Option V} {u : Option Value} (r : RelO o u) : o.isSome = u.isSome := by
  cases o with
  | none => cases u with
    | none => rfl
    | some _ => exact (show False from r).elim
  | some _ => cases u with
    | none => exact (show False from r).elim
    | some _ => rfl

/-- raw tables of the same keys -/
theorem KV.val {kvs : List (κ × V)} {vs : List (κ × Value)} (r : KV kvs vs) (k : κ) : RelO (valV kvs k) (valueAt vs k) := by
  unfold KV at r
  induction r with
  | nil => exact True.intro
  | @cons p q ps qs h t ih =>
    obtain ⟨h1, h2⟩ := h
    by_cases e : p.1 = k
    · have e' : q.1 = k := h1.symm.trans e
      have b : valueAt (q :: qs) k = some q.2 := by simp [valueAt, List.find?_cons, e']
      rw [valV_pos e, b]; exact h2
    · have e' : ¬ q.1 = k := fun z => e (h1.trans z)
      have b : valueAt (q :: qs) k = valueAt qs k := by simp [valueAt, List.find?_cons, e']
      rw [valV_neg e, b]; exact ih
theorem KV.any {kvs : List (κ × V)} {vs : List (κ × Value)} (r : KV kvs vs) (k : κ) : (kvs.any fun kv => decide (kv.1 = k)) = vs.any fun kv => decide (kv.1 = k) := by
  unfold KV at r
  induction r with
  | nil => rfl
  | cons h t ih => rw [List.any_cons, List.any_cons, ih, h.1]
theorem KV.repl {kvs : List (κ × V)} {vs : List (κ × Value)} (r : KV kvs vs) (k : κ) {y : V} {u : Value} (ry : RelV y u) :
    KV (kvs.map fun kv => if kv.1 = k then (kv.1, y) else kv) (vs.map fun kv => if kv.1 = k then (kv.1, u) else kv) := by
  unfold KV at r ⊢
  induction r with
  | nil => exact .nil
  | @cons p q ps qs h t ih =>
    rw [List.map_cons, List.map_cons]
    refine .cons ?_ ih
    obtain ⟨h1, h2⟩ := h
    by_cases e : p.1 = k
    · rw [if_pos e, if_pos (h1.symm.trans e)]; exact ⟨h1, ry⟩
    · rw [if_neg e, if_neg (fun z => e (h1.trans z))]; exact ⟨h1, h2⟩
theorem KV.put {kvs : List (κ × V)} {vs : List (κ × Value)} (r : KV kvs vs) (k : κ) {y : V} {u : Value} (ry : RelV y u) : KV (putK kvs k y) (stored vs k u) := by
  unfold putK stored
  rw [r.any k]
  by_cases e : (vs.any fun kv => decide (kv.1 = k)) = true
  · rw [if_pos e, if_pos e]; exact r.repl k ry
  · rw [if_neg e, if_neg e]; exact Paired.snoc r ⟨rfl, ry⟩
theorem KV.length {kvs : List (κ × V)} {vs : List (κ × Value)} (r : KV kvs vs) : kvs.length = vs.length := Paired.length r
end


/-! ### a tracked dict, its keys ints and texts or tuples of these -/
theorem kV_is {P : Program} {w : World} {k : Key} {u : Value} (r : RelV (kV k) u) : (mixKind P w).is k u = true := by
  cases k with
  | inl i => obtain ⟨t, e⟩ := (show ∃ t, u = Value.int i t from r); subst e; exact mixKind_int P w i t
  | inr x => obtain ⟨t, e⟩ := (show ∃ t, u = Value.str x t from r); subst e; exact mixKind_str P w x t
theorem items_are {P : Program} {w : World} : ∀ {ks : List Key} {us : List Value}, Vals (ks.map kV) us → ItemsAre (mixKind P w) ks us
  | [], _, r => by rw [List.map_nil] at r; cases r; exact .nil
  | k :: ks, _, r => by
    rw [List.map_cons] at r
    cases r with
    | cons h t => exact .cons (kV_is h) (items_are t)

/-- raw entries of a dict with tuple keys -/
abbrev KT (H : Hp) : List (List Key × V) → List (List Key × Addr × Value) → Prop := Paired fun p q => p.1 = q.1 ∧ H q.2.1 = some (.tup (p.1.map kV)) ∧ RelV p.2 q.2.2
theorem KT.val {H : Hp} {kvs : List (List Key × V)} {xs : List (List Key × Addr × Value)} (r : KT H kvs xs) (k : List Key) : RelO (valV kvs k) ((atKey xs k).map (·.2)) := by
  induction r with
  | nil => exact True.intro
  | @cons p q ps qs h t ih =>
    obtain ⟨h1, _, h2⟩ := h
    by_cases e : p.1 = k
    · have e' : q.1 = k := h1.symm.trans e
      have b : atKey (q :: qs) k = some q.2 := by simp [atKey, List.find?_cons, e']
      rw [valV_pos e, b]; exact h2
    · have e' : ¬ q.1 = k := fun z => e (h1.trans z)
      have b : atKey (q :: qs) k = atKey qs k := by simp [atKey, List.find?_cons, e']
      rw [valV_neg e, b]; exact ih
theorem KT.repl {H : Hp} {kvs : List (List Key × V)} {xs : List (List Key × Addr × Value)} (r : KT H kvs xs) (k : List Key) {y : V} {u : Value} (ry : RelV y u) :
    KT H (kvs.map fun kv => if kv.1 = k then (kv.1, y) else kv) (xs.map (putAt k u)) := by
  induction r with
  | nil => exact .nil
  | @cons p q ps qs h t ih =>
    rw [List.map_cons, List.map_cons]
    refine .cons ?_ ih
    obtain ⟨h1, h2, h3⟩ := h
    unfold putAt
    by_cases e : p.1 = k
    · rw [if_pos e, if_pos (h1.symm.trans e)]; exact ⟨h1, h2, ry⟩
    · rw [if_neg e, if_neg (fun z => e (h1.trans z))]; exact ⟨h1, h2, h3⟩
theorem KT.put {H : Hp} {kvs : List (List Key × V)} {xs : List (List Key × Addr × Value)} (r : KT H kvs xs) (k : List Key) {b : Addr} {y : V} {u : Value} (hb : H b = some (.tup (k.map kV))) (ry : RelV y u) :
    KT H (putK kvs k y) (storedH xs k b u) := by
  have e : (kvs.any fun kv => decide (kv.1 = k)) = (atKey xs k).isSome := by
    rw [valV_any, (r.val k).isSome_eq, Option.isSome_map]
  unfold putK storedH
  rw [e]
  by_cases q : (atKey xs k).isSome = true
  · rw [if_pos q, if_pos q]; exact r.repl k ry
  · rw [if_neg q, if_neg q]; exact Paired.snoc r ⟨rfl, hb, ry⟩
theorem KT.keeps {H H' : Hp} {kvs : List (List Key × V)} {xs : List (List Key × Addr × Value)} (r : KT H kvs xs) (ht : ∀ b ys, H b = some (.tup ys) → H' b = some (.tup ys)) : KT H' kvs xs :=
  Paired.mapP r fun _ _ z => ⟨z.1, ht _ _ z.2.1, z.2.2⟩

section
variable {P : Program} {w : World} {H : Hp} {h : Heap} {a : Addr}
theorem rd_of {u : HO} (ok : HOk P w H h) (e : Rd H a u) : ObjOk P w H h a u := e.ok ok
theorem dk_rd {kvs : List (Key × V)} (ok : HOk P w H h) (e : Rd H a (.dK kvs)) : kvs.length ≤ sizeLine ∧ (a == sysModules) = false ∧ ∃ vs, KV kvs vs ∧ h.DictOf (mixKind P w) a vs :=
  show ObjOk P w H h a (.dK kvs) from rd_of ok e
theorem dk_of {kvs : List (Key × V)} (ok : HOk P w H h) (e : H a = some (.dK kvs)) : kvs.length ≤ sizeLine ∧ (a == sysModules) = false ∧ ∃ vs, KV kvs vs ∧ h.DictOf (mixKind P w) a vs := dk_rd ok (.inl e)
/-- a tracked tuple of ints and texts is a key -/
theorem key_of {ks : List Key} (ok : HOk P w H h) (e : H a = some (.tup (ks.map kV))) : (tupleKind (mixKind P w)).is h ks a := by
  obtain ⟨_, its, r, o, h1, h2, n, h3⟩ := (show ObjOk P w H h a (.tup (ks.map kV)) from ok a _ e)
  exact ⟨o, its.toArray, n, h1, h2, h3, by simpa using items_are r⟩
theorem dt_rd {kvs : List (List Key × V)} (ok : HOk P w H h) (e : Rd H a (.dT kvs)) : kvs.length ≤ sizeLine ∧ (a == sysModules) = false ∧
    ∃ xs, KT H kvs xs ∧ h.DictOfH (tupleKind (mixKind P w)) a xs := by
  obtain ⟨z, y, xs, r, o, es, ep, h1, h2, h3, h4, h5⟩ := (show ObjOk P w H h a (.dT kvs) from rd_of ok e)
  refine ⟨z, y, xs, r, o, es, ep, h1, h2, h3, h4, fun x hx => ?_, h5⟩
  have all : ∀ {l : List (List Key × V)} {m : List (List Key × Addr × Value)}, KT H l m → ∀ x ∈ m, (tupleKind (mixKind P w)).is h x.1 x.2.1 := by
    intro l m q
    induction q with
    | nil => intro x hx; exact nomatch hx
    | @cons p q ps qs hq t ih =>
      intro x hx
      rcases List.mem_cons.mp hx with e | hx
      · subst e
        exact key_of ok (by rw [← hq.1]; exact hq.2.1)
      · exact ih x hx
  exact all r x hx
theorem dt_of {kvs : List (List Key × V)} (ok : HOk P w H h) (e : H a = some (.dT kvs)) : kvs.length ≤ sizeLine ∧ (a == sysModules) = false ∧
    ∃ xs, KT H kvs xs ∧ h.DictOfH (tupleKind (mixKind P w)) a xs := dt_rd ok (.inl e)
end

/-- what the dict at a holds at the key y -/
def DGet (H : Hp) (a : Addr) (y : V) (r : Option V) : Prop :=
  (∃ kvs k, Rd H a (.dK kvs) ∧ y = kV k ∧ r = valV kvs k) ∨ ∃ kvs k b, Rd H a (.dT kvs) ∧ y = .ref b ∧ H b = some (.tup (k.map kV)) ∧ r = valV kvs k
/-- the heap behind a[y] = v -/
def DPut (H : Hp) (a : Addr) (y v : V) (H' : Hp) : Prop :=
  (∃ kvs k, H a = some (.dK kvs) ∧ y = kV k ∧ kvs.length < sizeLine ∧ H' = upd H a (.dK (putK kvs k v))) ∨
  ∃ kvs k b, H a = some (.dT kvs) ∧ y = .ref b ∧ H b = some (.tup (k.map kV)) ∧ kvs.length < sizeLine ∧ H' = upd H a (.dT (putK kvs k v))
theorem DGet.k {H : Hp} {a : Addr} {kvs : List (Key × V)} {k : Key} (e : H a = some (.dK kvs)) : DGet H a (kV k) (valV kvs k) := .inl ⟨kvs, k, .inl e, rfl, rfl⟩
theorem DPut.k {H : Hp} {a : Addr} {kvs : List (Key × V)} {k : Key} {v : V} (e : H a = some (.dK kvs)) (hl : kvs.length < sizeLine) : DPut H a (kV k) v (upd H a (.dK (putK kvs k v))) := .inl ⟨kvs, k, e, rfl, hl, rfl⟩


section
variable {X : Cx} {pins : List (Addr × Obj)} {σ : St} {H : Hp} {s : Shared} {a : Addr} {y v : V} {u r : Value} {o : Option V} {A : Around} {E : Value → Shared → Prop}

theorem Inv.big (I : Inv X pins σ H s) : sysModules < s.heap.objs.size := by
  have h : mainGlobals < s.heap.objs.size := (I.mod.glob.keeps I.bk).lt
  exact Nat.lt_trans (by decide) h

/-- y in d -/
theorem d_in {Q : Value → Shared → Prop} (hu : A.units + 1 < cLine) (I : Inv X pins σ H s) (g : DGet H a y o) (ry : RelV y u) (h : ∀ s', Inv X pins σ H s' → Q (.bool o.isSome) s') :
    wpAny (model X.prog X.w) A (compareOp .In u (.ref a)) Q E s := by
  rcases g with ⟨kvs, k, e, ey, l⟩ | ⟨kvs, k, b, e, ey, eb, l⟩
  · subst ey
    obtain ⟨z, hd, vs, rel, dd⟩ := dk_rd I.hok e
    refine wpAny_in_of (kV_is ry) hd dd.mapOf ?_
    rw [← (rel.val k).isSome_eq, ← l]
    exact h _ (I.tok _)
  · subst ey
    cases (show u = Value.ref b from ry)
    obtain ⟨z, hd, xs, rel, dd⟩ := dt_rd I.hok e
    refine wpAny_in_heap (tupleKind_room_in1 hu) (key_of I.hok eb) hd dd ?_
    have q := (rel.val k).isSome_eq
    rw [Option.isSome_map] at q
    rw [← q, ← l]
    exact h _ (I.tok _)
/-- a dict's object is replaced -/
theorem d_write {h' : Heap} {t' : Nat} {ob : HO} (I : Inv X pins σ H s) (mu : Mut (H a)) (hs : Heap.SameBut a s.heap h') (he : ∃ q, h'.get? a = some q) (new : ObjOk X.prog X.w (upd H a ob) h' a ob) :
    Inv X pins σ (upd H a ob) { s with heap := h', toks := t' } :=
  I.write (x := a) (e := a) mu (.inl rfl) (fun b q hb z => (hs.2 b hb).trans z) he new
theorem dk_new {P : Program} {w : World} {H' : Hp} {h' : Heap} {kvs : List (Key × V)} {vs : List (Key × Value)} (z : kvs.length ≤ sizeLine) (hd : (a == sysModules) = false) (rel : KV kvs vs) (dd : h'.DictOf (mixKind P w) a vs) :
    ObjOk P w H' h' a (.dK kvs) := ⟨z, hd, vs, rel, dd⟩
/-- d[y] = v -/
theorem d_setItem {H' : Hp} {Q : Unit → Shared → Prop} (hu : A.units + 1 < cLine) (I : Inv X pins σ H s) (g : DPut H a y v H') (ry : RelV y u) (rv : RelV v r) (h : ∀ s', Inv X pins σ H' s' → Q () s') :
    wpAny (model X.prog X.w) A (setItem (.ref a) u r) Q E s := by
  rcases g with ⟨kvs, k, e, ey, l, eH⟩ | ⟨kvs, k, b, e, ey, eb, l, eH⟩
  · subst ey eH
    obtain ⟨z, hd, vs, rel, dd⟩ := dk_of I.hok e
    have hz : vs.length ≤ sizeLine := by rw [← rel.length]; exact z
    have hl : (putK kvs k v).length ≤ sizeLine := by have := length_putK kvs k v; omega
    refine wpAny_setItem_pairs (hsz := hz) (kV_is ry) dd fun h' dd' hs => h _ ?_
    have he : ∃ q, h'.get? a = some q := let ⟨q, _, _, hq, _⟩ := dd'; ⟨q, hq⟩
    exact d_write I (by rw [e]; exact True.intro) hs he (dk_new hl hd (rel.put k rv) dd')
  · subst ey eH
    cases (show u = Value.ref b from ry)
    obtain ⟨z, hd, xs, rel, dd⟩ := dt_of I.hok e
    have hz : xs.length ≤ sizeLine := by rw [← Paired.length rel]; exact z
    have hl : (putK kvs k v).length ≤ sizeLine := by have := length_putK kvs k v; omega
    refine wpAny_setItem_heap (hsz := hz) (tupleKind_room_in1 hu) (key_of I.hok eb) dd fun h' dd' hs => h _ ?_
    obtain ⟨q, es, ep, hq, h2, h3, h4, _, h5⟩ := dd'
    refine d_write I (by rw [e]; exact True.intro) hs ⟨q, hq⟩ ⟨hl, hd, _, (rel.put k eb rv).keeps fun c ys ec => ?_, q, es, ep, hq, h2, h3, h4, h5⟩
    rw [upd_ne (ne_of ec e (fun z => nomatch z))]
    exact ec
end

section
variable {X : Cx} {pins : List (Addr × Obj)} {σ : St} {H : Hp} {s : Shared} {a : Addr} {kvs : List (Key × V)} {k : Key} {u : Value} {A : Around} {E : Value → Shared → Prop}
end


/-! ### readings and rules -/


/-- y in d, y not in d -/
def tDIn (ty td : TE) : TE := fun σ H Q => ty σ H fun y H1 => td σ H1 fun x H2 => ∃ a o, x = .ref a ∧ DGet H2 a y o ∧ Q (.bl o.isSome) H2
/-- d[y] = v -/
def sDPut (td ty tv : TE) : TS := fun D σ H => tv σ H fun v H1 => td σ H1 fun x H2 => ty σ H2 fun y H3 => ∃ a H4, x = .ref a ∧ DPut H3 a y v H4 ∧ D.nx σ H4

section
variable {X : Cx} {o i e value : Expr} {pos pos' tpos : Pos} {td ty tv : TE}
theorem pc_din (hu : X.A.units + 1 < cLine) (hi : PE X i ty) (ho : PE X o td) : PC X .In i o (tDIn ty td) := by
  intro pins s σ H Q I h
  refine thn (hi pins s σ H _ I h) fun iv s1 ⟨y, H1, I1, ry, q1⟩ => thn (ho pins s1 σ H1 _ I1 q1) fun u s2 ⟨x, H2, I2, rx, a, ov, ex, g, q2⟩ => ?_
  subst ex
  obtain rfl : u = Value.ref a := rx
  exact d_in hu I2 g ry fun s3 I3 => ⟨.bl ov.isSome, H2, I3, rfl, q2⟩
theorem ps_dput (hu : X.A.units + 1 < cLine) (ho : PE X o td) (hi : PE X i ty) (hv : PE X value tv) (hs : swapsWith value (some (.Subscript o i pos')) pos.line X.env = pure false) :
    PS X (.Assign [.Subscript o i pos'] value pos) (sDPut td ty tv) := by
  intro pins s σ H D I h
  refine wpAny_Assign_Subscript (thn (hv pins s σ H _ I h) fun r s1 ⟨v, H1, I1, rv, q1⟩ => thn (ho pins s1 σ H1 _ I1 q1) fun u s2 ⟨x, H2, I2, rx, q2⟩ => thn (hi pins s2 σ H2 _ I2 q2) fun iv s3 ⟨y, H3, I3, ry, a, H4, ex, g, q3⟩ => ?_) hs
  subst ex
  obtain rfl : u = Value.ref a := rx
  exact d_setItem hu I3 g ry rv fun s4 I4 => ⟨σ, H4, I4, q3⟩
end


/-! ### displays -/
theorem dk_empty {P : Program} {w : World} {H : Hp} (h : Heap) (hb : sysModules < h.objs.size) : ObjOk P w H (h.push { cls := .type "dict", data := .dict #[] }) h.objs.size (.dK []) :=
  ⟨Nat.zero_le _, beq_eq_false_iff_ne.mpr (Ne.symm (Nat.ne_of_lt hb)), [], .nil, Heap.DictOf.new h⟩
/-- {}, to be a dict of the kind that is wanted -/
def tDNewK : TE := fun _ H Q => ∀ p, H p = none → Q (.ref p) (upd H p (.dK []))
section
variable {X : Cx} {pos : Pos}
theorem pe_dnewK : PE X (.Dict [] [] pos) tDNewK := fun pins s σ H Q I h =>
  wpAny_Dict_empty ⟨.ref s.heap.objs.size, _, I.laid (a := s.heap.objs.size) (o := .dK []) (t' := s.toks) (fun _ _ q => Heap.get?_push_of_some _ q) (Nat.le_refl _) (dk_empty s.heap I.big), rfl, h _ (I.hok.fresh (Nat.le_refl _))⟩
end




/-! ### methods -/


section
variable {X : Cx} {pins : List (Addr × Obj)} {σ : St} {H : Hp} {s : Shared} {a : Addr} {y d : V} {u r : Value} {o : Option V} {A : Around} {E : Value → Shared → Prop}
end

section
variable {X : Cx} {o e f : Expr} {apos cpos : Pos} {td ty tx : TE}
end

/-! ### dict(d): a copy -/
section
variable {X : Cx} {pins : List (Addr × Obj)} {σ : St} {H : Hp} {s : Shared} {a : Addr} {kvs : List (Key × V)} {A : Around} {E : Value → Shared → Prop}
end


section
variable {X : Cx} {pins : List (Addr × Obj)} {σ : St} {H : Hp} {s : Shared} {a : Addr} {y : V} {u : Value} {A : Around} {E : Value → Shared → Prop}
end
end L2

namespace L2
open PySem PySem.Spec PyProof.Rows
section
variable {X : Cx}
end

/-! ### a dict's pairs: keys that differ -/
section
variable {κ : Type} [DecidableEq κ]
end
end L2


namespace L2
open PySem PySem.Spec PyProof.Rows

/-! ### list comprehensions: one clause, tests, any target -/
/-- the cells that a block takes from the frame around it -/
def clo (cells : List (Str × Addr)) : List (Str × NameKind) → List (Str × Addr) → List (Str × Addr)
  | [], cs => cs
  | (n, k) :: r, cs => clo cells r (if k == NameKind.free then (match cells.lookup n with | some a => (n, a) :: cs | none => cs) else cs)
theorem clo_loop {env : Env} : ∀ (names : List (Str × NameKind)) (cs : List (Str × Addr)), (∀ y ∈ names, y.2 = .free → ∃ c, env.cells.lookup y.1 = some c) →
    (forIn names cs fun (x : Str × NameKind) (r : List (Str × Addr)) => if (x.2 == NameKind.free) = true then (do let a ← cellOf env x.1; pure (ForInStep.yield ((x.1, a) :: r))) else (pure (ForInStep.yield r) : Sem (ForInStep (List (Str × Addr)))))
      = (pure (clo env.cells names cs) : Sem (List (Str × Addr)))
  | [], cs, _ => rfl
  | (n, k) :: r, cs, h => by
    have ih := clo_loop (env := env) r
    rw [List.forIn_cons]
    unfold clo
    cases hk : (k == NameKind.free) with
    | false =>
      simp only [Bool.false_eq_true, if_false]
      show (forIn r cs _ : Sem _) = _
      exact ih cs fun y hy => h y (List.mem_cons_of_mem _ hy)
    | true =>
      obtain ⟨c, hc⟩ := h (n, k) List.mem_cons_self (by simpa using hk)
      have hc' : env.cells.lookup n = some c := hc
      have e : cellOf env n = pure c := by unfold cellOf; rw [hc']
      simp only [if_true, e, hc']
      show (forIn r ((n, c) :: cs) _ : Sem _) = _
      exact ih _ fun y hy => h y (List.mem_cons_of_mem _ hy)
theorem clo_is {scope : Scope} {env : Env} (h : ∀ y ∈ scope.names, y.2 = .free → ∃ c, env.cells.lookup y.1 = some c) : closureFor scope env = pure (clo env.cells scope.names []) := by
  unfold closureFor
  have q := clo_loop (env := env) scope.names [] h
  refine Eq.trans ?_ (congrArg (fun z : Sem (List (Str × Addr)) => z >>= fun cs => pure cs) q)
  rfl
theorem clo_mem {cells : List (Str × Addr)} : ∀ (names : List (Str × NameKind)) (cs : List (Str × Addr)), (∀ p ∈ cs, cells.lookup p.1 = some p.2) → ∀ p ∈ clo cells names cs, cells.lookup p.1 = some p.2
  | [], cs, h, p, hp => h p hp
  | (n, k) :: r, cs, h, p, hp => by
    unfold clo at hp
    refine clo_mem r _ (fun q hq => ?_) p hp
    split at hq
    · split at hq
      · rename_i a e
        rcases List.mem_cons.mp hq with rfl | hq
        · exact e
        · exact h q hq
      · exact h q hq
    · exact h q hq
theorem clo_sub {cells : List (Str × Addr)} {names : List (Str × NameKind)} {x : Str} {c : Addr} (e : (clo cells names []).lookup x = some c) : cells.lookup x = some c :=
  clo_mem names [] (fun _ z => nomatch z) (x, c) (PySem.mem_of_lookup e)
theorem clo_keeps {cells : List (Str × Addr)} : ∀ (names : List (Str × NameKind)) (cs : List (Str × Addr)) (p : Str × Addr), p ∈ cs → p ∈ clo cells names cs
  | [], cs, p, hp => hp
  | (n, k) :: r, cs, p, hp => by
    unfold clo
    refine clo_keeps r _ p ?_
    split
    · split
      · exact List.mem_cons_of_mem _ hp
      · exact hp
    · exact hp
theorem clo_has {cells : List (Str × Addr)} {x : Str} {c : Addr} (hc : cells.lookup x = some c) : ∀ (names : List (Str × NameKind)) (cs : List (Str × Addr)), (x, NameKind.free) ∈ names → (x, c) ∈ clo cells names cs
  | [], _, h => nomatch h
  | (n, k) :: r, cs, h => by
    unfold clo
    rcases List.mem_cons.mp h with e | h
    · cases e
      refine clo_keeps r _ _ ?_
      rw [hc]
      simp
    · exact clo_has hc r _ h
theorem lookup_some_of_mem {x : Str} {c : Addr} : ∀ {l : List (Str × Addr)}, (x, c) ∈ l → ∃ d, l.lookup x = some d
  | [], h => nomatch h
  | (y, d) :: r, h => by
    rw [List.lookup_cons]
    cases e : (x == y) with
    | true => exact ⟨d, rfl⟩
    | false =>
      rcases List.mem_cons.mp h with z | z
      · cases z
        simp at e
      · exact lookup_some_of_mem z
theorem relabel_look {env : Env} : ∀ {names : List (Str × NameKind)} {x : Str} {k : NameKind},
    (names.map fun (n, k) => if (k == NameKind.free && env.scope.kind == .function && env.kindOf n == some .cell) then (n, NameKind.cell) else (n, k)).lookup x = some k →
      names.lookup x = some k ∨ (k = .cell ∧ names.lookup x = some .free)
  | [], _, _, h => by simp at h
  | (n, k0) :: r, x, k, h => by
    have ih := @relabel_look env r x k
    rw [List.map_cons] at h
    rw [List.lookup_cons]
    by_cases c : (k0 == NameKind.free && env.scope.kind == .function && env.kindOf n == some .cell) = true
    · have h' := h
      simp only [c, if_true] at h'
      rw [List.lookup_cons] at h'
      cases e : (x == n) with
      | true =>
        rw [e] at h'
        have c1 : k0 = .free := by
          simp only [Bool.and_eq_true] at c
          simpa using c.1.1
        refine .inr ⟨(Option.some.inj h').symm, ?_⟩
        rw [c1]
      | false =>
        rw [e] at h'
        exact ih h'
    · have h' := h
      simp only [c, Bool.false_eq_true, if_false] at h'
      rw [List.lookup_cons] at h'
      cases e : (x == n) with
      | true =>
        rw [e] at h'
        exact .inl h'
      | false =>
        rw [e] at h'
        exact ih h'
theorem relabel_free {env : Env} : ∀ {names : List (Str × NameKind)} {x : Str}, names.lookup x = some .free →
    (names.map fun (n, k) => if (k == NameKind.free && env.scope.kind == .function && env.kindOf n == some .cell) then (n, NameKind.cell) else (n, k)).lookup x = some .cell ∨
    (names.map fun (n, k) => if (k == NameKind.free && env.scope.kind == .function && env.kindOf n == some .cell) then (n, NameKind.cell) else (n, k)).lookup x = some .free
  | [], _, h => by simp at h
  | (n, k0) :: r, x, h => by
    have ih := @relabel_free env r x
    rw [List.map_cons]
    rw [List.lookup_cons] at h
    by_cases c : (k0 == NameKind.free && env.scope.kind == .function && env.kindOf n == some .cell) = true
    · simp only [c, if_true, List.lookup_cons]
      cases e : (x == n) with
      | true => exact .inl rfl
      | false =>
        rw [e] at h
        exact ih h
    · simp only [c, Bool.false_eq_true, if_false, List.lookup_cons]
      cases e : (x == n) with
      | true =>
        rw [e] at h
        exact .inr h
      | false =>
        rw [e] at h
        exact ih h

/-- what a block's scope must be like: sc the frame's scope around it -/
def compOk (sc scope : Scope) : Bool :=
  scope.kind == .function && scope.names.all fun y => y.2 != .cell && (y.2 != .local || scope.names.lookup y.1 == some .local) && (y.2 != .free || (sc.names.lookup y.1 == some .cell || sc.names.lookup y.1 == some .free))
structure CompScope (sc scope : Scope) : Prop where
  kind : scope.kind = .function
  cell : ∀ y ∈ scope.names, y.2 ≠ .cell
  own : ∀ y ∈ scope.names, y.2 = .local → scope.names.lookup y.1 = some .local
  free : ∀ y ∈ scope.names, y.2 = .free → sc.names.lookup y.1 = some .cell ∨ sc.names.lookup y.1 = some .free
theorem CompScope.of {sc scope : Scope} (h : compOk sc scope = true) : CompScope sc scope := by
  unfold compOk at h
  rw [Bool.and_eq_true, List.all_eq_true] at h
  obtain ⟨h1, h2⟩ := h
  have h3 : ∀ y ∈ scope.names, (y.2 ≠ .cell ∧ (y.2 ≠ .local ∨ scope.names.lookup y.1 = some .local)) ∧ (y.2 ≠ .free ∨ (sc.names.lookup y.1 = some .cell ∨ sc.names.lookup y.1 = some .free)) := fun y hy => by
    have q := h2 y hy
    simpa [Bool.and_eq_true, Bool.or_eq_true] using q
  refine ⟨by simpa using h1, fun y hy => (h3 y hy).1.1, fun y hy e => ?_, fun y hy e => ?_⟩
  · exact (h3 y hy).1.2.resolve_left fun n => n e
  · exact (h3 y hy).2.resolve_left fun n => n e

/-- the context of a block -/
def cxB (X : Cx) (NC : List Str) (scope : Scope) (s3 : Shared) (H3 : Hp) (fp : List Addr) : Cx :=
  { X with N := NC, s₀ := s3, H₀ := H3, env := compEnvC scope (clo X.env.cells scope.names []) s3.heap.objs.size X.env, outer := X.stack, ex := fp, fn := fun _ => false, pn := [], xe := fun _ _ => False }
/-- the names at a block's entry: its own (none yet), then those of the frame, by their places there -/
def capt (own : Nat) (ix : List Nat) (σ : St) : St := List.replicate own none ++ ix.map fun j => (σ[j]?).getD none
/-- the caught names cs stand at the places ix of the frame -/
def Caps (X : Cx) (scope : Scope) : List Str → List Nat → Prop
  | [], [] => True
  | x :: cs, j :: js => (X.N[j]? = some x ∧ (X.env.kindOf x = some .cell ∨ X.env.kindOf x = some .free) ∧ scope.names.lookup x = some .free) ∧ Caps X scope cs js
  | _, _ => False
theorem Caps.len {X : Cx} {scope : Scope} : ∀ {cs : List Str} {js : List Nat}, Caps X scope cs js → cs.length = js.length
  | [], [], _ => rfl
  | _ :: _, _ :: _, h => by rw [List.length_cons, List.length_cons, Caps.len h.2]
  | [], _ :: _, h => h.elim
  | _ :: _, [], h => h.elim
theorem Caps.at {X : Cx} {scope : Scope} : ∀ {cs : List Str} {js : List Nat} {i : Nat} {x : Str}, Caps X scope cs js → cs[i]? = some x →
    ∃ j, js[i]? = some j ∧ X.N[j]? = some x ∧ (X.env.kindOf x = some .cell ∨ X.env.kindOf x = some .free) ∧ scope.names.lookup x = some .free
  | [], [], _, _, _, e => by simp at e
  | x :: _, j :: _, 0, _, h, e => by simp at e; subst e; exact ⟨j, rfl, h.1⟩
  | _ :: _, _ :: _, i + 1, _, h, e => by
    obtain ⟨j, e1, r⟩ := Caps.at (i := i) h.2 (by simpa using e)
    exact ⟨j, by simpa using e1, r⟩
  | [], _ :: _, _, _, h, _ => h.elim
  | _ :: _, [], _, _, h, _ => h.elim

def PTs (Y : Cx) (ifs : List Expr) (t : TT) : Prop :=
  ∀ (pins : List (Addr × Obj)) (s : Shared) (σ : St) (H : Hp) (Q : Bool → Hp → Prop), Inv Y pins σ H s → t σ H Q →
    wpAny (model Y.prog Y.w) Y.A (forIn ifs true fun c r => if r = true then do let ok ← isTrue c Y.env (eval c Y.env); pure (ForInStep.yield ok) else pure (ForInStep.yield r)) (TP Y pins σ Q) Y.xe s
theorem pts_one {Y : Cx} {c : Expr} {t : TT} (h : PT Y c t) : PTs Y [c] t := fun pins s σ H Q I q => wpAny_tests_one (h pins s σ H Q I q)

/-- what is asked of a comprehension whose iterator has come and whose list stands at p: W the word by the turn, a measure, the list so far, the block's names, the heap; N what a turn is to reach -/
def CompW (g : TG) (tc : TT) (te : TE) (own : Nat) (ix : List Nat) (σ : St) (J : It) (p : Addr) (H1 : Hp) (QQ : Hp → Prop) : Prop :=
  ∃ W : Nat → Nat → List V → St → Hp → Prop, (∃ m, W 0 m [] (capt own ix σ) (upd H1 p (.lst []))) ∧ ∀ i m ys σ2 H2, W i m ys σ2 H2 → H2 p = some (.lst ys) ∧
    ((J.stop i H2 ∧ QQ H2) ∨ (J.go i H2 ∧ ys.length < sizeLine ∧ ∀ x H3, J.yld i H2 x H3 → ∃ N : List V → St → Hp → Prop, (∀ ys' σ' H', N ys' σ' H' → ∃ m', m' < m ∧ W (i + 1) m' ys' σ' H') ∧
      g x σ2 H3 fun σ4 H4 => tc σ4 H4 fun b H5 => if b = true then te σ4 H5 fun y H6 => H6 p = some (.lst ys) ∧ N (ys ++ [y]) σ4 (upd H6 p (.lst (ys ++ [y]))) else N ys σ4 H5))
/-- a list comprehension's reading -/
def tComp (wi : TI) (g : TG) (tc : TT) (te : TE) (own : Nat) (ix : List Nat) : TE := fun σ H Q => wi σ H fun J H1 => ∀ p, H1 p = none → CompW g tc te own ix σ J p H1 (Q (.ref p))

/-- a turn of the loop, the store of the target among it -/
theorem comp_loop {prog : Program} {w : World} {A : Around} {R : Result → Shared → Prop} {s : Shared} {elt target iter : Expr} {ifs : List Expr} {scope : Scope} {pos : Pos} {it acc : Value} {env : Env} (I : Nat → Shared → Prop)
    (turn : ∀ n s, I n s → wpAny (model prog w) A (pyNext it) (fun r s₁ => (r = none ∧ R (.ok .next) s₁) ∨ ∃ v, r = some v ∧
      wpAny (model prog w) A (letOwnedTupleGo target it v) (fun _ s₂ => wpAny (model prog w) A (assign target env v) (fun _ s₃ =>
        wpAny (model prog w) A (forIn ifs true fun c r => if r = true then do let ok ← isTrue c env (eval c env); pure (ForInStep.yield ok) else pure (ForInStep.yield r)) (fun ok s₄ =>
          (ok = true ∧ wpAny (model prog w) A (eval elt env) (fun x s₅ => wpAny (model prog w) A (call (.builtin "list.append") [acc, x]) (fun _ s₆ => ∃ m, m < n ∧ I m s₆) (fun _ _ => False) s₅) (fun _ _ => False) s₄) ∨
          (ok = false ∧ ∃ m, m < n ∧ I m s₄)) (fun _ _ => False) s₃) (fun _ _ => False) s₂) (fun _ _ => False) s₁) (fun _ _ => False) s)
    (n : Nat) (h : I n s) : codeAny (model prog w) A (.compLoop (.ListComp elt [⟨target, iter, ifs, 0⟩] scope pos) 0 it acc env) R s := by
  refine codeAny_loop rfl I (fun n s hI => ?_) n h
  show wpAny _ A ((compTurn (.ListComp elt [⟨target, iter, ifs, 0⟩] scope pos) 0 it acc env).onRaise (fun x => do noteFrame x env; theTreesLotGoes x)) _ _ s
  refine wpAny_noted ?_
  rw [compTurn_list]
  have no : ∀ (e : Value) (s' : Shared), False → notedBy (model prog w) A env (fun e s' => R (.error e) s') e s' := fun _ _ f => f.elim
  refine wpAny_bind (wpAny_standAt (wpAny_bind (wpAny_mono (turn n s hI) (fun r s₁ h₁ => ?_) no)))
  rcases h₁ with ⟨rfl, h₁⟩ | ⟨v, rfl, h₁⟩
  · exact wpAny_pure h₁
  refine wpAny_bind (wpAny_mono h₁ (fun _ s₂ h₂ => ?_) no)
  refine wpAny_bind (wpAny_mono h₂ (fun _ s₃ h₃ => ?_) no)
  refine wpAny_bind (wpAny_mono h₃ (fun ok s₄ h₄ => ?_) no)
  rcases h₄ with ⟨rfl, h₄⟩ | ⟨rfl, h₄⟩
  · refine wpAny_bind (wpAny_bind (wpAny_mono h₄ (fun x s₅ h₅ => ?_) no))
    exact wpAny_bind (wpAny_mono h₅ (fun _ s₆ h₆ => wpAny_pure (wpAny_pure ⟨rfl, h₆⟩)) no)
  · exact wpAny_pure ⟨rfl, h₄⟩

section
variable {X : Cx} {pins : List (Addr × Obj)} {σ : St} {H H' : Hp} {s s' : Shared}
/-- a block's entry: s3 the state with the new list laid, h4 the heap with the block's own names laid behind it -/
theorem block_start {NC own cs : List Str} {ix : List Nat} {scope : Scope} {fp : List Addr} {h4 : Heap} {t4 : Nat} (I : Inv X pins σ H s) (S : CompScope X.env.scope scope) (hN : NC = own ++ cs) (hc : Caps X scope cs ix)
    (hf : ∀ b ∈ fp, FpOk X pins H b) (hl : ∀ b ∈ fp, b < s.heap.objs.size) (hns : h4.Ns s.heap.objs.size fun _ => none) (hk : ∀ b o, s.heap.get? b = some o → h4.get? b = some o) :
    Inv (cxB X NC scope s H fp) [] (capt own.length ix σ) H { s with heap := h4, toks := t4 } := by
  have cs_has : ∀ y ∈ scope.names, y.2 = .free → ∃ c, X.env.cells.lookup y.1 = some c := fun y hy e => I.ok.has y.1 (S.free y hy e)
  have len := hc.len
  refine ⟨⟨I.ok.mod, S.kind, I.ok.glob, I.ok.blt, Nat.le_refl _, fun x y c e1 e2 => I.ok.inj x y c (clo_sub e1) (clo_sub e2), fun x hx => ?_, fun _ _ z => (nomatch z), I.ok.hd, I.ok.frames, .inl rfl, fun b hb => ⟨Nat.ne_of_lt (hl b hb), fun x c e => (hf b hb).2.2.2.2.1 x c (clo_sub e)⟩,
      I.bs, Nat.le_trans I.ok.bsz I.sz, fun b o e hb => ?_, fun b hb z => ?_, I.stack, I.stkFree⟩, rfl, I.bare, Un.kept hk, ⟨_, hns, fun i x v e1 e2 e3 => ?_⟩, fun x c e => ?_, I.hok.fresh (Nat.le_refl _), fun x c e => I.freeC x c (clo_sub e), fun p hp => ?_, I.hok.kept hk, ?_⟩
  · -- a cell for each caught name
    have hx' : (relabel scope X.env).names.lookup x = some .cell ∨ (relabel scope X.env).names.lookup x = some .free := hx
    have q : scope.names.lookup x = some .free := by
      rcases hx' with h | h
      · rcases relabel_look h with h | ⟨_, h⟩
        · exact absurd rfl (S.cell _ (PySem.mem_of_lookup h))
        · exact h
      · rcases relabel_look h with h | ⟨z, _⟩
        · exact h
        · cases z
    obtain ⟨c, hc'⟩ := cs_has (x, .free) (PySem.mem_of_lookup q) rfl
    exact lookup_some_of_mem (clo_has hc' scope.names [] (PySem.mem_of_lookup q))
  · rcases (hf b hb).2.2.2.1 with z | z
    · exact I.ok.noex b o e z
    · exact absurd (Nat.lt_of_lt_of_le (Heap.lt_size e) (Nat.le_trans I.ok.bsz z)) (Nat.lt_irrefl _)
  · rcases List.mem_cons.mp (I.stkSub b z) with z | z
    · exact (hf b hb).2.1 z
    · exact (hf b hb).2.2.1 z
  · -- the caught names' values
    have e1' : (own ++ cs)[i]? = some x := hN ▸ e1
    have hi : own.length ≤ i := by
      by_cases hi : own.length ≤ i
      · exact hi
      · unfold capt at e2
        rw [List.getElem?_append_left (by rw [List.length_replicate]; omega), List.getElem?_replicate, if_pos (by omega)] at e2
        cases e2
    rw [List.getElem?_append_right hi] at e1'
    obtain ⟨j, ej, en, kx, fx⟩ := hc.at e1'
    have e2' : (σ[j]?).getD none = some v := by
      unfold capt at e2
      rw [List.getElem?_append_right (by rw [List.length_replicate]; omega), List.length_replicate, List.getElem?_map, ej] at e2
      exact Option.some.inj e2
    have e2'' : σ[j]? = some (some v) := by
      cases z : σ[j]? with
      | none => rw [z] at e2'; cases e2'
      | some o => rw [z] at e2'; exact congrArg some e2'
    obtain ⟨m, _, hl'⟩ := I.loc
    obtain ⟨u, ru, l⟩ := hl' j x v en e2'' (kx.elim (fun z => .inr (.inl z)) fun z => .inr (.inr z))
    refine ⟨u, ru, .inr ⟨relabel_free fx, ?_⟩⟩
    rcases l with ⟨k, _⟩ | ⟨_, c, e, z⟩
    · rcases kx with k' | k' <;> rw [k] at k' <;> cases k'
    · obtain ⟨d, hd⟩ := lookup_some_of_mem (clo_has e scope.names [] (PySem.mem_of_lookup fx))
      have e' := clo_sub hd
      rw [e] at e'
      cases e'
      obtain ⟨o, ho, dd⟩ := z
      exact ⟨c, hd, o, hk c o ho, dd⟩
  · obtain ⟨v, o, ho, dd⟩ := I.cell x c (clo_sub e)
    exact ⟨v, o, hk c o ho, dd⟩
  · exact absurd (show p ∈ ([] : List (Addr × Obj)) from hp) (by simp)
  · show (capt own.length ix σ).length = NC.length
    rw [hN]
    unfold capt
    rw [List.length_append, List.length_append, List.length_replicate, List.length_map, len]
/-- .. and its end: the frame around it goes on -/
theorem block_end {NC : List Str} {scope : Scope} {fp : List Addr} {σ' : St} {h' : Heap} (I : Inv X pins σ H s) (hf : ∀ b ∈ fp, FpOk X pins H b) (J : Inv (cxB X NC scope s H fp) [] σ' H' s') (hs : Heap.SameBut s.heap.objs.size s'.heap h') : Inv X pins σ H' { s' with heap := h' } := by
  obtain ⟨hh, g, d, t, os⟩ := s'
  have hos : os = s.os := J.os
  subst hos
  have nC : H' s.heap.objs.size = none := J.free
  have un : Un (frs X.stack) fp H H' s.heap hh := J.base
  have out : ∀ b o, s.heap.get? b = some o → b ≠ s.heap.objs.size := fun b o e => Nat.ne_of_lt (Heap.lt_size e)
  have un' : Un (frs X.stack) fp H H' s.heap h' := ⟨fun b o e n hb hx => (hs.2 b (out b o e)).trans (un.keep b o e n hb hx), fun b o e n hb hx => let ⟨sl, q⟩ := un.slot b o e n hb hx; ⟨sl, (hs.2 b (out b o e)).trans q⟩, un.free,
    fun b o e hx => let ⟨o', q⟩ := un.there b o e hx; ⟨o', (hs.2 b (out b o e)).trans q⟩, un.tups, un.frzs, un.tbls⟩
  have hok : HOk X.prog X.w H' h' := fun b u e => by
    refine (J.hok b u e).stay (fun c v hc q => (hs.2 c ?_).trans q) (fun _ q => q) fun _ _ q => q
    rintro rfl
    rcases hc with rfl | hc
    · rw [nC] at e; cases e
    · rw [nC] at hc; cases hc
  have q := Inv.call (s := s) (h' := h') (g' := g) (d' := d) (t' := t) (ch := fp) I un' hok J.bare fun b hb => ⟨(hf b hb).2.2.2.1, (hf b hb).2.1, (hf b hb).2.2.2.2.1, (hf b hb).2.2.2.2.2⟩
  exact q
end
/-- the block from the new list on: what is wanted behind its last turn is told by fin -/
theorem comp_core {X : Cx} {elt tg iter : Expr} {ifs : List Expr} {scope : Scope} {pos : Pos} {NC own cs : List Str} {ix : List Nat} {g : TG} {tc : TT} {te : TE} (hc : X.calm = true) (S : CompScope X.env.scope scope) (hN : NC = own ++ cs) (hcap : Caps X scope cs ix)
    (hg : ∀ s3 H3 fp, PG (cxB X NC scope s3 H3 fp) tg g) (ht : ∀ s3 H3 fp, PTs (cxB X NC scope s3 H3 fp) ifs tc) (he : ∀ s3 H3 fp, PE (cxB X NC scope s3 H3 fp) elt te)
    {pins : List (Addr × Obj)} {σ : St} {H2 : Hp} {s2 : Shared} {it : Addr} {fp : List Addr} {tn : Nat → Heap → Prop} {J : It} (I2 : Inv X pins σ H2 s2) (T : Turn X.prog X.w X.K tg J fp it tn) (st2 : tn 0 s2.heap) (f2 : ∀ b ∈ fp, FpOk X pins H2 b) {QQ : Addr → Hp → Prop} {E : Value → Shared → Prop}
    {RR : Value → Addr → Result → Shared → Prop}
    (h2 : ∀ p, H2 p = none → CompW g tc te own.length ix σ J p H2 (QQ p))
    (fin : ∀ s3 H3 σ5 H5 s6, Inv X pins σ H3 s3 → (∀ b ∈ fp, FpOk X pins H3 b) → Inv (cxB X NC scope s3 H3 fp) [] σ5 H5 s6 → QQ s2.heap.objs.size H5 → RR (.ref s2.heap.objs.size) s3.heap.objs.size (.ok .next) s6) :
    wpAny (model X.prog X.w) X.A (newList []) (fun acc s3 => wpAny (model X.prog X.w) X.A (newFunctionEnv scope X.env.globals (clo X.env.cells scope.names []) [] X.env.qual none .none (some X.env)) (fun cenv s4 =>
      codeAny (model X.prog X.w) X.A (.compStart (.ListComp elt [⟨tg, iter, ifs, 0⟩] scope pos) 0 (.ref it) acc { cenv with scope := relabel scope X.env }) (RR acc cenv.locals) s4) E s3) E s2 := by
  have lt2 : ∀ b ∈ fp, b < s2.heap.objs.size := fun b hb => let ⟨_, e, _⟩ := T.obj _ _ st2 b hb; Heap.lt_size e
  obtain ⟨W, ⟨m0, w0⟩, turn⟩ := h2 _ I2.fresh
  refine wpAny_newObj_type ?_
  have I3 : Inv X pins σ (upd H2 s2.heap.objs.size (.lst [])) { s2 with heap := s2.heap.push { cls := .type "list", dict := none, data := .seq ([] : List Value).toArray } } := I2.lnew (t' := s2.toks) .nil (Nat.zero_le _)
  have f3 : ∀ b ∈ fp, FpOk X pins (upd H2 s2.heap.objs.size (.lst [])) b := fun b hb => ⟨by rw [upd_ne (Nat.ne_of_lt (lt2 b hb))]; exact (f2 b hb).1, (f2 b hb).2⟩
  have st3 : tn 0 (s2.heap.push { cls := .type "list", dict := none, data := .seq ([] : List Value).toArray }) := T.keep _ _ _ st2 fun b hb o e => Heap.get?_push_of_some _ e
  have lt3 : ∀ b ∈ fp, b < (s2.heap.push { cls := .type "list", dict := none, data := .seq ([] : List Value).toArray }).objs.size := fun b hb => by rw [Heap.size_push]; exact Nat.lt_succ_of_lt (lt2 b hb)
  refine wpAny_newFunctionEnv S.cell (fun _ z => nomatch z) (fun h4 hns hsb => ?_) S.kind
  dsimp only at hns hsb ⊢
  have hk4 : ∀ b o, (s2.heap.push { cls := .type "list", dict := none, data := .seq ([] : List Value).toArray }).get? b = some o → h4.get? b = some o := fun b o e =>
    hsb.extBut b o (Nat.ne_of_lt (Heap.lt_size e)) (Heap.get?_push_of_some _ e)
  have J0 := block_start (t4 := s2.toks + ([] : List (Str × Value)).length) I3 S hN hcap f3 lt3 hns hk4
  have st4 : tn 0 h4 := T.keep _ _ _ st3 fun b hb o e => hk4 b o e
  have fB : ∀ {H' : Hp}, (∀ b ∈ fp, H' b = none) → ∀ b ∈ fp, FpOk (cxB X NC scope { s2 with heap := s2.heap.push { cls := .type "list", dict := none, data := .seq ([] : List Value).toArray } } (upd H2 s2.heap.objs.size (.lst [])) fp) [] H' b := fun hn b hb => by
    refine ⟨hn b hb, Nat.ne_of_lt (lt3 b hb), fun z => ?_, .inl hb, fun x c e => (f3 b hb).2.2.2.2.1 x c (clo_sub e), fun p hp => absurd (show p ∈ ([] : List (Addr × Obj)) from hp) (by simp)⟩
    rcases List.mem_cons.mp (I3.stkSub b z) with z | z
    · exact (f3 b hb).2.1 z
    · exact (f3 b hb).2.2.1 z
  have loop : ∀ s4 : Shared, s4 = { s2 with heap := h4, toks := s2.toks + ([] : List (Str × Value)).length } →
      codeAny (model X.prog X.w) X.A (.compLoop (.ListComp elt [⟨tg, iter, ifs, 0⟩] scope pos) 0 (.ref it) (.ref s2.heap.objs.size) (compEnvC scope (clo X.env.cells scope.names []) (s2.heap.push { cls := .type "list", dict := none, data := .seq ([] : List Value).toArray }).objs.size X.env))
        (RR (.ref s2.heap.objs.size) (s2.heap.push { cls := .type "list", dict := none, data := .seq ([] : List Value).toArray }).objs.size) s4 := by
    rintro s4 rfl
    refine comp_loop (fun n s' => ∃ i ys σ' H', Inv (cxB X NC scope { s2 with heap := s2.heap.push { cls := .type "list", dict := none, data := .seq ([] : List Value).toArray } } (upd H2 s2.heap.objs.size (.lst [])) fp) [] σ' H' s' ∧ tn i s'.heap ∧ (∀ b ∈ fp, H' b = none) ∧ W i n ys σ' H') ?_ m0
      ⟨0, [], _, _, J0, st4, fun b hb => (f3 b hb).1, w0⟩
    rintro n s5 ⟨i, ys, σ5, H5, J5, st5, fr5, w5⟩
    obtain ⟨hp5, alt⟩ := turn i n ys σ5 H5 w5
    rcases alt with ⟨stop, qn⟩ | ⟨go, hz, step⟩
    · refine thn (T.done (cxB X NC scope _ _ fp) rfl rfl rfl hc i [] s5 σ5 H5 _ J5 (fB fr5) st5 stop) fun r s6 ⟨hr, J6⟩ => .inl ⟨hr, ?_⟩
      exact fin _ _ _ _ _ I3 f3 J6 qn
    · refine thn (T.item (cxB X NC scope _ _ fp) rfl rfl rfl hc i [] s5 σ5 H5 _ J5 (fB fr5) st5 go) fun r s6 ⟨u, hr, h6⟩ => .inr ⟨u, hr, ?_⟩
      refine thn h6 fun _ s7 ⟨x, H7, J7, r7, y7, st7, fr7⟩ => ?_
      have J7' := J7.pinned (fB fr7) (T.obj _ _ st7)
      obtain ⟨N, hN', q7⟩ := step x H7 y7
      refine thn (hg _ _ fp _ s7 σ5 H7 x u _ J7' r7 q7) fun _ s8 ⟨σ8, H8, J8, q8⟩ => ?_
      refine thn (ht _ _ fp _ s8 σ8 H8 _ J8 q8) fun ok s9 ⟨H9, J9, q9⟩ => ?_
      have again : ∀ {σa : St} {Ha : Hp} {sa : Shared} {ya : List V} {ma : Nat}, Inv (cxB X NC scope { s2 with heap := s2.heap.push { cls := .type "list", dict := none, data := .seq ([] : List Value).toArray } } (upd H2 s2.heap.objs.size (.lst [])) fp) ([] ++ pinsAt fp s7.heap) σa Ha sa → ma < n → W (i + 1) ma ya σa Ha →
          ∃ m, m < n ∧ ∃ i ys σ' H', Inv (cxB X NC scope { s2 with heap := s2.heap.push { cls := .type "list", dict := none, data := .seq ([] : List Value).toArray } } (upd H2 s2.heap.objs.size (.lst [])) fp) [] σ' H' sa ∧ tn i sa.heap ∧ (∀ b ∈ fp, H' b = none) ∧ W i m ys σ' H' := fun {σa Ha sa ya ma} Ja hm wa => by
        refine ⟨ma, hm, i + 1, ya, σa, Ha, Ja.unpinned, T.keep _ _ _ st7 fun b hb o e => (Ja.pin (b, o) (List.mem_append_right _ (List.mem_append_right _ (mem_pinsAt hb e)))).1, fun b hb => ?_, wa⟩
        obtain ⟨o, e, d⟩ := T.obj _ _ st7 b hb
        exact (Ja.pin (b, o) (List.mem_append_right _ (List.mem_append_right _ (mem_pinsAt hb e)))).2.1
      cases ok with
      | false =>
        obtain ⟨m', hm, w'⟩ := hN' _ _ _ (show N ys σ8 H9 from q9)
        exact .inr ⟨rfl, again J9 hm w'⟩
      | true =>
        refine .inl ⟨rfl, thn (he _ _ fp _ s9 σ8 H9 _ J9 q9) fun yv s10 ⟨y, H10, J10, r10, hp10, n10⟩ => ?_⟩
        obtain ⟨m', hm, w'⟩ := hN' _ _ _ n10
        refine thn (mt_append _ s10 σ8 H10 (.ref s2.heap.objs.size) [y] (.ref s2.heap.objs.size) [yv] (fun _ Hz => Hz = upd H10 s2.heap.objs.size (.lst (ys ++ [y]))) J10 rfl (.cons r10 .nil) ⟨_, ys, y, rfl, rfl, hp10, hz, rfl⟩) fun _ s11 ⟨_, H11, J11, _, e11⟩ => ?_
        subst e11
        exact again J11 hm w'
  exact codeAny_compStart_list (loop _ rfl) (T.self X.A 0 _ _ _ st4 (loop _ rfl))
/-- [elt for tg in iter if ..] -/
theorem pe_comp {X : Cx} {elt tg iter : Expr} {ifs : List Expr} {scope : Scope} {pos : Pos} {NC own cs : List Str} {ix : List Nat} {wi : TI} {g : TG} {tc : TT} {te : TE} (hc : X.calm = true) (S : CompScope X.env.scope scope) (hN : NC = own ++ cs) (hcap : Caps X scope cs ix)
    (hi : PI X tg iter wi) (hg : ∀ s3 H3 fp, PG (cxB X NC scope s3 H3 fp) tg g) (ht : ∀ s3 H3 fp, PTs (cxB X NC scope s3 H3 fp) ifs tc) (he : ∀ s3 H3 fp, PE (cxB X NC scope s3 H3 fp) elt te)
    (hs : ∀ x, foldedSetIterable iter X.env x = pure x := by intro _; rfl) : PE X (.ListComp elt [⟨tg, iter, ifs, 0⟩] scope pos) (tComp wi g tc te own.length ix) := by
  intro pins s σ H Q I h
  rw [eval_ListComp]
  have has : ∀ y ∈ scope.names, y.2 = .free → ∃ c, X.env.cells.lookup y.1 = some c := fun y hy e => I.ok.has y.1 (S.free y hy e)
  refine wpAny_comprehension_free (use := none) rfl hs (clo_is has) S.kind S.own (thn (hi pins s σ H _ I h) fun v s1 h1 => thn h1 fun itv s2 h2 => ?_)
  obtain ⟨it, fp, tn, J, H2, e, I2, T, st2, f2, h2⟩ := h2
  subst e
  refine comp_core hc S hN hcap hg ht he I2 T st2 f2 (QQ := fun p => Q (.ref p)) (RR := fun acc C => compPost (model X.prog X.w) X.A X.xe none (EP X pins σ Q) acc C) h2 fun s3 H3 σ5 H5 s6 I3 f3 J6 qn => ?_
  obtain ⟨m6, hn6, _⟩ := J6.loc
  exact ⟨m6, hn6, fun h7 hs7 => ⟨.ref s2.heap.objs.size, H5, block_end I3 f3 J6 hs7, rfl, qn⟩⟩
/-- x = [elt for ..]: the value is stored before the block's names are let go -/
theorem ps_comp {X : Cx} {elt tg iter : Expr} {ifs : List Expr} {scope : Scope} {pos py spos : Pos} {NC own cs : List Str} {ix : List Nat} {wi : TI} {g : TG} {tc : TT} {te : TE} {y : Str} {j : Nat} (hnd : X.N.Nodup) (hj : X.N[j]? = some y) (hy : X.env.scope.names.lookup y = some .local) (hc : X.calm = true) (S : CompScope X.env.scope scope) (hN : NC = own ++ cs) (hcap : Caps X scope cs ix)
    (hi : PI X tg iter wi) (hg : ∀ s3 H3 fp, PG (cxB X NC scope s3 H3 fp) tg g) (ht : ∀ s3 H3 fp, PTs (cxB X NC scope s3 H3 fp) ifs tc) (he : ∀ s3 H3 fp, PE (cxB X NC scope s3 H3 fp) elt te)
    (hsw : swapsWith (.ListComp elt [⟨tg, iter, ifs, 0⟩] scope pos) (some (.Name y py)) spos.line X.env = pure true := by rfl) (hs : ∀ x, foldedSetIterable iter X.env x = pure x := by intro _; rfl) :
    PS X (.Assign [.Name y py] (.ListComp elt [⟨tg, iter, ifs, 0⟩] scope pos) spos) (tAsg (tComp wi g tc te own.length ix) (gName j)) := by
  intro pins s σ H D I h
  rw [exec_Assign_Name_used _ _ _ _ hsw]
  refine wpAny_bind (wpAny_standAt (wpAny_bind ?_))
  show wpAny _ X.A (comprehension (.ListComp elt [⟨tg, iter, ifs, 0⟩] scope pos) scope X.env _ (newList []) false (eval iter X.env) (some (assign (.Name y py) X.env)) >>= fun _ => _) _ _ s
  have has : ∀ y ∈ scope.names, y.2 = .free → ∃ c, X.env.cells.lookup y.1 = some c := fun y hy e => I.ok.has y.1 (S.free y hy e)
  refine wpAny_bind (thn (wpAny_comprehension_free (use := some (assign (.Name y py) X.env)) (Q := fun _ s' => SP X pins D .next s') rfl hs (clo_is has) S.kind S.own (thn (hi pins s σ H _ I h) fun v s1 h1 => thn h1 fun itv s2 h2 => ?_)) fun _ s' hq => wpAny_pure (wpAny_pure hq))
  obtain ⟨it, fp, tn, J, H2, e, I2, T, st2, f2, h2⟩ := h2
  subst e
  refine comp_core hc S hN hcap hg ht he I2 T st2 f2 (QQ := fun p H' => D.nx (σ.set j (some (.ref p))) H') (RR := fun acc C => compPost (model X.prog X.w) X.A X.xe (some (assign (.Name y py) X.env)) (fun _ s' => SP X pins D .next s') acc C) h2 fun s3 H3 σ5 H5 s6 I3 f3 J6 qn => ?_
  obtain ⟨m6, hn6, _⟩ := J6.loc
  have I6 := block_end I3 f3 J6 (Heap.SameBut.refl ..)
  show wpAny _ X.A (assign (.Name y py) X.env (.ref s2.heap.objs.size)) _ _ s6
  refine wpAny_assign_Name (store_ok2 (v := .ref s2.heap.objs.size) I6 hnd hj (.inl hy) rfl (fun s7 I7 ⟨a, hs7, ha⟩ => ?_) (.inr hy))
  have hCa : s3.heap.objs.size ≠ a := by
    rcases ha with ha | ha
    · rw [ha]; exact Ne.symm (Nat.ne_of_lt I3.lt)
    · obtain ⟨v, q⟩ := I3.cell y a ha
      exact Ne.symm (Nat.ne_of_lt q.lt)
  refine ⟨m6, hn6.sameBut hs7 hCa, fun h8 hs8 => ?_⟩
  have nC : H5 s3.heap.objs.size = none := J6.free
  have I8 : Inv X pins (σ.set j (some (.ref s2.heap.objs.size))) H5 { s7 with heap := h8, toks := s7.toks } := by
    refine I7.turned (it := s3.heap.objs.size) (fun b o hb e => (hs8.2 b hb).trans e) nC (Ne.symm (Nat.ne_of_lt I3.lt)) (.inr I3.sz) (fun x c e z => ?_) (fun p hp z => ?_)
    · obtain ⟨v, q⟩ := I3.cell x c e
      exact absurd (z ▸ q.lt) (Nat.lt_irrefl _)
    · exact absurd (z ▸ Heap.lt_size (I3.pin p hp).1) (Nat.lt_irrefl _)
  exact ⟨_, H5, I8, qn⟩
end L2

namespace L2
open PySem PySem.Spec PyProof.Rows

/-! ### isinstance -/
theorem call_isinst {X : Cx} : CallR X (.builtin "isinstance") (fun xs H Q => ∃ x c cv t b, xs = [x, c] ∧ (∀ u, RelV c u → u = cv) ∧ TyOf X.K H x t ∧ PySem.W.kitOne X.K t cv = some b ∧ Q (.bl b) H) := by
  intro pins s σ H xs us Q I r h
  obtain ⟨x, c, cv, t, b, rfl, hc, ty, e, q⟩ := h
  obtain ⟨u, z, rfl, rx, rc⟩ := vals2 r
  cases hc z rc
  exact isinst_ok I rx ty e fun tk => ⟨.bl b, H, I.tok tk, rfl, q⟩
theorem ty_is {n : String} : ∀ u, RelV (.ty n) u → u = .type n := fun _ h => h

/-! ### sum -/

/-! ### == and != of lists of flat items -/
def eqL : List V → List V → Bool
  | [], [] => true
  | x :: xs, y :: ys => eqV x y && eqL xs ys
  | _, _ => false
theorem eqL_len : ∀ {xs ys : List V}, xs.length ≠ ys.length → eqL xs ys = false
  | [], [], h => absurd rfl h
  | [], _ :: _, _ => rfl
  | _ :: _, [], _ => rfl
  | x :: xs, y :: ys, h => by
    unfold eqL
    rw [eqL_len (xs := xs) (ys := ys) fun e => h (by rw [List.length_cons, List.length_cons, e]), Bool.and_false]
theorem eqL_all : ∀ {xs ys : List V}, xs.length = ys.length → ∀ e : Nat → Bool, (∀ j x y, xs[j]? = some x → ys[j]? = some y → e j = eqV x y) → (List.range xs.length).all e = eqL xs ys
  | [], [], _, _, _ => rfl
  | [], _ :: _, h, _, _ => by simp at h
  | _ :: _, [], h, _, _ => by simp at h
  | x :: xs, y :: ys, h, e, he => by
    have ih := eqL_all (xs := xs) (ys := ys) (by simpa using h) (fun j => e (j + 1)) fun j a b ha hb => he (j + 1) a b (by simpa using ha) (by simpa using hb)
    unfold eqL
    rw [List.length_cons, List.range_succ_eq_map, List.all_cons, List.all_map, he 0 x y rfl rfl, ← ih]
    rfl
def eqAtJ (its js : List Value) (xs ys : List V) (j : Nat) : Bool := match xs[j]?, ys[j]? with
  | some x, some y => eqV x y
  | _, _ => true
theorem lists_at {X : Cx} {pins : List (Addr × Obj)} {s : Shared} {σ : St} {H : Hp} {A : Around} {xs ys : List V} {its js : List Value} (r1 : Vals xs its) (r2 : Vals ys js) (f1 : xs.all flatV = true) (f2 : ys.all flatV = true) (hl : xs.length = ys.length) :
    ∀ j (h1 : j < its.toArray.size) (h2 : j < js.toArray.size), SeqAt.EqAt A s its.toArray[j] js.toArray[j] (eqAtJ its js xs ys j) := fun j h1 h2 => by
  have l1 := r1.length
  have l2 := r2.length
  rw [List.size_toArray] at h1 h2
  have e1 : xs[j]? = some xs[j] := List.getElem?_eq_getElem (by omega)
  have e2 : ys[j]? = some ys[j] := List.getElem?_eq_getElem (by omega)
  obtain ⟨u, hu, ru⟩ := r1.get e1
  obtain ⟨v, hv, rv⟩ := r2.get e2
  have eu : its.toArray[j] = u := by rw [List.getElem_toArray]; exact (List.getElem?_eq_some_iff.mp hu).2
  have ev : js.toArray[j] = v := by rw [List.getElem_toArray]; exact (List.getElem?_eq_some_iff.mp hv).2
  rw [eu, ev]
  unfold eqAtJ
  rw [e1, e2]
  exact eqAt_V ru rv (List.all_eq_true.mp f1 _ (List.getElem_mem _)) (List.all_eq_true.mp f2 _ (List.getElem_mem _))
def rEqL (K : PySem.W.Frag) (neg : Bool) : R2 := fun x y H Q => ∃ a b xs ys, x = .ref a ∧ y = .ref b ∧ SqL K H a xs ∧ SqL K H b ys ∧ xs.all flatV = true ∧ ys.all flatV = true ∧ Q (.bl (if neg then !eqL xs ys else eqL xs ys)) H
theorem op_eqL {X : Cx} (hu : X.A.units < cLine) : OpR X (compareOp .Eq) (rEqL X.K false) := by
  intro pins s σ H x y v u Q I rx ry h
  obtain ⟨a, b, xs, ys, rfl, rfl, h1, h2, f1, f2, q⟩ := h
  cases rx
  cases ry
  obtain ⟨its, r1, p1, z1⟩ := I.list h1
  obtain ⟨js, r2, p2, z2⟩ := I.list h2
  have l1 := r1.length
  have l2 := r2.length
  by_cases hl : xs.length = ys.length
  · refine SeqAt.eq_listAt p1.isList p2.isList (by rw [List.size_toArray, List.size_toArray]; omega) hu (lists_at (X := X) (pins := pins) (σ := σ) (H := H) r1 r2 f1 f2 hl) ?_
    refine ⟨.bl (eqL xs ys), H, I, ?_, q⟩
    show Value.bool _ = Value.bool _
    rw [List.size_toArray, ← l1, eqL_all hl]
    intro j x y e1 e2
    unfold eqAtJ
    rw [e1, e2]
  · refine SeqAt.eq_list_lengthsAt p1.isList p2.isList (by simp only [List.size_toArray, bne_iff_ne, ne_eq]; omega) hu ?_
    exact ⟨.bl (eqL xs ys), H, I, by rw [eqL_len hl]; rfl, q⟩

/-! ### xs[::-1] -/

/-! ### xs.count(x) -/

/-! ### comprehensions over ranges and lists, by a word over the turn, the list so far, the heap -/
abbrev caps (ix : List Nat) (σ : St) : St := ix.map fun j => (σ[j]?).getD none
theorem comp_list {K : PySem.W.Frag} {a : Addr} {xs : List V} {tc : TT} {te : TE} {σ : St} {ix : List Nat} {QQ : Hp → Prop} {H1 : Hp} {p : Addr} (Pv : Nat → List V → Hp → Prop) (h0 : Pv 0 [] (upd H1 p (.lst [])))
    (hp : ∀ i ys H, i ≤ xs.length → Pv i ys H → H p = some (.lst ys) ∧ ys.length ≤ i ∧ SqL K H a xs) (hn : xs.length ≤ sizeLine)
    (hs : ∀ i x ys H, xs[i]? = some x → Pv i ys H → tc (some x :: caps ix σ) H fun b H5 => if b = true then te (some x :: caps ix σ) H5 fun y H6 => H6 p = some (.lst ys) ∧
      (some x :: caps ix σ) = (some x :: caps ix σ) ∧ Pv (i + 1) (ys ++ [y]) (upd H6 p (.lst (ys ++ [y]))) else (some x :: caps ix σ) = (some x :: caps ix σ) ∧ Pv (i + 1) ys H5)
    (hd : ∀ ys H, Pv xs.length ys H → QQ H) :
    CompW (gName 0) tc te 1 ix σ (Itl K a) p H1 QQ := by
  refine ⟨fun i m ys σ2 H2 => m = xs.length - i ∧ i ≤ xs.length ∧ (∃ o, σ2 = o :: caps ix σ) ∧ Pv i ys H2, ⟨xs.length, by simp, Nat.zero_le _, ⟨none, rfl⟩, h0⟩, ?_⟩
  rintro i m ys σ2 H2 ⟨rfl, hi, ⟨o, rfl⟩, pv⟩
  obtain ⟨hp2, hl2, hq2⟩ := hp i ys H2 hi pv
  refine ⟨hp2, ?_⟩
  by_cases hlt : i < xs.length
  · refine .inr ⟨⟨xs, xs[i], hq2, by simp [hlt]⟩, by omega, fun x H3 y => ?_⟩
    obtain ⟨e, y⟩ := y
    subst e
    exact ⟨fun ys' σ' H' => σ' = (some x :: caps ix σ) ∧ Pv (i + 1) ys' H', fun ys' σ' H' ⟨e, q⟩ => ⟨xs.length - (i + 1), by omega, rfl, hlt, ⟨_, e⟩, q⟩, hs i x ys _ (y xs hq2) pv⟩
  · have e : i = xs.length := by omega
    subst e
    exact .inl ⟨⟨xs, hq2, Nat.le_refl _⟩, hd ys H2 pv⟩
end L2

namespace L2
open PySem PySem.Spec PyProof.Rows

/-! ### a def of the text with its promise, in one -/
structure Cal (P : Program) (w : World) (K : PySem.W.Frag) (mg : Str → Option Value) (base : Heap) (k : Nat) (x : Str) (ps : List Str) (sp : Sp) : Prop where
  ex : ∃ f fd, FnOk P w K mg base CX0 k f fd ps sp ∧ Binds K fd ps [] ∧ PySem.W.keepIn K (.ref f) = true ∧ mg x = some (.ref f)
theorem pe_callC {X : Cx} {k : Nat} {x : Str} {ps : List Str} {sp : Sp} {e : Expr} {es : List Expr} {p pos : Pos} {t : TA} (C : Cal X.prog X.w X.K X.mg X.base k x ps sp) (hr : Room k X.A) (hg : Gl X x) (ha : PA X (e :: es) t)
    (hdb : (x == ("__debug__" : Str)) = false := by decide) (he : starEach (e :: es) X.env = (false, eval e X.env) :: starEach es X.env := by rfl) (hpl : (backTo pos (starEach es X.env)).any (·.1) = false := by rfl) :
    PE X (.Call (.Name x p) (e :: es) [] pos) (tCall sp [] E0 t) := by
  obtain ⟨f, fd, F, b, kp, hm⟩ := C.ex
  exact pe_call F hr hg hm kp b .nil pass0 ha hdb he hpl
/-- a def as it stands behind the top: how it binds, its name -/
structure Def (K : PySem.W.Frag) (mg : Str → Option Value) (x : Str) (st : Stmt) (ps : List Str) : Prop where
  ex : ∃ f fd, Fun K x x st f fd ∧ Binds K fd ps [] ∧ mg x = some (.ref f)
theorem Def.cal {P : Program} {w : World} {K : PySem.W.Frag} {mg : Str → Option Value} {base : Heap} {k : Nat} {x : Str} {st : Stmt} {ps : List Str} {sp : Sp} (D : Def K mg x st ps) (h : ∀ f fd, Fun K x x st f fd → FnOk P w K mg base CX0 k f fd ps sp) : Cal P w K mg base k x ps sp := by
  obtain ⟨f, fd, F, b, m⟩ := D.ex
  exact ⟨f, fd, h f fd F, b, F.kp, m⟩
/-- a built-in type's name -/
theorem pe_ty {X : Cx} {x : Str} {pos : Pos} (T : String) (hg : Gl X x) (hm : X.mg x = none) (hv : bootBuiltins x = some (.type T)) (hn : x ≠ "__name__" := by decide) (hd : (x == ("__debug__" : Str)) = false := by decide) : PE X (.Name x pos) (tC (.ty T)) :=
  pe_bltn (v := .ty T) hg hm hv rfl hn hd
theorem same_new {H : Hp} {p : Addr} (h : H p = none) (o : HO) : Same H (upd H p o) := fun b u q => by rw [upd_ne (ne_of_none q h)]; exact q
theorem le_line {n : Nat} (h : n ≤ 1000) : n ≤ sizeLine := Nat.le_of_lt (small1000 h)
/-- an item of a list of ints -/
theorem at_int {ns : List Int} {i : Nat} {n : Int} (h : ns[i]? = some n) : atI (ns.map V.int) (i : Int) = some (.int n) := atI_nat (by rw [List.getElem?_map, h]; rfl)
theorem at_intI {ns : List Int} {i : Int} (h0 : 0 ≤ i) (h : i < ns.length) : atI (ns.map V.int) i = some (.int (ns.getD i.toNat 0)) := by
  have e : ((i.toNat : Nat) : Int) = i := by omega
  have q := at_int (ns := ns) (i := i.toNat) (n := ns.getD i.toNat 0) (by rw [List.getElem?_eq_getElem (by omega), List.getD_eq_getElem?_getD, List.getElem?_eq_getElem (by omega)]; rfl)
  rw [e] at q
  exact q
theorem item_int {ns : List Int} {i : Nat} {y : V} (h : (ns.map V.int)[i]? = some y) : ∃ n, ns[i]? = some n ∧ y = .int n := by
  rw [List.getElem?_map] at h
  cases e : ns[i]? with
  | none => rw [e] at h; cases h
  | some n => rw [e] at h; exact ⟨n, rfl, (Option.some.inj h).symm⟩
example : bootBuiltins "int" = some (.type "int") := by rfl
end L2

namespace L2
open PySem PySem.Spec PyProof.Rows

/-! ### enumerate(xs), its pairs unpacked by the target -/
def Ite (K : PySem.W.Frag) (a : Addr) : It :=
  ⟨fun i H => ∃ xs x, SqL K H a xs ∧ xs[i]? = some x,
   fun i H x H' => ∃ t y, x = .ref t ∧ H t = none ∧ (∀ xs, SqL K H a xs → xs[i]? = some y) ∧ H' = upd H t (.tup [.int i, y]),
   fun i H => ∃ xs, SqL K H a xs ∧ xs.length ≤ i⟩
theorem turn_enum {P : Program} {w : World} {K : PySem.W.Frag} {elts : List Expr} {k : Nat} {tp : Pos} (a e it : Addr) (hei : e ≠ it) :
    Turn P w K (.Tuple elts k tp) (Ite K a) [e, it] e (fun i h => (∃ old, IsEnum h e it i old) ∧ h.IsListIter it a i) where
  mem := by simp
  obj := fun i h st b hb => by
    obtain ⟨⟨old, he⟩, o, ho, c, d⟩ := st
    rcases List.mem_cons.mp hb with rfl | hb
    · exact ⟨_, he, fun v z => by
        have z' : Data.fields _ = Data.cell v := z
        cases z'⟩
    · have eb : b = it := by simpa using hb
      subst eb
      exact ⟨o, ho, fun v z => by rw [d] at z; cases z⟩
  keep := fun i h h' st kk => by
    obtain ⟨⟨old, he⟩, hit⟩ := st
    exact ⟨⟨old, kk e (by simp) _ he⟩, hit.at fun o x => kk it (by simp) o x⟩
  item := by
    intro X hP hw hK hc i pins s σ H E I hf st hg
    subst hP hw hK
    obtain ⟨⟨old, he⟩, hit⟩ := st
    obtain ⟨xs, x, hq, hx⟩ := hg
    obtain ⟨its, rv, p, hz⟩ := I.list hq
    obtain ⟨u, hu, ru⟩ := rv.get hx
    obtain ⟨e0, e1, e2, e3, e4, e5⟩ := hf e (by simp)
    obtain ⟨i0, i1, i2, i3, i4, i5⟩ := hf it (by simp)
    refine wpAny_pyNext_enum_item he hit p.isList (x := u) (by simpa using hu) hei fun h1 ho hit1 hT hsz hk => ⟨_, rfl, ?_⟩
    refine wpAny_letOwnedTupleGo_enum ho fun h2 he2 hs2 => ?_
    have hs2' : Heap.SameBut e h1 h2 := hs2
    have helt : e < s.heap.objs.size := Heap.lt_size he
    have hnT : H s.heap.objs.size = none := I.hok.fresh (Nat.le_refl _)
    have up : ∀ b o, b ≠ e → b ≠ it → s.heap.get? b = some o → h2.get? b = some o := fun b o h3 h4 q => (hs2'.2 b h3).trans (hk b o h3 h4 q)
    have nch : ∀ b, b ∉ [e, it] → b ≠ e ∧ b ≠ it := fun b hb => ⟨fun z => hb (by simp [z]), fun z => hb (by simp [z])⟩
    have ntr : ∀ b o, H b = some o → b ≠ e ∧ b ≠ it := fun b o q => ⟨fun z => by (rw [z, e0] at q; cases q), fun z => by (rw [z, i0] at q; cases q)⟩
    have htup : h2.get? s.heap.objs.size = some { cls := .type "tuple", data := .seq #[.int i s.toks, u] } := (hs2'.2 _ (Nat.ne_of_gt helt)).trans hT
    have I1 : Inv X pins σ (upd H s.heap.objs.size (.tup [.int i, x])) { s with heap := h2, gens := s.gens, drawn := s.drawn, toks := s.toks + 1 } := by
      refine I.step (ch := [e, it]) (fun b hb => ?_) (fun b o _ _ hb q _ => up b o (nch b hb).1 (nch b hb).2 q) (fun b o _ _ hb q _ => ⟨o.slots, up b o (nch b hb).1 (nch b hb).2 q⟩) (fun b o _ q n => by rw [upd_ne (Nat.ne_of_lt (Heap.lt_size q))]; exact n)
        (fun b o hb q => ⟨o, up b o (nch b hb).1 (nch b hb).2 q⟩) (fun b xs q => by rw [upd_ne (ne_of_none q hnT)]; exact q) (fun b o u q => by rw [upd_ne (ne_of_none q hnT)]; exact q) (fun b ps q => ⟨#[], by rw [upd_ne (ne_of_none q hnT), q]; simp⟩)
        (fun m hm => ?_) (fun b o q => ?_) I.bare
      · rcases List.mem_cons.mp hb with rfl | hb
        · exact ⟨e3, e1, e4, e5⟩
        · have eb : b = it := by simpa using hb
          subst eb
          exact ⟨i3, i1, i4, i5⟩
      · obtain ⟨o, es, ep, hoL, r⟩ := hm
        exact ⟨o, es, ep, up _ o (Ne.symm e1) (Ne.symm i1) hoL, r⟩
      · by_cases hb : b = s.heap.objs.size
        · subst hb
          rw [upd_same] at q
          cases q
          exact ⟨le_line (by show 2 ≤ 1000; decide), [.int i s.toks, u], .cons ⟨_, rfl⟩ (.cons ru .nil), _, htup, rfl, _, rfl⟩
        · rw [upd_ne hb] at q
          refine (I.hok b o q).stay (fun c v hc2 q2 => ?_) (fun c q2 => by rw [upd_ne (ne_of_none q2 hnT)]; exact q2) (fun c xs q2 => by rw [upd_ne (ne_of_none q2 hnT)]; exact q2)
          rcases hc2 with rfl | hc2
          · exact up _ v (ntr _ _ q).1 (ntr _ _ q).2 q2
          · exact up _ v (ntr _ _ hc2).1 (ntr _ _ hc2).2 q2
    refine ⟨.ref s.heap.objs.size, _, I1, rfl, ⟨_, x, rfl, hnT, fun ys hy => by rw [I.list_inj hy hq]; exact hx, rfl⟩, ⟨⟨u, ?_⟩, ?_⟩, fun b hb => ?_⟩
    · have ei : ((i + 1 : Nat) : Int) = (i : Int) + 1 := by omega
      rw [ei]
      exact he2
    · exact hit1.at fun o q => (hs2'.2 it hei.symm).trans q
    · have hbl : b < s.heap.objs.size := by
        rcases List.mem_cons.mp hb with rfl | hb
        · exact helt
        · have eb : b = it := by simpa using hb
          subst eb
          obtain ⟨o, q, _⟩ := hit
          exact Heap.lt_size q
      rw [upd_ne (Nat.ne_of_lt hbl)]
      exact (hf b hb).1
  done := by
    intro X hP hw hK hc i pins s σ H E I hf st hg
    subst hP hw hK
    obtain ⟨⟨old, he⟩, hit⟩ := st
    obtain ⟨xs, hq, hx⟩ := hg
    obtain ⟨its, rv, p, hz⟩ := I.list hq
    obtain ⟨i0, i1, i2, i3, i4, i5⟩ := hf it (by simp)
    have hl := rv.length
    exact wpAny_pyNext_enum_end (I.ok.hd hc) he hit p.isList (by simp; omega) fun h' eb => ⟨rfl, I.turned (t' := s.toks) (fun b o hb q => eb b o hb q) i0 i1 i3 i4 i5⟩
  self := fun _ _ _ _ _ st h => by
    obtain ⟨⟨old, he⟩, _⟩ := st
    exact wpAny_pyIter_enum he h
def iEnum (K : PySem.W.Frag) (ta : TA) : TI := fun σ H R => ta σ H fun vs H1 => ∃ a, vs = [.ref a] ∧ (∃ xs, SqL K H1 a xs) ∧ R (Ite K a) H1
theorem pi_enum {X : Cx} {a : Expr} {ta : TA} {p pos tp : Pos} {elts : List Expr} {k : Nat} (hg : Gl X "enumerate") (hm : X.mg "enumerate" = none) (ha : PA X [a] ta) (hs : starEach [a] X.env = [(false, eval a X.env)] := by rfl) :
    PI X (.Tuple elts k tp) (.Call (.Name "enumerate" p) [a] [] pos) (iEnum X.K ta) := by
  intro pins s σ H R I h
  refine Call_ (ld_blt I hg hm (show bootBuiltins "enumerate" = some (.type "enumerate") from rfl) (PyProof.Rows.callWith_type1 (thn (ha pos pins s σ H _ I h) fun us s1 ⟨vs, H1, I1, r1, q1⟩ => ?_) hs rfl))
  obtain ⟨a, ev, ⟨xs, hq⟩, q⟩ := q1
  subst ev
  obtain ⟨u, rfl, rx⟩ := vals1 r1
  cases rx
  obtain ⟨its, rv, pl, hz⟩ := I1.list hq
  refine call_enumerate_list pl.isList fun h' he hit hsz hk => ?_
  refine wpAny_pyIter_enum he ?_
  have I2 : Inv X pins σ H1 { s1 with heap := h' } := I1.kept (t' := s1.toks) hk
  refine ⟨_, [s1.heap.objs.size + 1, s1.heap.objs.size], _, _, H1, rfl, I2, turn_enum a _ _ (Nat.succ_ne_self _), ⟨⟨_, he⟩, hit⟩, fun b hb => ?_, q⟩
  rcases List.mem_cons.mp hb with rfl | hb
  · exact I1.fpOk (Nat.le_succ _) (I1.hok.fresh (Nat.le_succ _))
  · have eb : b = s1.heap.objs.size := by simpa using hb
    subst eb
    exact I1.fpOk (Nat.le_refl _) (I1.hok.fresh (Nat.le_refl _))
end L2

namespace L2
open PySem PySem.Spec PyProof.Rows
/-! ### a method, a class of the text with their promises, in one -/
structure MCal (P : Program) (w : World) (K : PySem.W.Frag) (mg : Str → Option Value) (base : Heap) (k : Nat) (C : Addr) (m : Str) (ps : List Str) (sp : Sp) : Prop where
  ex : ∃ f fd, FnOk P w K mg base CX0 k f fd ps sp ∧ Binds K fd ps [] ∧ Meth K C m f
  cl : Cls K C
theorem pe_methC {X : Cx} {k : Nat} {C : Addr} {m : Str} {ps : List Str} {sp : Sp} {e o : Expr} {es : List Expr} {apos pos : Pos} {ta : TE} {t : TA} {pl : Sem Bool} (M : MCal X.prog X.w X.K X.mg X.base k C m ps sp) (hr : Room k X.A) (he : PE X o ta) (ha : PA X (e :: es) t)
    (hst : starEach (e :: es) X.env = (false, eval e X.env) :: starEach es X.env := by rfl) (hpl : (backTo pos (starEach es X.env)).any (·.1) = false := by rfl)
    (ht : eval (.Call (.Attribute o m apos) (e :: es) [] pos) X.env = (do
      let ov ← eval o X.env
      standAt apos.atName
      let (f, first) ← holding [ov] (getMethod ov m pl)
      callWith pos f first (backTo pos (starEach (e :: es) X.env)) (backToKw pos (keywordEach [] X.env))) := by rfl) :
    PE X (.Call (.Attribute o m apos) (e :: es) [] pos) (tMeth C m sp [] E0 ta t) := by
  obtain ⟨f, fd, F, b, hm⟩ := M.ex
  exact pe_meth he M.cl hm F hr b .nil pass0 ha hst hpl ht
structure KCal (P : Program) (w : World) (K : PySem.W.Frag) (mg : Str → Option Value) (base : Heap) (k : Nat) (x : Str) (C : Addr) (ps : List Str) (sp : Sp) : Prop where
  ex : ∃ f fd, Mk K C f ∧ FnOk P w K mg base CX0 k f fd ps sp ∧ Binds K fd ps [] ∧ mg x = some (.ref C)
end L2

namespace L2
open PySem PySem.Spec PyProof.Rows
/-! ### range(lo, hi) of any ints -/
/-! ### min(xs) of ints: one of them -/
end L2

namespace L2
open PySem PySem.Spec PyProof.Rows

/-! ### exceptions of own classes: how one lies, flies, is caught -/
section
variable {X : Cx} {pins : List (Addr × Obj)} {σ : St} {H H' : Hp} {s : Shared} {h' : Heap}


end

/-! ### behind a call that raised -/
section
variable {X : Cx} {k : Nat} {f : Addr} {fd : FuncData} {ps : List Str} {sp : Sp} {x : Str} {p pos : Pos} {e : Expr} {es : List Expr} {t : TA} {W : St → XK}
end

/-! ### raise C(..) -/

/-! ### try: one clause, an own class -/
section
variable {X : Cx} {pins pins' pn : List (Addr × Obj)} {σ : St} {H : Hp} {s : Shared} {E : Value → Shared → Prop} {e : Addr}

end

section
variable {X : Cx} {x n : Str} {Ch : Addr} {i : Nat} {body suite : List Stmt} {b₀ : Stmt} {tb : (St → XK) → TS} {ts : TS} {np hpos pos : Pos}
end
end L2

namespace L2
open PySem PySem.Spec PyProof.Rows
/-! ### defs that may be called while an exception is handled (nothing in them walks or raises) -/
section
variable {X : Cx} {k : Nat} {f : Addr} {fd : FuncData} {ps : List Str} {sp : Sp} {x : Str} {p pos : Pos} {e : Expr} {es : List Expr} {t : TA}
end
end L2

namespace L2
open PySem PySem.Spec PyProof.Rows

/-! ### texts by their codes -/

/-! ### pieces at a sign -/
def cutAt (c : Nat) : List Nat → List (List Nat)
  | [] => [[]]
  | x :: l => if x = c then [] :: cutAt c l else match cutAt c l with
    | [] => [[x]]
    | p :: r => (x :: p) :: r
theorem cutAt_ne (c : Nat) : ∀ l, cutAt c l ≠ []
  | [] => by simp [cutAt]
  | x :: l => by
    unfold cutAt
    split
    · simp
    · cases cutAt c l <;> simp

/-! ### methods of texts -/
section
variable {X : Cx}
/-- is True, is not True -/
theorem op_isB : OpR X (compareOp .Is) (fun x y H Q => ∃ a b, x = .bl a ∧ y = .bl b ∧ Q (.bl (a == b)) H) := by
  intro pins s σ H x y v u Q I rx ry h
  obtain ⟨a, b, rfl, rfl, q⟩ := h
  cases rx
  cases ry
  exact is_bool ⟨.bl (a == b), H, I, rfl, q⟩
theorem op_isNotB : OpR X (compareOp .IsNot) (fun x y H Q => ∃ a b, x = .bl a ∧ y = .bl b ∧ Q (.bl (!(a == b))) H) := by
  intro pins s σ H x y v u Q I rx ry h
  obtain ⟨a, b, rfl, rfl, q⟩ := h
  cases rx
  cases ry
  exact wpAny_pure ⟨.bl (!(a == b)), H, I, by cases a <;> cases b <;> rfl, q⟩

/-! ### for sign in text -/

/-! ### f-strings of plain fields -/
end
end L2

namespace L2
open PySem PySem.Spec PyProof.Rows
/-! ### isinstance of an exception of an own class -/
section
variable {prog : Program} {w : World} {A : Around} {E : Value → Shared → Prop} {K : PySem.W.Frag} {x D : Addr} {ox : Obj} {od : Option Obj}
end
/-! ### a class whose __init__ may raise -/
section
variable {X : Cx} {k : Nat} {f C : Addr} {fd : FuncData} {ps : List Str} {sp : Sp} {x : Str} {p pos : Pos} {e : Expr} {es : List Expr} {t : TA} {W : St → XK}
end
/-! ### == of two lists with the very same items -/
end L2

namespace L2
open PySem PySem.Spec PyProof.Rows
/-! ### exceptions of own classes as values: made by hand, kept, asked for what they keep -/
section
variable {X : Cx} {x : Str} {C f : Addr} {p pos : Pos} {e : Expr} {es : List Expr} {t : TA}
end
/-! ### a class of the text whose __init__ is a def of its own -/
section
variable {prog : Program} {w : World} {A : Around} {Ex : Value → Shared → Prop} {hp : Heap} {gs : Array GenState} {dr : Drawn} {tk : Nat} {os : OsState}
variable {nm q : Str} {C N fI : Addr} {bs bm bmB : List Value} {hdct : Bool} {sn : List Str} {sub : List Value} {ab : Bool} {col : Option Bool} {dd : Option Addr} {k0 k1 k2 k3 k5 : Option Value} {B newId initId : String} {mN : Str → Option Value} {us : List Value} {oI : Obj}
end
section
variable {prog : Program} {w : World} {A : Around} {E : Value → Shared → Prop} {K : PySem.W.Frag} {x D : Addr} {ox : Obj} {od : Option Obj}
end
end L2

namespace L2
open PySem PySem.Spec PyProof.Rows
/-! ### exceptions that keep values: the rules -/
section
variable {X : Cx} {pins : List (Addr × Obj)} {σ : St} {H : Hp} {s : Shared} {e : Addr}
end
section
variable {X : Cx} {x f : Str} {C g : Addr} {p pos apos : Pos} {e o value : Expr} {es : List Expr} {t : TA} {ta tv : TE}
end
end L2

namespace L2
open PySem PySem.Spec PyProof.Rows
/-! ### more on texts and tuples -/
section
variable {X : Cx}
end
end L2

namespace L2
open PySem PySem.Spec PyProof.Rows
/-! ### things of things: == and != over lists and tuples of lists and tuples -/
inductive D where
  | at (v : V)
  | seq (t : Bool) (ds : List D)
mutual
def Rep (K : PySem.W.Frag) (H : Hp) : D → V → Prop
  | .at v, x => x = v ∧ flatV v = true
  | .seq t ds, x => ∃ a xs, x = .ref a ∧ (t = true → SqT K H a xs) ∧ (t = false → SqL K H a xs) ∧ Reps K H ds xs
def Reps (K : PySem.W.Frag) (H : Hp) : List D → List V → Prop
  | [], xs => xs = []
  | d :: ds, xs => ∃ y ys, xs = y :: ys ∧ Rep K H d y ∧ Reps K H ds ys
end
mutual
def eqD : D → D → Bool
  | .at v, .at u => eqV v u
  | .seq t ds, .seq u es => t == u && eqDs ds es
  | _, _ => false
def eqDs : List D → List D → Bool
  | [], [] => true
  | d :: ds, e :: es => eqD d e && eqDs ds es
  | _, _ => false
end
mutual
def dep : D → Nat
  | .at _ => 0
  | .seq _ ds => deps ds + 1
def deps : List D → Nat
  | [] => 0
  | d :: ds => max (dep d) (deps ds)
end
theorem Reps.len {K : PySem.W.Frag} {H : Hp} : ∀ {ds : List D} {xs : List V}, Reps K H ds xs → ds.length = xs.length
  | [], xs, h => by unfold Reps at h; subst h; rfl
  | d :: ds, xs, h => by
    unfold Reps at h
    obtain ⟨y, ys, rfl, _, h⟩ := h
    rw [List.length_cons, List.length_cons, Reps.len h]
def eAt (ds es : List D) (j : Nat) : Bool := match ds[j]?, es[j]? with
  | some d, some e => eqD d e
  | _, _ => true
theorem eqDs_len : ∀ {ds es : List D}, ds.length ≠ es.length → eqDs ds es = false
  | [], [], h => absurd rfl h
  | [], _ :: _, _ => by unfold eqDs; rfl
  | _ :: _, [], _ => by unfold eqDs; rfl
  | d :: ds, e :: es, h => by
    unfold eqDs
    rw [eqDs_len (ds := ds) (es := es) fun q => h (by rw [List.length_cons, List.length_cons, q]), Bool.and_false]
theorem eqDs_all : ∀ {ds es : List D}, ds.length = es.length → (List.range ds.length).all (eAt ds es) = eqDs ds es
  | [], [], _ => by unfold eqDs; rfl
  | [], _ :: _, h => by simp at h
  | _ :: _, [], h => by simp at h
  | d :: ds, e :: es, h => by
    have ih := eqDs_all (ds := ds) (es := es) (by simpa using h)
    unfold eqDs
    rw [List.length_cons, List.range_succ_eq_map, List.all_cons, List.all_map, ← ih]
    rfl
theorem eqV_refl {v : V} (h : flatV v = true) : eqV v v = true := by
  cases v <;> first | exact absurd (show false = true from h) Bool.false_ne_true | rfl | simp [eqV]
section
variable {X : Cx} {pins : List (Addr × Obj)} {σ : St} {H : Hp} {s : Shared}
theorem not_both {a : Addr} {xs ys : List V} (I : Inv X pins σ H s) (h1 : SqL X.K H a xs) (h2 : SqT X.K H a ys) : False := by
  obtain ⟨its, _, p, _⟩ := I.list h1
  obtain ⟨js, _, q, _⟩ := I.tuple h2
  exact SeqAt.ne_of_list_tuple p.isList q rfl
mutual
/-- the same thing told twice -/
theorem rep_same (I : Inv X pins σ H s) : ∀ (d e : D) (x : V), Rep X.K H d x → Rep X.K H e x → eqD d e = true
  | .at v, .at u, x, h1, h2 => by
    unfold Rep at h1 h2
    obtain ⟨rfl, f⟩ := h1
    obtain ⟨rfl, _⟩ := h2
    unfold eqD
    exact eqV_refl f
  | .at v, .seq t ds, x, h1, h2 => by
    unfold Rep at h1 h2
    obtain ⟨rfl, f⟩ := h1
    obtain ⟨a, xs, rfl, _⟩ := h2
    exact absurd (show false = true from f) Bool.false_ne_true
  | .seq t ds, .at u, x, h1, h2 => by
    unfold Rep at h1 h2
    obtain ⟨rfl, f⟩ := h2
    obtain ⟨a, xs, rfl, _⟩ := h1
    exact absurd (show false = true from f) Bool.false_ne_true
  | .seq t ds, .seq u es, x, h1, h2 => by
    unfold Rep at h1 h2
    obtain ⟨a, xs, rfl, t1, l1, r1⟩ := h1
    obtain ⟨b, ys, e, t2, l2, r2⟩ := h2
    cases e
    unfold eqD
    cases t with
    | true =>
      cases u with
      | true =>
        have e := I.tuple_inj (t1 rfl) (t2 rfl)
        subst e
        rw [reps_same I ds es xs r1 r2]
        rfl
      | false => exact (not_both I (l2 rfl) (t1 rfl)).elim
    | false =>
      cases u with
      | true => exact (not_both I (l1 rfl) (t2 rfl)).elim
      | false =>
        have e := I.list_inj (l1 rfl) (l2 rfl)
        subst e
        rw [reps_same I ds es xs r1 r2]
        rfl
theorem reps_same (I : Inv X pins σ H s) : ∀ (ds es : List D) (xs : List V), Reps X.K H ds xs → Reps X.K H es xs → eqDs ds es = true
  | [], [], _, _, _ => by unfold eqDs; rfl
  | [], e :: es, xs, h1, h2 => by
    unfold Reps at h1 h2
    subst h1
    obtain ⟨_, _, e, _⟩ := h2
    cases e
  | d :: ds, [], xs, h1, h2 => by
    unfold Reps at h1 h2
    subst h2
    obtain ⟨_, _, e, _⟩ := h1
    cases e
  | d :: ds, e :: es, xs, h1, h2 => by
    unfold Reps at h1 h2
    obtain ⟨y, ys, rfl, h1, r1⟩ := h1
    obtain ⟨z, zs, e, h2, r2⟩ := h2
    cases e
    unfold eqDs
    rw [rep_same I d _ y h1 h2, reps_same I ds es ys r1 r2]
    rfl
end
theorem flat_list {A : Around} {v : V} {u : Value} {a : Addr} {its : Array Value} (f : flatV v = true) (r : RelV v u) (p : s.heap.IsList a its) (hu : A.units < cLine) : SeqAt.EqAt A s u (.ref a) false := by
  cases v with
  | non => cases r; exact .none_list p hu
  | bl b => cases r; exact .bool_list b p hu
  | int i => obtain ⟨t, rfl⟩ := r; exact .int_list i t p hu
  | str i => obtain ⟨t, rfl⟩ := r; exact .str_list i t p hu
  | _ => exact absurd (show false = true from f) Bool.false_ne_true
theorem flat_tup {A : Around} {v : V} {u : Value} {a : Addr} {its : Array Value} (f : flatV v = true) (r : RelV v u) (p : s.heap.IsTuple a its) (hu : A.units < cLine) : SeqAt.EqAt A s u (.ref a) false := by
  cases v with
  | non => cases r; exact .none_tuple p hu
  | bl b => cases r; exact .bool_tuple b p hu
  | int i => obtain ⟨t, rfl⟩ := r; exact .int_tuple i t p hu
  | str i => obtain ⟨t, rfl⟩ := r; exact .str_tuple i t p hu
  | _ => exact absurd (show false = true from f) Bool.false_ne_true
theorem list_flat {A : Around} {v : V} {u : Value} {a : Addr} {its : Array Value} (f : flatV v = true) (r : RelV v u) (p : s.heap.IsList a its) (hu : A.units < cLine) : SeqAt.EqAt A s (.ref a) u false := by
  cases v with
  | non => cases r; exact .list_none p hu
  | bl b => cases r; exact .list_bool b p hu
  | int i => obtain ⟨t, rfl⟩ := r; exact .list_int i t p hu
  | str i => obtain ⟨t, rfl⟩ := r; exact .list_str i t p hu
  | _ => exact absurd (show false = true from f) Bool.false_ne_true
theorem tup_flat {A : Around} {v : V} {u : Value} {a : Addr} {its : Array Value} (f : flatV v = true) (r : RelV v u) (p : s.heap.IsTuple a its) (hu : A.units < cLine) : SeqAt.EqAt A s (.ref a) u false := by
  cases v with
  | non => cases r; exact .tuple_none p hu
  | bl b => cases r; exact .tuple_bool b p hu
  | int i => obtain ⟨t, rfl⟩ := r; exact .tuple_int i t p hu
  | str i => obtain ⟨t, rfl⟩ := r; exact .tuple_str i t p hu
  | _ => exact absurd (show false = true from f) Bool.false_ne_true
theorem at_of {A : Around} {its js : List Value} {e : Nat → Bool} (h : ∀ j u v, its[j]? = some u → js[j]? = some v → SeqAt.EqAt A s u v (e j)) : ∀ j (h1 : j < its.toArray.size) (h2 : j < js.toArray.size), SeqAt.EqAt A s its.toArray[j] js.toArray[j] (e j) := fun j h1 h2 => by
  rw [List.size_toArray] at h1 h2
  rw [List.getElem_toArray, List.getElem_toArray]
  exact h j _ _ (List.getElem?_eq_getElem h1) (List.getElem?_eq_getElem h2)
/-- two lists, two tuples, by their items -/
theorem rc_lists {A : Around} {a b : Addr} {xs ys : List V} {ds es : List D} (I : Inv X pins σ H s) (hu : A.units < cLine) (h1 : SqL X.K H a xs) (h2 : SqL X.K H b ys) (r1 : Reps X.K H ds xs) (r2 : Reps X.K H es ys)
    (h : ∀ its js, Vals xs its → Vals ys js → ∀ j u v, its[j]? = some u → js[j]? = some v → SeqAt.EqAt A.in1 s u v (eAt ds es j)) : SeqAt.RcAt A s (.ref a) (.ref b) (eqDs ds es) ∧ SeqAt.RcNeAt A s (.ref a) (.ref b) (!eqDs ds es) := by
  obtain ⟨its, q1, p1, z1⟩ := I.list h1
  obtain ⟨js, q2, p2, z2⟩ := I.list h2
  have l1 := q1.length
  have l2 := q2.length
  have m1 := r1.len
  have m2 := r2.len
  by_cases hl : ds.length = es.length
  · rw [← eqDs_all hl, show ds.length = its.toArray.size by rw [List.size_toArray]; omega]
    have hz : its.toArray.size = js.toArray.size := by rw [List.size_toArray, List.size_toArray]; omega
    exact ⟨SeqAt.RcAt.lists p1.isList p2.isList hz hu (at_of (h its js q1 q2)), SeqAt.RcNeAt.lists p1.isList p2.isList hz hu (at_of (h its js q1 q2))⟩
  · rw [eqDs_len hl]
    have hz : (its.toArray.size != js.toArray.size) = true := by simp only [List.size_toArray, bne_iff_ne, ne_eq]; omega
    exact ⟨SeqAt.RcAt.lists_lengths p1.isList p2.isList hz hu, SeqAt.RcNeAt.lists_lengths p1.isList p2.isList hz hu⟩
theorem rc_tups {A : Around} {a b : Addr} {xs ys : List V} {ds es : List D} (I : Inv X pins σ H s) (hu : A.units < cLine) (h1 : SqT X.K H a xs) (h2 : SqT X.K H b ys) (r1 : Reps X.K H ds xs) (r2 : Reps X.K H es ys)
    (h : ∀ its js, Vals xs its → Vals ys js → ∀ j u v, its[j]? = some u → js[j]? = some v → SeqAt.EqAt A.in1 s u v (eAt ds es j)) : SeqAt.RcAt A s (.ref a) (.ref b) (eqDs ds es) ∧ SeqAt.RcNeAt A s (.ref a) (.ref b) (!eqDs ds es) := by
  obtain ⟨its, q1, p1, z1⟩ := I.tuple h1
  obtain ⟨js, q2, p2, z2⟩ := I.tuple h2
  have l1 := q1.length
  have l2 := q2.length
  have m1 := r1.len
  have m2 := r2.len
  have e : ((List.range (min its.toArray.size js.toArray.size)).all (eAt ds es) && its.toArray.size == js.toArray.size) = eqDs ds es := by
    rw [List.size_toArray, List.size_toArray]
    by_cases hl : ds.length = es.length
    · rw [← eqDs_all hl, show min its.length js.length = ds.length by omega, show its.length = js.length by omega]
      simp
    · rw [eqDs_len hl]
      have : (its.length == js.length) = false := by simp; omega
      rw [this, Bool.and_false]
  rw [← e]
  exact ⟨SeqAt.RcAt.tuples p1 p2 hu (at_of (h its js q1 q2)), SeqAt.RcNeAt.tuples p1 p2 hu (at_of (h its js q1 q2))⟩
mutual
theorem rep_at (I : Inv X pins σ H s) : ∀ (d e : D) (A : Around) (x y : V) (u v : Value), A.units + dep d + dep e < cLine → Rep X.K H d x → Rep X.K H e y → RelV x u → RelV y v → SeqAt.EqAt A s u v (eqD d e)
  | .at a, .at b, A, x, y, u, v, hu, h1, h2, ru, rv => by
    unfold Rep at h1 h2
    obtain ⟨rfl, f⟩ := h1
    obtain ⟨rfl, g⟩ := h2
    unfold eqD
    exact eqAt_V ru rv f g
  | .at a, .seq t es, A, x, y, u, v, hu, h1, h2, ru, rv => by
    unfold Rep at h1 h2
    obtain ⟨rfl, f⟩ := h1
    obtain ⟨b, ys, rfl, t2, l2, _⟩ := h2
    cases rv
    unfold eqD
    cases t with
    | true => obtain ⟨_, _, p, _⟩ := I.tuple (t2 rfl); exact flat_tup f ru p (by omega)
    | false => obtain ⟨_, _, p, _⟩ := I.list (l2 rfl); exact flat_list f ru p.isList (by omega)
  | .seq t ds, .at b, A, x, y, u, v, hu, h1, h2, ru, rv => by
    unfold Rep at h1 h2
    obtain ⟨rfl, f⟩ := h2
    obtain ⟨a, xs, rfl, t1, l1, _⟩ := h1
    cases ru
    unfold eqD
    cases t with
    | true => obtain ⟨_, _, p, _⟩ := I.tuple (t1 rfl); exact tup_flat f rv p (by omega)
    | false => obtain ⟨_, _, p, _⟩ := I.list (l1 rfl); exact list_flat f rv p.isList (by omega)
  | .seq t ds, .seq t' es, A, x, y, u, v, hu, h1, h2, ru, rv => by
    have k1 := h1
    have k2 := h2
    unfold Rep at h1 h2
    obtain ⟨a, xs, rfl, t1, l1, r1⟩ := h1
    obtain ⟨b, ys, rfl, t2, l2, r2⟩ := h2
    cases ru
    cases rv
    unfold dep at hu
    have hu' : A.in1.units + deps ds + deps es < cLine := by rw [Around.in1_units]; omega
    have hu0 : A.units < cLine := by omega
    by_cases hab : a = b
    · subst hab
      rw [rep_same I _ _ _ k1 k2]
      exact .same _
    · unfold eqD
      cases t with
      | true =>
        cases t' with
        | true => exact .of_refs hab (rc_tups I hu0 (t1 rfl) (t2 rfl) r1 r2 (reps_at I ds es A.in1 xs ys hu' r1 r2)).1
        | false =>
          obtain ⟨_, _, p, _⟩ := I.tuple (t1 rfl)
          obtain ⟨_, _, q, _⟩ := I.list (l2 rfl)
          exact .tuple_list p q.isList hu0
      | false =>
        cases t' with
        | true =>
          obtain ⟨_, _, p, _⟩ := I.list (l1 rfl)
          obtain ⟨_, _, q, _⟩ := I.tuple (t2 rfl)
          exact .list_tuple p.isList q hu0
        | false => exact .of_refs hab (rc_lists I hu0 (l1 rfl) (l2 rfl) r1 r2 (reps_at I ds es A.in1 xs ys hu' r1 r2)).1
theorem reps_at (I : Inv X pins σ H s) : ∀ (ds es : List D) (A : Around) (xs ys : List V), A.units + deps ds + deps es < cLine → Reps X.K H ds xs → Reps X.K H es ys →
    ∀ its js, Vals xs its → Vals ys js → ∀ j u v, its[j]? = some u → js[j]? = some v → SeqAt.EqAt A s u v (eAt ds es j)
  | [], es, A, xs, ys, hu, h1, h2, its, js, q1, q2, j, u, v, e1, e2 => by
    unfold Reps at h1
    subst h1
    cases q1
    simp at e1
  | d :: ds, [], A, xs, ys, hu, h1, h2, its, js, q1, q2, j, u, v, e1, e2 => by
    unfold Reps at h2
    subst h2
    cases q2
    simp at e2
  | d :: ds, e :: es, A, xs, ys, hu, h1, h2, its, js, q1, q2, j, u, v, e1, e2 => by
    unfold Reps at h1 h2
    obtain ⟨y, ys', rfl, k1, r1⟩ := h1
    obtain ⟨z, zs', rfl, k2, r2⟩ := h2
    unfold deps at hu
    cases q1 with
    | cons ru t1 =>
      cases q2 with
      | cons rv t2 =>
        cases j with
        | zero =>
          simp only [List.getElem?_cons_zero, Option.some.injEq] at e1 e2
          subst e1 e2
          exact rep_at I d e A y z _ _ (by omega) k1 k2 ru rv
        | succ j =>
          simp only [List.getElem?_cons_succ] at e1 e2
          exact reps_at I ds es A ys' zs' (by omega) r1 r2 _ _ t1 t2 j u v e1 e2
end
end
section
variable {X : Cx}
/-- == and != of two lists or two tuples -/
def rEqD (K : PySem.W.Frag) (neg : Bool) : R2 := fun x y H Q => ∃ t ds es, Rep K H (.seq t ds) x ∧ Rep K H (.seq t es) y ∧ deps ds + deps es ≤ 40 ∧ Q (.bl (if neg then !eqDs ds es else eqDs ds es)) H
theorem op_D {X : Cx} (neg : Bool) (hu : X.A.units + 64 < cLine) : OpR X (compareOp (if neg then .NotEq else .Eq)) (rEqD X.K neg) := by
  intro pins s σ H x y v u Q I rx ry h
  obtain ⟨t, ds, es, h1, h2, hd, q⟩ := h
  unfold Rep at h1 h2
  obtain ⟨a, xs, rfl, t1, l1, r1⟩ := h1
  obtain ⟨b, ys, rfl, t2, l2, r2⟩ := h2
  cases rx
  cases ry
  have hu' : X.A.in1.units + deps ds + deps es < cLine := by rw [Around.in1_units]; omega
  have hu0 : X.A.units < cLine := by omega
  have z : SeqAt.RcAt X.A s (.ref a) (.ref b) (eqDs ds es) ∧ SeqAt.RcNeAt X.A s (.ref a) (.ref b) (!eqDs ds es) := by
    cases t with
    | true => exact rc_tups I hu0 (t1 rfl) (t2 rfl) r1 r2 (reps_at I ds es X.A.in1 xs ys hu' r1 r2)
    | false => exact rc_lists I hu0 (l1 rfl) (l2 rfl) r1 r2 (reps_at I ds es X.A.in1 xs ys hu' r1 r2)
  cases neg with
  | true => exact z.2 X.prog X.w _ _ ⟨.bl (!eqDs ds es), H, I, rfl, q⟩
  | false => exact z.1 X.prog X.w _ _ ⟨.bl (eqDs ds es), H, I, rfl, q⟩
theorem op_eqD {K : PySem.W.Frag} (hu : X.A.units + 64 < cLine) (hK : X.K = K := by rfl) : OpR X (compareOp .Eq) (rEqD K false) := hK ▸ op_D false hu
theorem op_neD {K : PySem.W.Frag} (hu : X.A.units + 64 < cLine) (hK : X.K = K := by rfl) : OpR X (compareOp .NotEq) (rEqD K true) := hK ▸ op_D true hu
theorem room_64 {k : Nat} {A : Around} (hr : Room k A) : A.units + 64 < cLine := hr.units
/-! ### xs[lo::k]: some items of the list -/
theorem pick_vals {xs : List V} {its : List Value} (r : Vals xs its) : ∀ l : List Nat, ∃ ys, Vals ys (l.filterMap (its.toArray[·]?)) ∧ ∀ y ∈ ys, y ∈ xs
  | [] => ⟨[], .nil, fun _ h => nomatch h⟩
  | i :: l => by
    obtain ⟨ys, q, m⟩ := pick_vals r l
    rw [List.filterMap_cons, List.getElem?_toArray]
    cases e : xs[i]? with
    | none =>
      rw [r.none_of e]
      exact ⟨ys, q, m⟩
    | some x =>
      obtain ⟨u, hu, ru⟩ := r.get e
      rw [hu]
      refine ⟨x :: ys, .cons ru q, fun y hy => ?_⟩
      rcases List.mem_cons.mp hy with rfl | hy
      · exact List.mem_of_getElem? e
      · exact m y hy
/-- index of a tuple, K told -/
theorem ix_tupK {K : PySem.W.Frag} (h : X.K = K) : IxR X (rIxT K) := h ▸ ix_tup
end
end L2

namespace L2
open PySem PySem.Spec PyProof.Rows
/-! ### B.m(self, ..): a method called by its class; methods of objects of several classes -/
section
variable {X : Cx} {k : Nat} {m x : Str} {ps : List Str} {sp : Sp} {e : Expr} {es : List Expr} {p apos pos : Pos} {t : TA} {W : St → XK}
end
/-! ### a tuple of the module -/
/-! ### range(a, b, c), c above nought -/
/-! ### a op1 b op2 c op3 d -/
end L2

namespace L2
open PySem PySem.Spec PyProof.Rows
section
variable {X : Cx}
end
end L2

namespace L2
open PySem PySem.Spec PyProof.Rows
/-! ### C() where there is no __init__ but object's -/
end L2

namespace L2
open PySem PySem.Spec PyProof.Rows
/-! ### x (not) in a tuple of texts, for x of any kind; z.upper() -/
end L2

namespace L2
open PySem PySem.Spec PyProof.Rows

/-! ### for .. in reversed(xs), a list that stays -/
end L2

/-! Sorting by a tree of questions: what comes out is in order. -/
namespace CRS
open PySem PySem.W PyProof.Rows
/-- the tree answered by `lt`; only numbers of V are asked about -/
def run {α : Type} (lt : Nat → Nat → Bool) (V : Nat → Prop) : KasT α → (α → Prop) → Prop
  | .ret a, Q => Q a
  | .ask i j k, Q => V i ∧ V j ∧ run lt V (k (lt i j)) Q
section
variable {lt : Nat → Nat → Bool} {V : Nat → Prop}
theorem run_bind {α β : Type} {f : α → KasT β} {Q : β → Prop} : ∀ t : KasT α, run lt V t (fun a => run lt V (f a) Q) → run lt V (t.bind f) Q
  | .ret a, h => h
  | .ask i j k, ⟨h1, h2, h3⟩ => ⟨h1, h2, run_bind (k (lt i j)) h3⟩
theorem run_wp {α : Type} {cmp : Nat → Nat → (Bool → Shared → Prop) → Shared → Prop} {s : Shared} (hc : ∀ i j (C : Bool → Shared → Prop), V i → V j → C (lt i j) s → cmp i j C s) {Q : α → Prop} {G : α → Shared → Prop} (hq : ∀ a, Q a → G a s) :
    ∀ t : KasT α, run lt V t Q → t.kasWp cmp G s
  | .ret a, h => hq a h
  | .ask i j k, ⟨h1, h2, h3⟩ => hc i j _ h1 h2 (run_wp hc hq (k (lt i j)) h3)
theorem run_ite {α : Type} {c : Prop} {inst : Decidable c} {t u : KasT α} {Q : α → Prop} (h1 : c → run lt V t Q) (h2 : ¬ c → run lt V u Q) : run lt V (@ite _ c inst t u) Q := by
  by_cases h : c
  · rw [if_pos h]; exact h1 h
  · rw [if_neg h]; exact h2 h
end
section
variable {O : KeyOrd} {key : Nat → O.α} {N : Nat}
abbrev ltK (key : Nat → O.α) : Nat → Nat → Bool := fun i j => O.blt (key i) (key j)
def kk (key : Nat → O.α) (p : Array Nat) (i : Nat) : O.α := key (p.getD i 0)
def Pm (N : Nat) (p : Array Nat) : Prop := p.Perm (List.range N).toArray
def Up (key : Nat → O.α) (p : Array Nat) (m : Nat) : Prop := ∀ i j, i ≤ j → j < m → O.kle (kk key p i) (kk key p j)
def Dn (key : Nat → O.α) (p : Array Nat) (m : Nat) : Prop := ∀ i j, i ≤ j → j < m → O.kle (kk key p j) (kk key p i)
theorem Pm.size {p : Array Nat} (h : Pm N p) : p.size = N := by rw [h.size_eq]; simp
theorem Pm.lt {p : Array Nat} (h : Pm N p) (hN : 0 < N) (i : Nat) : p.getD i 0 < N := by
  unfold Array.getD
  split
  · rename_i hi
    have m : p[i] ∈ p.toList := by simp
    have m2 := (Array.perm_iff_toList_perm.mp h).mem_iff.mp m
    simpa using m2
  · exact hN
theorem Pm.rev {p : Array Nat} (h : Pm N p) (i j : Nat) : Pm N (kas_rev p i j) := (mirror_perm p i j _).trans h
theorem Pm.bub {p : Array Nat} (h : Pm N p) (i j : Nat) : Pm N (bubble p i j) := (bubble_perm p i j).trans h
theorem getD_of {p q : Array Nat} {i j : Nat} (h : p[i]? = q[j]?) : p.getD i 0 = q.getD j 0 := by
  have e : ∀ (r : Array Nat) (k : Nat), r.getD k 0 = (r[k]?).getD 0 := fun r k => by
    by_cases hk : k < r.size <;> simp [Array.getD, hk]
  rw [e, e, h]
theorem kk_rev {p : Array Nat} {i j : Nat} (hj : j ≤ p.size) (k : Nat) : kk key (kas_rev p i j) k = if i ≤ k ∧ k < j then kk key p (i + j - 1 - k) else kk key p k := by
  have e := getElem?_mirror_all (xs := p) (i := i) hj k
  unfold kk kas_rev
  by_cases c : i ≤ k ∧ k < j
  · rw [if_pos c] at e ⊢; rw [getD_of e]
  · rw [if_neg c] at e ⊢; rw [getD_of e]
theorem kk_bub {p : Array Nat} {b d : Nat} (hs : b < p.size) (hd : d ≤ b) (k : Nat) : kk key (bubble p b d) k = if k = b - d then kk key p b else if b - d < k ∧ k ≤ b then kk key p (k - 1) else kk key p k := by
  have e := getElem?_bubble hs d hd k
  unfold kk
  by_cases c : k = b - d
  · rw [if_pos c] at e ⊢; rw [getD_of e]
  · rw [if_neg c] at e ⊢
    by_cases c2 : b - d < k ∧ k ≤ b
    · rw [if_pos c2] at e ⊢; rw [getD_of e]
    · rw [if_neg c2] at e ⊢; rw [getD_of e]
/-- turning a stretch of like keys changes no key -/
theorem kk_like {p : Array Nat} {i j : Nat} (hj : j ≤ p.size) (h : ∀ k, i ≤ k → k < j → kk key p k = kk key p (j - 1)) (k : Nat) : kk key (kas_rev p i j) k = kk key p k := by
  rw [kk_rev hj]
  by_cases c : i ≤ k ∧ k < j
  · rw [if_pos c, h _ (by omega) (by omega), h k c.1 c.2]
  · rw [if_neg c]
theorem Up.more {p : Array Nat} {n : Nat} (h : Up key p n) (e : O.kle (kk key p (n - 1)) (kk key p n)) : Up key p (n + 1) := fun i j hij hj => by
  rcases Nat.lt_or_ge j n with z | z
  · exact h i j hij z
  · obtain rfl : j = n := by omega
    rcases Nat.eq_or_lt_of_le hij with y | y
    · rw [y]; exact KeyOrd.kle_refl _
    · exact KeyOrd.kle_trans (h i (j - 1) (by omega) (by omega)) e
theorem Dn.more {p : Array Nat} {n : Nat} (h : Dn key p n) (e : O.kle (kk key p n) (kk key p (n - 1))) : Dn key p (n + 1) := fun i j hij hj => by
  rcases Nat.lt_or_ge j n with z | z
  · exact h i j hij z
  · obtain rfl : j = n := by omega
    rcases Nat.eq_or_lt_of_le hij with y | y
    · rw [y]; exact KeyOrd.kle_refl _
    · exact KeyOrd.kle_trans e (h i (j - 1) (by omega) (by omega))
theorem Dn.of {p q : Array Nat} {n : Nat} (h : Dn key p n) (e : ∀ k, kk key q k = kk key p k) : Dn key q n := fun i j a b => by rw [e, e]; exact h i j a b
variable {β : Type}
theorem run_asc {p : Array Nat} (hp : Pm N p) (hN : 0 < N) {Q : Nat → Prop} : ∀ (f n : Nat), Up key p n → (∀ m, n ≤ m → m ≤ n + f → Up key p m → (m = n + f ∨ O.klt (kk key p m) (kk key p (m - 1))) → Q m) → run (ltK key) (fun i => i < N) (kas_asc p f n) Q
  | 0, n, h, q => q n (Nat.le_refl _) (Nat.le_refl _) h (.inl rfl)
  | f + 1, n, h, q => by
    refine ⟨hp.lt hN _, hp.lt hN _, ?_⟩
    refine run_ite (fun c => ?_) (fun c => ?_)
    · exact q n (Nat.le_refl _) (by omega) h (.inr c)
    · exact run_asc hp hN f (n + 1) (h.more (KeyOrd.kle_of_not_klt c)) fun m a b u v => q m (by omega) (by omega) u (v.imp (fun z => by omega) id)
/-- the last q + 1 of the first n are alike -/
def Tl (key : Nat → O.α) (p : Array Nat) (n q : Nat) : Prop := q + 1 ≤ n ∧ ∀ i, n - (q + 1) ≤ i → i < n → kk key p i = kk key p (n - 1)
theorem Tl.one {p : Array Nat} {n : Nat} : Tl key p (n + 1) 0 := ⟨by omega, fun i a b => by rw [show i = n + 1 - 1 by omega]⟩
theorem run_desc (hN : 0 < N) {Q : Array Nat × Nat × Nat → Prop} : ∀ (f : Nat) (p : Array Nat) (n q : Nat), Pm N p → n + f ≤ N → Dn key p n → Tl key p n q → (∀ p' m q', Pm N p' → n ≤ m → m ≤ n + f → Dn key p' m → Tl key p' m q' → Q (p', m, q')) → run (ltK key) (fun i => i < N) (kas_desc f p n q) Q
  | 0, p, n, q, hp, _, d, t, k => k p n q hp (Nat.le_refl _) (Nat.le_refl _) d t
  | f + 1, p, n, q, hp, hf, d, t, k => by
    have sz := hp.size
    refine ⟨hp.lt hN _, hp.lt hN _, ?_⟩
    refine run_ite (fun c => ?_) (fun c => ?_)
    · have d1 := d.more (KeyOrd.kle_of_klt c)
      refine run_ite (fun _ => ?_) (fun _ => ?_)
      · have like : ∀ k, kk key (kas_rev p (n - (q + 1)) n) k = kk key p k := kk_like (by omega) t.2
        exact run_desc hN f _ (n + 1) 0 (hp.rev _ _) (by omega) (d1.of like) .one fun p' m q' a b e => k p' m q' a (by omega) (by omega)
      · exact run_desc hN f _ (n + 1) 0 hp (by omega) d1 .one fun p' m q' a b e => k p' m q' a (by omega) (by omega)
    · refine ⟨hp.lt hN _, hp.lt hN _, ?_⟩
      refine run_ite (fun c2 => ?_) (fun c2 => ?_)
      · exact k p n q hp (Nat.le_refl _) (by omega) d t
      · have e : kk key p n = kk key p (n - 1) := KeyOrd.kle_antisymm (KeyOrd.kle_of_not_klt c2) (KeyOrd.kle_of_not_klt c)
        refine run_desc hN f p (n + 1) (q + 1) hp (by omega) (d.more (by rw [e]; exact KeyOrd.kle_refl _)) ⟨by have := t.1; omega, fun i a b => ?_⟩ fun p' m q' a b e => k p' m q' a (by omega) (by omega)
        rw [show n + 1 - 1 = n by omega]
        rcases Nat.lt_or_ge i n with z | z
        · rw [e]; exact t.2 i (by omega) z
        · rw [show i = n by omega]
theorem run_tail {p : Array Nat} {n m : Nat} (hN : 0 < N) (hp : Pm N p) (hm : m ≤ N) (hn : n ≤ m) (d : Dn key p n) {Q : Nat × Array Nat → Prop} (q : ∀ r p', Pm N p' → n ≤ r → r ≤ m → Up key p' r → Q (r, p')) : run (ltK key) (fun i => i < N) (kas_tail3 n m p) Q := by
  have sz := hp.size
  refine run_bind _ (run_asc (hp.rev 0 n) hN (m - n) n (fun i j a b => ?_) fun r a b u _ => q r _ (hp.rev 0 n) a (by omega) u)
  rw [kk_rev (by omega), kk_rev (by omega), if_pos ⟨by omega, by omega⟩, if_pos ⟨by omega, by omega⟩]
  exact d _ _ (by omega) (by omega)
theorem run_part {p : Array Nat} {n m : Nat} (hN : 0 < N) (hp : Pm N p) (hm : m ≤ N) (hn : n + 1 ≤ m) (d : Dn key p (n + 1)) {Q : Nat × Array Nat → Prop} (q : ∀ r p', Pm N p' → n ≤ r → r ≤ m → Up key p' r → Q (r, p')) : run (ltK key) (fun i => i < N) (kas_descPart n m p) Q := by
  refine run_bind _ (run_desc hN (m - (n + 1)) p (n + 1) 0 hp (by omega) d .one fun p' r c hp' a b d' t => ?_)
  have sz := hp'.size
  refine run_ite (fun _ => ?_) (fun _ => ?_)
  · have like : ∀ k, kk key (kas_rev p' (r - (c + 1)) r) k = kk key p' k := kk_like (by omega) t.2
    exact run_tail hN (hp'.rev _ _) hm (by omega) (d'.of like) fun x y z u v => q x y z (by omega) v
  · exact run_tail hN hp' hm (by omega) d' fun x y z u v => q x y z (by omega) v
theorem run_count {p : Array Nat} {m : Nat} (hN : 0 < N) (hp : Pm N p) (hm : m ≤ N) (h1 : 1 ≤ m) {Q : Nat × Array Nat → Prop} (q : ∀ r p', Pm N p' → 1 ≤ r → r ≤ m → Up key p' r → Q (r, p')) : run (ltK key) (fun i => i < N) (kas_count m p) Q := by
  have sz := hp.size
  refine run_bind _ (run_asc hp hN (m - 1) 1 (fun i j a b => ?_) fun n a b u v => ?_)
  · rw [show i = j by omega]; exact KeyOrd.kle_refl _
  refine run_ite (fun c => ?_) (fun c => ?_)
  · exact q n p hp a (by omega) u
  have c' : n ≠ m := fun e => c (by rw [e]; exact beq_self_eq_true _)
  have fall : O.klt (kk key p n) (kk key p (n - 1)) := v.resolve_left (by omega)
  refine run_ite (fun g => ?_) (fun g => ?_)
  · refine ⟨hp.lt hN _, hp.lt hN _, ?_⟩
    refine run_ite (fun r => ?_) (fun r => ?_)
    · exact q n p hp a (by omega) u
    have alike : ∀ k, 0 ≤ k → k < n → kk key p k = kk key p (n - 1) := fun k _ hk =>
      KeyOrd.kle_antisymm (u k (n - 1) (by omega) (by omega)) (KeyOrd.kle_trans (KeyOrd.kle_of_not_klt r) (u 0 k (by omega) hk))
    have like : ∀ k, kk key (kas_rev p 0 n) k = kk key p k := kk_like (by omega) alike
    refine run_part hN (hp.rev 0 n) hm (by omega) (Dn.of (p := p) (Dn.more (fun i j x y => ?_) (KeyOrd.kle_of_klt fall)) like) fun x y z w => q x y z (by omega)
    rw [alike i (by omega) (by omega), alike j (by omega) y]
    exact KeyOrd.kle_refl _
  · refine run_part hN hp hm (by omega) (Dn.more (fun i j x y => ?_) (KeyOrd.kle_of_klt fall)) fun x y z w => q x y z (by omega)
    rw [show i = j by omega]
    exact KeyOrd.kle_refl _
theorem run_place {p : Array Nat} {k : Nat} (hN : 0 < N) (hp : Pm N p) (u : Up key p k) {Q : Nat → Prop} (q : ∀ l, l ≤ k → (∀ i, i < l → O.kle (kk key p i) (kk key p k)) → (∀ i, l ≤ i → i < k → O.klt (kk key p k) (kk key p i)) → Q l) :
    ∀ (f l r : Nat), l ≤ r → r ≤ k → r - l ≤ f → (∀ i, i < l → O.kle (kk key p i) (kk key p k)) → (∀ i, r ≤ i → i < k → O.klt (kk key p k) (kk key p i)) → run (ltK key) (fun i => i < N) (kas_place p k f l r) Q
  | 0, l, r, a, b, c, x, y => by
    obtain rfl : l = r := by omega
    exact q l b x y
  | f + 1, l, r, a, b, c, x, y => by
    refine run_ite (fun g => ?_) (fun g => ?_)
    · obtain rfl : l = r := by omega
      exact q l b x y
    refine ⟨hp.lt hN _, hp.lt hN _, ?_⟩
    refine run_ite (fun z => ?_) (fun z => ?_)
    · exact run_place hN hp u q f l ((l + r) / 2) (by omega) (by omega) (by omega) x fun i v w => KeyOrd.klt_of_klt_of_kle z (u _ i v w)
    · exact run_place hN hp u q f ((l + r) / 2 + 1) r (by omega) b (by omega) (fun i v => KeyOrd.kle_trans (u i ((l + r) / 2) (by omega) (by omega)) (KeyOrd.kle_of_not_klt z)) y
theorem run_bin (hN : 0 < N) {Q : Array Nat → Prop} : ∀ (f : Nat) (p : Array Nat) (k : Nat), Pm N p → k + f ≤ N → Up key p k → (∀ p', Pm N p' → Up key p' (k + f) → Q p') → run (ltK key) (fun i => i < N) (kas_bin f p k) Q
  | 0, p, k, hp, _, u, q => q p hp u
  | f + 1, p, k, hp, hk, u, q => by
    have sz := hp.size
    refine run_bind _ (run_place hN hp u (fun l a lo hi => ?_) k 0 k (by omega) (by omega) (by omega) (fun i z => by omega) fun i z w => by omega)
    refine run_bin hN f _ (k + 1) (hp.bub _ _) (by omega) (fun i j x y => ?_) fun p' a b => q p' a (by rw [show k + (f + 1) = k + 1 + f by omega]; exact b)
    have bb : ∀ i, kk key (bubble p k (k - l)) i = if i = l then kk key p k else if l < i ∧ i ≤ k then kk key p (i - 1) else kk key p i := fun i => by
      rw [kk_bub (by omega) (by omega), show k - (k - l) = l by omega]
    rw [bb, bb]
    rcases Nat.lt_trichotomy i l with c | c | c
    · rw [if_neg (by omega), if_neg (by omega)]
      rcases Nat.lt_trichotomy j l with e | e | e
      · rw [if_neg (by omega), if_neg (by omega)]; exact u i j x (by omega)
      · rw [if_pos e]; exact lo i c
      · rw [if_neg (by omega), if_pos (by omega)]; exact u i (j - 1) (by omega) (by omega)
    · rw [if_pos c]
      rcases Nat.eq_or_lt_of_le x with e | e
      · rw [if_pos (by omega)]; exact KeyOrd.kle_refl _
      · rw [if_neg (by omega), if_pos (by omega)]; exact KeyOrd.kle_of_klt (hi (j - 1) (by omega) (by omega))
    · rw [if_neg (by omega), if_pos (by omega), if_neg (by omega), if_pos (by omega)]
      exact u (i - 1) (j - 1) (by omega) (by omega)
theorem run_sort (hN : 0 < N) {Q : Array Nat → Prop} (q : ∀ p, Pm N p → Up key p N → Q p) : run (ltK key) (fun i => i < N) (kas_sort N) Q := by
  refine run_bind _ (run_count hN (show Pm N _ from Array.Perm.refl _) (Nat.le_refl _) hN fun r p hp a b u => ?_)
  refine run_ite (fun c => ?_) (fun c => ?_)
  · have c' : r < N := c
    show run _ _ (kas_bin (N - max r 1) p (max r 1)) Q
    have e : max r 1 = r := by omega
    rw [e]
    exact run_bin hN _ p r hp (by omega) u fun p' x y => q p' x (by rw [show r + (N - r) = N by omega] at y; exact y)
  · have c' : ¬ r < N := c
    obtain rfl : r = N := by omega
    exact q p hp u
end
end CRS

namespace L2
open PySem PySem.Spec PyProof.Rows PySem.W

/-! ### sorting lists of tuples of ints -/
theorem lex_irrefl : ∀ a : List Int, HT.lexLt a a = false
  | [] => rfl
  | x :: xs => by unfold HT.lexLt; rw [if_pos rfl]; exact lex_irrefl xs
theorem lex_trans : ∀ a b c : List Int, HT.lexLt a b = true → HT.lexLt b c = true → HT.lexLt a c = true
  | [], [], _, h, _ => nomatch h
  | [], _ :: _, [], _, h => nomatch h
  | [], _ :: _, _ :: _, _, _ => rfl
  | _ :: _, [], _, h, _ => nomatch h
  | _ :: _, _ :: _, [], _, h => nomatch h
  | x :: xs, y :: ys, z :: zs, h1, h2 => by
    unfold HT.lexLt at h1 h2 ⊢
    by_cases e1 : x = y
    · by_cases e2 : y = z
      · rw [if_pos e1] at h1; rw [if_pos e2] at h2; rw [if_pos (e1.trans e2)]; exact lex_trans xs ys zs h1 h2
      · rw [if_neg e2] at h2; rw [if_neg (by rw [e1]; exact e2), e1]; exact h2
    · rw [if_neg e1] at h1
      have l1 := of_decide_eq_true h1
      by_cases e2 : y = z
      · rw [if_neg (by rw [← e2]; exact e1), ← e2]; exact h1
      · rw [if_neg e2] at h2
        have l2 := of_decide_eq_true h2
        rw [if_neg (by omega)]
        exact decide_eq_true (by omega)
theorem lex_neg : ∀ a b c : List Int, HT.lexLt a c = true → HT.lexLt a b = true ∨ HT.lexLt b c = true
  | [], [], _, h => .inr h
  | [], _ :: _, _, _ => .inl rfl
  | _ :: _, _, [], h => nomatch h
  | _ :: _, [], _ :: _, _ => .inr rfl
  | x :: xs, y :: ys, z :: zs, h => by
    unfold HT.lexLt at h ⊢
    by_cases e1 : x = y
    · by_cases e2 : y = z
      · rw [if_pos (e1.trans e2)] at h; rw [if_pos e1, if_pos e2]; exact lex_neg xs ys zs h
      · rw [if_neg (by rw [e1]; exact e2)] at h; rw [if_neg e2]; exact .inr (by rw [← e1]; exact h)
    · rw [if_neg e1]
      by_cases e2 : y = z
      · rw [if_neg (by rw [← e2]; exact e1)] at h; exact .inl (by rw [e2]; exact h)
      · rw [if_neg e2]
        by_cases l : x < y
        · exact .inl (decide_eq_true l)
        · right
          refine decide_eq_true ?_
          by_cases e3 : x = z
          · omega
          · rw [if_neg e3] at h
            have := of_decide_eq_true h
            omega
theorem lex_total : ∀ a b : List Int, HT.lexLt a b = false → HT.lexLt b a = false → a = b
  | [], [], _, _ => rfl
  | [], _ :: _, h, _ => nomatch h
  | _ :: _, [], _, h => nomatch h
  | x :: xs, y :: ys, h1, h2 => by
    unfold HT.lexLt at h1 h2
    by_cases e1 : x = y
    · rw [if_pos e1] at h1; rw [if_pos e1.symm] at h2; rw [e1, lex_total xs ys h1 h2]
    · rw [if_neg e1] at h1; rw [if_neg (Ne.symm e1)] at h2
      have l1 := of_decide_eq_false h1
      have l2 := of_decide_eq_false h2
      omega
/-- lists of ints, as tuples of ints are compared -/
def LexO : KeyOrd := ⟨List Int, HT.lexLt, lex_irrefl, lex_trans, lex_neg, lex_total⟩

section
variable {prog : Program} {w : World} {A : Around} {E : Value → Shared → Prop} {s : Shared}
/-- the sort of vs finds one kind, and each two compared answer by key -/
def Asks (prog : Program) (w : World) (A : Around) (vs : List Value) (O : KeyOrd) (key : Nat → O.α) (s : Shared) : Prop :=
  ∃ κ : SortKind, (∀ (Q : SortKind → Shared → Prop) (E : Value → Shared → Prop), Q κ s → wpAny (model prog w) A (keyKind' vs.toArray) Q E s) ∧
    ∀ i j, i < vs.length → j < vs.length → ∀ C : Bool → Shared → Prop, C (O.blt (key i) (key j)) s → wpAny (model prog w) A (keyLt' κ (vs.getD i Value.none) (vs.getD j Value.none)) C (fun _ _ => False) s
def outs (vs : List Value) (p : Array Nat) : List Value := p.toList.map fun i => vs.getD i Value.none
theorem outs_len {n : Nat} {vs : List Value} {p : Array Nat} (h : CRS.Pm n p) : (outs vs p).length = n := by
  unfold outs
  rw [List.length_map, Array.length_toList, h.size]
/-! #### tuples of ints -/
theorem lex_ints {Q : Bool → Shared → Prop} : ∀ {xs ys : List Value} {ns ms : List Int} (i : Nat), IntsAre xs ns → IntsAre ys ms → ns.length = ms.length → Q (HT.lexLt ns ms) s → KatLex prog w A true false Q (xs.zip ys) i s
  | _, _, _, _, i, .nil, .nil, _, h => kat_nil h
  | _, _, _, _, _, .nil, .cons _ _ _, e, _ => by simp at e
  | _, _, _, _, _, .cons _ _ _, .nil, e, _ => by simp at e
  | _, _, _, _, i, .cons a t r, .cons b u r', e, h => by
    rw [List.zip_cons_cons]
    refine kat_cons (wpAny_eqBool_int ?_)
    rw [HT.lexLt_cons] at h
    by_cases c : a = b
    · rw [if_pos c] at h
      have e2 : (a == b) = true := by rw [c]; exact beq_self_eq_true b
      rw [e2]
      exact kat_yes (lex_ints (i + 1) r r' (by simpa using e) h)
    · rw [if_neg c] at h
      have e2 : (a == b) = false := by simpa using c
      rw [e2]
      refine kat_no ?_
      cases i with
      | zero => exact oneLt_int h
      | succ i => exact kat_one _ _ (PyProof.Rows.lt_int h)
/-- the values are tuples of ints, k of each -/
def TupV (h : Heap) (k : Nat) : List Value → List (List Int) → Prop
  | [], [] => True
  | v :: vs, r :: rs => (∃ (t : Addr) (xs : List Value), v = .ref t ∧ IsTup h t xs.toArray ∧ IntsAre xs r ∧ r.length = k) ∧ TupV h k vs rs
  | _, _ => False
theorem TupV.at {h : Heap} {k : Nat} : ∀ {vs : List Value} {rs : List (List Int)} {i : Nat}, TupV h k vs rs → i < vs.length → ∃ (t : Addr) (xs : List Value), vs.getD i Value.none = .ref t ∧ IsTup h t xs.toArray ∧ IntsAre xs (rs.getD i []) ∧ (rs.getD i []).length = k
  | [], [], _, _, z => by simp at z
  | [], _ :: _, _, z, _ => z.elim
  | _ :: _, [], _, z, _ => z.elim
  | v :: vs, r :: rs, 0, ⟨⟨t, xs, e, z⟩, q⟩, _ => ⟨t, xs, e, z⟩
  | v :: vs, r :: rs, i + 1, ⟨_, q⟩, l => q.at (i := i) (by simpa using l)
theorem TupV.firsts {h : Heap} {k : Nat} : ∀ {vs : List Value} {rs : List (List Int)}, TupV h (k + 1) vs rs → ∃ fs : List Value, KatTups h vs fs ∧ fs.length = vs.length ∧ ∀ v ∈ fs, ∃ (n : Int) (t : Tok), v = .int n t
  | [], [], _ => ⟨[], trivial, rfl, fun _ z => nomatch z⟩
  | [], _ :: _, z => z.elim
  | _ :: _, [], z => z.elim
  | v :: vs, r :: rs, ⟨⟨t, xs, e, ⟨o, ho, hc, n, hd⟩, ia, l⟩, q⟩ => by
    obtain ⟨fs, h1, h2, h3⟩ := q.firsts
    cases ia with
    | nil => simp at l
    | cons a u rr =>
      refine ⟨.int a u :: fs, ⟨⟨t, o, _, n, e, ho, hc, hd, by simp⟩, h1⟩, by rw [List.length_cons, List.length_cons, h2], fun y hy => ?_⟩
      rcases List.mem_cons.mp hy with z | z
      · exact ⟨a, u, z⟩
      · exact h3 y z
theorem looks_int {M : Model} {h : Heap} (n : Int) (t : Tok) : Looks M h (typeOf (.int n t)) (.type "int") := fun A Q E s _ q => wpAny_of_eq rfl q
theorem asks_tups {vs : List Value} {rs : List (List Int)} {k : Nat} (T : TupV s.heap (k + 1) vs rs) (two : 2 ≤ vs.length) : Asks prog w A vs LexO (fun i => rs.getD i []) s := by
  obtain ⟨fs, h1, h2, h3⟩ := T.firsts
  refine ⟨tuples' (Value.type "int" != Value.type "tuple"), fun Q E q => kat_kind h1 (by omega) (fun v hv => ?_) rfl q, fun i j hi hj C hC => ?_⟩
  · obtain ⟨n, t, rfl⟩ := h3 v hv
    exact looks_int n t
  · obtain ⟨t, xs, e, ⟨o, ho, hc, n, hd⟩, ia, l⟩ := T.at hi
    obtain ⟨t', xs', e', ⟨o', ho', hc', n', hd'⟩, ia', l'⟩ := T.at hj
    rw [e, e']
    have ls := ia.length
    have ls' := ia'.length
    have nb : (Value.type "int" != Value.type "tuple") = true := by decide +kernel
    rw [nb]
    refine kat_lt ho hd ho' hd' ?_
    have ef : decide (xs.toArray.size < xs'.toArray.size) = false := decide_eq_false (by simp only [List.size_toArray]; omega)
    rw [ef]
    exact lex_ints 0 ia ia' (l.trans l'.symm) hC
end
/-- the list's items are tuples of ints, k of each -/
def TupI (K : PySem.W.Frag) (H : Hp) (k : Nat) : List V → List (List Int) → Prop
  | [], [] => True
  | y :: ys, r :: rs => (∃ t, y = .ref t ∧ SqT K H t (r.map V.int) ∧ r.length = k) ∧ TupI K H k ys rs
  | _, _ => False
theorem ints_rel : ∀ {r : List Int} {us : List Value}, Vals (r.map V.int) us → IntsAre us r
  | [], _, .nil => .nil
  | a :: r, _, .cons ⟨t, e⟩ rr => by subst e; exact .cons a t (ints_rel rr)
section
variable {X : Cx}
theorem TupI.vals {pins : List (Addr × Obj)} {σ : St} {H : Hp} {s : Shared} {k : Nat} (I : Inv X pins σ H s) : ∀ {ys : List V} {rs : List (List Int)} {us : List Value}, TupI X.K H k ys rs → Vals ys us → TupV s.heap k us rs
  | [], [], _, _, .nil => trivial
  | [], _ :: _, _, z, _ => z.elim
  | _ :: _, [], _, z, _ => z.elim
  | y :: ys, r :: rs, _, ⟨⟨t, e, h, l⟩, q⟩, .cons rv rr => by
    subst e
    cases rv
    obtain ⟨its, rv', p, _⟩ := I.tuple h
    exact ⟨⟨t, its, rfl, p, ints_rel rv', l⟩, q.vals I rr⟩
theorem rel_getD : ∀ {ys : List V} {us : List Value} (i : Nat), Vals ys us → RelV (ys.getD i .non) (us.getD i Value.none)
  | _, _, _, .nil => rfl
  | _, _, 0, .cons r _ => r
  | _, _, i + 1, .cons _ rr => by
    rw [List.getD_cons_succ, List.getD_cons_succ]
    exact rel_getD i rr
theorem vals_map {ys : List V} {us : List Value} (r : Vals ys us) : ∀ l : List Nat, Vals (l.map fun i => ys.getD i .non) (l.map fun i => us.getD i Value.none)
  | [] => .nil
  | i :: l => .cons (rel_getD i r) (vals_map r l)
end
section
variable {X : Cx}
/-! ### the truth of a list in a test -/
end
end L2

namespace L2
open PySem PySem.Spec PyProof.Rows
/-! ### a def with default arguments, all of its arguments given -/
section
variable {P : Program} {w : World} {K : PySem.W.Frag} {mg : Str → Option Value} {base : Heap}
end
end L2
namespace L2
open PySem PySem.Spec PyProof.Rows
/-- for i, x in enumerate(xs), a list that the body leaves as it is -/
theorem for_enum {K K' : PySem.W.Frag} {a : Addr} {xs : List V} {i1 i2 : Nat} {tb : TS} {D : Ends} {σ : St} {H : Hp} (Pv : Nat → St → Hp → Prop) (h0 : Pv 0 σ H) (hl : ∀ i σ H, i ≤ xs.length → Pv i σ H → SqL K H a xs)
    (hs : ∀ i x σ H t, xs[i]? = some x → Pv i σ H → H t = none → tb { D with nx := Pv (i + 1), ct := Pv (i + 1), bk := D.nx } ((σ.set i1 (some (.int i))).set i2 (some x)) (upd H t (.tup [.int i, x]))) (hd : ∀ σ H, Pv xs.length σ H → D.nx σ H) :
    ∃ W : Nat → Nat → St → Hp → Prop, (∃ m, W 0 m σ H) ∧ ∀ i m σ H, W i m σ H →
      ((Ite K a).stop i H ∧ D.nx σ H) ∨ ((Ite K a).go i H ∧ ∃ N : St → Hp → Prop, (∀ σ' H', N σ' H' → ∃ m', m' < m ∧ W (i + 1) m' σ' H') ∧ ∀ x H', (Ite K a).yld i H x H' → gTup K' 2 (gCons (gName i1) (gCons (gName i2) gNil)) x σ H' fun σ2 H2 => tb { D with nx := N, ct := N, bk := D.nx } σ2 H2) := by
  refine ⟨fun i m σ H => m = xs.length - i ∧ i ≤ xs.length ∧ Pv i σ H, ⟨xs.length, by simp, Nat.zero_le _, h0⟩, ?_⟩
  rintro i m σ H ⟨rfl, hi, p⟩
  have q := hl i σ H hi p
  by_cases hlt : i < xs.length
  · refine .inr ⟨⟨xs, xs[i], q, by simp [hlt]⟩, Pv (i + 1), fun σ' H' p' => ⟨xs.length - (i + 1), by omega, rfl, hlt, p'⟩, fun x H' y => ?_⟩
    obtain ⟨t, z, ex, ht, hz, e3⟩ := y
    subst ex e3
    exact ⟨t, _, rfl, SqT.of upd_same, rfl, _, _, rfl, _, _, rfl, rfl, hs i z σ H t (hz xs q) p ht⟩
  · obtain rfl : i = xs.length := by omega
    exact .inl ⟨⟨xs, q, Nat.le_refl _⟩, hd σ H p⟩
end L2

namespace L2
open PySem PySem.Spec PyProof.Rows

/-! ### zip(xs, ys), its pairs unpacked by the target -/
end L2

namespace L2
open PySem PySem.Spec PyProof.Rows
/-! ### a text told several times -/
/-! ### a class whose __init__ has defaults, some of its arguments given -/
end L2

namespace L2
open PySem PySem.Spec PyProof.Rows
/-! ### raising while an exception is handled -/
section
variable {prog : Program} {w : World} {A : Around} {E : Value → Shared → Prop} {s : Shared}
end
/-! ### contexts in which something may be handled -/
section
variable {X : Cx} {pins : List (Addr × Obj)} {σ : St} {H : Hp} {s : Shared}
end
end L2

namespace L2
open PySem PySem.Spec PyProof.Rows
/-! ### defs that may be called whether or not an exception is handled; they may walk texts, and raise -/
section
variable {P : Program} {w : World} {K : PySem.W.Frag} {mg : Str → Option Value} {base : Heap} {N ps : List Str} {qual : Str} {scope : Scope} {f : Addr} {cd : Value} {A : Around} {outer : List Env} {s0 : Shared} {H0 : Hp} {E : XK} {k : Nat} {sp : Sp} {x : Str} {st : Stmt} {fd : FuncData}
end
section
variable {X : Cx} {k : Nat} {f : Addr} {fd : FuncData} {ps : List Str} {sp : Sp} {x : Str} {p pos : Pos} {e : Expr} {es : List Expr} {t : TA} {W : St → XK}
end
/-! ### raise C(..), whatever is handled -/
section
variable {prog : Program} {w : World} {A : Around} {E : Value → Shared → Prop} {env : Env}
variable {nm q : Str} {C N : Addr} {bs bm bmB : List Value} {hdct : Bool} {sn : List Str} {sub : List Value} {ab : Bool} {col : Option Bool} {dd : Option Addr} {k0 k1 k2 k3 k5 : Option Value} {B newId initId : String}
end
/-! ### try, one clause: the suite may call what raises -/
section
variable {X : Cx} {x n : Str} {Ch : Addr} {i : Nat} {body suite : List Stmt} {b₀ : Stmt} {tb : (St → XK) → TS} {ts : TS} {np hpos pos : Pos} {pins : List (Addr × Obj)} {σ : St} {H : Hp} {s : Shared} {e : Addr} {oe : Obj}
end
end L2

namespace L2
open PySem PySem.Spec PyProof.Rows PySem.W

/-! ### an untracked thing of ours is tracked -/
section
variable {X : Cx} {pins : List (Addr × Obj)} {σ : St} {H H' : Hp} {s : Shared}
theorem Inv.trackN {a : Addr} {o : HO} (I : Inv X pins σ H s) (fp : FpOk X pins H a) (new : ObjOk X.prog X.w (upd H a o) s.heap a o) : Inv X pins σ (upd H a o) s := by
  obtain ⟨hn, hL, _, h1, h2, h3⟩ := fp
  have na : ∀ b u, H b = some u → b ≠ a := fun b u e z => by rw [z, hn] at e; cases e
  refine I.step (h' := s.heap) (g' := s.gens) (d' := s.drawn) (t' := s.toks) (ch := [a]) (fun b hb => ?_) (fun b o _ _ _ e _ => e) (fun b o _ _ _ e _ => ⟨o.slots, e⟩) (fun b o hc e n => ?_) (fun b o _ e => ⟨o, e⟩)
    (fun b xs e => by rw [upd_ne (na _ _ e)]; exact e) (fun b ob u e => by rw [upd_ne (na _ _ e)]; exact e) (fun b ps e => ⟨#[], by rw [upd_ne (na _ _ e), e]; simp⟩) (fun m hm => hm) (fun b u e => ?_) I.bare
  · have e : b = a := by simpa using hb
    subst e
    exact ⟨h1, hL, h2, h3⟩
  · rw [upd_ne (fun z => hc (by simp [z]))]
    exact n
  · by_cases hb : b = a
    · subst hb
      rw [upd_same] at e
      cases e
      exact new
    · rw [upd_ne hb] at e
      exact (I.hok b u e).stay (fun _ _ _ q => q) (fun c q => by rw [upd_ne (na _ _ q)]; exact q) fun c xs q => by rw [upd_ne (na _ _ q)]; exact q
/-- fewer pins -/
theorem Inv.unpin {p : Addr × Obj} (I : Inv X (p :: pins) σ H s) : Inv X pins σ H s :=
  I.pins_of fun q hq => I.pin q (List.mem_append_right _ (List.mem_cons_of_mem _ hq))
theorem Inv.pin1 (I : Inv X pins σ H s) {a : Addr} {ob : Obj} (e : s.heap.get? a = some ob) (hn : H a = none) (hL : a ≠ X.env.locals) (hf : a ∉ X.fs) (hd : ∀ v, ob.data ≠ .cell v) : Inv X ((a, ob) :: pins) σ H s :=
  I.pins_of fun q hq => by
    rcases List.mem_cons.mp hq with z | z
    · subst z; exact ⟨e, hn, hL, hf, hd⟩
    · exact I.pin q (List.mem_append_right _ z)
end

/-! ### a call of a lambda -/
theorem lam_run {P : Program} {w : World} {K : PySem.W.Frag} {mg : Str → Option Value} {base : Heap} {A : Around} {outer : List Env} {s : Shared} {H : Hp} {f c' : Addr} {name qual : Str} {params : Arguments} {body : Expr} {scope : Scope} {pm ctv : Value} {N ps : List Str}
    {vs : List V} {us : List Value} {Q : VK} {t : TE} (S : FnScope N ps scope) (hr : Room 1 A) (e0 : Env0 P w K mg base A outer s H) (hf : s.heap.get? f = some (kla_obj name qual params body scope [] pm c' ctv)) (hcd : s.heap.CodeRec (.ref c') qual)
    (hb : bindArgs (kla_fn name qual params body scope [] pm (.ref c') ctv) ⟨us, []⟩ = pure (ps.zip us)) (r : Vals vs us) (hl : vs.length = ps.length)
    (hbody : PE (cxOf CX0 P w K mg base N qual scope f (.ref c') A outer s H E0).nox body t) (q : t (start N vs) H Q) :
    codeAny (model P w) A (.call (.ref f) ⟨us, []⟩) (CR CX0 outer P w H s Q E0) s := by
  have lim : s.heap.NoLimit := e0.mod.nolimit.keeps fun b o e => (e0.bs b o e).1
  have hkind : ∀ y ∈ ps.zip us, scope.names.lookup y.1 = some .local ∨ (scope.names.lookup y.1 = some .cell ∧ ((cellsFrom (s.heap.objs.size + 1) scope.names []).lookup y.1).isSome = true) := fun ⟨n, v⟩ hy => by
    rcases S.par n (List.of_mem_zip hy).1 with q | q
    · exact .inl q
    · exact .inr ⟨q, PySem.W.cellsFrom_some _ _ _ (.inl q)⟩
  refine kla_callFunE hr.depth hf rfl S.co S.gen rfl hcd ?_
  rw [hb]
  refine wpAny_pure ?_
  refine wpAny_newFunctionEnv_cells S.kind hkind fun env he s1 x => ?_
  subst he
  refine ⟨lim.keeps x.toInCall.keep, kla_codeExpr ?_⟩
  have I : Inv (cxOf CX0 P w K mg base N qual scope f (.ref c') A outer s H E0) [] (start N vs) H s1 := inv_start S hr.hd e0 hl r x
  refine wpAny_mono (hbody [] s1 (start N vs) H Q (I.wish _) q) (fun u s' ⟨v, H', J, rv, q'⟩ => ?_) fun e s' hs => (hs : False).elim
  exact ⟨v, H', J.os, J.bare, J.base, J.hok, rv, q'⟩

/-! ### a lambda is made -/
def CodeAt (c : Addr) (qual : Str) : Heap → Prop := fun h => h.CodeRec (.ref c) qual
/-- the code of the lambda in the table at T: not made yet, or made -/
def LamAt (T : Addr) (pos : Pos) (qual : Str) (H : Hp) : Prop := H T = some (.tbl #[]) ∨ ∃ c, H T = some (.tbl #[rawInt pos.line, rawInt pos.col, .ref c]) ∧ H c = some (.ext (CodeAt c qual))
/-- the builtins as the top left them -/
def BI (mg : Str → Option Value) (base : Heap) : Prop := ∃ bm ob, mg "__builtins__" = some (.ref bm) ∧ bm ≠ builtinsNs ∧ base.get? bm = some ob ∧ ob.cls = .type "module" ∧ ob.dict = some builtinsNs ∧ ob.data = .plain
theorem code_stay {c : Addr} {qual : Str} (h1 h2 : Heap) (x : CodeAt c qual h1) (k : ∀ o, h1.get? c = some o → h2.get? c = some o) : CodeAt c qual h2 := by
  obtain ⟨c', o, vs, t, e, ho, r⟩ := x
  cases e
  exact ⟨c, o, vs, t, rfl, k o ho, r⟩
section
variable {X : Cx} {pins : List (Addr × Obj)} {σ : St} {H : Hp} {s : Shared}
theorem lam_make {c T : Addr} {qual : Str} {params : Arguments} {body : Expr} {scope : Scope} {pos : Pos} {n : Nat} {A : Around} {E : Value → Shared → Prop} {Q : Value → Shared → Prop} (I : Inv X pins σ H s) (hcode : X.env.code = .ref c) (C : CodeHd X.base c T) (hcl : closureFor scope X.env = pure []) (L : LamAt T pos qual H) (hb : BI X.mg X.base)
    (h : ∀ (f c' : Addr) (pm ctv : Value) (h' : Heap) (tk : Nat) (H' : Hp), Inv X pins σ H' { s with heap := h', toks := tk } → (∀ b o, H b = some o → b ≠ T → H' b = some o) → (∀ b, b < s.heap.objs.size → H b = none → H' b = none) →
      H' T = some (.tbl #[rawInt pos.line, rawInt pos.col, .ref c']) → H' c' = some (.ext (CodeAt c' qual)) → FpOk X pins H' f →
      h'.get? f = some (kla_obj "<lambda>" qual params body scope [] pm c' ctv) → Q (.ref f) { s with heap := h', toks := tk }) :
    wpAny (model X.prog X.w) A (makeFunction "<lambda>" qual params (.expr body) scope X.env [] [] [] pos n) Q E s := by
  obtain ⟨bm, ob, b1, b2, b3, b4, b5, b6⟩ := hb
  have ht : ∃ ps, H T = some (.tbl ps) := by
    rcases L with L | ⟨c', L, _⟩
    · exact ⟨_, L⟩
    · exact ⟨_, L⟩
  obtain ⟨ps0, hT0⟩ := ht
  have neB : ∀ b o, X.base.get? b = some o → b ≠ T := fun b o e z => by
    have := (I.bs b o e).2
    rw [z, hT0] at this
    cases this
  have hgs := I.mod.glob.keeps I.bk
  have hgP : mainGlobals ≠ T := by
    obtain ⟨o, es, ep, e, _⟩ := I.mod.glob
    exact neB _ _ e
  have hbG : bm ≠ mainGlobals := fun q => by
    obtain ⟨o, es, ep, e, hd, _⟩ := I.mod.glob
    rw [q, e] at b3; cases b3; rw [hd] at b6; cases b6
  have BA : s.heap.BuiltinsAt X.mg T := ⟨bm, ob, b1, b2, hbG, neB _ _ b3, I.bk _ _ b3, b4, b5, b6⟩
  rcases L with L | ⟨c', L, Lc⟩
  · have hP : s.heap.get? T = some (tabObj #[]) := I.hok T _ L
    refine kla_makeFunction (mg := X.mg) hcl I.ok.glob hgs hcode (C.keeps I.bk) hP (by exact True.intro) (by rfl) hgP BA fun c' ctv h' tk hx hge hlt hrec htb => ?_
    have hcn : H c' = none := I.hok.fresh hge
    have nT : ∀ b, H b = none → b ≠ T := fun b n z => by rw [z, L] at n; cases n
    have nc : ∀ b, b < s.heap.objs.size → b ≠ c' := fun b l z => absurd (Nat.lt_of_lt_of_le l hge) (by rw [z]; exact Nat.lt_irrefl _)
    have ncs : ∀ b u, H b = some u → b ≠ c' := fun b u e z => by rw [z, hcn] at e; cases e
    have cT : c' ≠ T := (ncs T _ L).symm
    have keep : ∀ b o, b ≠ T → s.heap.get? b = some o → (h'.push (kla_obj "<lambda>" qual params body scope [] ((X.mg "__name__").getD .none) c' ctv)).get? b = some o := fun b o hb e => Heap.get?_push_of_some _ (hx b o hb e)
    have hT2 : (h'.push (kla_obj "<lambda>" qual params body scope [] ((X.mg "__name__").getD .none) c' ctv)).get? T = some (tabObj #[rawInt pos.line, rawInt pos.col, .ref c']) := Heap.get?_push_of_some _ (by simpa using htb)
    have u : Un X.fs [] H (upd (upd H T (.tbl #[rawInt pos.line, rawInt pos.col, .ref c'])) c' (.ext (CodeAt c' qual))) s.heap (h'.push (kla_obj "<lambda>" qual params body scope [] ((X.mg "__name__").getD .none) c' ctv)) := by
      have oth : ∀ b u, H b = some u → (∀ ps, u ≠ .tbl ps) → upd (upd H T (.tbl #[rawInt pos.line, rawInt pos.col, .ref c'])) c' (.ext (CodeAt c' qual)) b = some u := fun b u e n => by
        rw [upd_ne (ncs b u e), upd_ne (fun z => by rw [z, L] at e; cases e; exact n _ rfl)]
        exact e
      refine ⟨fun b o e n _ _ => keep b o (nT b n) e, fun b o e n _ _ => ⟨o.slots, keep b o (nT b n) e⟩, fun b o e n _ => ?_, fun b o e _ => ?_, fun b xs e => oth b _ e (fun _ z => by cases z), fun b o u e => oth b _ e (fun _ z => by cases z), fun b ps e => ?_⟩
      · rw [upd_ne (nc b (Heap.lt_size e)), upd_ne (nT b n)]
        exact n
      · by_cases hb : b = T
        · rw [hb]; exact ⟨_, hT2⟩
        · exact ⟨o, keep b o hb e⟩
      · by_cases hb : b = T
        · subst hb
          rw [L] at e
          cases e
          exact ⟨#[rawInt pos.line, rawInt pos.col, .ref c'], by rw [upd_ne cT.symm, upd_same]; simp⟩
        · exact ⟨#[], by rw [upd_ne (ncs b _ e), upd_ne hb, e]; simp⟩
    have hok : HOk X.prog X.w (upd (upd H T (.tbl #[rawInt pos.line, rawInt pos.col, .ref c'])) c' (.ext (CodeAt c' qual))) (h'.push (kla_obj "<lambda>" qual params body scope [] ((X.mg "__name__").getD .none) c' ctv)) := fun b o e => by
      by_cases hb : b = c'
      · subst hb
        rw [upd_same] at e
        cases e
        obtain ⟨c2, oc, vs, t, e2, hoc, r⟩ := hrec
        cases e2
        exact ⟨⟨b, oc, vs, t, rfl, Heap.get?_push_of_some _ hoc, r⟩, ⟨oc, Heap.get?_push_of_some _ hoc⟩, fun h1 h2 => code_stay h1 h2⟩
      · rw [upd_ne hb] at e
        by_cases hb2 : b = T
        · subst hb2
          rw [upd_same] at e
          cases e
          exact hT2
        · rw [upd_ne hb2] at e
          refine (I.hok b o e).stay (fun d v hd q => keep d v ?_ q) (fun d q => ?_) fun d xs q => ?_
          · rcases hd with z | z
            · rw [z]; exact hb2
            · intro y
              rw [y, L] at z
              cases z
          · rw [upd_ne (ncs d _ q), upd_ne (fun z => by rw [z, L] at q; cases q)]
            exact q
          · rw [upd_ne (ncs d _ q), upd_ne (fun z => by rw [z, L] at q; cases q)]
            exact q
    have big : s.heap.objs.size ≤ h'.objs.size := Nat.le_of_lt (Nat.lt_of_le_of_lt hge hlt)
    have fn : H h'.objs.size = none := I.hok.fresh big
    have ff : upd (upd H T (.tbl #[rawInt pos.line, rawInt pos.col, .ref c'])) c' (.ext (CodeAt c' qual)) h'.objs.size = none := by
      rw [upd_ne (Nat.ne_of_gt hlt), upd_ne (nT _ fn)]
      exact fn
    refine h h'.objs.size c' _ ctv _ tk _ (I.un (t' := tk) u hok) (fun b o e hb => ?_) (fun b l n => ?_) (by rw [upd_ne cT.symm, upd_same]) upd_same (I.fpOk big ff) (Heap.get?_push_size _ rfl)
    · rw [upd_ne (ncs b _ e), upd_ne hb]
      exact e
    · rw [upd_ne (nc b l), upd_ne (nT b n)]
      exact n
  · have hP : s.heap.get? T = some (tabObj #[rawInt pos.line, rawInt pos.col, .ref c']) := I.hok T _ L
    refine kla_makeFunctionHit (mg := X.mg) (cv := .ref c') hcl I.ok.glob hgs hcode (C.keeps I.bk) hP (by simp [TriplesOk, rawInt]) (by simp [codeAmong, rawInt]) BA fun ctv h' tk hk big => ?_
    have fn : H h'.objs.size = none := I.hok.fresh big
    refine h h'.objs.size c' _ ctv _ tk H (I.kept (t' := tk) fun b u e => Heap.get?_push_of_some _ (hk b u e)) (fun b o e _ => e) (fun b _ n => n) L Lc (I.fpOk big fn) (Heap.get?_push_size _ rfl)
end

/-! ### sorted with a key -/
section
variable {prog : Program} {w : World} {A : Around} {E : Value → Shared → Prop} {s : Shared}
theorem few_outK : ∀ {ks vs : List Value}, ks.length = vs.length → vs.length < 2 → ((ks.toArray.zip vs.toArray).map (·.2)) = (outs vs (List.range vs.length).toArray).toArray
  | [], [], _, _ => by
    apply Array.toList_inj.mp
    simp [outs]
  | [k], [v], _, _ => by
    apply Array.toList_inj.mp
    simp [outs]
  | [], _ :: _, h, _ => by simp at h
  | _ :: _, [], h, _ => by simp at h
  | _ :: _ :: _, [_], h, _ => by simp at h
  | _, _ :: _ :: _, _, h => absurd h (by simp)
theorem tail_by {a kS : Addr} {ks vs : List Value} {n e1 : Nat} {p : Array Nat} {st : SortSt} {P : PySem.Fin → Shared → Prop} (hk : s.heap.get? kS = some (seqObj "list" ks.toArray n)) (ha : s.heap.get? a = some (seqObj "list" #[] e1)) (hne : kS ≠ a)
    (hlk : ks.length < 64) (h64 : vs.length < 64) (hp : CRS.Pm vs.length p) (hout : (arrOf st).map (·.2) = (outs vs p).toArray) (hf : failedOf st = none)
    (h : P (.done (.ret .none)) { s with heap := (s.heap.update kS (Obj.mapSeq fun _ => (#[] : Array Value))).update a (Obj.mapSeq fun _ => (outs vs p).toArray) }) :
    wpAny (model prog w) A (ksk_tail a false e1 (.ref kS) st) P E s := by
  have line : ∀ k : Nat, k < 64 → k ≤ sizeLine := fun k hk => by rw [sizeLine_eq]; omega
  have ha2 : (s.heap.update kS (Obj.mapSeq fun _ => (#[] : Array Value))).get? a = some (seqObj "list" #[] e1) := (Heap.get?_update_ne _ _ _ _ (Ne.symm hne)).trans ha
  unfold ksk_tail
  dsimp only
  rw [hout]
  refine wpAny_bind (listUpdate_at hk rfl ?_ (by rw [List.size_toArray]; exact line _ hlk) (Nat.zero_le _))
  refine wpAny_bind (wpAny_letGo ?_)
  refine wpAny_bind (seqEpoch_at ha2 rfl ?_)
  simp only [Bool.false_eq_true, if_false]
  refine wpAny_bind (listUpdate_at ha2 rfl ?_ (Nat.zero_le _) (by rw [List.size_toArray, outs_len hp]; exact Nat.le_succ_of_le (line _ h64)))
  rw [hf]
  simp only [bne_self_eq_false, Bool.false_eq_true, if_false]
  exact wpAny_pure h
theorem end_by {O : KeyOrd} {key : Nat → O.α} {a kS : Addr} {ks vs : List Value} {n e1 : Nat} {P : PySem.Fin → Shared → Prop} (hk : s.heap.get? kS = some (seqObj "list" ks.toArray n)) (ha : s.heap.get? a = some (seqObj "list" #[] e1)) (hne : kS ≠ a)
    (hl : ks.length = vs.length) (h64 : vs.length < 64) (ask : 2 ≤ vs.length → Asks prog w A ks O key s)
    (h : ∀ p, CRS.Pm vs.length p → CRS.Up key p vs.length → P (.done (.ret .none)) { s with heap := (s.heap.update kS (Obj.mapSeq fun _ => (#[] : Array Value))).update a (Obj.mapSeq fun _ => (outs vs p).toArray) }) :
    wpAny (model prog w) A (ksk_end a false vs.toArray e1 (.ref kS) ks.toArray) P E s := by
  have sz : vs.toArray.size = vs.length := List.size_toArray ..
  unfold ksk_end
  dsimp only
  simp only [Bool.false_eq_true, if_false]
  by_cases few : vs.toArray.size < 2
  · rw [if_pos few, if_pos few]
    refine wpAny_bind (wpAny_pure ?_)
    rw [StateT.run_pure]
    refine wpAny_bind (wpAny_pure ?_)
    refine tail_by (p := (List.range vs.length).toArray) hk ha hne (by omega) h64 (Array.Perm.refl _) (few_outK hl (by omega)) rfl (h _ (Array.Perm.refl _) fun i j hij hj => ?_)
    rw [show i = j by omega]
    exact KeyOrd.kle_refl _
  · rw [if_neg few, if_neg few]
    have two : 2 ≤ vs.length := by omega
    obtain ⟨κ, kind, less⟩ := ask two
    refine wpAny_bind (kind _ _ ?_)
    have tree : (kas_sort vs.length).kasWp (kas_ask prog w A κ ks) (fun p s' => s' = s ∧ CRS.Pm vs.length p ∧ CRS.Up key p vs.length) s :=
      CRS.run_wp (lt := CRS.ltK key) (V := fun i => i < vs.length) (fun i j C hi hj hC => less i j (by omega) (by omega) C hC) (fun p hp => ⟨rfl, hp⟩) _ (CRS.run_sort (by omega) fun p h1 h2 => ⟨h1, h2⟩)
    refine wpAny_bind (wpAny_mono (kat_run (ks := ks) (vs := vs) (Q := fun st' s' => s' = s ∧ failedOf st' = none ∧ ∃ p, CRS.Pm vs.length p ∧ CRS.Up key p vs.length ∧ (arrOf st').map (·.2) = (outs vs p).toArray)
      hl two h64 (fun p st' s' _ har hf ⟨es, g1, g2⟩ => ⟨es, hf, p, g1, g2, kat_snds hl har⟩) tree) ?_ fun _ _ e => e)
    rintro ⟨⟨⟩, st'⟩ s' ⟨rfl, hf, p, hp, hu, eo⟩
    exact tail_by hk ha hne (by omega) h64 hp eo hf (h p hp hu)
end
/-- things with keys: tuples of four whose first three are ints -/
def Key4 (K : PySem.W.Frag) (H : Hp) : List V → List (List Int) → Prop
  | [], [] => True
  | y :: ys, r :: rs => (∃ (t : Addr) (d k n : Int) (v : V), y = .ref t ∧ SqT K H t [.int d, .int k, .int n, v] ∧ r = [d, k, n]) ∧ Key4 K H ys rs
  | _, _ => False
theorem Key4.len {K : PySem.W.Frag} {H : Hp} : ∀ {ys : List V} {rs : List (List Int)}, Key4 K H ys rs → ys.length = rs.length
  | [], [], _ => rfl
  | [], _ :: _, z => z.elim
  | _ :: _, [], z => z.elim
  | v :: vs, r :: rs, z => by rw [List.length_cons, List.length_cons, z.2.len]
theorem Key4.get {K : PySem.W.Frag} {H : Hp} : ∀ {ys : List V} {rs : List (List Int)} {i : Nat} {y : V}, Key4 K H ys rs → ys[i]? = some y → ∃ (t : Addr) (d k n : Int) (v : V), y = .ref t ∧ SqT K H t [.int d, .int k, .int n, v] ∧ rs[i]? = some [d, k, n]
  | [], [], _, _, _, e => by simp at e
  | [], _ :: _, _, _, z, _ => z.elim
  | _ :: _, [], _, _, z, _ => z.elim
  | y :: ys, r :: rs, 0, z, ⟨⟨t, d, k, n, v, e, h, er⟩, _⟩, q => by
    simp at q
    subst q
    exact ⟨t, d, k, n, v, e, h, by rw [er]; rfl⟩
  | y :: ys, r :: rs, i + 1, z, ⟨_, q⟩, e => by
    obtain ⟨t, d, k, n, v, h1, h2, h3⟩ := q.get (i := i) (by simpa using e)
    exact ⟨t, d, k, n, v, h1, h2, by simpa using h3⟩
theorem TupI.app {K : PySem.W.Frag} {H : Hp} {k : Nat} {t : Addr} {r : List Int} (h : SqT K H t (r.map V.int)) (l : r.length = k) : ∀ {ys : List V} {rs : List (List Int)}, TupI K H k ys rs → TupI K H k (ys ++ [.ref t]) (rs ++ [r])
  | [], [], _ => ⟨⟨t, rfl, h, l⟩, trivial⟩
  | [], _ :: _, z => z.elim
  | _ :: _, [], z => z.elim
  | y :: ys, q :: rs, ⟨z, y'⟩ => ⟨z, TupI.app h l y'⟩
theorem TupI.mono {K : PySem.W.Frag} {H H' : Hp} {k : Nat} (s : ∀ t xs, SqT K H t xs → SqT K H' t xs) : ∀ {ys : List V} {rs : List (List Int)}, TupI K H k ys rs → TupI K H' k ys rs
  | [], [], _ => trivial
  | [], _ :: _, z => z.elim
  | _ :: _, [], z => z.elim
  | y :: ys, q :: rs, ⟨⟨t, e, h, l⟩, y'⟩ => ⟨⟨t, e, s _ _ h, l⟩, TupI.mono s y'⟩
theorem TupI.len {K : PySem.W.Frag} {H : Hp} {k : Nat} : ∀ {ys : List V} {rs : List (List Int)}, TupI K H k ys rs → ys.length = rs.length
  | [], [], _ => rfl
  | [], _ :: _, z => z.elim
  | _ :: _, [], z => z.elim
  | y :: ys, q :: rs, z => by rw [List.length_cons, List.length_cons, z.2.len]
theorem sqT_upd {K : PySem.W.Frag} {H : Hp} {l : Addr} {xs ys : List V} (hl : H l = some (.lst xs)) : ∀ t zs, SqT K H t zs → SqT K (upd H l (.lst ys)) t zs := fun t zs h => by
  rcases h with (h | ⟨o, h⟩) | h
  · exact .inl (.inl (by rw [upd_ne (fun z => by rw [z, hl] at h; cases h)]; exact h))
  · exact .inl (.inr ⟨o, by rw [upd_ne (fun z => by rw [z, hl] at h; cases h)]; exact h⟩)
  · exact .inr h
theorem sqT_same {K : PySem.W.Frag} {H H' : Hp} (s : ∀ b o, H b = some o → H' b = some o) : ∀ t zs, SqT K H t zs → SqT K H' t zs := fun t zs h => by
  rcases h with (h | ⟨o, h⟩) | h
  · exact .inl (.inl (s _ _ h))
  · exact .inl (.inr ⟨o, s _ _ h⟩)
  · exact .inr h
section
variable {X : Cx} {pins : List (Addr × Obj)} {σ : St} {H : Hp} {s : Shared}
/-- what the body of such a lambda is -/
def LamB (X : Cx) (qual : Str) (params : Arguments) (body : Expr) (scope : Scope) : Prop := FnScope ["entry"] ["entry"] scope ∧
  (∀ (pm : Value) (c' : Addr) (ctv u : Value), bindArgs (kla_fn "<lambda>" qual params body scope [] pm (.ref c') ctv) ⟨[u], []⟩ = pure [(("entry" : Str), u)]) ∧
  ∀ (A : Around) (outer : List Env) (s : Shared) (H : Hp) (f c' : Addr), PE (cxOf CX0 X.prog X.w X.K X.mg X.base ["entry"] qual scope f (.ref c') A outer s H E0).nox body (tSl (rSlT X.K) (tVar 0) tNoPart (tPart (tC (.int 3))))
theorem lam_key {f c' : Addr} {qual : Str} {params : Arguments} {body : Expr} {scope : Scope} {pm ctv : Value} {A : Around} {t : Addr} {d k n : Int} {v : V} {E : Value → Shared → Prop} {R : Value → Shared → Prop} (B : LamB X qual params body scope) (hA : A.frames = some X.stack) (hr : Room 1 A)
    (I : Inv X pins σ H s) (hf : s.heap.get? f = some (kla_obj "<lambda>" qual params body scope [] pm c' ctv)) (hc : H c' = some (.ext (CodeAt c' qual))) (ht : SqT X.K H t [.int d, .int k, .int n, v])
    (h : ∀ p s', Inv X pins σ (upd H p (.tup [.int d, .int k, .int n])) s' → H p = none → R (.ref p) s') : wpAny (model X.prog X.w) A (call (.ref f) [.ref t]) R E s := by
  obtain ⟨S, bd, pb⟩ := B
  have e0 := I.env0
  have e1 : Env0 X.prog X.w X.K X.mg X.base A X.stack s H := ⟨hA, e0.mod, e0.bs, e0.bsz, e0.funs, e0.frf, e0.hok, e0.bare⟩
  have cr : s.heap.CodeRec (.ref c') qual := (I.hok c' _ hc).1
  refine wpAny_call (codeAny_mono (lam_run (vs := [.ref t]) (us := [.ref t]) (ps := ["entry"]) (N := ["entry"]) (Q := fun x H' => ∃ p, x = .ref p ∧ H p = none ∧ H' = upd H p (.tup [.int d, .int k, .int n])) S hr e1 hf cr (bd pm c' ctv _) (.cons rfl .nil) rfl (pb A X.stack s H f c') ?_) fun r s' hq => ?_)
  · refine ⟨_, rfl, _, rfl, t, _, rfl, ht, by show ¬ (HT.sIx 4 0 none = 0 ∧ HT.sIx 4 4 (some 3) = 4); decide, fun p hp => ⟨p, rfl, hp, rfl⟩⟩
  · cases r with
    | error e => exact False.elim hq
    | ok fl =>
      cases fl with
      | ret u =>
        obtain ⟨x, H', I', rx, p, rfl, hp, rfl⟩ := I.after hq
        cases rx
        exact h p s' I' hp
      | next => exact False.elim hq
      | brk => exact False.elim hq
      | cont => exact False.elim hq
/-- list.sort of a list of our own, by such a lambda -/
theorem sort_key {a f c' : Addr} {qual : Str} {params : Arguments} {body : Expr} {scope : Scope} {pm ctv : Value} {A : Around} {ys : List V} {rs : List (List Int)} {vs : List Value} {n : Nat} {E : Value → Shared → Prop} {R : PySem.Fin → Shared → Prop}
    (B : LamB X qual params body scope) (hA : A.frames = some X.stack) (hr : Room 1 A) (I : Inv X ((f, kla_obj "<lambda>" qual params body scope [] pm c' ctv) :: pins) σ H s) (hc : H c' = some (.ext (CodeAt c' qual)))
    (ha : s.heap.get? a = some (seqObj "list" vs.toArray n)) (fa : FpOk X ((f, kla_obj "<lambda>" qual params body scope [] pm c' ctv) :: pins) H a) (rv : Vals ys vs) (KY : Key4 X.K H ys rs) (h64 : ys.length < 64)
    (h : ∀ p s' H', Inv X pins σ H' s' → (∀ b o, H b = some o → H' b = some o) → CRS.Pm ys.length p → CRS.Up (O := LexO) (fun i => rs.getD i []) p ys.length → H' a = some (.lst (p.toList.map fun i => ys.getD i .non)) → R (.done (.ret .none)) s') :
    wpAny (model X.prog X.w) A (ksk_tree a (.ref f) false) R E s := by
  have lv := rv.length
  have line : ∀ k : Nat, k < 64 → k ≤ sizeLine := fun k hk => by rw [sizeLine_eq]; omega
  have s1 := Heap.SameBut.update s.heap a (Obj.mapSeq fun _ => (#[] : Array Value))
  obtain ⟨e1, ho1⟩ : ∃ e1, (s.heap.update a (Obj.mapSeq fun _ => (#[] : Array Value))).get? a = some (seqObj "list" #[] e1) := ⟨_, get?_update_seq ha fun _ => #[]⟩
  unfold ksk_tree
  refine wpAny_bind (listItems_at ha rfl ?_)
  refine wpAny_bind (listUpdate_at ha rfl ?_ (by rw [List.size_toArray]; exact line _ (by omega)) (Nat.zero_le _))
  refine wpAny_bind (seqEpoch_at ho1 rfl ?_)
  refine wpAny_bind (wpAny_newTuple ?_ (by show vs.length ≤ _; exact line _ (by omega)))
  refine wpAny_bind (wpAny_newList ?_ (Nat.zero_le _))
  refine wpAny_holding ?_
  have J1 : Inv X ((f, kla_obj "<lambda>" qual params body scope [] pm c' ctv) :: pins) σ H { s with heap := s.heap.update a (Obj.mapSeq fun _ => (#[] : Array Value)), toks := s.toks } :=
    I.turned (fun b o hb e => (s1.2 b hb).trans e) fa.1 fa.2.1 fa.2.2.2.1 fa.2.2.2.2.1 fa.2.2.2.2.2
  have J2 : Inv X ((f, kla_obj "<lambda>" qual params body scope [] pm c' ctv) :: pins) σ H { s with heap := (s.heap.update a (Obj.mapSeq fun _ => (#[] : Array Value))).push (seqObj "tuple" vs.toArray 0), toks := s.toks } :=
    J1.kept fun b o e => Heap.get?_push_of_some _ e
  have ho2 : ((s.heap.update a (Obj.mapSeq fun _ => (#[] : Array Value))).push (seqObj "tuple" vs.toArray 0)).get? a = some (seqObj "list" #[] e1) := Heap.get?_push_of_some _ ho1
  have nf : H ((s.heap.update a (Obj.mapSeq fun _ => (#[] : Array Value))).push (seqObj "tuple" vs.toArray 0)).objs.size = none := J2.fresh
  have J3 := J2.lnew (ys := []) (its := []) (t' := s.toks) .nil (Nat.zero_le _)
  have ho3 : (((s.heap.update a (Obj.mapSeq fun _ => (#[] : Array Value))).push (seqObj "tuple" vs.toArray 0)).push (seqObj "list" #[] 0)).get? a = some (seqObj "list" #[] e1) := Heap.get?_push_of_some _ ho2
  have nea : a ≠ ((s.heap.update a (Obj.mapSeq fun _ => (#[] : Array Value))).push (seqObj "tuple" vs.toArray 0)).objs.size := Nat.ne_of_lt (Heap.lt_size ho2)
  show wpAny _ _ _ _ _ { s with heap := ((s.heap.update a (Obj.mapSeq fun _ => (#[] : Array Value))).push (seqObj "tuple" vs.toArray 0)).push (seqObj "list" #[] 0), toks := s.toks }
  have J4 : Inv X ((a, seqObj "list" #[] e1) :: (f, kla_obj "<lambda>" qual params body scope [] pm c' ctv) :: pins) σ (upd H ((s.heap.update a (Obj.mapSeq fun _ => (#[] : Array Value))).push (seqObj "tuple" vs.toArray 0)).objs.size (.lst [])) { s with heap := ((s.heap.update a (Obj.mapSeq fun _ => (#[] : Array Value))).push (seqObj "tuple" vs.toArray 0)).push (seqObj "list" #[] 0), toks := s.toks } :=
    J3.pin1 ho3 (by rw [upd_ne nea]; exact fa.1) fa.2.1 fa.2.2.1 (fun v z => by cases z)
  revert J4
  generalize ((s.heap.update a (Obj.mapSeq fun _ => (#[] : Array Value))).push (seqObj "tuple" vs.toArray 0)).objs.size = kS at nf nea ⊢
  intro J4
  have S4 : ∀ b o, H b = some o → upd H kS (.lst []) b = some o := fun b o e => by rw [upd_ne (ne_of_none e nf)]; exact e
  have hk4 : upd H kS (.lst []) kS = some (.lst []) := upd_same
  generalize upd H kS (.lst []) = H4 at J4 S4 hk4
  unfold ksk_rest
  refine wpAny_bind (wpAny_rule ?_)
  first
    | rw [List.forIn_toArray]
    | (rw [← Array.forIn_toList]; simp only [List.toList_toArray])
    | rw [← Array.forIn_toList]
  refine wpAny_bind (ksk_fold (fun i s' => ∃ H' ts, Inv X ((a, seqObj "list" #[] e1) :: (f, kla_obj "<lambda>" qual params body scope [] pm c' ctv) :: pins) σ H' s' ∧ (∀ b o, H b = some o → H' b = some o) ∧ H' kS = some (.lst ts) ∧ TupI X.K H' 3 ts (rs.take i))
    vs 0 _ ⟨H4, [], J4, S4, hk4, by rw [List.take_zero]; trivial⟩ (fun j x s' hx ⟨H', ts, J, SH, hk, TI⟩ => ?_) (fun s' ⟨H', ts, J, SH, hk, TI⟩ => ?_))
  · rw [Nat.zero_add] at TI ⊢
    have hj : j < vs.length := (List.getElem?_eq_some_iff.mp hx).1
    have hj' : j < ys.length := by omega
    obtain ⟨t, d, k, m, v, ey, ht, er⟩ := KY.get (i := j) (List.getElem?_eq_getElem hj')
    obtain ⟨u, hu, ru⟩ := rv.get (List.getElem?_eq_getElem hj')
    rw [hx] at hu
    cases hu
    rw [ey] at ru
    cases ru
    have fo := (J.pin (f, kla_obj "<lambda>" qual params body scope [] pm c' ctv) (List.mem_append_right _ (by simp))).1
    refine wpAny_bind (wpAny_attempt (lam_key B hA hr J fo (SH _ _ hc) (sqT_same SH _ _ ht) fun p s'' J2 hp => ?_))
    have hk2 : upd H' p (.tup [.int d, .int k, .int m]) kS = some (.lst ts) := by rw [upd_ne (ne_of_none hk hp)]; exact hk
    obtain ⟨z, its, n', ri, li, e⟩ := J2.lstM hk2
    have lt := TI.len
    have lt' : ts.length ≤ j := by rw [lt, List.length_take]; omega
    dsimp only
    refine wpAny_bind (listUpdate_at e rfl ?_ (by rw [List.size_toArray, ← li]; exact line _ (by omega)) (Nat.le_trans (Nat.le_of_eq (Array.size_push ..)) (by rw [List.size_toArray, ← li, sizeLine_eq]; omega)))
    have J3 := J2.lset (t' := s''.toks) (f := (·.push (.ref p))) (its' := its ++ [.ref p]) (ys := ts ++ [.ref p]) hk2 e (by simp) (ri.append (Paired.cons (show RelV (.ref p) (.ref p) from rfl) .nil)) (by rw [List.length_append]; exact line _ (by show ts.length + 1 < 64; omega))
    refine wpAny_pure ⟨rfl, _, _, J3, fun b o q => ?_, upd_same, ?_⟩
    · rw [upd_ne (ne_of_none q nf), upd_ne (ne_of_none (SH _ _ q) hp)]
      exact SH _ _ q
    · have hp2 : SqT X.K (upd H' p (.tup [.int d, .int k, .int m])) p ([d, k, m].map V.int) := SqT.of upd_same
      have T2 : TupI X.K (upd H' p (.tup [.int d, .int k, .int m])) 3 ts (rs.take j) := TI.mono (sqT_same fun b o q => by rw [upd_ne (ne_of_none q hp)]; exact q)
      rw [List.take_add_one, er]
      exact (T2.app hp2 rfl).mono (sqT_upd hk2)
  · rw [Nat.zero_add] at TI
    have lr := KY.len
    rw [List.take_of_length_le (by omega)] at TI
    obtain ⟨z, its, n', ri, li, e⟩ := J.lstM hk
    have lt := TI.len
    refine wpAny_bind (listItems_at e rfl ?_)
    have ha' := (J.pin (a, seqObj "list" #[] e1) (List.mem_append_right _ (by simp))).1
    have ha'' := (J.pin (a, seqObj "list" #[] e1) (List.mem_append_right _ (by simp))).2.1
    refine end_by (O := LexO) (key := fun i => rs.getD i []) e ha' (Ne.symm nea) (by omega) (by omega) (fun two => asks_tups (TI.vals J ri) (by omega)) fun p hp hu => ?_
    have J5 := J.unpin.unpin.lset (t' := s'.toks) (f := fun _ => (#[] : Array Value)) (its' := []) (ys := []) hk e (by simp) .nil (Nat.zero_le _)
    have s2 := Heap.SameBut.update (s'.heap.update kS (Obj.mapSeq fun _ => (#[] : Array Value))) a (Obj.mapSeq fun _ => (outs vs p).toArray)
    have ha2 : (s'.heap.update kS (Obj.mapSeq fun _ => (#[] : Array Value))).get? a = some (seqObj "list" #[] e1) := (Heap.get?_update_ne _ _ _ _ nea).trans ha'
    have an : upd H' kS (.lst []) a = none := by rw [upd_ne nea]; exact ha''
    have fa' : FpOk X pins (upd H' kS (.lst [])) a := ⟨an, fa.2.1, fa.2.2.1, fa.2.2.2.1, fa.2.2.2.2.1, fun q hq => fa.2.2.2.2.2 q (by
      rcases List.mem_append.mp hq with z | z
      · exact List.mem_append_left _ z
      · exact List.mem_append_right _ (List.mem_cons_of_mem _ z))⟩
    have J6 := J5.turned (t' := s'.toks) (fun b o hb e => (s2.2 b hb).trans e) fa'.1 fa'.2.1 fa'.2.2.2.1 fa'.2.2.2.2.1 fa'.2.2.2.2.2
    have lp : (p.toList.map fun i => ys.getD i .non).length ≤ sizeLine := by
      rw [List.length_map, Array.length_toList, hp.size]
      exact line _ (by omega)
    have J7 := J6.trackN (o := .lst (p.toList.map fun i => ys.getD i .non)) fa' ⟨lp, outs vs p, _, vals_map rv _, get?_update_seq ha2 fun _ => (outs vs p).toArray⟩
    rw [← lv] at hp hu
    refine h p _ _ J7 (fun b o q => ?_) hp hu upd_same
    rw [upd_ne (ne_of_none q fa.1), upd_ne (ne_of_none q nf)]
    exact SH _ _ q
/-- sorted(xs, key=f), f such a lambda -/
theorem sorted_key {l f c' : Addr} {qual : Str} {params : Arguments} {body : Expr} {scope : Scope} {pm ctv : Value} {ys : List V} {rs : List (List Int)} {E : Value → Shared → Prop} {Q : VK}
    (B : LamB X qual params body scope) (hr : Room 3 X.A) (I : Inv X ((f, kla_obj "<lambda>" qual params body scope [] pm c' ctv) :: pins) σ H s) (hc : H c' = some (.ext (CodeAt c' qual)))
    (hl : SqL X.K H l ys) (KY : Key4 X.K H ys rs) (h64 : ys.length < 64)
    (h : ∀ p a H', H a = none → (∀ b o, H b = some o → H' b = some o) → CRS.Pm ys.length p → CRS.Up (O := LexO) (fun i => rs.getD i []) p ys.length → H' a = some (.lst (p.toList.map fun i => ys.getD i .non)) → Q (.ref a) H') :
    wpAny (model X.prog X.w) X.A (call (.builtin "sorted") [.ref l] [(Str.ofString "key", .ref f)]) (EP X pins σ Q) E s := by
  obtain ⟨vs, rv, pl, hz⟩ := I.list hl
  have lv := rv.length
  have line : vs.length ≤ sizeLine := by rw [sizeLine_eq]; omega
  refine call_function_entry_kw kind_sorted plain_sorted entry_sorted (ksk_s1 _ _) ?_
  unfold Builtin.«sorted»
  refine wpAny_bind (m := checkCount "sorted" 1 1 _) (wpAny_pure (wpAny_bind (collect_list pl.isList (wpAny_bind (wpAny_newList ?_ line)))))
  have sz : ((s.heap.push (seqObj "list" #[] 0)).update s.heap.objs.size (Obj.mapSeq (· ++ vs.toArray))).objs.size = s.heap.objs.size + 1 := by rw [Heap.size_update, size_push']
  have at1 : (((s.heap.push (seqObj "list" #[] 0)).update s.heap.objs.size (Obj.mapSeq (· ++ vs.toArray))).push (seqObj "list" vs.toArray 0)).get? (s.heap.objs.size + 1) = some (seqObj "list" vs.toArray 0) := by
    rw [← sz]
    exact Heap.get?_push_size _ rfl
  have old : ∀ b o, s.heap.get? b = some o → (((s.heap.push (seqObj "list" #[] 0)).update s.heap.objs.size (Obj.mapSeq (· ++ vs.toArray))).push (seqObj "list" vs.toArray 0)).get? b = some o := fun b o e =>
    Heap.get?_push_of_some _ (((Heap.SameBut.update (s.heap.push (seqObj "list" #[] 0)) s.heap.objs.size (Obj.mapSeq (· ++ vs.toArray))).2 b (Nat.ne_of_lt (Heap.lt_size e))).trans (Heap.get?_push_of_some _ e))
  show wpAny (model X.prog X.w) _ _ _ _ { s with heap := ((s.heap.push (seqObj "list" #[] 0)).update s.heap.objs.size (Obj.mapSeq (· ++ vs.toArray))).push (seqObj "list" vs.toArray 0) }
  rw [sz]
  have fn : H (s.heap.objs.size + 1) = none := I.hok.fresh (Nat.le_succ _)
  have J := I.kept (t' := s.toks) old
  have fa : FpOk X ((f, kla_obj "<lambda>" qual params body scope [] pm c' ctv) :: pins) H (s.heap.objs.size + 1) := I.fpOk (Nat.le_succ _) fn
  refine wpAny_bind (wpAny_holding (wpAny_call_entry_kw slot_list_sort ⟨_, at1, rfl⟩ entry_list_sort ?_ (ksk_l1 _ _)))
  rw [ksk_t1]
  refine sort_key (s := { s with heap := ((s.heap.push (seqObj "list" #[] 0)).update s.heap.objs.size (Obj.mapSeq (· ++ vs.toArray))).push (seqObj "list" vs.toArray 0) }) B I.ok.frames ((hr.in1).in1) J hc at1 fa rv KY h64 fun p s' H' J' SH hp hu ha => ⟨_, rfl, ?_⟩
  exact wpAny_pure ⟨_, rfl, .ref (s.heap.objs.size + 1), H', J', rfl, h p _ H' fn SH hp hu ha⟩
/-- the reading of sorted(e, key=lambda entry: entry[:3]) -/
def tSortK (K : PySem.W.Frag) (T : Addr) (lpos : Pos) (qual : Str) (te : TE) : TE := fun σ H Q => te σ H fun x H1 => ∃ l ys rs, x = .ref l ∧ SqL K H1 l ys ∧ Key4 K H1 ys rs ∧ ys.length < 64 ∧ LamAt T lpos qual H1 ∧
  ∀ (p : Array Nat) (a : Addr) (H' : Hp), H1 a = none → (∀ b o, H1 b = some o → b ≠ T → H' b = some o) → LamAt T lpos qual H' → CRS.Pm ys.length p → CRS.Up (O := LexO) (fun i => rs.getD i []) p ys.length → H' a = some (.lst (p.toList.map fun i => ys.getD i .non)) → Q (.ref a) H'
theorem Key4.mono {K : PySem.W.Frag} {H H' : Hp} (s : ∀ t xs, SqT K H t xs → SqT K H' t xs) : ∀ {ys : List V} {rs : List (List Int)}, Key4 K H ys rs → Key4 K H' ys rs
  | [], [], _ => trivial
  | [], _ :: _, z => z.elim
  | _ :: _, [], z => z.elim
  | y :: ys, q :: rs, ⟨⟨t, d, k, n, v, e, h, l⟩, y'⟩ => ⟨⟨t, d, k, n, v, e, s _ _ h, l⟩, y'.mono s⟩
theorem pe_sortK {c T : Addr} {qual : Str} {params : Arguments} {body e : Expr} {scope : Scope} {te : TE} {p pos lpos kpos : Pos} (he : PE X e te) (B : LamB X qual params body scope) (hr : Room 3 X.A) (hcode : X.env.code = .ref c) (C : CodeHd X.base c T) (hb : BI X.mg X.base) (hcl : closureFor scope X.env = pure [])
    (hq : X.env.qual ++ "<lambda>" = qual) (hdf : defaultsOf params X.env = ([], [])) (hg : Gl X "sorted") (hm : X.mg "sorted" = none) (hs : starEach [e] X.env = [(false, eval e X.env)] := by rfl) :
    PE X (.Call (.Name "sorted" p) [e] [⟨some "key", .Lambda params body scope lpos, kpos⟩] pos) (tSortK X.K T lpos qual te) := by
  intro pins s σ H Q I h
  refine wpAny_Call_Name_kw (ld_blt (u := .builtin "sorted") I hg hm (by rfl) ?_)
  refine callWith_kw ?_ (by rw [hs]; rfl) (by rw [hs]; rfl)
  rw [hs]
  refine Calls.spliced_cons (thn (he pins s σ H _ I h) fun u s1 ⟨x, H1, I1, r1, q1⟩ => Calls.spliced_nil ?_)
  obtain ⟨l, ys, rs, rfl, hl, KY, h64, L, q⟩ := q1
  cases r1
  show wpAny _ _ (evalAll ((do let v ← eval (.Lambda params body scope lpos) X.env; standAt pos; pure v) :: [])) _ _ s1
  refine wpAny_evalAll_cons (wpAny_bind (kla_eval hdf ?_))
  rw [hq]
  refine lam_make I1 hcode C hcl L hb fun f c' pm ctv h' tk H' J SH nn hT hc fp hf => ?_
  refine wpAny_bind (wpAny_standAt (wpAny_pure (wpAny_evalAll_nil ?_)))
  have nT : ∀ b u, H1 b = some u → (∀ ps, u ≠ .tbl ps) → b ≠ T := fun b u e n z => by
    rcases L with L | ⟨_, L, _⟩
    · rw [z, L] at e; cases e; exact n _ rfl
    · rw [z, L] at e; cases e; exact n _ rfl
  have sT : ∀ t xs, SqT X.K H1 t xs → SqT X.K H' t xs := fun t xs z => by
    rcases z with (z | ⟨o, z⟩) | z
    · exact .inl (.inl (SH _ _ z (nT _ _ z fun _ y => by cases y)))
    · exact .inl (.inr ⟨o, SH _ _ z (nT _ _ z fun _ y => by cases y)⟩)
    · exact .inr z
  have sL : SqL X.K H' l ys := by
    rcases hl with (z | ⟨o, z⟩) | z
    · exact .inl (.inl (SH _ _ z (nT _ _ z fun _ y => by cases y)))
    · exact .inl (.inr ⟨o, SH _ _ z (nT _ _ z fun _ y => by cases y)⟩)
    · exact .inr z
  refine sorted_key B hr (J.pin1 hf fp.1 fp.2.1 fp.2.2.1 (fun v z => by cases z)) hc sL (KY.mono sT) h64 fun p a H2 na S2 hp hu ha => ?_
  refine q p a H2 ?_ (fun b o e n => S2 _ _ (SH b o e n)) (.inr ⟨c', S2 _ _ hT, S2 _ _ hc⟩) hp hu ha
  cases z : H1 a with
  | none => rfl
  | some o =>
    by_cases n : a = T
    · rw [n, hT] at na; cases na
    · rw [SH a o z n] at na; cases na
end
end L2

namespace L2
open PySem PySem.Spec PyProof.Rows PySem.W

/-! ### xs.insert(i, y) -/
section
variable {X : Cx}
theorem vals_ins {y : V} {u : Value} (ry : RelV y u) : ∀ {xs : List V} {its : List Value} (k : Nat), Vals xs its → Vals (xs.take k ++ y :: xs.drop k) (its.take k ++ u :: its.drop k) := fun k r => (r.take k).append (.cons ry (r.drop k))
def rIns : V → List V → Hp → VK → Prop := fun x vs H Q => ∃ (l : Addr) (xs : List V) (k : Nat) (y : V), x = .ref l ∧ vs = [.int k, y] ∧ H l = some (.lst xs) ∧ k ≤ xs.length ∧ xs.length < 1000 ∧ Q .non (upd H l (.lst (xs.take k ++ y :: xs.drop k)))
theorem mt_insert : MtM X "list.insert" rIns := by
  intro pins s σ H x vs v us Q I rx rv h
  obtain ⟨l, xs, k, y, rfl, rfl, hH, hk, hz, q⟩ := h
  cases rx
  cases rv with
  | cons ri rr =>
    obtain ⟨t, rfl⟩ := ri
    obtain ⟨u, rfl, ru⟩ := vals1 rr
    obtain ⟨z, its, n, r, hl, e⟩ := I.lstM hH
    obtain ⟨x, hx⟩ : ∃ x : Int, x = (k : Int) := ⟨_, rfl⟩
    rw [← hx]
    have hf : Builtin.List.listFitsIndex x = true := fitsIndex_both (by omega) (by omega)
    have hm := AutoSeq1.list_insert_list_int_val_1 l its.toArray n x t u (by rw [hf]; exact Bool.false_ne_true) (by rw [List.size_toArray]; omega)
    refine call_meets F.slot_list_insert ⟨_, e, rfl⟩ F.entry_list_insert (F.args_list_insert_3 _ _ _) hm ⟨e, ?_⟩
    refine ⟨.non, _, I.lset (its' := its.take k ++ u :: its.drop k) hH e ?_ (vals_ins ru k r) ?_, rfl, q⟩
    · show (its.toArray.extract 0 (if x < 0 then (x + (its.toArray.size : Int)).toNat else min x.toNat its.toArray.size)).push u ++ its.toArray.extract (if x < 0 then (x + (its.toArray.size : Int)).toNat else min x.toNat its.toArray.size) = _
      rw [if_neg (by omega), List.size_toArray, hx, Int.toNat_natCast, Nat.min_eq_left (by omega)]
      exact kl_ins_eq its k u
    · rw [List.length_append, List.length_cons, List.length_take, List.length_drop, sizeLine_eq]
      omega
end

/-! ### x not in a list of things of things -/
theorem Reps.get {K : PySem.W.Frag} {H : Hp} : ∀ {ds : List D} {xs : List V} {j : Nat} {d : D}, Reps K H ds xs → ds[j]? = some d → ∃ y, xs[j]? = some y ∧ Rep K H d y
  | [], _, _, _, _, e => by simp at e
  | d :: ds, xs, 0, d', h, e => by
    unfold Reps at h
    obtain ⟨y, ys, rfl, h1, _⟩ := h
    simp at e
    subst e
    exact ⟨y, rfl, h1⟩
  | d :: ds, xs, j + 1, d', h, e => by
    unfold Reps at h
    obtain ⟨y, ys, rfl, _, h2⟩ := h
    obtain ⟨z, e1, e2⟩ := h2.get (j := j) (by simpa using e)
    exact ⟨z, by simpa using e1, e2⟩
theorem dep_mem : ∀ {ds : List D} {d : D}, d ∈ ds → dep d ≤ deps ds
  | [], _, h => nomatch h
  | e :: ds, d, h => by
    unfold deps
    rcases List.mem_cons.mp h with z | z
    · subst z; omega
    · have := dep_mem z; omega
def rNotInD (K : PySem.W.Frag) : R2 := fun x y H Q => ∃ p xs ds d, y = .ref p ∧ SqL K H p xs ∧ Reps K H ds xs ∧ Rep K H d x ∧ dep d + deps ds ≤ 40 ∧ Q (.bl (!ds.any fun e => eqD e d)) H
theorem op_notInD {X : Cx} {K : PySem.W.Frag} (hu : X.A.units + 64 < cLine) (hK : X.K = K := by rfl) : OpR X (compareOp .NotIn) (rNotInD K) := by
  subst hK
  intro pins s σ H x y v u Q I rx ry h
  obtain ⟨p, xs, ds, d, rfl, hq, r1, r2, hd, q⟩ := h
  cases ry
  obtain ⟨its, r, pl, hz⟩ := I.list hq
  have ll := r.length
  have ld := r1.len
  have at1 : ∀ (j : Nat) (w : Value) (e : D), its[j]? = some w → ds[j]? = some e → SeqAt.EqAt X.A.in1 s w v (eqD e d) := fun j w e h1 h2 => by
    obtain ⟨y, hy, ry⟩ := r1.get h2
    obtain ⟨w', hw, rw'⟩ := r.get hy
    rw [h1] at hw
    cases hw
    have := dep_mem (List.mem_of_getElem? h2)
    exact rep_at I e d X.A.in1 y x w v (by rw [Around.in1_units]; omega) ry r2 rw' rx
  let e : Value → Bool := fun w => @decide (∃ (j : Nat) (e : D), its[j]? = some w ∧ ds[j]? = some e ∧ eqD e d = true) (Classical.propDecidable _)
  have he : ∀ w, w ∈ its.toArray → SeqAt.EqAt X.A.in1 s w v (e w) := fun w hw => by
    have hw' : w ∈ its := by simpa using hw
    obtain ⟨j, hj, ej⟩ := List.getElem_of_mem hw'
    have h1 : its[j]? = some w := by rw [List.getElem?_eq_getElem hj, ej]
    have h2 : ds[j]? = some ds[j] := List.getElem?_eq_getElem (by omega)
    by_cases c : ∃ (j : Nat) (e : D), its[j]? = some w ∧ ds[j]? = some e ∧ eqD e d = true
    · have ec : e w = true := @decide_eq_true _ (Classical.propDecidable _) c
      rw [ec]
      obtain ⟨i, e', g1, g2, g3⟩ := c
      rw [← g3]
      exact at1 i w e' g1 g2
    · have ec : e w = false := @decide_eq_false _ (Classical.propDecidable _) c
      rw [ec]
      have g3 : eqD ds[j] d = false := by
        cases z : eqD ds[j] d with
        | false => rfl
        | true => exact absurd ⟨j, _, h1, h2, z⟩ c
      rw [← g3]
      exact at1 j w _ h1 h2
  refine SeqAt.notIn_listAt e pl.isList he ⟨.bl _, H, I, rfl, ?_⟩
  have ea : its.toArray.any e = ds.any fun x => eqD x d := by
    rw [show its.toArray.any e = its.any e by simp, Bool.eq_iff_iff, List.any_eq_true, List.any_eq_true]
    constructor
    · rintro ⟨w, _, hw⟩
      obtain ⟨i, e', g1, g2, g3⟩ := @of_decide_eq_true _ (Classical.propDecidable _) hw
      exact ⟨e', List.mem_of_getElem? g2, g3⟩
    · rintro ⟨e', hm, g3⟩
      obtain ⟨j, hj, ej⟩ := List.getElem_of_mem hm
      have hj' : j < its.length := by omega
      refine ⟨its[j], List.getElem_mem hj', @decide_eq_true _ (Classical.propDecidable _) ⟨j, e', List.getElem?_eq_getElem hj', ?_, g3⟩⟩
      rw [List.getElem?_eq_getElem hj, ej]
  rw [ea]
  exact q

/-! ### the head, where a code's table may grow -/
def OnlyT (T : Addr) (H : Hp) : Prop := H T = some (.tbl #[]) ∧ ∀ b, b ≠ T → H b = none ∨ ∃ o xs, H b = some (.frz o (.lst xs))
theorem law_callT {P : Program} {w : World} {K : PySem.W.Frag} {mg mb : Str → Option Value} {CX : CXT} {k : Nat} {fa a c T : Addr} {fd : FuncData} {x : Str} {sp : Sp} {s₁ : Shared} {vs : List Value} {ns : List Int}
    (KX : K.In s₁.heap) (hns : s₁.heap.Ns mainGlobals mg) (hb : s₁.heap.Ns builtinsNs mb) (hbb : ∀ x : Str, x ≠ "__name__" → mb x = bootBuiltins x) (hlim : s₁.heap.NoLimit) (hg : s₁.gens = #[])
    (ha : s₁.heap.get? a = some { cls := .type "list", data := .seq vs.toArray }) (hi : IntsAre vs ns) (hl : ns.length ≤ sizeLine) (hr : Room k callerA) (hT : s₁.heap.get? T = some (tabObj #[])) (hKT : K.lookup T = none) (hcT : codeHdIn K c T = true) (bi : BI mg s₁.heap)
    (F : ∀ base : Heap, K.In base → base.Ns mainGlobals mg → BI mg base → FnOk P w K mg base CX k fa fd [x] sp) (hbind : ∀ (s : Shared) (u : Value), BindsTo s fd ⟨[u], []⟩ [(x, u)])
    (hsp : ∀ H : Hp, OnlyT T H → SqL K H a (ns.map V.int) → sp [.ref a] H (fun v _ => v = .bl true) fun _ _ _ => False)
    (hCX : ∀ H e s', CX [] H s₁ (fun _ _ _ => False) e s' → False) :
    codeAny (model P w) callerA (.call (.ref fa) ⟨[.ref a], []⟩) (fun r s' => r = .ok (.ret (.bool true)) ∧ OldK s₁.heap s'.heap ∧ s'.os = s₁.os ∧ AllBare s'.gens) s₁ := by
  have rv := vals_ints hi
  have lenV := hi.length
  have naT : a ≠ T := fun z => by rw [z, hT] at ha; cases ha
  have core : ∀ H : Hp, OnlyT T H → SqL K H a (ns.map V.int) → HOk P w H s₁.heap → (∀ b, H b ≠ none → b = a ∨ b = T) → (H a ≠ none → K.lookup a = none) →
      codeAny (model P w) callerA (.call (.ref fa) ⟨[.ref a], []⟩) (fun r s' => r = .ok (.ret (.bool true)) ∧ OldK s₁.heap s'.heap ∧ s'.os = s₁.os ∧ AllBare s'.gens) s₁ := by
    intro H hO hS hok hA hK
    have base_of : ∀ {b : Addr} {o : Obj}, s₁.heap.get? b = some o → H b = none → (hidT s₁.heap H).get? b = some o := fun e n => hidT_get e n
    have noA : ∀ {b : Addr} {o : Obj}, s₁.heap.get? b = some o → (∀ xs n, o.data ≠ .seq xs n) → (∀ xs, o.data ≠ .fields xs) → H b = none := fun {b o} e d1 d2 => by
      cases q : H b with
      | none => rfl
      | some u =>
        rcases hA b (by rw [q]; simp) with e' | e'
        · subst e'
          rw [ha] at e; cases e
          exact absurd rfl (d1 _ _)
        · subst e'
          rw [hT] at e; cases e
          exact absurd rfl (d2 _)
    have nsK : ∀ {b : Addr} {m : Str → Option Value}, s₁.heap.Ns b m → (hidT s₁.heap H).Ns b m := fun {b m} ⟨o, es, ep, e, d, r⟩ => ⟨o, es, ep, base_of e (noA e (fun _ _ z => by rw [d] at z; cases z) (fun _ z => by rw [d] at z; cases z)), d, r⟩
    have hKb : K.In (hidT s₁.heap H) := fun b o e => base_of (KX b o e) (by
      cases q : H b with
      | none => rfl
      | some u =>
        rcases hA b (by rw [q]; simp) with e' | e'
        · subst e'
          rw [hK (by rw [q]; simp)] at e; cases e
        · subst e'
          rw [hKT] at e; cases e)
    have hM : Mod K mg (hidT s₁.heap H) := ⟨hKb, nsK hns, ⟨mb, nsK hb, hbb⟩, let ⟨mc, h1, h2⟩ := hlim; ⟨mc, nsK h1, h2⟩⟩
    have hbi : BI mg (hidT s₁.heap H) := by
      obtain ⟨bm, ob, b1, b2, b3, b4, b5, b6⟩ := bi
      exact ⟨bm, ob, b1, b2, base_of b3 (noA b3 (fun _ _ z => by rw [b6] at z; cases z) (fun _ z => by rw [b6] at z; cases z)), b4, b5, b6⟩
    have e0 : Env0 P w K mg (hidT s₁.heap H) callerA [] s₁ H := ⟨rfl, hM, fun b o e => of_hidT e, Nat.le_of_eq (hidT_size _ _), trivial, fun b hb => absurd (show b ∈ ([] : List Addr) from hb) (by simp), hok, .of_eq hg⟩
    refine codeAny_mono ((F _ hKb (nsK hns) hbi).run callerA [] s₁ H ⟨[.ref a], []⟩ [.ref a] [.ref a] _ _ hr e0 (hbind s₁ (.ref a)) (.cons rfl .nil) (hsp H hO hS)) fun r s' h => ?_
    cases r with
    | error e => exact (hCX H e s' h).elim
    | ok fl =>
      cases fl with
      | next => exact False.elim h
      | brk => exact False.elim h
      | cont => exact False.elim h
      | ret u =>
        obtain ⟨v, H', os, bare, un, hok', r', q⟩ := h
        have q' : v = .bl true := q
        subst q'
        obtain rfl : u = Value.bool true := r'
        obtain ⟨more, hT'⟩ := un.tbls T _ hO.1
        have hT2 : s'.heap.get? T = some { cls := .none, data := .fields (#[] ++ more) } := hok' T _ hT'
        have keep : ∀ b o, b ≠ T → s₁.heap.get? b = some o → s'.heap.get? b = some o := fun b o nb e => by
          cases q : H b with
          | none => exact un.keep b o e q (by intro z; exact absurd (show b ∈ ([] : List Addr) from z) (by simp)) (by simp)
          | some u =>
            rcases hO.2 b nb with z | ⟨ob, xs, z⟩
            · rw [q] at z; cases z
            · have z2 := un.frzs b ob _ z
              obtain ⟨e1, _⟩ := hok b _ z
              obtain ⟨e2, _⟩ := hok' b _ z2
              rw [e] at e1; cases e1
              exact e2
        have ct : isCodeTable s₁.heap T := ((codeHd_of_K KX hcT).tab hT).isCodeTable
        refine ⟨rfl, ⟨fun b o e => ?_, fun b o e => ?_⟩, os, bare⟩
        · by_cases hb : b = T
          · subst hb
            rw [hT] at e
            cases e
            exact .inr (.inl ⟨ct, rfl, #[], more, rfl, hT2⟩)
          · exact .inl (keep b o hb e)
        · by_cases hb : b = T
          · subst hb
            exact ⟨_, hT2⟩
          · exact ⟨o, keep b o hb e⟩
  cases hk : K.lookup a with
  | some o =>
    have e := KX a o hk
    rw [ha] at e
    cases e
    refine core (fun b => if b = T then some (.tbl #[]) else none) ⟨if_pos rfl, fun b hb => .inl (if_neg hb)⟩ (.inr ⟨_, vs.toArray, _, hk, rfl, rfl, rfl, by rw [List.size_toArray, lenV]; exact hl, by simpa using rv⟩) (fun b u z => ?_) (fun b z => ?_) fun z => absurd (if_neg naT) z
    · by_cases hb : b = T
      · have z' := (if_pos hb).symm.trans z
        cases z'
        subst hb
        exact hT
      · have z' := (if_neg hb).symm.trans z
        cases z'
    · by_cases hb : b = T
      · exact .inr hb
      · exact absurd (if_neg hb) z
  | none =>
    refine core (fun b => if b = T then some (.tbl #[]) else if b = a then some (.frz { cls := .type "list", data := .seq vs.toArray } (.lst (ns.map V.int))) else none) ⟨if_pos rfl, fun b hb => ?_⟩ (.inl (.inr ⟨{ cls := .type "list", data := .seq vs.toArray }, (if_neg naT).trans (if_pos rfl)⟩)) (fun b u z => ?_) (fun b z => ?_) fun _ => hk
    · by_cases hb2 : b = a
      · exact .inr ⟨_, _, (if_neg hb).trans (if_pos hb2)⟩
      · exact .inl ((if_neg hb).trans (if_neg hb2))
    · by_cases hb : b = T
      · have z' := (if_pos hb).symm.trans z
        cases z'
        subst hb
        exact hT
      · have z1 := (if_neg hb).symm.trans z
        by_cases hb2 : b = a
        · have z' := (if_pos hb2).symm.trans z1
          cases z'
          subst hb2
          exact ⟨ha, by rw [List.length_map]; exact hl, vs, _, rv, ha⟩
        · have z' := (if_neg hb2).symm.trans z1
          cases z'
    · by_cases hb : b = T
      · exact .inr hb
      · by_cases hb2 : b = a
        · exact .inl hb2
        · exact absurd ((if_neg hb).trans (if_neg hb2)) z
theorem walk_ofT {l : PySem.W.OpenLaw} {n k : Nat} {q : Program} {loose : List Str} {XP : (Str → Option Value) → Heap → Prop} {YP : World → Heap → Prop} {d : DefRec} {K : Params → PySem.W.Frag} {CX : World → CXT} {sp : World → Sp} {x : Str} {c T : Addr}
    (hn : l.most = some n) (hn2 : n ≤ sizeLine) (hdf : d.params.defaults = []) (hr : Room k callerA)
    (hY : ∀ (w : World) (h : Heap), YP w h → (K w.params).In h) (hYT : ∀ (w : World) (h : Heap), YP w h → h.get? T = some (tabObj #[])) (hKT : ∀ w : World, (K w.params).lookup T = none) (hcT : ∀ w : World, codeHdIn (K w.params) c T = true)
    (F : ∀ (w : World) (mg : Str → Option Value) (fa : Addr) (h : Heap), (K w.params).In h → h.Ns mainGlobals mg → mg d.name = some (.ref fa) →
      ∃ fd : FuncData, (∀ (s : Shared) (u : Value), BindsTo s fd ⟨[u], []⟩ [(x, u)]) ∧
        ∀ base : Heap, (K w.params).In base → base.Ns mainGlobals mg → BI mg base → FnOk l.prog w (K w.params) mg base (CX w) k fa fd [x] (sp w))
    (hsp : ∀ (w : World) (H : Hp) (a : Addr) (ns : List Int), ns.length ≤ n → OnlyT T H → SqL (K w.params) H a (ns.map V.int) → sp w [.ref a] H (fun v _ => v = .bl true) fun _ _ _ => False)
    (hCX : ∀ (w : World) (H : Hp) (s : Shared) (e : Value) (s' : Shared), CX w [] H s (fun _ _ _ => False) e s' → False) :
    PySem.W.WalkO q loose XP YP l.row.toRowW d [] (fun f vs => PySem.call f vs) := by
  refine Att.attach_call hn hdf fun w s₀ s₁ mg mb fa o pm cd doc a vs ns G Y ho hd hcd hmg hobj hints hlen hg => ?_
  have KX := hY w _ Y
  obtain ⟨fd, hb, hF⟩ := F w mg fa _ KX G.T.g hmg
  exact law_callT KX G.T.g G.T.b G.T.builtins G.T.nolimit hg hobj hints (Nat.le_trans hlen hn2) hr (hYT w _ Y) (hKT w) (hcT w) G.T.bmain hF hb (fun H hO hS => hsp w H a ns hlen hO hS) fun H e s' => hCX w H s₁ e s'
/-- a def whose code is known -/
theorem Fun.okC {P : Program} {w : World} {K : PySem.W.Frag} {mg : Str → Option Value} {base : Heap} {x qual : Str} {st : Stmt} {f c : Addr} {fd : FuncData} {N ps : List Str} {k : Nat} {sp : Sp} (F : Fun K x qual st f fd) (hc : fd.code = .ref c) (S : FnScope N ps (defScope st)) (len : ∀ vs H Q E, sp vs H Q E → vs.length = ps.length)
    (hbody : ∀ (A : Around) (outer : List Env) (s : Shared) (H : Hp) (vs : List V) (Q : VK) (E : XK), Room k (A.deeper (envOfC qual (defScope st) s.heap.objs.size f (.ref c))) → sp vs H Q E →
      ∃ t, PSs (cxOf CX0 P w K mg base N qual (defScope st) f (.ref c) A outer s H E).nox (defBody st) t ∧ t { nx := fun _ H' => Q .non H', rt := Q } (start N vs) H) : FnOk P w K mg base CX0 (k + 1) f fd ps sp := by
  obtain ⟨oc, od, kV, doc, pm, an, cdv, ct, osl, rfl, lk, hcd⟩ := F.ex
  obtain rfl : cdv = .ref c := hc
  refine fn_of lk hcd S len fun A outer s H vs Q E hr hsp => ?_
  obtain ⟨t, h, q⟩ := hbody A outer s H vs Q E hr hsp
  exact ⟨t, h.nox, q⟩
/-- C(), with an __init__ of its own -/
theorem pe_make0C {X : Cx} {k : Nat} {x : Str} {C : Addr} {ps : List Str} {sp : Sp} {p pos : Pos} (M : KCal X.prog X.w X.K X.mg X.base k x C ps sp) (hr : Room (k + 1) X.A) (hg : Gl X x) (hdb : (x == ("__debug__" : Str)) = false := by decide) :
    PE X (.Call (.Name x p) [] [] pos) (tMake C sp [] E0 tNil) := by
  obtain ⟨f, fd, mk, F, b, hm⟩ := M.ex
  exact pe_make0 mk F hr hg hm b .nil pass0 hdb
theorem lam_B {X : Cx} {qual : Str} {params : Arguments} {scope : Scope} {j : Nat} {p1 p2 p3 p4 : Pos} (S : FnScope ["entry"] ["entry"] scope)
    (bd : ∀ (pm : Value) (c' : Addr) (ctv u : Value), bindArgs (kla_fn "<lambda>" qual params (.Subscript (.Name "entry" p1) (.Slice none (some (.Constant (.int 3) j p2)) none p3) p4) scope [] pm (.ref c') ctv) ⟨[u], []⟩ = pure [(("entry" : Str), u)]) :
    LamB X qual params (.Subscript (.Name "entry" p1) (.Slice none (some (.Constant (.int 3) j p2)) none p3) p4) scope := by
  refine ⟨S, bd, fun A outer s H f c' => pe_slice sl_tup (pv 0 rfl ?_) po_none (po_some pe_int)⟩
  rcases S.par "entry" (by simp) with h | h
  · exact .inl h
  · exact .inr (.inl h)
end L2

namespace CRL
open PySem L2
/-! ### tuples stay -/
def Tst (H H' : Hp) : Prop := ∀ t xs, H t = some (.tup xs) → H' t = some (.tup xs)
theorem tst_same {H H' : Hp} (s : Same H H') : Tst H H' := fun t xs h => s t _ h
theorem Tst.trans {H H1 H2 : Hp} (a : Tst H H1) (b : Tst H1 H2) : Tst H H2 := fun t xs h => b t xs (a t xs h)
theorem tst_lst {H : Hp} {l : Addr} {xs : List V} (h : H l = some (.lst xs)) (o : HO) : Tst H (upd H l o) := fun t zs z => by
  rw [upd_ne (ne_of z h (by intro e; cases e))]
  exact z
theorem tst_dk {H : Hp} {l : Addr} {xs : List (Key × V)} (h : H l = some (.dK xs)) (o : HO) : Tst H (upd H l o) := fun t zs z => by
  rw [upd_ne (ne_of z h (by intro e; cases e))]
  exact z
/-! ### rows that wait -/
inductive Rw where
  | at (v : V)
  | pr (k : Int) (s : Str)
def RwAt (H : Hp) : Rw → V → Prop
  | .at u, v => v = u ∧ flatV u = true
  | .pr k s, v => ∃ t, v = .ref t ∧ H t = some (.tup [.int k, .str s])
def dRw : Rw → D
  | .at v => .at v
  | .pr k s => .seq true [.at (.int k), .at (.str s)]
abbrev Ent := Int × Int × Int × Rw
abbrev Tr := Int × Int × Int
def keyE (e : Ent) : List Int := [e.1, e.2.1, e.2.2.1]
def trip (e : Ent) : Tr := (e.1, e.2.1, e.2.2.1)
def EnAt (H : Hp) (x : V) (e : Ent) : Prop := ∃ t v, x = .ref t ∧ H t = some (.tup [.int e.1, .int e.2.1, .int e.2.2.1, v]) ∧ RwAt H e.2.2.2 v
def Ens (H : Hp) : List V → List Ent → Prop
  | [], [] => True
  | x :: xs, e :: es => EnAt H x e ∧ Ens H xs es
  | _, _ => False
theorem RwAt.mono {H H' : Hp} (s : Tst H H') : ∀ {r : Rw} {v : V}, RwAt H r v → RwAt H' r v
  | .at _, _, h => h
  | .pr _ _, _, ⟨t, e, h⟩ => ⟨t, e, s _ _ h⟩
theorem EnAt.mono {H H' : Hp} (s : Tst H H') {x : V} {e : Ent} (h : EnAt H x e) : EnAt H' x e := by
  obtain ⟨t, v, ex, h, r⟩ := h
  exact ⟨t, v, ex, s _ _ h, r.mono s⟩
theorem Ens.len {H : Hp} : ∀ {xs : List V} {es : List Ent}, Ens H xs es → xs.length = es.length
  | [], [], _ => rfl
  | [], _ :: _, h => h.elim
  | _ :: _, [], h => h.elim
  | x :: xs, p :: ps, h => by rw [List.length_cons, List.length_cons, Ens.len h.2]
theorem Ens.mono {H H' : Hp} (s : Tst H H') : ∀ {xs : List V} {es : List Ent}, Ens H xs es → Ens H' xs es
  | [], [], _ => trivial
  | [], _ :: _, h => h.elim
  | _ :: _, [], h => h.elim
  | x :: xs, p :: ps, ⟨z, r⟩ => ⟨z.mono s, Ens.mono s r⟩
theorem Ens.get {H : Hp} : ∀ {xs : List V} {es : List Ent} {i : Nat} {x : V}, Ens H xs es → xs[i]? = some x → ∃ e, es[i]? = some e ∧ EnAt H x e
  | [], [], _, _, _, e => by simp at e
  | [], _ :: _, _, _, h, _ => h.elim
  | _ :: _, [], _, _, h, _ => h.elim
  | x :: xs, p :: ps, 0, y, ⟨z, r⟩, q => by
    simp at q
    subst q
    exact ⟨p, rfl, z⟩
  | x :: xs, p :: ps, i + 1, y, ⟨_, r⟩, q => by
    obtain ⟨p', h1, h2⟩ := Ens.get (i := i) r (by simpa using q)
    exact ⟨p', by simpa using h1, h2⟩
theorem Ens.app {H : Hp} : ∀ {xs ys : List V} {es fs : List Ent}, Ens H xs es → Ens H ys fs → Ens H (xs ++ ys) (es ++ fs)
  | [], _, [], _, _, h => h
  | [], _, _ :: _, _, h, _ => h.elim
  | _ :: _, _, [], _, h, _ => h.elim
  | x :: xs, _, p :: ps, _, ⟨z, r⟩, h => ⟨z, Ens.app r h⟩
theorem Ens.snoc {H : Hp} {xs : List V} {es : List Ent} {x : V} {e : Ent} (h : Ens H xs es) (z : EnAt H x e) : Ens H (xs ++ [x]) (es ++ [e]) := h.app ⟨z, trivial⟩
theorem Ens.take {H : Hp} : ∀ {xs : List V} {es : List Ent} (n : Nat), Ens H xs es → Ens H (xs.take n) (es.take n)
  | xs, es, 0, h => by rw [List.take_zero, List.take_zero]; trivial
  | [], [], n + 1, _ => by rw [List.take_nil, List.take_nil]; trivial
  | [], _ :: _, _, h => h.elim
  | _ :: _, [], _, h => h.elim
  | x :: xs, p :: ps, n + 1, ⟨z, r⟩ => by rw [List.take_succ_cons, List.take_succ_cons]; exact ⟨z, r.take n⟩
theorem Ens.drop {H : Hp} : ∀ {xs : List V} {es : List Ent} (n : Nat), Ens H xs es → Ens H (xs.drop n) (es.drop n)
  | xs, es, 0, h => by rw [List.drop_zero, List.drop_zero]; exact h
  | [], [], n + 1, _ => by rw [List.drop_nil, List.drop_nil]; trivial
  | [], _ :: _, _, h => h.elim
  | _ :: _, [], _, h => h.elim
  | x :: xs, p :: ps, n + 1, ⟨z, r⟩ => by rw [List.drop_succ_cons, List.drop_succ_cons]; exact r.drop n
def e0 : Ent := (0, 0, 0, .at .non)
theorem Ens.pick {H : Hp} {xs : List V} {es : List Ent} (h : Ens H xs es) : ∀ l : List Nat, (∀ i ∈ l, i < xs.length) → Ens H (l.map fun i => xs.getD i .non) (l.map fun i => es.getD i e0)
  | [], _ => trivial
  | i :: l, hl => by
    have hi := hl i List.mem_cons_self
    obtain ⟨e, he, z⟩ := h.get (i := i) (List.getElem?_eq_getElem hi)
    refine ⟨?_, h.pick l fun j hj => hl j (List.mem_cons_of_mem _ hj)⟩
    show EnAt H (xs.getD i .non) (es.getD i e0)
    rw [List.getD_eq_getElem?_getD, List.getElem?_eq_getElem hi, List.getD_eq_getElem?_getD, he]
    exact z
def dE (e : Ent) : D := .seq true [.at (.int e.1), .at (.int e.2.1), .at (.int e.2.2.1), dRw e.2.2.2]
theorem rep_row {K : PySem.W.Frag} {H : Hp} : ∀ {r : Rw} {v : V}, RwAt H r v → Rep K H (dRw r) v
  | .at u, v, h => by unfold dRw Rep; exact h
  | .pr k s, v, ⟨t, e, h⟩ => by
    unfold dRw Rep
    refine ⟨t, _, e, fun _ => SqT.of h, fun z => (nomatch z), ?_⟩
    unfold Reps
    refine ⟨_, _, rfl, ?_, ?_⟩
    · unfold Rep; exact ⟨rfl, rfl⟩
    unfold Reps
    refine ⟨_, _, rfl, ?_, ?_⟩
    · unfold Rep; exact ⟨rfl, rfl⟩
    unfold Reps
    rfl
theorem EnAt.rep {K : PySem.W.Frag} {H : Hp} {x : V} {e : Ent} (h : EnAt H x e) : Rep K H (dE e) x := by
  obtain ⟨t, v, ex, h, r⟩ := h
  unfold dE Rep
  refine ⟨t, _, ex, fun _ => SqT.of h, fun z => (nomatch z), ?_⟩
  unfold Reps
  refine ⟨_, _, rfl, ?_, ?_⟩
  · unfold Rep; exact ⟨rfl, rfl⟩
  unfold Reps
  refine ⟨_, _, rfl, ?_, ?_⟩
  · unfold Rep; exact ⟨rfl, rfl⟩
  unfold Reps
  refine ⟨_, _, rfl, ?_, ?_⟩
  · unfold Rep; exact ⟨rfl, rfl⟩
  unfold Reps
  refine ⟨_, _, rfl, rep_row r, ?_⟩
  unfold Reps
  rfl
theorem Ens.rep {K : PySem.W.Frag} {H : Hp} : ∀ {xs : List V} {es : List Ent}, Ens H xs es → Reps K H (es.map dE) xs
  | [], [], _ => by rw [List.map_nil]; unfold Reps; rfl
  | [], _ :: _, h => h.elim
  | _ :: _, [], h => h.elim
  | x :: xs, p :: ps, ⟨z, r⟩ => by
    rw [List.map_cons]
    unfold Reps
    exact ⟨x, xs, rfl, z.rep, r.rep⟩
theorem row_same {H : Hp} : ∀ {r : Rw} {v : V}, RwAt H r v → eqD (dRw r) (dRw r) = true
  | .at u, v, ⟨_, f⟩ => by unfold dRw eqD; exact eqV_refl f
  | .pr k s, v, _ => by
    unfold dRw eqD eqDs eqDs eqDs eqD
    show (true == true && (eqV (.int k) (.int k) && (eqV (.str s) (.str s) && true))) = true
    rw [eqV_refl rfl, eqV_refl rfl]
    rfl
theorem Ens.same {H : Hp} : ∀ {xs : List V} {es : List Ent}, Ens H xs es → eqDs (es.map dE) (es.map dE) = true
  | [], [], _ => by rw [List.map_nil]; unfold eqDs; rfl
  | [], _ :: _, h => h.elim
  | _ :: _, [], h => h.elim
  | x :: xs, p :: ps, ⟨⟨t, v, _, _, z⟩, r⟩ => by
    rw [List.map_cons]
    have e1 : eqD (dE p) (dE p) = true := by
      unfold dE eqD eqDs eqDs eqDs eqDs eqDs
      rw [row_same z]
      unfold eqD
      rw [eqV_refl rfl, eqV_refl rfl, eqV_refl rfl]
      rfl
    unfold eqDs
    rw [e1, r.same]
    rfl
theorem dE_dep : ∀ es : List Ent, deps (es.map dE) ≤ 2
  | [] => by rw [List.map_nil]; unfold deps; omega
  | p :: ps => by
    rw [List.map_cons]
    unfold deps
    have := dE_dep ps
    have e : dep (dE p) ≤ 2 := by
      obtain ⟨a, b, c, r⟩ := p
      cases r with
      | «at» v =>
        unfold dE dRw dep deps deps deps deps deps dep
        decide
      | pr k s =>
        unfold dE dRw dep deps deps deps deps deps dep deps deps deps dep
        decide
    omega
theorem Ens.key {K : PySem.W.Frag} {H : Hp} : ∀ {xs : List V} {es : List Ent}, Ens H xs es → Key4 K H xs (es.map keyE)
  | [], [], _ => trivial
  | [], _ :: _, h => h.elim
  | _ :: _, [], h => h.elim
  | x :: xs, p :: ps, ⟨⟨t, v, e, h, _⟩, r⟩ => ⟨⟨t, _, _, _, v, e, SqT.of h, rfl⟩, r.key⟩
/-- lists of such rows are compared -/
theorem eq_Ens {K : PySem.W.Frag} {H : Hp} {x y : Addr} {xs ys : List V} {es : List Ent} {Q : VK} (hx : H x = some (.lst xs)) (hy : H y = some (.lst ys)) (h1 : Ens H xs es) (h2 : Ens H ys es) (q : Q (.bl true) H) : rEqD K false (.ref x) (.ref y) H Q := by
  have d := dE_dep es
  refine ⟨false, es.map dE, es.map dE, ?_, ?_, by omega, ?_⟩
  · unfold Rep; exact ⟨x, xs, rfl, fun z => (nomatch z), fun _ => SqL.of hx, h1.rep⟩
  · unfold Rep; exact ⟨y, ys, rfl, fun z => (nomatch z), fun _ => SqL.of hy, h2.rep⟩
  · show Q (.bl (eqDs (es.map dE) (es.map dE))) H
    rw [h1.same]
    exact q
theorem ne_Ens {K : PySem.W.Frag} {H : Hp} {x y : Addr} {xs ys : List V} {es : List Ent} {Q : VK} (hx : H x = some (.lst xs)) (hy : H y = some (.lst ys)) (h1 : Ens H xs es) (h2 : Ens H ys es) (q : Q (.bl false) H) : rEqD K true (.ref x) (.ref y) H Q := by
  have d := dE_dep es
  refine ⟨false, es.map dE, es.map dE, ?_, ?_, by omega, ?_⟩
  · unfold Rep; exact ⟨x, xs, rfl, fun z => (nomatch z), fun _ => SqL.of hx, h1.rep⟩
  · unfold Rep; exact ⟨y, ys, rfl, fun z => (nomatch z), fun _ => SqL.of hy, h2.rep⟩
  · show Q (.bl (!eqDs (es.map dE) (es.map dE))) H
    rw [h1.same]
    exact q
/-! ### their order -/
def ltE (a b : Ent) : Bool := HT.lexLt (keyE a) (keyE b)
def leE (a b : Ent) : Prop := ltE b a = false
def ins (e : Ent) : List Ent → List Ent
  | [] => [e]
  | x :: l => if ltE x e = true then x :: ins e l else e :: x :: l
def sortE (l : List Ent) : List Ent := l.foldl (fun a e => ins e a) []
/-- like keys, like rows -/
def KD (es : List Ent) : Prop := ∀ a ∈ es, ∀ b ∈ es, keyE a = keyE b → a = b
theorem ins_perm (e : Ent) : ∀ l : List Ent, (ins e l).Perm (e :: l)
  | [] => List.Perm.refl _
  | x :: l => by
    unfold ins
    split
    · exact ((ins_perm e l).cons x).trans (List.Perm.swap e x l)
    · exact List.Perm.refl _
theorem fold_perm : ∀ (l a : List Ent), (l.foldl (fun a e => ins e a) a).Perm (l ++ a)
  | [], a => List.Perm.refl _
  | e :: l, a => by
    rw [List.foldl_cons]
    refine (fold_perm l (ins e a)).trans ?_
    refine ((ins_perm e a).append_left l).trans ?_
    rw [List.cons_append]
    exact List.perm_middle
theorem sort_perm (l : List Ent) : (sortE l).Perm l := by
  have := fold_perm l []
  rw [List.append_nil] at this
  exact this
theorem leE_trans {a b c : Ent} (h1 : leE a b) (h2 : leE b c) : leE a c := by
  unfold leE ltE at *
  cases z : HT.lexLt (keyE c) (keyE a) with
  | false => rfl
  | true =>
    rcases lex_neg _ (keyE b) _ z with y | y
    · rw [h2] at y; cases y
    · rw [h1] at y; cases y
theorem leE_of_lt {a b : Ent} (h : ltE a b = true) : leE a b := by
  unfold leE ltE at *
  cases z : HT.lexLt (keyE b) (keyE a) with
  | false => rfl
  | true =>
    have := lex_trans _ _ _ h z
    rw [lex_irrefl] at this
    cases this
theorem ins_sorted (e : Ent) : ∀ l : List Ent, l.Pairwise leE → (ins e l).Pairwise leE
  | [], _ => by unfold ins; simp
  | x :: l, h => by
    have h' := List.pairwise_cons.mp h
    unfold ins
    split
    · rename_i c
      refine List.pairwise_cons.mpr ⟨fun y hy => ?_, ins_sorted e l h'.2⟩
      rcases List.mem_cons.mp ((ins_perm e l).mem_iff.mp hy) with z | z
      · rw [z]; exact leE_of_lt c
      · exact h'.1 y z
    · rename_i c
      have c' : leE e x := by
        unfold leE
        cases z : ltE x e with
        | false => rfl
        | true => exact absurd z c
      refine List.pairwise_cons.mpr ⟨fun y hy => ?_, h⟩
      rcases List.mem_cons.mp hy with z | z
      · rw [z]; exact c'
      · exact leE_trans c' (h'.1 y z)
theorem fold_sorted : ∀ (l a : List Ent), a.Pairwise leE → (l.foldl (fun a e => ins e a) a).Pairwise leE
  | [], a, h => h
  | e :: l, a, h => by rw [List.foldl_cons]; exact fold_sorted l _ (ins_sorted e a h)
theorem sort_sorted (l : List Ent) : (sortE l).Pairwise leE := fold_sorted l [] .nil
theorem sort_only {l r : List Ent} (hp : r.Perm l) (hs : r.Pairwise leE) (kd : KD l) : r = sortE l := by
  refine List.Perm.eq_of_pairwise (le := leE) (fun a b ha hb h1 h2 => ?_) hs (sort_sorted l) (hp.trans (sort_perm l).symm)
  exact kd a (hp.mem_iff.mp ha) b ((sort_perm l).mem_iff.mp hb) (lex_total _ _ h2 h1)
theorem sort_len (l : List Ent) : (sortE l).length = l.length := (sort_perm l).length_eq
theorem range_getE (ps : List Ent) : (List.range ps.length).map (fun i => ps.getD i e0) = ps := by
  apply List.ext_getElem
  · simp
  · intro i h1 h2
    simp [h2]
theorem pick_sort {p : Array Nat} {es : List Ent} (h : CRS.Pm es.length p) (u : CRS.Up (O := LexO) (fun i => (es.map keyE).getD i []) p es.length) (kd : KD es) : (p.toList.map fun i => es.getD i e0) = sortE es := by
  refine sort_only ?_ ?_ kd
  · have z := (Array.perm_iff_toList_perm.mp h).map fun i => es.getD i e0
    simp only [List.toList_toArray] at z
    rw [range_getE] at z
    exact z
  · rw [List.pairwise_iff_getElem]
    intro i j hi hj hij
    have sz := h.size
    have hj' : j < es.length := by simpa [sz] using hj
    have hi' : i < es.length := by omega
    have hN : 0 < es.length := by omega
    have z := u i j (Nat.le_of_lt hij) hj'
    have ai : p.getD i 0 = p[i]'(by omega) := by simp [Array.getD, show i < p.size by omega]
    have aj : p.getD j 0 = p[j]'(by omega) := by simp [Array.getD, show j < p.size by omega]
    have li := h.lt hN i
    have lj := h.lt hN j
    have row : ∀ k, k < es.length → (es.map keyE).getD k [] = keyE (es.getD k e0) := fun k hk => by simp [hk]
    have z' : HT.lexLt ((es.map keyE).getD (p.getD j 0) []) ((es.map keyE).getD (p.getD i 0) []) = false := z
    rw [row _ li, row _ lj] at z'
    rw [List.getElem_map, List.getElem_map, Array.getElem_toList, Array.getElem_toList, ← ai, ← aj]
    exact z'
theorem pm_lt {n : Nat} {p : Array Nat} (h : CRS.Pm n p) : ∀ i ∈ p.toList, i < n := fun i hi => by
  have := (Array.perm_iff_toList_perm.mp h).mem_iff.mp hi
  simpa using this
theorem KD.filter {es : List Ent} (f : Ent → Bool) (h : KD es) : KD (es.filter f) := fun a ha b hb => h a (List.mem_filter.mp ha).1 b (List.mem_filter.mp hb).1
/-! ### triples -/
def Trs (H : Hp) : List V → List Tr → Prop
  | [], [] => True
  | x :: xs, p :: ps => (∃ t, x = .ref t ∧ H t = some (.tup [.int p.1, .int p.2.1, .int p.2.2])) ∧ Trs H xs ps
  | _, _ => False
theorem Trs.len {H : Hp} : ∀ {xs : List V} {ps : List Tr}, Trs H xs ps → xs.length = ps.length
  | [], [], _ => rfl
  | [], _ :: _, h => h.elim
  | _ :: _, [], h => h.elim
  | x :: xs, p :: ps, h => by rw [List.length_cons, List.length_cons, Trs.len h.2]
theorem Trs.mono {H H' : Hp} (s : Tst H H') : ∀ {xs : List V} {ps : List Tr}, Trs H xs ps → Trs H' xs ps
  | [], [], _ => trivial
  | [], _ :: _, h => h.elim
  | _ :: _, [], h => h.elim
  | x :: xs, p :: ps, ⟨⟨t, e, h⟩, r⟩ => ⟨⟨t, e, s _ _ h⟩, Trs.mono s r⟩
theorem Trs.get {H : Hp} : ∀ {xs : List V} {ps : List Tr} {i : Nat} {x : V}, Trs H xs ps → xs[i]? = some x → ∃ t p, ps[i]? = some p ∧ x = .ref t ∧ H t = some (.tup [.int p.1, .int p.2.1, .int p.2.2])
  | [], [], _, _, _, e => by simp at e
  | [], _ :: _, _, _, h, _ => h.elim
  | _ :: _, [], _, _, h, _ => h.elim
  | x :: xs, p :: ps, 0, y, ⟨⟨t, e, h⟩, r⟩, q => by
    simp at q
    subst q
    exact ⟨t, p, rfl, e, h⟩
  | x :: xs, p :: ps, i + 1, y, ⟨_, r⟩, q => by
    obtain ⟨t, p', h1, h2⟩ := Trs.get (i := i) r (by simpa using q)
    exact ⟨t, p', by simpa using h1, h2⟩
theorem Trs.snoc {H : Hp} : ∀ {xs : List V} {ps : List Tr} {t : Addr} {a b c : Int}, Trs H xs ps → H t = some (.tup [.int a, .int b, .int c]) → Trs H (xs ++ [.ref t]) (ps ++ [(a, b, c)])
  | [], [], t, _, _, _, _, h => ⟨⟨t, rfl, h⟩, trivial⟩
  | [], _ :: _, _, _, _, _, r, _ => r.elim
  | _ :: _, [], _, _, _, _, r, _ => r.elim
  | x :: xs, p :: ps, _, _, _, _, ⟨z, r⟩, h => ⟨z, Trs.snoc r h⟩
def dTr (p : Tr) : D := .seq true [.at (.int p.1), .at (.int p.2.1), .at (.int p.2.2)]
theorem rep_tr {K : PySem.W.Frag} {H : Hp} {t : Addr} {a b c : Int} (h : H t = some (.tup [.int a, .int b, .int c])) : Rep K H (dTr (a, b, c)) (.ref t) := by
  unfold dTr Rep
  refine ⟨t, _, rfl, fun _ => SqT.of h, fun z => (nomatch z), ?_⟩
  unfold Reps
  refine ⟨_, _, rfl, ?_, ?_⟩
  · unfold Rep; exact ⟨rfl, rfl⟩
  unfold Reps
  refine ⟨_, _, rfl, ?_, ?_⟩
  · unfold Rep; exact ⟨rfl, rfl⟩
  unfold Reps
  refine ⟨_, _, rfl, ?_, ?_⟩
  · unfold Rep; exact ⟨rfl, rfl⟩
  unfold Reps
  rfl
theorem Trs.rep {K : PySem.W.Frag} {H : Hp} : ∀ {xs : List V} {ps : List Tr}, Trs H xs ps → Reps K H (ps.map dTr) xs
  | [], [], _ => by rw [List.map_nil]; unfold Reps; rfl
  | [], _ :: _, h => h.elim
  | _ :: _, [], h => h.elim
  | x :: xs, p :: ps, ⟨⟨t, e, h⟩, r⟩ => by
    rw [List.map_cons]
    unfold Reps
    exact ⟨x, xs, rfl, e ▸ rep_tr h, r.rep⟩
theorem dTr_eq (p q : Tr) : eqD (dTr p) (dTr q) = decide (p = q) := by
  obtain ⟨a, b, c⟩ := p
  obtain ⟨a', b', c'⟩ := q
  unfold dTr eqD eqDs eqDs eqDs eqDs eqD
  show (true == true && (a == a' && (b == b' && (c == c' && true)))) = _
  rw [Bool.eq_iff_iff]
  simp
theorem dTr_any (ts : List Tr) (p : Tr) : (ts.map dTr).any (fun e => eqD e (dTr p)) = decide (p ∈ ts) := by
  rw [Bool.eq_iff_iff, List.any_eq_true]
  constructor
  · rintro ⟨e, he, h⟩
    obtain ⟨q, hq, rfl⟩ := List.mem_map.mp he
    rw [dTr_eq] at h
    rw [← of_decide_eq_true h]
    exact decide_eq_true hq
  · intro h
    exact ⟨dTr p, List.mem_map_of_mem (of_decide_eq_true h), by rw [dTr_eq]; exact decide_eq_true rfl⟩
theorem dTr_dep : ∀ ps : List Tr, deps (ps.map dTr) ≤ 1
  | [] => by rw [List.map_nil]; unfold deps; omega
  | p :: ps => by
    rw [List.map_cons]
    unfold deps
    have := dTr_dep ps
    have e : dep (dTr p) = 1 := by
      unfold dTr dep deps deps deps deps dep
      rfl
    omega
/-! ### lists of one's own, apart from one another -/
abbrev Ls := List (Addr × List V)
def LsOk (H : Hp) (L : Ls) : Prop := (L.map (·.1)).Nodup ∧ ∀ p ∈ L, H p.1 = some (.lst p.2)
/-- lists stay -/
def Lst (H H' : Hp) : Prop := ∀ b xs, H b = some (.lst xs) → H' b = some (.lst xs)
theorem lst_same {H H' : Hp} (s : Same H H') : Lst H H' := fun b xs h => s b _ h
theorem LsOk.mono {H H' : Hp} {L : Ls} (s : Lst H H') (h : LsOk H L) : LsOk H' L := ⟨h.1, fun p hp => s _ _ (h.2 p hp)⟩
theorem LsOk.get {H : Hp} {L : Ls} (h : LsOk H L) (i : Nat) {p : Addr × List V} (e : L[i]? = some p) : H p.1 = some (.lst p.2) := h.2 p (List.mem_of_getElem? e)
theorem LsOk.notin {H : Hp} {L : Ls} (h : LsOk H L) {p : Addr} (hp : ∀ xs, H p ≠ some (.lst xs)) : p ∉ L.map (·.1) := fun z => by
  obtain ⟨q, hq, e⟩ := List.mem_map.mp z
  have := h.2 q hq
  rw [e] at this
  exact hp _ this
theorem nodup_set {l : List Addr} {i : Nat} {a : Addr} (h : l.Nodup) (n : a ∉ l) : (l.set i a).Nodup := by
  induction l generalizing i with
  | nil => exact h
  | cons x l ih =>
    have h' := List.nodup_cons.mp h
    have n1 : a ≠ x := fun z => n (by rw [z]; exact List.mem_cons_self)
    have n2 : a ∉ l := fun z => n (List.mem_cons_of_mem _ z)
    cases i with
    | zero => exact List.nodup_cons.mpr ⟨n2, h'.2⟩
    | succ i =>
      refine List.nodup_cons.mpr ⟨fun z => ?_, ih h'.2 n2⟩
      rcases List.mem_or_eq_of_mem_set z with y | y
      · exact h'.1 y
      · exact n1 y.symm
theorem map_set {L : Ls} {i : Nat} {p : Addr × List V} : (L.set i p).map (·.1) = (L.map (·.1)).set i p.1 := by
  rw [List.map_set]
theorem nodup_ixA {N : List Addr} (hN : N.Nodup) {i j : Nat} {x : Addr} (a : N[i]? = some x) (b : N[j]? = some x) : i = j := by
  obtain ⟨h1, e1⟩ := List.getElem?_eq_some_iff.mp a
  obtain ⟨h2, e2⟩ := List.getElem?_eq_some_iff.mp b
  exact (List.getElem_inj hN).mp (e1.trans e2.symm)
/-- the i-th list gets other items -/
theorem LsOk.set {H : Hp} {L : Ls} (h : LsOk H L) (i : Nat) {a : Addr} {xs : List V} (ys : List V) (e : L[i]? = some (a, xs)) : LsOk (upd H a (.lst ys)) (L.set i (a, ys)) := by
  have hi : i < L.length := (List.getElem?_eq_some_iff.mp e).1
  have em : (L.set i (a, ys)).map (·.1) = L.map (·.1) := by
    rw [map_set]
    obtain ⟨hi2, this⟩ := List.getElem?_eq_some_iff.mp (show (L.map (·.1))[i]? = some a by rw [List.getElem?_map, e]; rfl)
    show (L.map (·.1)).set i a = _
    rw [← this]
    exact List.set_getElem_self hi2
  refine ⟨by rw [em]; exact h.1, fun p hp => ?_⟩
  obtain ⟨j, hj, ej⟩ := List.getElem_of_mem hp
  have hj' : j < L.length := by simpa using hj
  by_cases hij : i = j
  · subst hij
    rw [List.getElem_set_self] at ej
    subst ej
    exact upd_same
  · rw [List.getElem_set_ne hij] at ej
    have hm : p ∈ L := ej ▸ List.getElem_mem hj'
    have ne : p.1 ≠ a := fun z => by
      have h1 : (L.map (·.1))[i]? = some a := by rw [List.getElem?_map, e]; rfl
      have h2 : (L.map (·.1))[j]? = some a := by rw [List.getElem?_map, List.getElem?_eq_getElem hj', ej, ← z]; rfl
      exact hij (nodup_ixA h.1 h1 h2)
    rw [upd_ne ne]
    exact h.2 p hm
/-- another list in the i-th one's place -/
theorem LsOk.put {H : Hp} {L : Ls} (h : LsOk H L) (i : Nat) {a : Addr} {ys : List V} (hn : a ∉ L.map (·.1)) (ha : H a = some (.lst ys)) : LsOk H (L.set i (a, ys)) := by
  refine ⟨by rw [map_set]; exact nodup_set h.1 hn, fun p hp => ?_⟩
  rcases List.mem_or_eq_of_mem_set hp with z | z
  · exact h.2 p z
  · rw [z]; exact ha
/-- a list more, behind A -/
theorem LsOk.add {H : Hp} {A B : Ls} (h : LsOk H (A ++ B)) {a : Addr} {ys : List V} (hn : a ∉ (A ++ B).map (·.1)) (ha : H a = some (.lst ys)) : LsOk H (A ++ (a, ys) :: B) := by
  have pm : (A ++ (a, ys) :: B).Perm ((a, ys) :: (A ++ B)) := List.perm_middle
  refine ⟨(pm.map (·.1)).nodup_iff.mpr (List.nodup_cons.mpr ⟨hn, h.1⟩), fun p hp => ?_⟩
  rcases List.mem_cons.mp (pm.mem_iff.mp hp) with z | z
  · rw [z]; exact ha
  · exact h.2 p z
theorem notin_set {L : Ls} {i : Nat} {a : Addr} {p : Addr × List V} (h : a ∉ L.map (·.1)) (hp : a ≠ p.1) : a ∉ (L.set i p).map (·.1) := fun z => by
  rw [map_set] at z
  rcases List.mem_or_eq_of_mem_set z with y | y
  · exact h y
  · exact hp y
/-! ### the lambda's code -/
abbrev lpos : Pos := ⟨18, 31, 18, 54⟩
abbrev lqual : Str := "Days.up_to.<locals>.<lambda>"
theorem _root_.L2.LamAt.mono {T : Addr} {pos : Pos} {qual : Str} {H H' : Hp} (h : LamAt T pos qual H) (s : ∀ b o, H b = some o → (∃ ps, o = .tbl ps) ∨ (∃ φ, o = .ext φ) → H' b = some o) : LamAt T pos qual H' := by
  rcases h with h | ⟨c, h, hc⟩
  · exact .inl (s _ _ h (.inl ⟨_, rfl⟩))
  · exact .inr ⟨c, s _ _ h (.inl ⟨_, rfl⟩), s _ _ hc (.inr ⟨_, rfl⟩)⟩
theorem _root_.L2.LamAt.same {T : Addr} {pos : Pos} {qual : Str} {H H' : Hp} (h : LamAt T pos qual H) (s : Same H H') : LamAt T pos qual H' := h.mono fun b o e _ => s b o e
theorem _root_.L2.LamAt.lst {T l : Addr} {pos : Pos} {qual : Str} {H : Hp} {xs : List V} (h : LamAt T pos qual H) (e : H l = some (.lst xs)) (o : HO) : LamAt T pos qual (upd H l o) := h.mono fun b u z k => by
  rw [upd_ne (fun y => by rw [y, e] at z; cases z; rcases k with ⟨_, k⟩ | ⟨_, k⟩ <;> cases k)]
  exact z
theorem _root_.L2.LamAt.dk {T l : Addr} {pos : Pos} {qual : Str} {H : Hp} {xs : List (Key × V)} (h : LamAt T pos qual H) (e : H l = some (.dK xs)) (o : HO) : LamAt T pos qual (upd H l o) := h.mono fun b u z k => by
  rw [upd_ne (fun y => by rw [y, e] at z; cases z; rcases k with ⟨_, k⟩ | ⟨_, k⟩ <;> cases k)]
  exact z
theorem _root_.L2.LamAt.ins {T l C dx : Addr} {pos : Pos} {qual : Str} {H : Hp} {fs : List (Str × V)} (h : LamAt T pos qual H) (e : H l = some (.ins C dx fs)) (o : HO) : LamAt T pos qual (upd H l o) := h.mono fun b u z k => by
  rw [upd_ne (fun y => by rw [y, e] at z; cases z; rcases k with ⟨_, k⟩ | ⟨_, k⟩ <;> cases k)]
  exact z
/-! ### the rows' keeper -/
def Dy (C : Addr) (H : Hp) (x wl nl : Addr) : Prop := ∃ dx, H x = some (.ins C dx [("waiting", .ref wl), ("numbers", .ref nl)])
theorem Dy.mono {C x wl nl : Addr} {H H' : Hp} (h : Dy C H x wl nl) (s : ∀ dx fs, H x = some (.ins C dx fs) → H' x = some (.ins C dx fs)) : Dy C H' x wl nl := by
  obtain ⟨dx, h⟩ := h
  exact ⟨dx, s _ _ h⟩
theorem Dy.same {C x wl nl : Addr} {H H' : Hp} (h : Dy C H x wl nl) (s : Same H H') : Dy C H' x wl nl := h.mono fun _ _ e => s _ _ e
theorem Dy.lst {C x wl nl l : Addr} {H : Hp} {xs : List V} (h : Dy C H x wl nl) (e : H l = some (.lst xs)) (o : HO) : Dy C (upd H l o) x wl nl := h.mono fun _ _ z => by
  rw [upd_ne (ne_of z e (by intro y; cases y))]
  exact z
theorem Dy.dk {C x wl nl l : Addr} {H : Hp} {xs : List (Key × V)} (h : Dy C H x wl nl) (e : H l = some (.dK xs)) (o : HO) : Dy C (upd H l o) x wl nl := h.mono fun _ _ z => by
  rw [upd_ne (ne_of z e (by intro y; cases y))]
  exact z
theorem dk_lst {H : Hp} {l n : Addr} {xs : List V} {kvs : List (Key × V)} (h : H n = some (.dK kvs)) (e : H l = some (.lst xs)) (o : HO) : upd H l o n = some (.dK kvs) := by
  rw [upd_ne (ne_of h e (by intro y; cases y))]
  exact h
theorem lst_dk {H : Hp} {n : Addr} {kvs : List (Key × V)} (h : H n = some (.dK kvs)) (o : HO) : Lst H (upd H n o) := fun b xs e => by
  rw [upd_ne (ne_of e h (by intro y; cases y))]
  exact e
end CRL

namespace CRL
open PySem L2
def top (i : Nat) : Stmt := PySem.Challenge.pw_coverroll_k51_rows_that_wait.main.body.getD i (.Pass ⟨0, 0, 0, 0⟩)
abbrev s_Days___init__ : Stmt := inClass (top 1) 0
abbrev s_Days_put : Stmt := inClass (top 1) 1
abbrev s_Days_has_number : Stmt := inClass (top 1) 2
abbrev s_Days_up_to : Stmt := inClass (top 1) 3
abbrev s__law_cell : Stmt := top 3
abbrev s__law_whole : Stmt := top 4
abbrev s__law_mix : Stmt := top 5
abbrev s__law_ahead : Stmt := top 6
abbrev s__law_due : Stmt := top 7
abbrev s__law_same : Stmt := top 8
abbrev s__law_put : Stmt := top 9
abbrev s__law_triple : Stmt := top 10
abbrev s_law : Stmt := top 11
/-- what the text's own names stand for -/
structure Txt (K : PySem.W.Frag) (mg : Str → Option Value) : Prop where
  n_bool : mg "bool" = none
  n_enumerate : mg "enumerate" = none
  n_int : mg "int" = none
  n_isinstance : mg "isinstance" = none
  n_len : mg "len" = none
  n_list : mg "list" = none
  n_sorted : mg "sorted" = none
  n_tuple : mg "tuple" = none
/-- the text's own classes -/
structure Kl (K : PySem.W.Frag) (mg : Str → Option Value) (C_Days : Addr) : Prop where
  mg_Days : mg "Days" = some (.ref C_Days)
  cl_Days : Cls K C_Days
  na_Days_waiting : NoAttr K C_Days "waiting"
  na_Days_numbers : NoAttr K C_Days "numbers"
  nd : ([C_Days] : List Addr).Nodup
/-! ### tests that are known -/
theorem nF {c A B : Prop} [Decidable c] (h : c) (q : B) : if (!decide c) = true then A else B := by rw [decide_eq_true h]; exact q
theorem bT {c : Bool} {A B : Prop} (h : c = true) (q : A) : if c = true then A else B := by rw [if_pos h]; exact q
theorem bF {c : Bool} {A B : Prop} (h : c = false) (q : B) : if c = true then A else B := by rw [if_neg (by rw [h]; exact Bool.false_ne_true)]; exact q
/-- an int and no bool -/
def wholeV : V → Bool
  | .int _ => true
  | _ => false
theorem whole_kit {K : PySem.W.Frag} {H : Hp} {x : V} {T : String} (h : TyOf K H x (.type T)) : ∃ b1 b2, PySem.W.kitOne K (.type T) (.type "int") = some b1 ∧ PySem.W.kitOne K (.type T) (.type "bool") = some b2 ∧ wholeV x = (b1 && !b2) := by
  cases h with
  | non => exact ⟨false, false, by kernel_rfl, by kernel_rfl, rfl⟩
  | bl b => exact ⟨true, true, by kernel_rfl, by kernel_rfl, rfl⟩
  | int i => exact ⟨true, false, by kernel_rfl, by kernel_rfl, rfl⟩
  | str i => exact ⟨false, false, by kernel_rfl, by kernel_rfl, rfl⟩
  | flt i => exact ⟨false, false, by kernel_rfl, by kernel_rfl, rfl⟩
  | lst e => exact ⟨false, false, by kernel_rfl, by kernel_rfl, rfl⟩
  | frz e => exact ⟨false, false, by kernel_rfl, by kernel_rfl, rfl⟩
  | tup e => exact ⟨false, false, by kernel_rfl, by kernel_rfl, rfl⟩
  | dK e => exact ⟨false, false, by kernel_rfl, by kernel_rfl, rfl⟩
  | dT e => exact ⟨false, false, by kernel_rfl, by kernel_rfl, rfl⟩
theorem kit_ll {K : PySem.W.Frag} : PySem.W.kitOne K (.type "list") (.type "list") = some true := by kernel_rfl
/-! ### promises -/
def spWhole (K : PySem.W.Frag) : Sp := fun vs H Q _ => ∃ x T, vs = [x] ∧ TyOf K H x (.type T) ∧ Q (.bl (wholeV x)) H
theorem kit_tt {K : PySem.W.Frag} : PySem.W.kitOne K (.type "tuple") (.type "tuple") = some true := by kernel_rfl


section
variable {P : Program} {w : World} {K : PySem.W.Frag} {mg : Str → Option Value} {base : Heap}
theorem sc__law_whole : FnScope ["_law_found"] ["_law_found"] (defScope s__law_whole) := ⟨rfl, rfl, rfl, by decide +kernel, rfl, by decide +kernel, by decide +kernel⟩
theorem ok__law_whole {f : Addr} {fd : FuncData} (F : Fun K "_law_whole" "_law_whole" s__law_whole f fd) (T : Txt K mg) : FnOk P w K mg base CX0 1 f fd ["_law_found"] (spWhole K) := by
  have sc := sc__law_whole
  refine F.ok sc (fun vs H Q E h => ?_) (fun cdv A outer s H vs Q E hr h => ?_)
  · obtain ⟨x, T, rfl, _⟩ := h
    rfl
  obtain ⟨x, ty, rfl, hty, q⟩ := h
  refine ⟨_, (pss_one (ps_ret (pe_and (pe_callB call_isinst rfl T.n_isinstance (show bootBuiltins _ = some (.builtin "isinstance") from rfl) (pa_cons (pv 0) (pa_cons (pe_ty "int" rfl T.n_int rfl) pa_nil))) (pe_one (pe_not (pe_callB call_isinst rfl T.n_isinstance (show bootBuiltins _ = some (.builtin "isinstance") from rfl) (pa_cons (pv 0) (pa_cons (pe_ty "bool" rfl T.n_bool rfl) pa_nil)))))))), ?_⟩
  obtain ⟨b1, b2, k1, k2, e⟩ := whole_kit hty
  rw [e] at q
  refine ⟨_, rfl, _, _, _, _, _, rfl, ty_is, hty, k1, _, rfl, ?_⟩
  cases b1 with
  | false => exact q
  | true => exact ⟨_, rfl, _, _, _, _, _, rfl, ty_is, hty, k2, _, rfl, q⟩
end


def spCell (K : PySem.W.Frag) : Sp := fun vs H Q _ => ∃ a ns, ∃ k : Int, vs = [.ref a, .int k] ∧ SqL K H a (List.map V.int ns) ∧ 0 ≤ k ∧ ns.length ≤ 63 ∧ Q (.int (ns.getD k.toNat 0)) H
section
variable {P : Program} {w : World} {K : PySem.W.Frag} {mg : Str → Option Value} {base : Heap}
theorem sc__law_cell : FnScope ["_law_script", "_law_k"] ["_law_script", "_law_k"] (defScope s__law_cell) := ⟨rfl, rfl, rfl, by decide +kernel, rfl, by decide +kernel, by decide +kernel⟩
theorem ok__law_cell {f : Addr} {fd : FuncData} (F : Fun K "_law_cell" "_law_cell" s__law_cell f fd) (T : Txt K mg) : FnOk P w K mg base CX0 1 f fd ["_law_script", "_law_k"] (spCell K) := by
  have sc := sc__law_cell
  refine F.ok sc (fun vs H Q E h => ?_) (fun cdv A outer s H vs Q E hr h => ?_)
  · obtain ⟨_, _, _, rfl, _⟩ := h
    rfl
  obtain ⟨a, ns, k, rfl, ha, h0, h63, q⟩ := h
  refine ⟨_, (pss_cons (ps_if (pt_cmpR op_lt (pv 1) (pe_callB call_len_seq rfl T.n_len (show bootBuiltins _ = some (.builtin "len") from rfl) (pa_cons (pv 0) pa_nil)) (nomark _))
        (pss_one (ps_ret (pe_ix ix_list (pv 0) (pv 1) (fun _ _ => rfl))))
        pss_nil)
      (pss_one (ps_ret pe_int))), ?_⟩
  have hl : (List.map V.int ns).length = ns.length := List.length_map _
  refine ⟨_, rfl, _, rfl, a, _, rfl, .inl ha, _, _, rfl, rfl, _, rfl, ?_⟩
  rw [hl]
  refine ite2 (fun c => ?_) (fun c => ?_)
  · have c' : k < (ns.length : Int) := of_decide_eq_true c
    exact ⟨_, rfl, _, rfl, a, _, _, _, rfl, rfl, ha, at_intI h0 c', q⟩
  · have c' : ¬ k < (ns.length : Int) := of_decide_eq_false (Bool.eq_false_iff.mpr c)
    have e : ns.getD k.toNat 0 = 0 := by
      rw [List.getD_eq_getElem?_getD, List.getElem?_eq_none (by omega)]
      rfl
    rw [e] at q
    exact q
end


theorem e9 : (10 : Int) ^ (9 : Int).toNat = 1000000000 := by decide +kernel
theorem e6 : (10 : Int) ^ (6 : Int).toNat = 1000000 := by decide +kernel
theorem md {a b : Int} (h : 0 < b) : 0 ≤ a % b ∧ a % b ≤ b - 1 := ⟨Int.emod_nonneg _ (by omega), by have := Int.emod_lt_of_pos a h; omega⟩
theorem hideI {i : Nat} {v : Int} {nx : St → Hp → Prop} {σ : St} {H : Hp} (lo hi : Int) (h0 : lo ≤ v ∧ v ≤ hi) (h : ∀ x : Int, lo ≤ x → x ≤ hi → gName i (.int x) σ H nx) : gName i (.int v) σ H nx := h v h0.1 h0.2
theorem atG {i : Nat} {v : V} {nx : St → Hp → Prop} {σ : St} {H : Hp} (σ' : St) (e : σ.set i (some v) = σ') (h : nx σ' H) : gName i v σ H nx := by
  unfold gName
  rw [e]
  exact h
theorem fW (wl nl : Addr) : ([("waiting", .ref wl), ("numbers", .ref nl)] : List (Str × V)).lookup ("waiting" : Str) = some (.ref wl) := rfl
theorem fN (wl nl : Addr) : ([("waiting", .ref wl), ("numbers", .ref nl)] : List (Str × V)).lookup ("numbers" : Str) = some (.ref nl) := rfl
theorem noPut (wl nl : Addr) : ([("waiting", .ref wl), ("numbers", .ref nl)] : List (Str × V)).lookup ("put" : Str) = none := rfl
theorem noHas (wl nl : Addr) : ([("waiting", .ref wl), ("numbers", .ref nl)] : List (Str × V)).lookup ("has_number" : Str) = none := rfl
theorem noUp (wl nl : Addr) : ([("waiting", .ref wl), ("numbers", .ref nl)] : List (Str × V)).lookup ("up_to" : Str) = none := rfl
theorem pW (wl wl' nl : Addr) : putF ("waiting" : Str) (.ref wl') ([("waiting", .ref wl), ("numbers", .ref nl)] : List (Str × V)) = ([("waiting", .ref wl'), ("numbers", .ref nl)] : List (Str × V)) := rfl
/-! ### promises -/
def spMix : Sp := fun vs H Q _ => ∃ n k : Int, vs = [.int n, .int k] ∧ 0 ≤ k ∧ k ≤ 1000 ∧ ∀ (i : Int) H', Same H H' → 0 ≤ i → i ≤ 100002 → Q (.int i) H'
def spAhead : Sp := fun vs H Q _ => ∃ x y a b, vs = [x, y] ∧ EnAt H x a ∧ EnAt H y b ∧ ∀ H', Same H H' → Q (.bl (ltE a b)) H'
def spInit (C : Addr) : Sp := fun vs H Q _ => ∃ x dx, vs = [.ref x] ∧ H x = some (.ins C dx []) ∧ ∀ wl nl H', (∀ b o, H b = some o → b ≠ x → H' b = some o) → H wl = none → H nl = none → H' x = some (.ins C dx [("waiting", .ref wl), ("numbers", .ref nl)]) → H' wl = some (.lst []) → H' nl = some (.dK []) → Q .non H'
def spHas (C : Addr) : Sp := fun vs H Q _ => ∃ x wl nl kvs, ∃ n : Int, vs = [.ref x, .int n] ∧ Dy C H x wl nl ∧ H nl = some (.dK kvs) ∧ Q (.bl (valV kvs (.inl n)).isSome) H
def putH (H : Hp) (t wl nl : Addr) (xs : List V) (kvs : List (Key × V)) (d r n : Int) (v : V) : Hp := upd (upd (upd H t (.tup [.int d, .int r, .int n, v])) wl (.lst (xs ++ [.ref t]))) nl (.dK (putK kvs (.inl n) (.bl true)))
def spPut (C : Addr) : Sp := fun vs H Q _ => ∃ x wl nl xs kvs, ∃ d r n : Int, ∃ v, vs = [.ref x, .int d, .int r, .int n, v] ∧ Dy C H x wl nl ∧ H wl = some (.lst xs) ∧ xs.length < 1000 ∧ H nl = some (.dK kvs) ∧ kvs.length < 1000 ∧ ∀ t, H t = none → Q .non (putH H t wl nl xs kvs d r n v)
section
variable {P : Program} {w : World} {K : PySem.W.Frag} {mg : Str → Option Value} {base : Heap}
theorem sc__law_mix : FnScope ["_law_cell_here", "_law_k", "_law_primes", "_law_number"] ["_law_cell_here", "_law_k"] (defScope s__law_mix) := ⟨rfl, rfl, rfl, by decide +kernel, rfl, by decide +kernel, by decide +kernel⟩
theorem ok__law_mix {f : Addr} {fd : FuncData} (F : Fun K "_law_mix" "_law_mix" s__law_mix f fd) (T : Txt K mg) : FnOk P w K mg base CX0 1 f fd ["_law_cell_here", "_law_k"] spMix := by
  have sc := sc__law_mix
  refine F.ok sc (fun vs H Q E h => ?_) (fun cdv A outer s H vs Q E hr h => ?_)
  · obtain ⟨_, _, rfl, _⟩ := h
    rfl
  obtain ⟨n, k, rfl, h0, h1, q⟩ := h
  refine ⟨_, (pss_cons (ps_set (i := 2) sc.nd rfl (Or.inl rfl) (pe_lst (pa_cons pe_int (pa_cons pe_int (pa_cons pe_int (pa_cons pe_int (pa_cons pe_int (pa_cons pe_int (pa_cons pe_int (pa_cons pe_int pa_nil))))))))))
      (pss_cons (ps_set (i := 3) sc.nd rfl (Or.inl rfl) (pe_op op_mod (pe_op op_mul (pe_op op_add (pe_op op_mod (pv 0) (pe_op op_pow pe_int pe_int)) pe_int) pe_int) (pe_ix ix_list (pv 2) (pe_op op_mod (pv 1) pe_int) (fun _ _ => rfl))))
      (pss_one (ps_ret (pe_op op_mod (pe_op op_fdiv (pe_op op_mul (pv 3) (pe_op op_add (pe_op op_add (pv 3) (pe_op op_mul pe_int (pv 1))) pe_int)) pe_int) pe_int))))), ?_⟩
  refine ⟨by show 8 ≤ sizeLine; rw [sizeLine_eq]; decide, fun p hp => ?_⟩
  have s1 := same_new hp (.lst [.int 999983, .int 999979, .int 999961, .int 999959, .int 999953, .int 999931, .int 999917, .int 999907])
  have e1 : upd H p (.lst [.int 999983, .int 999979, .int 999961, .int 999959, .int 999953, .int 999931, .int 999917, .int 999907]) p = some (.lst [.int 999983, .int 999979, .int 999961, .int 999959, .int 999953, .int 999931, .int 999917, .int 999907]) := upd_same
  generalize upd H p (.lst [.int 999983, .int 999979, .int 999961, .int 999959, .int 999953, .int 999931, .int 999917, .int 999907]) = H1 at s1 e1
  refine atG [some (.int n), some (.int k), some (.ref p), none] rfl ?_
  have b9 := md (a := n) (b := (10 : Int) ^ (9 : Int).toNat) (by rw [e9]; decide)
  rw [e9] at b9
  have b8 := md (a := k) (b := 8) (by decide)
  obtain ⟨m, hm0, hm1, hm⟩ : ∃ m : Int, 0 < m ∧ m ≤ 999983 ∧ atI [V.int 999983, .int 999979, .int 999961, .int 999959, .int 999953, .int 999931, .int 999917, .int 999907] (k % 8) = some (.int m) := by
    generalize k % 8 = i at b8
    have z : i = 0 ∨ i = 1 ∨ i = 2 ∨ i = 3 ∨ i = 4 ∨ i = 5 ∨ i = 6 ∨ i = 7 := by omega
    rcases z with rfl | rfl | rfl | rfl | rfl | rfl | rfl | rfl
    · exact ⟨_, by decide, by decide, rfl⟩
    · exact ⟨_, by decide, by decide, rfl⟩
    · exact ⟨_, by decide, by decide, rfl⟩
    · exact ⟨_, by decide, by decide, rfl⟩
    · exact ⟨_, by decide, by decide, rfl⟩
    · exact ⟨_, by decide, by decide, rfl⟩
    · exact ⟨_, by decide, by decide, rfl⟩
    · exact ⟨_, by decide, by decide, rfl⟩
  refine ⟨_, rfl, _, _, rfl, rfl, ⟨by decide, by decide, by decide⟩, _, _, rfl, rfl, (by show (0 : Int) < (10 : Int) ^ (9 : Int).toNat; rw [e9]; decide), _, _, rfl, rfl, _, _, rfl, rfl, .inr ⟨by decide, by decide⟩, _, rfl, _, rfl, _, _, rfl, rfl, (by show (0 : Int) < 8; decide), p, _, _, _, rfl, rfl, SqL.of e1, hm, _, _, rfl, rfl, hm0, ?_⟩
  refine hideI 0 999982 ⟨(md hm0).1, by have := (md (a := (n % (10 : Int) ^ (9 : Int).toNat + 11) * 48271) hm0).2; omega⟩ fun x x0 x1 => ?_
  refine atG [some (.int n), some (.int k), some (.ref p), some (.int x)] rfl ?_
  refine ⟨_, rfl, _, rfl, _, rfl, _, _, rfl, rfl, .inl ⟨by decide, by decide⟩, _, _, rfl, rfl, _, _, rfl, rfl, _, _, rfl, rfl, .inl ⟨by omega, by omega⟩, _, _, rfl, rfl, ⟨by decide, by decide⟩, _, _, rfl, rfl, (by show (0 : Int) < 100003; decide), ?_⟩
  have b := md (a := x * (x + 2 * k + 1) / 7) (b := 100003) (by decide)
  exact q _ _ s1 b.1 b.2
theorem sc__law_ahead : FnScope ["_law_one", "_law_other"] ["_law_one", "_law_other"] (defScope s__law_ahead) := ⟨rfl, rfl, rfl, by decide +kernel, rfl, by decide +kernel, by decide +kernel⟩
theorem ok__law_ahead {f : Addr} {fd : FuncData} (F : Fun K "_law_ahead" "_law_ahead" s__law_ahead f fd) (T : Txt K mg) : FnOk P w K mg base CX0 1 f fd ["_law_one", "_law_other"] spAhead := by
  have sc := sc__law_ahead
  refine F.ok sc (fun vs H Q E h => ?_) (fun cdv A outer s H vs Q E hr h => ?_)
  · obtain ⟨_, _, _, _, rfl, _⟩ := h
    rfl
  have hu := hr.units0
  obtain ⟨_, _, a, b, rfl, ⟨t, v, rfl, ht, rt⟩, ⟨u, v', rfl, hu', ru⟩, q⟩ := h
  refine ⟨_, (pss_one (ps_ret (pe_cmpR (op_ltT hu) (pe_tup (pa_cons (pe_ix ix_tup (pv 0) pe_int (fun _ _ => rfl)) (pa_cons (pe_ix ix_tup (pv 0) pe_int (fun _ _ => rfl)) (pa_cons (pe_ix ix_tup (pv 0) pe_int (fun _ _ => rfl)) pa_nil)))) (pe_tup (pa_cons (pe_ix ix_tup (pv 1) pe_int (fun _ _ => rfl)) (pa_cons (pe_ix ix_tup (pv 1) pe_int (fun _ _ => rfl)) (pa_cons (pe_ix ix_tup (pv 1) pe_int (fun _ _ => rfl)) pa_nil)))) (nomark _)))), ?_⟩
  have three : 3 ≤ sizeLine := by rw [sizeLine_eq]; decide
  refine ⟨_, rfl, t, _, _, _, rfl, rfl, SqT.of ht, rfl, _, rfl, t, _, _, _, rfl, rfl, SqT.of ht, rfl, _, rfl, t, _, _, _, rfl, rfl, SqT.of ht, rfl, three, fun p hp => ?_⟩
  have s1 := same_new hp (.tup [.int a.1, .int a.2.1, .int a.2.2.1])
  have hu1 := s1 _ _ hu'
  refine ⟨_, rfl, u, _, _, _, rfl, rfl, SqT.of hu1, rfl, _, rfl, u, _, _, _, rfl, rfl, SqT.of hu1, rfl, _, rfl, u, _, _, _, rfl, rfl, SqT.of hu1, rfl, three, fun p2 hp2 => ?_⟩
  have s2 := same_new hp2 (.tup [.int b.1, .int b.2.1, .int b.2.2.1])
  exact ⟨p, p2, keyE a, keyE b, rfl, rfl, SqT.of (s2 _ _ upd_same), SqT.of upd_same, q _ (s1.trans s2)⟩
theorem sc_Days___init__ : FnScope ["self"] ["self"] (defScope s_Days___init__) := ⟨rfl, rfl, rfl, by decide +kernel, rfl, by decide +kernel, by decide +kernel⟩
theorem ok_Days___init__ {f C_Days : Addr} {fd : FuncData} (F : Fun K "__init__" "Days.__init__" s_Days___init__ f fd) (T : Txt K mg) (L : Kl K mg C_Days) : FnOk P w K mg base CX0 1 f fd ["self"] (spInit C_Days) := by
  have sc := sc_Days___init__
  refine F.ok sc (fun vs H Q E h => ?_) (fun cdv A outer s H vs Q E hr h => ?_)
  · obtain ⟨_, _, rfl, _⟩ := h
    rfl
  obtain ⟨x, dx, rfl, hx, q⟩ := h
  refine ⟨_, (pss_cons (ps_fld (pv 0) (pe_lst pa_nil) rfl)
      (pss_one (ps_fld (pv 0) pe_dnewK rfl))), ?_⟩
  refine ⟨Nat.zero_le _, fun wl hwl => ?_⟩
  have s1 := same_new hwl (.lst [])
  have e1 : upd H wl (.lst []) wl = some (.lst []) := upd_same
  generalize upd H wl (.lst []) = H1 at s1 e1
  have nwx : wl ≠ x := (ne_of_none hx hwl).symm
  refine ⟨_, rfl, x, C_Days, dx, _, rfl, s1 _ _ hx, L.cl_Days, L.na_Days_waiting, by decide, ?_⟩
  have e2 : upd H1 x (.ins C_Days dx (putF "waiting" (.ref wl) [])) x = some (.ins C_Days dx [("waiting", .ref wl)]) := upd_same
  have k2 : ∀ b o, H1 b = some o → b ≠ x → upd H1 x (.ins C_Days dx (putF "waiting" (.ref wl) [])) b = some o := fun b o z n => by rw [upd_ne n]; exact z
  generalize upd H1 x (.ins C_Days dx (putF "waiting" (.ref wl) [])) = H2 at e2 k2
  intro nl hnl
  have s3 := same_new hnl (.dK [])
  have e3 : upd H2 nl (.dK []) nl = some (.dK []) := upd_same
  generalize upd H2 nl (.dK []) = H3 at s3 e3
  have nnx : nl ≠ x := (ne_of_none e2 hnl).symm
  refine ⟨_, rfl, x, C_Days, dx, _, rfl, s3 _ _ e2, L.cl_Days, L.na_Days_numbers, by show 1 < 1000; decide, ?_⟩
  refine q wl nl _ (fun b o z n => ?_) hwl ?_ ?_ ?_ ?_
  · rw [upd_ne n]
    exact s3 _ _ (k2 _ _ (s1 _ _ z) n)
  · cases z : H nl with
    | none => rfl
    | some o => rw [k2 _ _ (s1 _ _ z) nnx] at hnl; cases hnl
  · rw [upd_same]; rfl
  · rw [upd_ne nwx]
    exact s3 _ _ (k2 _ _ e1 nwx)
  · rw [upd_ne nnx]
    exact e3
theorem sc_Days_has_number : FnScope ["self", "number"] ["self", "number"] (defScope s_Days_has_number) := ⟨rfl, rfl, rfl, by decide +kernel, rfl, by decide +kernel, by decide +kernel⟩
theorem ok_Days_has_number {f C_Days : Addr} {fd : FuncData} (F : Fun K "has_number" "Days.has_number" s_Days_has_number f fd) (T : Txt K mg) (L : Kl K mg C_Days) : FnOk P w K mg base CX0 1 f fd ["self", "number"] (spHas C_Days) := by
  have sc := sc_Days_has_number
  refine F.ok sc (fun vs H Q E h => ?_) (fun cdv A outer s H vs Q E hr h => ?_)
  · obtain ⟨_, _, _, _, _, rfl, _⟩ := h
    rfl
  have hu2 := hu_of hr
  obtain ⟨x, wl, nl, kvs, n, rfl, ⟨dx, hx⟩, hn, q⟩ := h
  refine ⟨_, (pss_one (ps_ret (pe_cmp (pc_din hu2 (pv 1) (pe_fld (pv 0) rfl))))), ?_⟩
  exact ⟨_, rfl, _, rfl, x, C_Days, dx, _, _, rfl, hx, L.cl_Days, L.na_Days_numbers, fN wl nl, nl, _, rfl, DGet.k (k := .inl n) hn, q⟩
theorem sc_Days_put : FnScope ["self", "day", "rank", "number", "row"] ["self", "day", "rank", "number", "row"] (defScope s_Days_put) := ⟨rfl, rfl, rfl, by decide +kernel, rfl, by decide +kernel, by decide +kernel⟩
theorem ok_Days_put {f C_Days : Addr} {fd : FuncData} (F : Fun K "put" "Days.put" s_Days_put f fd) (T : Txt K mg) (L : Kl K mg C_Days) : FnOk P w K mg base CX0 1 f fd ["self", "day", "rank", "number", "row"] (spPut C_Days) := by
  have sc := sc_Days_put
  refine F.ok sc (fun vs H Q E h => ?_) (fun cdv A outer s H vs Q E hr h => ?_)
  · obtain ⟨_, _, _, _, _, _, _, _, _, rfl, _⟩ := h
    rfl
  have hu2 := hu_of hr
  obtain ⟨x, wl, nl, xs, kvs, d, r, n, v, rfl, ⟨dx, hx⟩, hw, lx, hn, lk, q⟩ := h
  refine ⟨_, (pss_cons (ps_expr (pe_bm PySem.F.plainAttrs_list PySem.F.slot_list_append PySem.F.type_list_append mt_append (pe_fld (pv 0) rfl) (pa_cons (pe_tup (pa_cons (pv 1) (pa_cons (pv 2) (pa_cons (pv 3) (pa_cons (pv 4) pa_nil))))) pa_nil)))
      (pss_one (ps_dput hu2 (pe_fld (pv 0) rfl) (pv 3) pe_bl rfl))), ?_⟩
  have four : 4 ≤ sizeLine := by rw [sizeLine_eq]; decide
  refine ⟨_, rfl, x, C_Days, dx, _, _, rfl, hx, L.cl_Days, L.na_Days_waiting, fW wl nl, .inl ⟨rfl, _, SqL.of hw⟩, _, rfl, _, rfl, _, rfl, _, rfl, four, fun t ht => ?_⟩
  have s1 := same_new ht (.tup [.int d, .int r, .int n, v])
  refine ⟨wl, xs, _, rfl, rfl, s1 _ _ hw, by rw [sizeLine_eq]; omega, ?_⟩
  have hx2 : upd (upd H t (.tup [.int d, .int r, .int n, v])) wl (.lst (xs ++ [.ref t])) x = some (.ins C_Days dx [("waiting", .ref wl), ("numbers", .ref nl)]) := by
    rw [upd_ne (ne_of hx hw (by intro z; cases z))]
    exact s1 _ _ hx
  have hn2 : upd (upd H t (.tup [.int d, .int r, .int n, v])) wl (.lst (xs ++ [.ref t])) nl = some (.dK kvs) := dk_lst (s1 _ _ hn) (s1 _ _ hw) _
  exact ⟨_, rfl, x, C_Days, dx, _, _, rfl, hx2, L.cl_Days, L.na_Days_numbers, fN wl nl, _, rfl, nl, _, rfl, DPut.k (k := .inl n) hn2 (by rw [sizeLine_eq]; omega), q t ht⟩
end


theorem take_snoc {α : Type} {l : List α} {i : Nat} {x : α} (h : l[i]? = some x) : l.take (i + 1) = l.take i ++ [x] := by
  rw [List.take_add_one, h]
  rfl
theorem filt_snoc {α : Type} {l : List α} {i : Nat} {x : α} (f : α → Bool) (h : l[i]? = some x) : (l.take (i + 1)).filter f = (l.take i).filter f ++ (if f x = true then [x] else []) := by
  rw [take_snoc h, List.filter_append]
  congr 1
  by_cases c : f x = true
  · rw [if_pos c, List.filter_cons_of_pos c]; rfl
  · rw [if_neg c, List.filter_cons_of_neg c]; rfl
theorem filt_len {es : List Ent} {f : Ent → Bool} : (es.filter f).length ≤ es.length := List.length_filter_le _ _
/-- the rows of a list for which a test of the day holds -/
theorem comp_rows {K : PySem.W.Frag} {a p : Addr} {xs : List V} {es : List Ent} {tc : TT} {te : TE} {σ : St} {ix : List Nat} {H1 : Hp} {QQ : Hp → Prop} (f : Ent → Bool) (ha : H1 a = some (.lst xs)) (hp : H1 p = none) (h : Ens H1 xs es) (hl : es.length ≤ 1000)
    (hc : ∀ (x : V) (e : Ent) (H2 : Hp) (Q : Bool → Hp → Prop), EnAt H2 x e → Q (f e) H2 → tc (some x :: caps ix σ) H2 Q) (he : ∀ (x : V) (H2 : Hp) (Q : VK), Q x H2 → te (some x :: caps ix σ) H2 Q)
    (hd : ∀ ys, Ens H1 ys (es.filter f) → QQ (upd H1 p (.lst ys))) : CompW (gName 0) tc te 1 ix σ (Itl K a) p H1 QQ := by
  have lx := h.len
  have sm : ∀ ys : List V, Same H1 (upd H1 p (.lst ys)) := fun ys => same_new hp _
  refine comp_list (K := K) (a := a) (xs := xs) (fun i ys H2 => H2 = upd H1 p (.lst ys) ∧ ys.length ≤ i ∧ Ens H1 ys ((es.take i).filter f)) ⟨rfl, Nat.le_refl _, by rw [List.take_zero]; trivial⟩ (fun i ys H2 _ ⟨e, l, _⟩ => ⟨by rw [e]; exact upd_same, l, by rw [e]; exact SqL.of (sm ys _ _ ha)⟩) (by rw [sizeLine_eq]; omega) (fun i x ys H2 hi ⟨e, l, en⟩ => ?_) (fun ys H2 ⟨e, l, en⟩ => ?_)
  · obtain ⟨en', hen, z⟩ := h.get hi
    subst e
    refine hc x en' _ _ (z.mono (tst_same (sm ys))) ?_
    rw [filt_snoc f hen]
    by_cases c : f en' = true
    · rw [if_pos c, if_pos c]
      refine he x _ _ ⟨upd_same, rfl, by rw [upd_upd], by rw [List.length_append]; exact Nat.succ_le_succ l, en.snoc z⟩
    · rw [if_neg c, if_neg c, List.append_nil]
      exact ⟨rfl, rfl, by omega, en⟩
  · rw [lx, List.take_length] at en
    rw [e]
    exact hd ys en
def spUp (C T : Addr) : Sp := fun vs H Q _ => ∃ x wl nl xs es, ∃ day : Int, vs = [.ref x, .int day] ∧ Dy C H x wl nl ∧ H wl = some (.lst xs) ∧ Ens H xs es ∧ es.length < 64 ∧ KD es ∧ LamAt T lpos lqual H ∧ ∀ wl' r ys zs H', (∀ b o, H b = some o → b ≠ T → b ≠ x → H' b = some o) → Dy C H' x wl' nl → H wl' = none → H r = none → wl' ≠ r → H' wl' = some (.lst ys) →
  Ens H' ys (es.filter fun e => decide (day < e.1)) → H' r = some (.lst zs) → Ens H' zs (sortE (es.filter fun e => decide (e.1 ≤ day))) → LamAt T lpos lqual H' → Q (.ref r) H'
section
variable {P : Program} {w : World} {K : PySem.W.Frag} {mg : Str → Option Value} {base : Heap}
theorem sc_Days_up_to : FnScope ["self", "day", "due"] ["self", "day"] (defScope s_Days_up_to) := ⟨rfl, rfl, rfl, by decide +kernel, rfl, by decide +kernel, by decide +kernel⟩
seal L2.PS L2.PSs L2.PE L2.PA
theorem ok_Days_up_to {f C_Days c T0 : Addr} {fd : FuncData} (F : Fun K "up_to" "Days.up_to" s_Days_up_to f fd) (hc : fd.code = .ref c) (T : Txt K mg) (L : Kl K mg C_Days) (CH : PySem.W.CodeHd base c T0) (hbi : BI mg base) : FnOk P w K mg base CX0 5 f fd ["self", "day"] (spUp C_Days T0) := by
  have sc := sc_Days_up_to
  refine F.okC hc sc (fun vs H Q E h => ?_) (fun A outer s H vs Q E hr h => ?_)
  · obtain ⟨_, _, _, _, _, _, rfl, _⟩ := h
    rfl
  obtain ⟨x, wl, nl, xs, es, day, rfl, ⟨dx, hx⟩, hw, en, le, kd, lam, q⟩ := h
  refine ⟨_, (pss_cons (ps_comp (NC := ["entry", "day"]) (own := ["entry"]) (cs := ["day"]) (ix := [1]) (j := 2) sc.nd rfl rfl rfl (CompScope.of rfl) rfl ⟨⟨rfl, .inl rfl, rfl⟩, trivial⟩ (pi_list (pe_fld (pv 0) rfl)) (fun _ _ _ => (pg_name (i := 0) (show (["entry", "day"] : List Str).Nodup from by decide +kernel) rfl (Or.inl rfl))) (fun _ _ _ => (pts_one (pt_cmpR op_le (pe_ix (ix_tupK (K := K) rfl) (pv 0) pe_int (fun _ _ => rfl)) (pv 1) (nomark _)))) (fun _ _ _ => (pv 0)))
      (pss_cons (ps_fld (pv 0) (pe_comp (NC := ["entry", "day"]) (own := ["entry"]) (cs := ["day"]) (ix := [1]) rfl (CompScope.of rfl) rfl ⟨⟨rfl, .inl rfl, rfl⟩, trivial⟩ (pi_list (pe_fld (pv 0) rfl)) (fun _ _ _ => (pg_name (i := 0) (show (["entry", "day"] : List Str).Nodup from by decide +kernel) rfl (Or.inl rfl))) (fun _ _ _ => (pts_one (pt_cmpR op_gt (pe_ix (ix_tupK (K := K) rfl) (pv 0) pe_int (fun _ _ => rfl)) (pv 1) (nomark _)))) (fun _ _ _ => (pv 0))) rfl)
      (pss_one (ps_ret (pe_sortK (pv 2) (lam_B ⟨rfl, rfl, rfl, by decide, rfl, by decide +kernel, by decide +kernel⟩ (fun _ _ _ _ => rfl)) (hr.mono (by decide)) rfl CH hbi rfl rfl rfl rfl T.n_sorted))))), ?_⟩
  refine ⟨_, rfl, x, C_Days, dx, _, _, rfl, hx, L.cl_Days, L.na_Days_waiting, fW wl nl, wl, rfl, ⟨_, SqL.of hw⟩, fun p hp => ?_⟩
  refine comp_rows (K := K) (fun e => decide (e.1 ≤ day)) hw hp en (by omega) (fun x e H2 Q ⟨t, v, ex, ht, _⟩ q => ?_) (fun x H2 Q q => ⟨_, rfl, q⟩) (fun zs ez => ?_)
  · subst ex
    exact ⟨_, rfl, t, _, _, _, rfl, rfl, SqT.of ht, rfl, _, rfl, _, _, rfl, rfl, _, rfl, q⟩
  have s1 := same_new hp (.lst zs)
  have e1 : upd H p (.lst zs) p = some (.lst zs) := upd_same
  refine atG [some (.ref x), some (.int day), some (.ref p)] rfl ?_
  generalize upd H p (.lst zs) = H1 at s1 e1
  refine ⟨_, rfl, x, C_Days, dx, _, _, rfl, s1 _ _ hx, L.cl_Days, L.na_Days_waiting, fW wl nl, wl, rfl, ⟨_, SqL.of (s1 _ _ hw)⟩, fun p2 hp2 => ?_⟩
  refine comp_rows (K := K) (fun e => decide (day < e.1)) (s1 _ _ hw) hp2 (en.mono (tst_same s1)) (by omega) (fun x e H2 Q ⟨t, v, ex, ht, _⟩ q => ?_) (fun x H2 Q q => ⟨_, rfl, q⟩) (fun ys ey => ?_)
  · subst ex
    exact ⟨_, rfl, t, _, _, _, rfl, rfl, SqT.of ht, rfl, _, rfl, _, _, rfl, rfl, _, rfl, q⟩
  have s2 := same_new hp2 (.lst ys)
  have e2 : upd H1 p2 (.lst ys) p2 = some (.lst ys) := upd_same
  generalize upd H1 p2 (.lst ys) = H2 at s2 e2
  have s12 := s1.trans s2
  have npx : p ≠ x := (ne_of_none hx hp).symm
  have np2x : p2 ≠ x := (ne_of_none (s1 _ _ hx) hp2).symm
  have npp : p ≠ p2 := ne_of_none e1 hp2
  refine ⟨_, rfl, x, C_Days, dx, _, rfl, s12 _ _ hx, L.cl_Days, L.na_Days_waiting, by show 2 < 1000; decide, ?_⟩
  rw [pW]
  have e3 : upd H2 x (.ins C_Days dx [("waiting", .ref p2), ("numbers", .ref nl)]) x = some (.ins C_Days dx [("waiting", .ref p2), ("numbers", .ref nl)]) := upd_same
  have k3 : ∀ b o, H2 b = some o → b ≠ x → upd H2 x (.ins C_Days dx [("waiting", .ref p2), ("numbers", .ref nl)]) b = some o := fun b o z n => by rw [upd_ne n]; exact z
  have lam3 : LamAt T0 lpos lqual (upd H2 x (.ins C_Days dx [("waiting", .ref p2), ("numbers", .ref nl)])) := (lam.same s12).ins (s12 _ _ hx) _
  have t3 : Tst H2 (upd H2 x (.ins C_Days dx [("waiting", .ref p2), ("numbers", .ref nl)])) := fun t zs z => by
    rw [upd_ne (ne_of z (s12 _ _ hx) (by intro y; cases y))]
    exact z
  generalize upd H2 x (.ins C_Days dx [("waiting", .ref p2), ("numbers", .ref nl)]) = H3 at e3 k3 lam3 t3
  have ez3 : Ens H3 zs (es.filter fun e => decide (e.1 ≤ day)) := (ez.mono (tst_same s12)).mono t3
  have ey3 : Ens H3 ys (es.filter fun e => decide (day < e.1)) := (ey.mono (tst_same s2)).mono t3
  have lz := ez3.len
  have lf : (es.filter fun e => decide (e.1 ≤ day)).length ≤ es.length := filt_len
  refine ⟨_, rfl, p, zs, _, rfl, SqL.of (k3 _ _ (s2 _ _ e1) npx), ez3.key, by omega, lam3, fun pm a H4 na S4 L4 hp hu ha => ?_⟩
  have hT : ∃ ps, H3 T0 = some (.tbl ps) := by
    rcases lam3 with z | ⟨_, z, _⟩
    · exact ⟨_, z⟩
    · exact ⟨_, z⟩
  obtain ⟨tps, hT⟩ := hT
  have nT : ∀ b o, H3 b = some o → (∀ ps, o ≠ .tbl ps) → b ≠ T0 := fun b o z n y => by rw [y, hT] at z; cases z; exact n _ rfl
  have t4 : Tst H3 H4 := fun t us z => S4 _ _ z (nT _ _ z fun _ y => by cases y)
  rw [lz] at hp hu
  refine q p2 a ys _ H4 (fun b o z n1 n2 => S4 _ _ (k3 _ _ (s12 _ _ z) n2) n1) ⟨dx, S4 _ _ e3 (nT _ _ e3 fun _ y => by cases y)⟩ (s1.free hp2) ?_ ?_ (S4 _ _ (k3 _ _ e2 np2x) (nT _ _ (k3 _ _ e2 np2x) fun _ y => by cases y)) (ey3.mono t4) ha ?_ L4
  · cases z : H a with
    | none => rfl
    | some o =>
      by_cases nx : a = x
      · rw [nx, e3] at na; cases na
      · rw [k3 _ _ (s12 _ _ z) nx] at na; cases na
  · intro z
    rw [← z, k3 _ _ e2 np2x] at na
    cases na
  · rw [← pick_sort hp hu (kd.filter _)]
    exact (ez3.pick _ fun i hi => by have := pm_lt hp i hi; omega).mono t4
end


theorem hideE {i : Nat} {v : Int} {nx : St → Hp → Prop} {σ : St} {H : Hp} (P : Int → Prop) (h0 : P v) (h : ∀ x : Int, P x → gName i (.int x) σ H nx) : gName i (.int v) σ H nx := h v h0
theorem join_set {c : Prop} {inst : Decidable c} {te : TE} {i : Nat} {D : Ends} {σ : St} {H : Hp} (G : V → Hp → Prop) (v0 : V) (e0 : σ.set i (some v0) = σ) (g0 : G v0 H) (h : c → ∀ Q : VK, (∀ v H', G v H' → Q v H') → te σ H Q) (R : ∀ v H', G v H' → D.nx (σ.set i (some v)) H') :
    @ite Prop c inst (tAsg te (gName i) D σ H) (tNext D σ H) := by
  by_cases z : c
  · rw [if_pos z]; exact h z _ R
  · rw [if_neg z]
    have r := R v0 H g0
    rw [e0] at r
    exact r
theorem kit_bb {K : PySem.W.Frag} : PySem.W.kitOne K (.type "bool") (.type "bool") = some true := by kernel_rfl
theorem at_ok {xs : List V} {i : Int} (h0 : 0 ≤ i) (h1 : i < xs.length) : ∃ v, xs[i.toNat]? = some v ∧ atI xs i = some v := by
  have hi : i.toNat < xs.length := by omega
  refine ⟨xs[i.toNat], List.getElem?_eq_getElem hi, ?_⟩
  unfold atI ixN
  rw [if_pos h0, if_pos h1]
  exact List.getElem?_eq_getElem hi
theorem ins_at (e : Ent) : ∀ (l : List Ent) (k : Nat), k ≤ l.length → (∀ j (h : j < l.length), j < k → ltE l[j] e = true) → (∀ h : k < l.length, ltE l[k] e = false) → ins e l = l.take k ++ e :: l.drop k
  | [], 0, _, _, _ => rfl
  | [], k + 1, h, _, _ => by simp at h
  | x :: l, 0, _, _, h2 => by
    have := h2 (by simp)
    unfold ins
    rw [if_neg (by rw [show ltE x e = false from this]; exact Bool.false_ne_true)]
    rfl
  | x :: l, k + 1, h, h1, h2 => by
    have h0 := h1 0 (by simp) (by omega)
    unfold ins
    rw [if_pos (show ltE x e = true from h0), ins_at e l k (by simpa using h) (fun j hj hk => h1 (j + 1) (by simpa using hj) (by omega)) (fun hk => h2 (by simpa using hk))]
    rfl
theorem sort_snoc (l : List Ent) (e : Ent) : sortE (l ++ [e]) = ins e (sortE l) := by
  unfold sortE
  rw [List.foldl_append]
  rfl
def spDue : Sp := fun vs H Q _ => ∃ a xs es, ∃ day : Int, vs = [.ref a, .int day] ∧ H a = some (.lst xs) ∧ Ens H xs es ∧ es.length ≤ 500 ∧ ∀ r zs H', Same H H' → H r = none → H' r = some (.lst zs) → Ens H' zs (sortE (es.filter fun e => decide (e.1 ≤ day))) → Q (.ref r) H'
def spSame : Sp := fun vs H Q _ => ∃ f d xs ys es, vs = [.ref f, .ref d] ∧ H f = some (.lst xs) ∧ Ens H xs es ∧ H d = some (.lst ys) ∧ Ens H ys es ∧ Q (.bl true) H
def spLPut (C : Addr) : Sp := fun vs H Q _ => ∃ x wl nl xs kvs t, ∃ d r n : Int, ∃ v, vs = [.ref x, .ref t, .bl (valV kvs (.inl n)).isSome] ∧ Dy C H x wl nl ∧ H wl = some (.lst xs) ∧ xs.length < 1000 ∧ H nl = some (.dK kvs) ∧ kvs.length < 1000 ∧ H t = some (.tup [.int d, .int r, .int n, v]) ∧ ∀ u, H u = none → Q (.bl true) (putH H u wl nl xs kvs d r n v)
def spTriple : Sp := fun vs H Q _ => ∃ a xs ts, ∃ c k day : Int, vs = [.int c, .int k, .int day, .ref a] ∧ H a = some (.lst xs) ∧ Trs H xs ts ∧ 0 ≤ k ∧ k < 64 ∧ (∀ t ∈ ts, 0 ≤ t.2.2 % 64 ∧ t.2.2 % 64 < k) ∧
  ∀ q (r n : Int) H', Same H H' → H' q = some (.tup [.int day, .int r, .int n]) → (day, r, n) ∉ ts → 0 ≤ n % 64 → n % 64 ≤ k → Q (.ref q) H'
section
variable {P : Program} {w : World} {K : PySem.W.Frag} {mg : Str → Option Value} {base : Heap}
theorem sc__law_due : FnScope ["_law_waiting", "_law_day", "_law_due_here", "_law_one", "_law_at"] ["_law_waiting", "_law_day"] (defScope s__law_due) := ⟨rfl, rfl, rfl, by decide +kernel, rfl, by decide +kernel, by decide +kernel⟩
seal L2.PS L2.PSs L2.PE L2.PA
theorem ok__law_due {f : Addr} {fd : FuncData} (F : Fun K "_law_due" "_law_due" s__law_due f fd) (T : Txt K mg) (C_law_ahead : Cal P w K mg base 1 "_law_ahead" ["_law_one", "_law_other"] spAhead) : FnOk P w K mg base CX0 2 f fd ["_law_waiting", "_law_day"] spDue := by
  have sc := sc__law_due
  refine F.ok sc (fun vs H Q E h => ?_) (fun cdv A outer s H vs Q E hr h => ?_)
  · obtain ⟨_, _, _, _, rfl, _⟩ := h
    rfl
  obtain ⟨a, xs, es, day, rfl, ha, en, le, q⟩ := h
  refine ⟨_, (pss_cons (ps_set (i := 2) sc.nd rfl (Or.inl rfl) (pe_lst pa_nil))
      (pss_cons (ps_for PassesOwn.never rfl (pi_list (pv 0)) (pg_name (i := 3) sc.nd rfl (Or.inl rfl))
        (pss_one (ps_if (pt_cmpR op_le (pe_ix ix_tup (pv 3) pe_int (fun _ _ => rfl)) (pv 1) (nomark _))
        (pss_cons (ps_set (i := 4) sc.nd rfl (Or.inl rfl) pe_int)
      (pss_cons (ps_while PassesOwn.never (PW.pt (pw_and (pt_cmpR op_lt (pv 4) (pe_callB call_len_seq rfl T.n_len (show bootBuiltins _ = some (.builtin "len") from rfl) (pa_cons (pv 2) pa_nil)) (nomark _)) (pw_and1 (pt_val (pe_callC C_law_ahead (hr.mono (by decide)) rfl (pa_cons (pe_ix ix_list (pv 2) (pv 4) (fun _ _ => rfl)) (pa_cons (pv 3) pa_nil)))))))
        (pss_one (ps_set (i := 4) sc.nd rfl (Or.inl rfl) (pe_op op_add (pv 4) pe_int))))
      (pss_one (ps_expr (pe_bm PySem.F.plainAttrs_list PySem.F.slot_list_insert PySem.F.type_list_insert mt_insert (pv 2) (pa_cons (pv 4) (pa_cons (pv 3) pa_nil)))))))
        pss_nil)))
      (pss_one (ps_ret (pv 2))))), ?_⟩
  have lx := en.len
  refine ⟨Nat.zero_le _, fun r hr' => ?_⟩
  have s1 := same_new hr' (.lst [])
  have e1 : upd H r (.lst []) r = some (.lst []) := upd_same
  generalize upd H r (.lst []) = H1 at s1 e1
  refine atG [some (.ref a), some (.int day), some (.ref r), none, none] rfl ?_
  refine ⟨_, rfl, a, rfl, ⟨_, SqL.of (s1 _ _ ha)⟩, for_list (K := K) (a := a) (xs := xs) (fun i σ H2 => (∃ o3 o4 zs, σ = [some (.ref a), some (.int day), some (.ref r), o3, o4] ∧ H2 r = some (.lst zs) ∧ Ens H2 zs (sortE ((es.take i).filter fun e => decide (e.1 ≤ day)))) ∧ Same H H2)
    ⟨⟨none, none, [], rfl, e1, by rw [List.take_zero]; trivial⟩, s1⟩ (fun i σ H2 _ ⟨_, e⟩ => SqL.of (e _ _ ha)) ?_ ?_⟩
  · rintro i x σ H2 hi ⟨⟨o3, o4, zs, rfl, h1, ez⟩, s2⟩
    obtain ⟨e, he, z⟩ := en.get hi
    have z2 := z.mono (tst_same s2)
    have lz := ez.len
    have hix : i < es.length := (List.getElem?_eq_some_iff.mp he).1
    have lf : ((es.take i).filter fun e => decide (e.1 ≤ day)).length ≤ i := Nat.le_trans (List.length_filter_le _ _) (by rw [List.length_take]; omega)
    rw [sort_len] at lz
    obtain ⟨t, v, rfl, ht, rt⟩ := id z2
    have fs := filt_snoc (fun e => decide (e.1 ≤ day)) he
    refine ⟨_, rfl, t, _, _, _, rfl, rfl, SqT.of ht, rfl, _, rfl, _, _, rfl, rfl, _, rfl, ite2 (fun c => ?_) (fun c => ?_)⟩
    · rw [if_pos c] at fs
      refine atG (i := 4) [some (.ref a), some (.int day), some (.ref r), some (.ref t), some (.int 0)] rfl ?_
      generalize hl : sortE ((es.take i).filter fun e => decide (e.1 ≤ day)) = l at ez
      have lz2 := ez.len
      refine ⟨fun m σ H3 => ∃ k : Nat, k ≤ zs.length ∧ m = zs.length - k ∧ σ = [some (.ref a), some (.int day), some (.ref r), some (.ref t), some (.int k)] ∧ Same H2 H3 ∧ ∀ j (h : j < l.length), j < k → ltE l[j] e = true, ⟨_, 0, Nat.zero_le _, rfl, rfl, Same.refl _, fun j _ h => absurd h (Nat.not_lt_zero j)⟩, ?_⟩
      rintro m σ H3 ⟨k, hk, rfl, rfl, s3, pre⟩
      have h3 := s3 _ _ h1
      have done : ∀ H4, Same H3 H4 → (∀ h : k < l.length, ltE l[k] e = false) → H4 r = some (.lst zs) ∧ Ens (upd H4 r (.lst (zs.take k ++ .ref t :: zs.drop k))) (zs.take k ++ .ref t :: zs.drop k) (sortE ((es.take (i + 1)).filter fun e => decide (e.1 ≤ day))) ∧ Same H (upd H4 r (.lst (zs.take k ++ .ref t :: zs.drop k))) := fun H4 s4 stop => by
        have h4 := s4 _ _ h3
        have s24 := s3.trans s4
        refine ⟨h4, ?_, fun b o y => ?_⟩
        · rw [fs, sort_snoc, hl, ins_at e l k (by omega) pre stop]
          have t5 := (tst_same s24).trans (tst_lst h4 (.lst (zs.take k ++ .ref t :: zs.drop k)))
          exact ((ez.mono t5).take k).app ⟨z2.mono t5, (ez.mono t5).drop k⟩
        · rw [upd_ne (ne_of_none y hr')]
          exact s24 _ _ (s2 _ _ y)
      refine ⟨_, rfl, _, rfl, r, _, rfl, .inl (SqL.of h3), _, _, rfl, rfl, _, rfl, ite2 (fun c2 => ?_) (fun c2 => ?_)⟩
      · have c3 : (k : Int) < (zs.length : Int) := of_decide_eq_true c2
        have hkl : k < l.length := by omega
        obtain ⟨y, hy, ha'⟩ := at_ok (xs := zs) (i := (k : Int)) (by omega) c3
        obtain ⟨ek, hek, zk⟩ := (ez.mono (tst_same s3)).get hy
        have ek2 : l[k] = ek := by
          rw [show (k : Int).toNat = k from rfl, List.getElem?_eq_getElem hkl] at hek
          exact Option.some.inj hek
        refine ⟨_, rfl, _, rfl, r, zs, _, _, rfl, rfl, SqL.of h3, ha', _, rfl, y, _, ek, e, rfl, zk, z2.mono (tst_same s3), fun H4 s4 => ⟨_, rfl, ite2 (fun c4 => ?_) (fun c4 => ?_)⟩⟩
        · refine ⟨_, fun σ' H' hn => hn, ?_⟩
          refine ⟨_, rfl, _, _, rfl, rfl, ?_⟩
          refine atG [some (.ref a), some (.int day), some (.ref r), some (.ref t), some (.int ((k : Int) + 1))] rfl ?_
          refine ⟨_, ?_, k + 1, by omega, rfl, rfl, s3.trans s4, fun j hj hjk => ?_⟩
          · omega
          · by_cases hjk2 : j = k
            · subst hjk2
              rw [ek2]
              exact c4
            · exact pre j hj (by omega)
        · obtain ⟨h4, a1, a2⟩ := done H4 s4 fun _ => by rw [ek2]; exact Bool.eq_false_iff.mpr c4
          exact ⟨_, rfl, .inl ⟨rfl, _, SqL.of h4⟩, _, rfl, _, rfl, r, zs, k, _, rfl, rfl, h4, hk, by omega, ⟨_, _, _, rfl, upd_same, a1⟩, a2⟩
      · have c3 : ¬ (k : Int) < (zs.length : Int) := of_decide_eq_false (Bool.eq_false_iff.mpr c2)
        obtain ⟨h4, a1, a2⟩ := done H3 (Same.refl _) fun h => by omega
        exact iteF ⟨_, rfl, .inl ⟨rfl, _, SqL.of h4⟩, _, rfl, _, rfl, r, zs, k, _, rfl, rfl, h4, hk, by omega, ⟨_, _, _, rfl, upd_same, a1⟩, a2⟩
    · rw [if_neg c, List.append_nil] at fs
      exact ⟨⟨_, _, zs, rfl, h1, by rw [fs]; exact ez⟩, s2⟩
  · rintro σ H2 ⟨⟨o3, o4, zs, rfl, h1, ez⟩, s2⟩
    rw [lx, List.take_length] at ez
    exact ⟨_, rfl, q r zs H2 s2 hr' h1 ez⟩
theorem sc__law_same : FnScope ["_law_found", "_law_due_here", "_law_one"] ["_law_found", "_law_due_here"] (defScope s__law_same) := ⟨rfl, rfl, rfl, by decide +kernel, rfl, by decide +kernel, by decide +kernel⟩
theorem ok__law_same {f : Addr} {fd : FuncData} (F : Fun K "_law_same" "_law_same" s__law_same f fd) (T : Txt K mg) (C_law_whole : Cal P w K mg base 1 "_law_whole" ["_law_found"] (spWhole K)) : FnOk P w K mg base CX0 2 f fd ["_law_found", "_law_due_here"] spSame := by
  have sc := sc__law_same
  refine F.ok sc (fun vs H Q E h => ?_) (fun cdv A outer s H vs Q E hr h => ?_)
  · obtain ⟨_, _, _, _, _, rfl, _⟩ := h
    rfl
  have hu64 := room_64 hr
  obtain ⟨g, d, xs, ys, es, rfl, hg, ex, hd, ey, q⟩ := h
  refine ⟨_, (pss_cons (ps_if (PW.pt (pw_or (pt_not (pt_val (pe_callB call_isinst rfl T.n_isinstance (show bootBuiltins _ = some (.builtin "isinstance") from rfl) (pa_cons (pv 0) (pa_cons (pe_ty "list" rfl T.n_list rfl) pa_nil))))) (pw_or1 (pt_cmpR op_ne (pe_callB call_len_seq rfl T.n_len (show bootBuiltins _ = some (.builtin "len") from rfl) (pa_cons (pv 0) pa_nil)) (pe_callB call_len_seq rfl T.n_len (show bootBuiltins _ = some (.builtin "len") from rfl) (pa_cons (pv 1) pa_nil)) (nomark _)))))
        (pss_one (ps_ret pe_bl))
        pss_nil)
      (pss_cons (ps_for PassesOwn.never rfl (pi_list (pv 0)) (pg_name (i := 2) sc.nd rfl (Or.inl rfl))
        (pss_cons (ps_if (PW.pt (pw_or (pt_not (pt_val (pe_callB call_isinst rfl T.n_isinstance (show bootBuiltins _ = some (.builtin "isinstance") from rfl) (pa_cons (pv 2) (pa_cons (pe_ty "tuple" rfl T.n_tuple rfl) pa_nil))))) (pw_or1 (pt_cmpR op_ne (pe_callB call_len_seq rfl T.n_len (show bootBuiltins _ = some (.builtin "len") from rfl) (pa_cons (pv 2) pa_nil)) pe_int (nomark _)))))
        (pss_one (ps_ret pe_bl))
        pss_nil)
      (pss_one (ps_if (PW.pt (pw_or (pt_not (pt_val (pe_callC C_law_whole (hr.mono (by decide)) rfl (pa_cons (pe_ix ix_tup (pv 2) pe_int (fun _ _ => rfl)) pa_nil)))) (pw_or (pt_not (pt_val (pe_callC C_law_whole (hr.mono (by decide)) rfl (pa_cons (pe_ix ix_tup (pv 2) pe_int (fun _ _ => rfl)) pa_nil)))) (pw_or1 (pt_not (pt_val (pe_callC C_law_whole (hr.mono (by decide)) rfl (pa_cons (pe_ix ix_tup (pv 2) pe_int (fun _ _ => rfl)) pa_nil))))))))
        (pss_one (ps_ret pe_bl))
        pss_nil))))
      (pss_one (ps_ret (pe_cmpR (op_eqD (K := K) hu64) (pv 0) (pv 1) (nomark _)))))), ?_⟩
  have lx := ex.len
  have ly := ey.len
  refine ⟨_, rfl, _, _, _, _, _, rfl, ty_is, .lst hg, kit_ll, _, rfl, iteF ?_⟩
  refine ⟨_, rfl, g, _, rfl, .inl (SqL.of hg), _, rfl, d, _, rfl, .inl (SqL.of hd), rfl, _, rfl, nF (by rw [lx, ly]) ?_⟩
  refine ⟨_, rfl, g, rfl, ⟨_, SqL.of hg⟩, for_list (K := K) (a := g) (xs := xs) (fun i σ H2 => (∃ o2, σ = [some (.ref g), some (.ref d), o2]) ∧ H2 = H) ⟨⟨none, rfl⟩, rfl⟩ (fun i σ H2 _ ⟨_, e⟩ => by rw [e]; exact SqL.of hg) ?_ ?_⟩
  · rintro i x σ H2 hi ⟨⟨o2, rfl⟩, rfl⟩
    obtain ⟨e, he, t, v, rfl, ht, _⟩ := ex.get hi
    refine ⟨_, rfl, _, _, _, _, _, rfl, ty_is, .tup ht, kit_tt, _, rfl, iteF ?_⟩
    refine ⟨_, rfl, t, _, rfl, .inr (SqT.of ht), rfl, _, rfl, nF rfl ?_⟩
    refine ⟨_, rfl, t, _, _, _, rfl, rfl, SqT.of ht, rfl, _, _, rfl, .int e.1, _, rfl, iteF ?_⟩
    refine ⟨_, rfl, t, _, _, _, rfl, rfl, SqT.of ht, rfl, _, _, rfl, .int e.2.1, _, rfl, iteF ?_⟩
    exact ⟨_, rfl, t, _, _, _, rfl, rfl, SqT.of ht, rfl, _, _, rfl, .int e.2.2.1, _, rfl, iteF ⟨⟨_, rfl⟩, rfl⟩⟩
  · rintro σ H2 ⟨⟨o2, rfl⟩, rfl⟩
    exact ⟨_, rfl, _, rfl, eq_Ens hg hd ex ey q⟩
theorem sc__law_put : FnScope ["_law_days", "_law_one", "_law_known", "_law_found"] ["_law_days", "_law_one", "_law_known"] (defScope s__law_put) := ⟨rfl, rfl, rfl, by decide +kernel, rfl, by decide +kernel, by decide +kernel⟩
theorem ok__law_put {f C_Days : Addr} {fd : FuncData} (F : Fun K "_law_put" "_law_put" s__law_put f fd) (T : Txt K mg) (Mhas_number : MCal P w K mg base 1 C_Days "has_number" ["self", "number"] (spHas C_Days)) (Mput : MCal P w K mg base 1 C_Days "put" ["self", "day", "rank", "number", "row"] (spPut C_Days)) :
    FnOk P w K mg base CX0 2 f fd ["_law_days", "_law_one", "_law_known"] (spLPut C_Days) := by
  have sc := sc__law_put
  refine F.ok sc (fun vs H Q E h => ?_) (fun cdv A outer s H vs Q E hr h => ?_)
  · obtain ⟨_, _, _, _, _, _, _, _, _, _, rfl, _⟩ := h
    rfl
  obtain ⟨x, wl, nl, xs, kvs, t, d, r, n, v, rfl, ⟨dx, hx⟩, hw, lx, hn, lk, ht, q⟩ := h
  refine ⟨_, (pss_cons (ps_set (i := 3) sc.nd rfl (Or.inl rfl) (pe_methC Mhas_number (hr.mono (by decide)) (pv 0) (pa_cons (pe_ix ix_tup (pv 1) pe_int (fun _ _ => rfl)) pa_nil)))
      (pss_cons (ps_if (PW.pt (pw_or (pt_not (pt_val (pe_callB call_isinst rfl T.n_isinstance (show bootBuiltins _ = some (.builtin "isinstance") from rfl) (pa_cons (pv 3) (pa_cons (pe_ty "bool" rfl T.n_bool rfl) pa_nil))))) (pw_or1 (pt_cmpR op_ne (pv 3) (pv 2) (nomark _)))))
        (pss_one (ps_ret pe_bl))
        pss_nil)
      (pss_cons (ps_if (pt_cmpR op_notN (pe_methC Mput (hr.mono (by decide)) (pv 0) (pa_cons (pe_ix ix_tup (pv 1) pe_int (fun _ _ => rfl)) (pa_cons (pe_ix ix_tup (pv 1) pe_int (fun _ _ => rfl)) (pa_cons (pe_ix ix_tup (pv 1) pe_int (fun _ _ => rfl)) (pa_cons (pe_ix ix_tup (pv 1) pe_int (fun _ _ => rfl)) pa_nil))))) pe_non (nomark _))
        (pss_one (ps_ret pe_bl))
        pss_nil)
      (pss_one (ps_ret (pe_cmpR op_isB (pe_methC Mhas_number (hr.mono (by decide)) (pv 0) (pa_cons (pe_ix ix_tup (pv 1) pe_int (fun _ _ => rfl)) pa_nil)) pe_bl (nomark _))))))), ?_⟩
  refine ⟨_, rfl, x, dx, _, rfl, hx, noHas wl nl, _, rfl, t, _, _, _, rfl, rfl, SqT.of ht, rfl, x, wl, nl, kvs, n, rfl, ⟨dx, hx⟩, hn, ?_⟩
  generalize hb : (valV kvs (.inl n)).isSome = b
  refine atG [some (.ref x), some (.ref t), some (.bl b), some (.bl b)] rfl ?_
  refine ⟨_, rfl, _, _, _, _, _, rfl, ty_is, .bl b, kit_bb, _, rfl, iteF ⟨_, rfl, _, rfl, rfl, _, rfl, nF rfl ?_⟩⟩
  refine ⟨_, rfl, x, dx, _, rfl, hx, noPut wl nl, _, rfl, t, _, _, _, rfl, rfl, SqT.of ht, rfl, _, rfl, t, _, _, _, rfl, rfl, SqT.of ht, rfl, _, rfl, t, _, _, _, rfl, rfl, SqT.of ht, rfl, _, rfl, t, _, _, _, rfl, rfl, SqT.of ht, rfl, x, wl, nl, xs, kvs, d, r, n, v, rfl, ⟨dx, hx⟩, hw, lx, hn, lk, fun u hu => ⟨rfl, _, rfl, nF rfl ?_⟩⟩
  have s1 := same_new hu (.tup [.int d, .int r, .int n, v])
  have hw1 := s1 _ _ hw
  have hn1 : upd (upd H u (.tup [.int d, .int r, .int n, v])) wl (.lst (xs ++ [.ref u])) nl = some (.dK kvs) := dk_lst (s1 _ _ hn) hw1 _
  have hx2 : putH H u wl nl xs kvs d r n v x = some (.ins C_Days dx [("waiting", .ref wl), ("numbers", .ref nl)]) := by
    unfold putH
    rw [upd_ne (ne_of hx hn (by intro z; cases z)), upd_ne (ne_of hx hw (by intro z; cases z))]
    exact s1 _ _ hx
  have ht2 : putH H u wl nl xs kvs d r n v t = some (.tup [.int d, .int r, .int n, v]) := tst_dk hn1 _ _ _ (tst_lst hw1 _ _ _ (s1 _ _ ht))
  have hn2 : putH H u wl nl xs kvs d r n v nl = some (.dK (putK kvs (.inl n) (.bl true))) := upd_same
  refine ⟨_, rfl, x, dx, _, rfl, hx2, noHas wl nl, _, rfl, t, _, _, _, rfl, rfl, SqT.of ht2, rfl, x, wl, nl, _, n, rfl, ⟨dx, hx2⟩, hn2, _, _, rfl, rfl, ?_⟩
  rw [valV_put, if_pos rfl]
  exact q u hu
theorem sc__law_triple : FnScope ["_law_cell_here", "_law_k", "_law_day", "_law_triples", "_law_number", "_law_rank", "_law_old"] ["_law_cell_here", "_law_k", "_law_day", "_law_triples"] (defScope s__law_triple) := ⟨rfl, rfl, rfl, by decide +kernel, rfl, by decide +kernel, by decide +kernel⟩
theorem ok__law_triple {f : Addr} {fd : FuncData} (F : Fun K "_law_triple" "_law_triple" s__law_triple f fd) (T : Txt K mg) (C_law_mix : Cal P w K mg base 1 "_law_mix" ["_law_cell_here", "_law_k"] spMix) : FnOk P w K mg base CX0 2 f fd ["_law_cell_here", "_law_k", "_law_day", "_law_triples"] spTriple := by
  have sc := sc__law_triple
  refine F.ok sc (fun vs H Q E h => ?_) (fun cdv A outer s H vs Q E hr h => ?_)
  · obtain ⟨_, _, _, _, _, _, rfl, _⟩ := h
    rfl
  have hu64 := room_64 hr
  obtain ⟨a, xs, ts, c, k, day, rfl, ha, tr, k0, k1, hm, q⟩ := h
  refine ⟨_, (pss_cons (ps_set (i := 4) sc.nd rfl (Or.inl rfl) (pe_op op_add (pe_op op_mul (pe_callC C_law_mix (hr.mono (by decide)) rfl (pa_cons (pv 0) (pa_cons pe_int pa_nil))) pe_int) (pv 1)))
      (pss_cons (ps_set (i := 5) sc.nd rfl (Or.inl rfl) (pe_op op_mod (pe_callC C_law_mix (hr.mono (by decide)) rfl (pa_cons (pv 0) (pa_cons pe_int pa_nil))) pe_int))
      (pss_cons (ps_if (pt_cmpR op_eq (pe_op op_mod (pe_callC C_law_mix (hr.mono (by decide)) rfl (pa_cons (pv 0) (pa_cons pe_int pa_nil))) pe_int) pe_int (nomark _))
        (pss_one (ps_set (i := 5) sc.nd rfl (Or.inl rfl) (pe_op op_mod (pe_callC C_law_mix (hr.mono (by decide)) rfl (pa_cons (pv 0) (pa_cons pe_int pa_nil))) pe_int)))
        pss_nil)
      (pss_cons (ps_if (PW.pt (pw_and (pt_cmpR (op_neD (K := K) hu64) (pv 3) (pe_lst pa_nil) (nomark _)) (pw_and1 (pt_cmpR op_eq (pe_op op_mod (pe_callC C_law_mix (hr.mono (by decide)) rfl (pa_cons (pv 0) (pa_cons pe_int pa_nil))) pe_int) pe_int (nomark _)))))
        (pss_cons (ps_set (i := 6) sc.nd rfl (Or.inl rfl) (pe_ix ix_tup (pe_ix ix_list (pv 3) (pe_op op_mod (pe_callC C_law_mix (hr.mono (by decide)) rfl (pa_cons (pv 0) (pa_cons pe_int pa_nil))) (pe_callB call_len_seq rfl T.n_len (show bootBuiltins _ = some (.builtin "len") from rfl) (pa_cons (pv 3) pa_nil))) (fun _ _ => rfl)) pe_int (fun _ _ => rfl)))
      (pss_one (ps_if (pt_cmpR (op_notInD (K := K) hu64) (pe_tup (pa_cons (pv 2) (pa_cons (pv 5) (pa_cons (pv 6) pa_nil)))) (pv 3) rfl)
        (pss_one (ps_set (i := 4) sc.nd rfl (Or.inl rfl) (pv 6)))
        pss_nil)))
        pss_nil)
      (pss_one (ps_ret (pe_tup (pa_cons (pv 2) (pa_cons (pv 5) (pa_cons (pv 4) pa_nil)))))))))), ?_⟩
  have three : 3 ≤ sizeLine := by rw [sizeLine_eq]; decide
  have lx := tr.len
  refine ⟨_, rfl, _, _, rfl, by decide, by decide, fun m1 H1 s1 _ _ => ⟨_, _, rfl, rfl, .inr ⟨by decide, by decide⟩, _, rfl, _, _, rfl, rfl, ?_⟩⟩
  refine hideE (fun n => n = m1 * 64 + k) rfl fun n hn => ?_
  refine atG [some (.int c), some (.int k), some (.int day), some (.ref a), some (.int n), none, none] rfl ?_
  refine ⟨_, rfl, _, _, rfl, by decide, by decide, fun m2 H2 s2 _ _ => ⟨_, _, rfl, rfl, (by show (0 : Int) < 3; decide), ?_⟩⟩
  refine hideE (fun _ => True) trivial fun r0 _ => ?_
  refine atG [some (.int c), some (.int k), some (.int day), some (.ref a), some (.int n), some (.int r0), none] rfl ?_
  refine ⟨_, rfl, _, _, rfl, by decide, by decide, fun m4 H3 s3 _ _ => ⟨_, _, rfl, rfl, (by show (0 : Int) < 4; decide), rfl, _, rfl, ?_⟩⟩
  have s03 := s1.trans (s2.trans s3)
  refine join_set (fun v H' => (∃ rk : Int, v = .int rk) ∧ Same H H') (.int r0) rfl ⟨⟨_, rfl⟩, s03⟩ (fun _ QQ hQ => ?_) ?_
  · exact ⟨_, rfl, _, _, rfl, by decide, by decide, fun m2 H4 s4 _ _ => ⟨_, _, rfl, rfl, (by show (0 : Int) < 2000; decide), hQ _ _ ⟨⟨_, rfl⟩, s03.trans s4⟩⟩⟩
  rintro _ H4 ⟨⟨rk, rfl⟩, s4⟩
  have nn : n % 64 = k := by omega
  have nin : (day, rk, n) ∉ ts := fun z => by have := (hm _ z).2; have e : (day, rk, n).2.2 = n := rfl; rw [e] at this; omega
  refine ⟨_, rfl, Nat.zero_le _, fun em hem => ?_⟩
  have s5 := same_new hem (.lst [])
  have e5 : upd H4 em (.lst []) em = some (.lst []) := upd_same
  generalize upd H4 em (.lst []) = H5 at s5 e5
  have ha5 := s5 _ _ (s4 _ _ ha)
  have tr5 := tr.mono (tst_same (s4.trans s5))
  have dd := dTr_dep ts
  refine ⟨false, ts.map dTr, [], ?_, ?_, ?_, _, rfl, ?_⟩
  · unfold Rep; exact ⟨a, xs, rfl, fun z => (nomatch z), fun _ => SqL.of ha5, tr5.rep⟩
  · unfold Rep; exact ⟨em, [], rfl, fun z => (nomatch z), fun _ => SqL.of e5, by unfold Reps; rfl⟩
  · have d0 : deps ([] : List D) = 0 := by unfold deps; rfl
    rw [d0]; omega
  cases ts with
  | nil =>
    refine bF (by rw [List.map_nil]; unfold eqDs; rfl) (iteF ?_)
    exact ⟨_, rfl, _, rfl, _, rfl, three, fun p hp => q p rk n _ ((s4.trans s5).trans (same_new hp _)) upd_same nin (by omega) (by omega)⟩
  | cons t0 ts =>
    refine bT (by rw [List.map_cons]; unfold eqDs; rfl) ?_
    refine ⟨_, rfl, _, _, rfl, by decide, by decide, fun m5 H6 s6 _ _ => ⟨_, _, rfl, rfl, (by show (0 : Int) < 3; decide), rfl, _, rfl, ite2 (fun c2 => ?_) (fun c2 => ?_)⟩⟩
    · have ha6 := s6 _ _ ha5
      refine ⟨_, rfl, _, rfl, _, _, rfl, by decide, by decide, fun m6 H7 s7 _ _ => ?_⟩
      have ha7 := s7 _ _ ha6
      have s07 := (s4.trans s5).trans (s6.trans s7)
      have tr7 := tr.mono (tst_same s07)
      have pos : (0 : Int) < (xs.length : Int) := by rw [lx]; simp only [List.length_cons]; omega
      have b := md (a := m6) pos
      obtain ⟨y, hy, hat⟩ := at_ok (xs := xs) b.1 (by omega)
      obtain ⟨t, p, hp, rfl, ht⟩ := tr7.get hy
      have hpm := hm p (List.mem_of_getElem? hp)
      refine ⟨_, rfl, a, _, rfl, .inl (SqL.of ha7), _, _, rfl, rfl, pos, a, xs, _, _, rfl, rfl, SqL.of ha7, hat, t, _, _, _, rfl, rfl, SqT.of ht, rfl, ?_⟩
      refine atG [some (.int c), some (.int k), some (.int day), some (.ref a), some (.int n), some (.int rk), some (.int p.2.2)] rfl ?_
      refine ⟨_, rfl, _, rfl, _, rfl, three, fun u hu => ?_⟩
      have s8 := same_new hu (.tup [.int day, .int rk, .int p.2.2])
      have e8 : upd H7 u (.tup [.int day, .int rk, .int p.2.2]) u = some (.tup [.int day, .int rk, .int p.2.2]) := upd_same
      generalize upd H7 u (.tup [.int day, .int rk, .int p.2.2]) = H8 at s8 e8
      have d1 : dep (dTr (day, rk, p.2.2)) = 1 := by
        unfold dTr dep deps deps deps deps dep
        rfl
      refine ⟨_, rfl, a, xs, (t0 :: ts).map dTr, dTr (day, rk, p.2.2), rfl, SqL.of (s8 _ _ ha7), (tr7.mono (tst_same s8)).rep, rep_tr e8, by omega, _, rfl, ?_⟩
      rw [dTr_any]
      refine ite2 (fun c3 => ?_) (fun c3 => ?_)
      · have c4 : (day, rk, p.2.2) ∉ t0 :: ts := fun z => by
          rw [decide_eq_true z] at c3
          exact Bool.false_ne_true c3
        refine ⟨_, rfl, ?_⟩
        refine atG [some (.int c), some (.int k), some (.int day), some (.ref a), some (.int p.2.2), some (.int rk), some (.int p.2.2)] rfl ?_
        exact ⟨_, rfl, _, rfl, _, rfl, three, fun p' hp' => q p' rk p.2.2 _ ((s07.trans s8).trans (same_new hp' _)) upd_same c4 hpm.1 (by omega)⟩
      · exact ⟨_, rfl, _, rfl, _, rfl, three, fun p' hp' => q p' rk n _ ((s07.trans s8).trans (same_new hp' _)) upd_same nin (by omega) (by omega)⟩
    · exact ⟨_, rfl, _, rfl, _, rfl, three, fun p' hp' => q p' rk n _ (((s4.trans s5).trans s6).trans (same_new hp' _)) upd_same nin (by omega) (by omega)⟩
end


/-! ### two keepers side by side -/
structure Co (C T : Addr) (H : Hp) (x1 x2 wl1 wl2 nl1 nl2 : Addr) (k1 k2 : List (Key × V)) : Prop where
  lam : LamAt T lpos lqual H
  d1 : Dy C H x1 wl1 nl1
  d2 : Dy C H x2 wl2 nl2
  n1 : H nl1 = some (.dK k1)
  n2 : H nl2 = some (.dK k2)
  nx : x1 ≠ x2
  nn : nl1 ≠ nl2
section
variable {C T x1 x2 wl1 wl2 nl1 nl2 : Addr} {H H' : Hp} {k1 k2 : List (Key × V)}
theorem Co.swap (h : Co C T H x1 x2 wl1 wl2 nl1 nl2 k1 k2) : Co C T H x2 x1 wl2 wl1 nl2 nl1 k2 k1 := ⟨h.lam, h.d2, h.d1, h.n2, h.n1, h.nx.symm, h.nn.symm⟩
theorem Co.same (h : Co C T H x1 x2 wl1 wl2 nl1 nl2 k1 k2) (s : Same H H') : Co C T H' x1 x2 wl1 wl2 nl1 nl2 k1 k2 := ⟨h.lam.same s, h.d1.same s, h.d2.same s, s _ _ h.n1, s _ _ h.n2, h.nx, h.nn⟩
theorem Co.lst (h : Co C T H x1 x2 wl1 wl2 nl1 nl2 k1 k2) {l : Addr} {xs : List V} (e : H l = some (.lst xs)) (o : HO) : Co C T (upd H l o) x1 x2 wl1 wl2 nl1 nl2 k1 k2 := ⟨h.lam.lst e o, h.d1.lst e o, h.d2.lst e o, dk_lst h.n1 e o, dk_lst h.n2 e o, h.nx, h.nn⟩
theorem Co.put (h : Co C T H x1 x2 wl1 wl2 nl1 nl2 k1 k2) {u : Addr} {xs : List V} {d r n : Int} {v : V} (hu : H u = none) (e : H wl1 = some (.lst xs)) : Co C T (putH H u wl1 nl1 xs k1 d r n v) x1 x2 wl1 wl2 nl1 nl2 (putK k1 (.inl n) (.bl true)) k2 := by
  have s1 := same_new hu (.tup [.int d, .int r, .int n, v])
  have h2 := (h.same s1).lst (s1 _ _ e) (.lst (xs ++ [.ref u]))
  unfold putH
  exact ⟨h2.lam.dk h2.n1 _, h2.d1.dk h2.n1 _, h2.d2.dk h2.n1 _, upd_same, by rw [upd_ne h.nn.symm]; exact h2.n2, h.nx, h.nn⟩
/-- all but the code's table and one keeper stay -/
def Frm (T x : Addr) (H H' : Hp) : Prop := ∀ b o, H b = some o → b ≠ T → b ≠ x → H' b = some o
theorem lam_tbl {pos : Pos} {qual : Str} (h : LamAt T pos qual H) : ∃ ps, H T = some (.tbl ps) := by
  rcases h with z | ⟨_, z, _⟩
  · exact ⟨_, z⟩
  · exact ⟨_, z⟩
theorem Co.kept (h : Co C T H x1 x2 wl1 wl2 nl1 nl2 k1 k2) (s : Frm T x1 H H') : ∀ b o, H b = some o → (∀ ps, o ≠ .tbl ps) → b ≠ x1 → H' b = some o := fun b o e n nx => by
  obtain ⟨ps, hT⟩ := lam_tbl h.lam
  exact s b o e (fun z => by rw [z, hT] at e; cases e; exact n _ rfl) nx
theorem Co.lists (h : Co C T H x1 x2 wl1 wl2 nl1 nl2 k1 k2) (s : Frm T x1 H H') : Lst H H' := fun b xs e => by
  obtain ⟨dx, hx⟩ := h.d1
  exact h.kept s b _ e (fun _ z => by cases z) (ne_of e hx (by intro z; cases z))
theorem Co.tups (h : Co C T H x1 x2 wl1 wl2 nl1 nl2 k1 k2) (s : Frm T x1 H H') : Tst H H' := fun b xs e => by
  obtain ⟨dx, hx⟩ := h.d1
  exact h.kept s b _ e (fun _ z => by cases z) (ne_of e hx (by intro z; cases z))
theorem Co.up (h : Co C T H x1 x2 wl1 wl2 nl1 nl2 k1 k2) {wl' : Addr} (s : Frm T x1 H H') (d : Dy C H' x1 wl' nl1) (l : LamAt T lpos lqual H') : Co C T H' x1 x2 wl' wl2 nl1 nl2 k1 k2 := by
  obtain ⟨dx, hx⟩ := h.d1
  refine ⟨l, d, h.d2.mono fun dx fs e => h.kept s _ _ e (fun _ z => by cases z) h.nx.symm, h.kept s _ _ h.n1 (fun _ z => by cases z) (ne_of h.n1 hx (by intro z; cases z)), h.kept s _ _ h.n2 (fun _ z => by cases z) (ne_of h.n2 hx (by intro z; cases z)), h.nx, h.nn⟩
theorem put_tst {u wl nl : Addr} {xs : List V} {k : List (Key × V)} {d r n : Int} {v : V} (hu : H u = none) (e : H wl = some (.lst xs)) (hn : H nl = some (.dK k)) : Tst H (putH H u wl nl xs k d r n v) := by
  have s1 := same_new hu (.tup [.int d, .int r, .int n, v])
  exact (tst_same s1).trans ((tst_lst (s1 _ _ e) _).trans (tst_dk (dk_lst (s1 _ _ hn) (s1 _ _ e) _) _))
theorem put_at {u wl nl : Addr} {xs : List V} {k : List (Key × V)} {d r n : Int} {v : V} (hu : H u = none) (e : H wl = some (.lst xs)) (hn : H nl = some (.dK k)) : putH H u wl nl xs k d r n v u = some (.tup [.int d, .int r, .int n, v]) := by
  have s1 := same_new hu (.tup [.int d, .int r, .int n, v])
  exact tst_dk (dk_lst (s1 _ _ hn) (s1 _ _ e) _) _ _ _ (tst_lst (s1 _ _ e) _ _ _ upd_same)
theorem put_ls {u wl nl : Addr} {xs : List V} {k : List (Key × V)} {d r n : Int} {v : V} {L : Ls} (hu : H u = none) (hn : H nl = some (.dK k)) (h : LsOk H L) (i : Nat) (e : L[i]? = some (wl, xs)) : LsOk (putH H u wl nl xs k d r n v) (L.set i (wl, xs ++ [.ref u])) := by
  have s1 := same_new hu (.tup [.int d, .int r, .int n, v])
  have h1 := (h.mono (lst_same s1)).set i (xs ++ [.ref u]) e
  have ew : H wl = some (.lst xs) := h.get i e
  exact h1.mono (lst_dk (dk_lst (s1 _ _ hn) (s1 _ _ ew) _) _)
theorem EnAt.intro {t : Addr} {d r n : Int} {v : V} {rw' : Rw} (h : H t = some (.tup [.int d, .int r, .int n, v])) (z : RwAt H rw' v) : EnAt H (.ref t) (d, r, n, rw') := ⟨t, v, rfl, h, z⟩
end
/-! ### what was told and is held -/
def Hd (H : Hp) (hl : Ls) (y : V) : Prop := ∃ t f d fx dx es, y = .ref t ∧ H t = some (.tup [.ref f, .ref d]) ∧ (f, fx) ∈ hl ∧ (d, dx) ∈ hl ∧ Ens H fx es ∧ Ens H dx es
theorem Hd.mono {H H' : Hp} {hl hl' : Ls} {y : V} (s : Tst H H') (hs : ∀ p ∈ hl, p ∈ hl') (h : Hd H hl y) : Hd H' hl' y := by
  obtain ⟨t, f, d, fx, dx, es, e, h1, h2, h3, h4, h5⟩ := h
  exact ⟨t, f, d, fx, dx, es, e, s _ _ h1, hs _ h2, hs _ h3, h4.mono s, h5.mono s⟩
/-! ### what is known without the heap -/
structure PI (k : Nat) (es : List Ent) (ns : List Int) (ts : List Tr) (kvs : List (Key × V)) : Prop where
  le : es.length ≤ k
  lt : ts.length ≤ k
  ln : ns.length ≤ k
  lk : kvs.length ≤ k
  kd : KD es
  ets : ∀ e ∈ es, trip e ∈ ts
  tm : ∀ t ∈ ts, 0 ≤ t.2.2 % 64 ∧ t.2.2 % 64 < (k : Int)
  kn : ∀ n : Int, (valV kvs (.inl n)).isSome = decide (n ∈ ns)
  db : ∀ e ∈ es, e.1 ≤ 1000000
theorem PI.first : PI 0 [] [] [] [] := ⟨Nat.le_refl _, Nat.le_refl _, Nat.le_refl _, Nat.le_refl _, fun _ h => (nomatch h), fun _ h => (nomatch h), fun _ h => (nomatch h), fun n => by rw [valV_nil]; simp, fun _ h => (nomatch h)⟩
theorem PI.took {k : Nat} {es : List Ent} {ns : List Int} {ts : List Tr} {kvs : List (Key × V)} (f : Ent → Bool) (h : PI k es ns ts kvs) : PI (k + 1) (es.filter f) ns ts kvs :=
  ⟨Nat.le_trans filt_len (Nat.le_succ_of_le h.le), Nat.le_succ_of_le h.lt, Nat.le_succ_of_le h.ln, Nat.le_succ_of_le h.lk, h.kd.filter f, fun e he => h.ets e (List.mem_filter.mp he).1, fun t ht => ⟨(h.tm t ht).1, by have := (h.tm t ht).2; omega⟩, h.kn, fun e he => h.db e (List.mem_filter.mp he).1⟩
theorem putK_len (kvs : List (Key × V)) (k : Key) (v : V) : (putK kvs k v).length ≤ kvs.length + 1 := by
  unfold putK
  split
  · rw [List.length_map]; omega
  · rw [List.length_append]; exact Nat.le_refl _
theorem key_trip {a b : Ent} (h : keyE a = keyE b) : trip a = trip b := by
  unfold keyE at h
  injection h with h1 h
  injection h with h2 h
  injection h with h3 _
  unfold trip
  rw [h1, h2, h3]
theorem PI.put {k : Nat} {es : List Ent} {ns : List Int} {ts : List Tr} {kvs : List (Key × V)} {d r n : Int} {x : Rw} (h : PI k es ns ts kvs) (hn : (d, r, n) ∉ ts) (n0 : 0 ≤ n % 64) (n1 : n % 64 ≤ (k : Int)) (hd : d ≤ 1000000) :
    PI (k + 1) (es ++ [(d, r, n, x)]) (ns ++ [n]) (ts ++ [(d, r, n)]) (putK kvs (.inl n) (.bl true)) := by
  refine ⟨by rw [List.length_append]; exact Nat.succ_le_succ h.le, by rw [List.length_append]; exact Nat.succ_le_succ h.lt, by rw [List.length_append]; exact Nat.succ_le_succ h.ln, Nat.le_trans (putK_len _ _ _) (Nat.succ_le_succ h.lk), ?_, ?_, ?_, ?_, ?_⟩
  · intro a ha b hb e
    have e' := key_trip e
    rcases List.mem_append.mp ha with ha | ha
    · rcases List.mem_append.mp hb with hb | hb
      · exact h.kd a ha b hb e
      · rw [List.mem_singleton] at hb
        subst hb
        exact absurd (by rw [← show trip (d, r, n, x) = (d, r, n) from rfl, ← e']; exact h.ets a ha) hn
    · rw [List.mem_singleton] at ha
      subst ha
      rcases List.mem_append.mp hb with hb | hb
      · exact absurd (by rw [← show trip (d, r, n, x) = (d, r, n) from rfl, e']; exact h.ets b hb) hn
      · rw [List.mem_singleton] at hb
        exact hb.symm
  · intro e he
    rcases List.mem_append.mp he with he | he
    · exact List.mem_append_left _ (h.ets e he)
    · rw [List.mem_singleton] at he
      subst he
      exact List.mem_append_right _ (List.mem_singleton.mpr rfl)
  · intro t ht
    rcases List.mem_append.mp ht with ht | ht
    · exact ⟨(h.tm t ht).1, by have := (h.tm t ht).2; omega⟩
    · rw [List.mem_singleton] at ht
      subst ht
      exact ⟨n0, by show n % 64 < _; omega⟩
  · intro m
    rw [valV_put]
    by_cases c : m = n
    · subst c
      rw [if_pos rfl]
      exact (decide_eq_true (List.mem_append_right _ (List.mem_singleton.mpr rfl))).symm
    · rw [if_neg (fun z => c (Sum.inl.inj z)), h.kn m, Bool.eq_iff_iff]
      simp [c]
  · intro e he
    rcases List.mem_append.mp he with he | he
    · exact h.db e he
    · rw [List.mem_singleton] at he
      subst he
      exact hd
/-! ### the whole, at the head of the loop -/
structure LI (C T : Addr) (k : Nat) (H : Hp) (x1 x2 wl1 wl2 nl1 nl2 aw an tt ah sl : Addr) (kvs : List (Key × V)) (xs1 xsw xst hs ss : List V) (es : List Ent) (ns : List Int) (ts : List Tr) (hl : Ls) : Prop where
  co : Co C T H x1 x2 wl1 wl2 nl1 nl2 kvs []
  ls : LsOk H ((wl1, xs1) :: (wl2, []) :: (aw, xsw) :: (an, ns.map V.int) :: (tt, xst) :: (ah, hs) :: (sl, ss) :: hl)
  e1 : Ens H xs1 es
  ew : Ens H xsw es
  et : Trs H xst ts
  hd : ∀ y ∈ hs, Hd H hl y
  lh : hs.length ≤ k
  pi : PI k es ns ts kvs
theorem join_if {c : Prop} {inst : Decidable c} {t : TS} {D : Ends} {σ : St} {H : Hp} (G : St → Hp → Prop) (g0 : ¬ c → G σ H) (h : c → ∀ N : St → Hp → Prop, (∀ σ' H', G σ' H' → N σ' H') → t { D with nx := N } σ H) (R : ∀ σ' H', G σ' H' → D.nx σ' H') :
    @ite Prop c inst (t D σ H) (tNext D σ H) := by
  by_cases z : c
  · rw [if_pos z]; exact h z D.nx R
  · rw [if_neg z]; exact R _ _ (g0 z)
theorem cut_ints (ns : List Int) (lo hi : Option Int) : ∃ ms : List Int, cutV (ns.map V.int) lo hi = ms.map V.int := by
  unfold cutV
  exact ⟨_, by rw [← List.map_drop, ← List.map_take]⟩
theorem cut_59 {ns : List Int} (h : ns.length ≤ 63) : (cutV (ns.map V.int) (some 1) (some 60)).length ≤ 59 := by
  unfold cutV
  rw [List.length_take, List.length_drop, List.length_map]
  have e1 : HT.sIx ns.length 0 (some 1) = min 1 ns.length := by
    simp [HT.sIx]
  have e2 : HT.sIx ns.length ns.length (some 60) = min 60 ns.length := by
    simp [HT.sIx]
  rw [e1, e2]
  omega


abbrev Sg (a x1 x2 aw an tt ah : Addr) (sp : Int) (o8 o9 o10 o11 o12 o13 o14 o15 : Option V) : St := [some (.ref a), some (.int sp), some (.ref x1), some (.ref x2), some (.ref aw), some (.ref an), some (.ref tt), some (.ref ah), o8, o9, o10, o11, o12, o13, o14, o15]
theorem made_same {C : Addr} {H H2 : Hp} {x dx : Addr} (nx : H x = none) (ndx : H dx = none) (kp : ∀ b o, (upd (upd H dx (.own x)) x (.ins C dx [])) b = some o → b ≠ x → H2 b = some o) : Same H H2 := fun b o e =>
  kp b o (by rw [upd_ne (ne_of_none e nx), upd_ne (ne_of_none e ndx)]; exact e) (ne_of_none e nx)
theorem upd_none {H : Hp} {a b : Addr} {o : HO} (h : upd H a o b = none) : H b = none := by
  by_cases c : b = a
  · rw [c, upd_same] at h; cases h
  · rw [upd_ne c] at h; exact h
theorem in_ints (n : Int) : ∀ ns : List Int, inV (.int n) (ns.map V.int) = decide (n ∈ ns)
  | [] => rfl
  | m :: ns => by
    have ih := in_ints n ns
    unfold inV at ih ⊢
    rw [List.map_cons, List.any_cons, ih]
    show (m == n || decide (n ∈ ns)) = decide (n ∈ m :: ns)
    by_cases c : m = n
    · rw [c, beq_self_eq_true, Bool.true_or]
      exact (decide_eq_true List.mem_cons_self).symm
    · have c' : (m == n) = false := by simpa using c
      rw [c', Bool.false_or]
      have e : n ∈ m :: ns ↔ n ∈ ns := ⟨fun z => (List.mem_cons.mp z).resolve_left fun y => c y.symm, fun z => List.mem_cons_of_mem _ z⟩
      exact (decide_eq_decide.mpr e).symm
theorem flat_all : ∀ ns : List Int, (ns.map V.int).all flatV = true
  | [] => rfl
  | _ :: r => by rw [List.map_cons, List.all_cons, flat_all r]; rfl
theorem ls_new {H H' : Hp} {L : Ls} {p : Addr} {xs : List V} (h : LsOk H L) (s : Lst H H') (hn : H p = none) (hp : H' p = some (.lst xs)) : LsOk H' (L ++ [(p, xs)]) := by
  have n : p ∉ L.map (·.1) := h.notin fun ys z => by rw [hn] at z; cases z
  exact LsOk.add (A := L) (B := []) (by rw [List.append_nil]; exact h.mono s) (by rw [List.append_nil]; exact n) hp
def spLaw (K : PySem.W.Frag) (T : Addr) : Sp := fun vs H Q _ => ∃ (a : Addr) (ns : List Int), vs = [.ref a] ∧ SqL K H a (ns.map V.int) ∧ ns.length ≤ 63 ∧ H T = some (.tbl #[]) ∧ ∀ H', Q (.bl true) H'
section
variable {P : Program} {w : World} {K : PySem.W.Frag} {mg : Str → Option Value} {base : Heap}
theorem sc_law : FnScope ["_law_script", "_law_spread", "_law_days", "_law_other", "_law_waiting", "_law_numbers", "_law_triples", "_law_held", "_law_k", "_law_cell_here", "_law_day", "_law_due_here", "_law_found", "_law_triple_here", "_law_one", "_law_number"] ["_law_script"] (defScope s_law) := ⟨rfl, rfl, rfl, by decide +kernel, rfl, by decide +kernel, by decide +kernel⟩
seal L2.PS L2.PSs L2.PE L2.PA
theorem ok_law {f C_Days T0 : Addr} {fd : FuncData} (F : Fun K "law" "law" s_law f fd) (T : Txt K mg) (L : Kl K mg C_Days) (KDays : KCal P w K mg base 1 "Days" C_Days ["self"] (spInit C_Days))
    (Mhas_number : MCal P w K mg base 1 C_Days "has_number" ["self", "number"] (spHas C_Days)) (Mup_to : MCal P w K mg base 5 C_Days "up_to" ["self", "day"] (spUp C_Days T0))
    (C_law_cell : Cal P w K mg base 1 "_law_cell" ["_law_script", "_law_k"] (spCell K)) (C_law_mix : Cal P w K mg base 1 "_law_mix" ["_law_cell_here", "_law_k"] spMix) (C_law_due : Cal P w K mg base 2 "_law_due" ["_law_waiting", "_law_day"] spDue)
    (C_law_same : Cal P w K mg base 2 "_law_same" ["_law_found", "_law_due_here"] spSame) (C_law_put : Cal P w K mg base 2 "_law_put" ["_law_days", "_law_one", "_law_known"] (spLPut C_Days)) (C_law_triple : Cal P w K mg base 2 "_law_triple" ["_law_cell_here", "_law_k", "_law_day", "_law_triples"] spTriple) :
    FnOk P w K mg base CX0 6 f fd ["_law_script"] (spLaw K T0) := by
  have sc := sc_law
  refine F.ok sc (fun vs H Q E h => ?_) (fun cdv A outer s H vs Q E hr h => ?_)
  · obtain ⟨_, _, rfl, _⟩ := h
    rfl
  have hu64 := room_64 hr
  obtain ⟨a, ns0, rfl, ha, h63, hT, q⟩ := h
  refine ⟨_, (pss_cons (ps_set (i := 1) sc.nd rfl (Or.inl rfl) (pe_ix ix_list (pe_lst (pa_cons pe_int (pa_cons pe_int (pa_cons (pe_op op_pow pe_int pe_int) pa_nil)))) (pe_op op_mod (pe_callC C_law_cell (hr.mono (by decide)) rfl (pa_cons (pv 0) (pa_cons pe_int pa_nil))) pe_int) (fun _ _ => rfl)))
      (pss_cons (ps_set (i := 2) sc.nd rfl (Or.inl rfl) (pe_make0C KDays (hr.mono (by decide)) rfl))
      (pss_cons (ps_set (i := 3) sc.nd rfl (Or.inl rfl) (pe_make0C KDays (hr.mono (by decide)) rfl))
      (pss_cons (ps_set (i := 4) sc.nd rfl (Or.inl rfl) (pe_lst pa_nil))
      (pss_cons (ps_set (i := 5) sc.nd rfl (Or.inl rfl) (pe_lst pa_nil))
      (pss_cons (ps_set (i := 6) sc.nd rfl (Or.inl rfl) (pe_lst pa_nil))
      (pss_cons (ps_set (i := 7) sc.nd rfl (Or.inl rfl) (pe_lst pa_nil))
      (pss_cons (ps_for PassesOwn.never rfl (pi_enum rfl T.n_enumerate (pa_cons (pe_slice sl_list (pv 0) (po_some pe_int) (po_some pe_int)) pa_nil)) (pg_tup (n := 2) rfl (pgs_cons (pg_name (i := 8) sc.nd rfl (Or.inl rfl)) (pgs_cons (pg_name (i := 9) sc.nd rfl (Or.inl rfl)) pgs_nil)))
        (pss_cons (ps_set (i := 10) sc.nd rfl (Or.inr rfl) (pe_op op_mod (pe_op op_fdiv (pv 9) pe_int) (pe_op op_add (pv 1) pe_int)))
      (pss_one (ps_if (pt_cmpR op_eq (pe_op op_mod (pe_callC C_law_mix (hr.mono (by decide)) rfl (pa_cons (pv 9) (pa_cons pe_int pa_nil))) pe_int) pe_int (nomark _))
        (pss_cons (ps_set (i := 11) sc.nd rfl (Or.inl rfl) (pe_callC C_law_due (hr.mono (by decide)) rfl (pa_cons (pv 4) (pa_cons (pv 10) pa_nil))))
      (pss_cons (ps_set (i := 12) sc.nd rfl (Or.inl rfl) (pe_methC Mup_to (hr.mono (by decide)) (pv 2) (pa_cons (pv 10) pa_nil)))
      (pss_cons (ps_if (pt_not (pt_val (pe_callC C_law_same (hr.mono (by decide)) rfl (pa_cons (pv 12) (pa_cons (pv 11) pa_nil)))))
        (pss_one (ps_ret pe_bl))
        pss_nil)
      (pss_cons (ps_if (pt_cmpR op_eq (pe_op op_mod (pv 8) pe_int) pe_int (nomark _))
        (pss_cons (ps_expr (pe_bm0 PySem.F.plainAttrs_list PySem.F.slot_list_clear PySem.F.type_list_clear mt_clear (pv 12)))
      (pss_one (ps_set (i := 11) sc.nd rfl (Or.inl rfl) (pe_lst pa_nil))))
        pss_nil)
      (pss_cons (ps_expr (pe_bm PySem.F.plainAttrs_list PySem.F.slot_list_append PySem.F.type_list_append mt_append (pv 7) (pa_cons (pe_tup (pa_cons (pv 12) (pa_cons (pv 11) pa_nil))) pa_nil)))
      (pss_one (ps_comp (NC := ["_law_one", "_law_day"]) (own := ["_law_one"]) (cs := ["_law_day"]) (ix := [10]) (j := 4) sc.nd rfl rfl rfl (CompScope.of rfl) rfl ⟨⟨rfl, .inl rfl, rfl⟩, trivial⟩ (pi_list (pv 4)) (fun _ _ _ => (pg_name (i := 0) (show (["_law_one", "_law_day"] : List Str).Nodup from by decide +kernel) rfl (Or.inl rfl))) (fun _ _ _ => (pts_one (pt_cmpR op_gt (pe_ix (ix_tupK (K := K) rfl) (pv 0) pe_int (fun _ _ => rfl)) (pv 1) (nomark _)))) (fun _ _ _ => (pv 0)))))))))
        (pss_cons (ps_set (i := 13) sc.nd rfl (Or.inl rfl) (pe_callC C_law_triple (hr.mono (by decide)) rfl (pa_cons (pv 9) (pa_cons (pv 8) (pa_cons (pv 10) (pa_cons (pv 6) pa_nil))))))
      (pss_cons (ps_set (i := 14) sc.nd rfl (Or.inl rfl) (pe_op op_catT (pv 13) (pe_tup (pa_cons (pe_ix ix_list (pe_lst (pa_cons (pv 8) (pa_cons pe_str (pa_cons (pe_tup (pa_cons (pv 8) (pa_cons pe_str pa_nil))) (pa_cons pe_non pa_nil))))) (pe_op op_mod (pe_callC C_law_mix (hr.mono (by decide)) rfl (pa_cons (pv 9) (pa_cons pe_int pa_nil))) pe_int) (fun _ _ => rfl)) pa_nil))))
      (pss_cons (ps_if (pt_not (pt_val (pe_callC C_law_put (hr.mono (by decide)) rfl (pa_cons (pv 2) (pa_cons (pv 14) (pa_cons (pe_cmpR op_in_seq (pe_ix ix_tup (pv 13) pe_int (fun _ _ => rfl)) (pv 5) rfl) pa_nil))))))
        (pss_one (ps_ret pe_bl))
        pss_nil)
      (pss_cons (ps_expr (pe_bm PySem.F.plainAttrs_list PySem.F.slot_list_append PySem.F.type_list_append mt_append (pv 4) (pa_cons (pv 14) pa_nil)))
      (pss_cons (ps_expr (pe_bm PySem.F.plainAttrs_list PySem.F.slot_list_append PySem.F.type_list_append mt_append (pv 5) (pa_cons (pe_ix ix_tup (pv 13) pe_int (fun _ _ => rfl)) pa_nil)))
      (pss_one (ps_expr (pe_bm PySem.F.plainAttrs_list PySem.F.slot_list_append PySem.F.type_list_append mt_append (pv 6) (pa_cons (pv 13) pa_nil)))))))))))))
      (pss_cons (ps_if (PW.pt (pw_or (pt_cmpR op_isNotB (pe_methC Mhas_number (hr.mono (by decide)) (pv 3) (pa_cons pe_int pa_nil)) pe_bl (nomark _)) (pw_or1 (pt_not (pt_val (pe_callC C_law_put (hr.mono (by decide)) rfl (pa_cons (pv 3) (pa_cons (pe_tup (pa_cons pe_int (pa_cons pe_int (pa_cons pe_int (pa_cons pe_str pa_nil))))) (pa_cons pe_bl pa_nil)))))))))
        (pss_one (ps_ret pe_bl))
        pss_nil)
      (pss_cons (ps_if (PW.pt (pw_or (pt_not (pt_val (pe_callC C_law_same (hr.mono (by decide)) rfl (pa_cons (pe_methC Mup_to (hr.mono (by decide)) (pv 2) (pa_cons (pe_op op_pow pe_int pe_int) pa_nil)) (pa_cons (pe_callC C_law_due (hr.mono (by decide)) rfl (pa_cons (pv 4) (pa_cons (pe_op op_pow pe_int pe_int) pa_nil))) pa_nil))))) (pw_or1 (pt_cmpR (op_neD (K := K) hu64) (pe_methC Mup_to (hr.mono (by decide)) (pv 2) (pa_cons (pe_op op_pow pe_int pe_int) pa_nil)) (pe_lst pa_nil) (nomark _)))))
        (pss_one (ps_ret pe_bl))
        pss_nil)
      (pss_cons (ps_for PassesOwn.never rfl (pi_list (pv 5)) (pg_name (i := 15) sc.nd rfl (Or.inl rfl))
        (pss_one (ps_if (PW.pt (pw_or (pt_cmpR op_isNotB (pe_methC Mhas_number (hr.mono (by decide)) (pv 2) (pa_cons (pv 15) pa_nil)) pe_bl (nomark _)) (pw_or1 (pt_cmpR op_ne (pe_methC Mhas_number (hr.mono (by decide)) (pv 3) (pa_cons (pv 15) pa_nil)) (pe_cmpR op_eq (pv 15) pe_int (nomark _)) (nomark _)))))
        (pss_one (ps_ret pe_bl))
        pss_nil)))
      (pss_cons (ps_for PassesOwn.never rfl (pi_list (pv 7)) (pg_tup (n := 2) rfl (pgs_cons (pg_name (i := 12) sc.nd rfl (Or.inl rfl)) (pgs_cons (pg_name (i := 11) sc.nd rfl (Or.inl rfl)) pgs_nil)))
        (pss_one (ps_if (pt_cmpR (op_neD (K := K) hu64) (pv 12) (pv 11) (nomark _))
        (pss_one (ps_ret pe_bl))
        pss_nil)))
      (pss_one (ps_ret (pe_and (pe_cmpR (op_eqD (K := K) hu64) (pe_methC Mup_to (hr.mono (by decide)) (pv 3) (pa_cons pe_int pa_nil)) (pe_lst pa_nil) (nomark _)) (pe_one (pe_cmpR (op_eqD (K := K) hu64) (pe_methC Mup_to (hr.mono (by decide)) (pv 3) (pa_cons pe_int pa_nil)) (pe_lst (pa_cons (pe_tup (pa_cons pe_int (pa_cons pe_int (pa_cons pe_int (pa_cons pe_str pa_nil))))) pa_nil)) (nomark _)))))))))))))))))), ?_⟩
  have one : 1 ≤ sizeLine := by rw [sizeLine_eq]; decide
  have two : 2 ≤ sizeLine := by rw [sizeLine_eq]; decide
  have three : 3 ≤ sizeLine := by rw [sizeLine_eq]; decide
  have four : 4 ≤ sizeLine := by rw [sizeLine_eq]; decide
  -- the spread
  refine ⟨_, _, rfl, rfl, ⟨by decide, by decide, by decide⟩, three, fun p hp => ?_⟩
  have s1 := same_new hp (.lst [.int 3, .int 30, .int ((10 : Int) ^ (6 : Int).toNat)])
  obtain ⟨sp, p0, p1, hat⟩ : ∃ sp : Int, 0 ≤ sp ∧ sp ≤ 1000000 ∧ atI [V.int 3, .int 30, .int ((10 : Int) ^ (6 : Int).toNat)] (ns0.getD (0 : Int).toNat 0 % 3) = some (.int sp) := by
    have b := md (a := ns0.getD (0 : Int).toNat 0) (b := 3) (by decide)
    generalize ns0.getD (0 : Int).toNat 0 % 3 = i at b
    have z : i = 0 ∨ i = 1 ∨ i = 2 := by omega
    rcases z with rfl | rfl | rfl
    · exact ⟨3, by decide, by decide, rfl⟩
    · exact ⟨30, by decide, by decide, rfl⟩
    · exact ⟨(10 : Int) ^ (6 : Int).toNat, by rw [e6]; decide, by rw [e6]; decide, rfl⟩
  refine ⟨_, rfl, a, ns0, 0, rfl, s1.seq ha, by decide, h63, _, _, rfl, rfl, (by show (0 : Int) < 3; decide), p, _, _, _, rfl, rfl, SqL.of upd_same, hat, ?_⟩
  refine atG [some (.ref a), some (.int sp), none, none, none, none, none, none, none, none, none, none, none, none, none, none] rfl ?_
  generalize upd H p (.lst [.int 3, .int 30, .int ((10 : Int) ^ (6 : Int).toNat)]) = H1 at s1
  -- two keepers
  intro x1 dx1 hx1 hdx1 ndx1
  refine ⟨x1, dx1, rfl, upd_same, fun wl1 nl1 H2 k2 hw1 hn1 ex1 ew1 en1 => ⟨rfl, ?_⟩⟩
  have s2 : Same H1 H2 := made_same hx1 hdx1 k2
  have fw1 : H1 wl1 = none := upd_none (upd_none hw1)
  refine atG [some (.ref a), some (.int sp), some (.ref x1), none, none, none, none, none, none, none, none, none, none, none, none, none] rfl ?_
  intro x2 dx2 hx2 hdx2 ndx2
  refine ⟨x2, dx2, rfl, upd_same, fun wl2 nl2 H3 k3 hw2 hn2 ex2 ew2 en2 => ⟨rfl, ?_⟩⟩
  have s3 : Same H2 H3 := made_same hx2 hdx2 k3
  have fw2 : H2 wl2 = none := upd_none (upd_none hw2)
  have fn2 : H2 nl2 = none := upd_none (upd_none hn2)
  refine atG [some (.ref a), some (.int sp), some (.ref x1), some (.ref x2), none, none, none, none, none, none, none, none, none, none, none, none] rfl ?_
  have co3 : Co C_Days T0 H3 x1 x2 wl1 wl2 nl1 nl2 [] [] := ⟨.inl (s3 _ _ (s2 _ _ (s1 _ _ hT))), ⟨dx1, s3 _ _ ex1⟩, ⟨dx2, ex2⟩, s3 _ _ en1, en2, ne_of_none ex1 hx2, ne_of_none en1 fn2⟩
  have l1 : LsOk H2 [(wl1, [])] := ls_new (L := []) (H := H1) ⟨List.nodup_nil, fun _ h => (nomatch h)⟩ (lst_same s2) fw1 ew1
  have l2 : LsOk H3 [(wl1, []), (wl2, [])] := ls_new l1 (lst_same s3) fw2 ew2
  -- four lists
  refine ⟨Nat.zero_le _, fun aw haw => ?_⟩
  have s4 := same_new haw (.lst [])
  have l3 : LsOk (upd H3 aw (.lst [])) [(wl1, []), (wl2, []), (aw, [])] := ls_new l2 (lst_same s4) haw upd_same
  refine atG [some (.ref a), some (.int sp), some (.ref x1), some (.ref x2), some (.ref aw), none, none, none, none, none, none, none, none, none, none, none] rfl ?_
  generalize upd H3 aw (.lst []) = H4 at s4 l3
  refine ⟨Nat.zero_le _, fun an han => ?_⟩
  have s5 := same_new han (.lst [])
  have l4 : LsOk (upd H4 an (.lst [])) [(wl1, []), (wl2, []), (aw, []), (an, [])] := ls_new l3 (lst_same s5) han upd_same
  refine atG [some (.ref a), some (.int sp), some (.ref x1), some (.ref x2), some (.ref aw), some (.ref an), none, none, none, none, none, none, none, none, none, none] rfl ?_
  generalize upd H4 an (.lst []) = H5 at s5 l4
  refine ⟨Nat.zero_le _, fun tt htt => ?_⟩
  have s6 := same_new htt (.lst [])
  have l5 : LsOk (upd H5 tt (.lst [])) [(wl1, []), (wl2, []), (aw, []), (an, []), (tt, [])] := ls_new l4 (lst_same s6) htt upd_same
  refine atG [some (.ref a), some (.int sp), some (.ref x1), some (.ref x2), some (.ref aw), some (.ref an), some (.ref tt), none, none, none, none, none, none, none, none, none] rfl ?_
  generalize upd H5 tt (.lst []) = H6 at s6 l5
  refine ⟨Nat.zero_le _, fun ah hah => ?_⟩
  have s7 := same_new hah (.lst [])
  have l6 : LsOk (upd H6 ah (.lst [])) [(wl1, []), (wl2, []), (aw, []), (an, []), (tt, []), (ah, [])] := ls_new l5 (lst_same s7) hah upd_same
  refine atG (Sg a x1 x2 aw an tt ah sp none none none none none none none none) rfl ?_
  generalize upd H6 ah (.lst []) = H7 at s7 l6
  have s17 : Same H1 H7 := s2.trans (s3.trans (s4.trans (s5.trans (s6.trans s7))))
  have co7 := co3.same (s4.trans (s5.trans (s6.trans s7)))
  -- the loop
  refine ⟨_, rfl, _, rfl, _, rfl, a, _, rfl, s17.seq (s1.seq ha), fun sl hsl => ?_⟩
  obtain ⟨ms, ems⟩ := cut_ints ns0 (some 1) (some 60)
  have lms := cut_59 h63
  rw [ems] at lms ⊢
  rw [List.length_map] at lms
  have s8 := same_new hsl (.lst (ms.map V.int))
  have l7 : LsOk (upd H7 sl (.lst (ms.map V.int))) [(wl1, []), (wl2, []), (aw, []), (an, []), (tt, []), (ah, []), (sl, ms.map V.int)] := ls_new l6 (lst_same s8) hsl upd_same
  have co8 := co7.same s8
  have e8 : upd H7 sl (.lst (ms.map V.int)) sl = some (.lst (ms.map V.int)) := upd_same
  generalize upd H7 sl (.lst (ms.map V.int)) = H8 at s8 l7 co8 e8
  refine ⟨sl, rfl, ⟨_, SqL.of e8⟩, for_enum (K := K) (a := sl) (xs := ms.map V.int)
    (fun i σ H9 => ∃ o8 o9 o10 o11 o12 o13 o14 o15 wl1 aw kvs xs1 xsw xst hs es ns ts hl, σ = Sg a x1 x2 aw an tt ah sp o8 o9 o10 o11 o12 o13 o14 o15 ∧ LI C_Days T0 i H9 x1 x2 wl1 wl2 nl1 nl2 aw an tt ah sl kvs xs1 xsw xst hs (ms.map V.int) es ns ts hl)
    ⟨none, none, none, none, none, none, none, none, wl1, aw, [], [], [], [], [], [], [], [], [], rfl, co8, l7, trivial, trivial, trivial, fun _ h => (nomatch h), Nat.le_refl _, PI.first⟩
    (fun i σ H9 _ h => ?_) ?_ ?_⟩
  · obtain ⟨_, _, _, _, _, _, _, _, _, _, _, _, _, _, _, _, _, _, _, _, li⟩ := h
    exact SqL.of (li.ls.get 6 rfl)
  · rintro i x σ H9 t hi ⟨o8, o9, o10, o11, o12, o13, o14, o15, wl1, aw, kvs, xs1, xsw, xst, hs, es, ns, ts, hl, rfl, li⟩ ht
    clear l1 l2 l3 l4 l5 l6 l7 co3 co7 co8
    obtain ⟨c, hc, rfl⟩ := item_int hi
    have hi59 : i < 59 := by have := (List.getElem?_eq_some_iff.mp hc).1; omega
    have s9 := same_new ht (.tup [.int i, .int c])
    generalize upd H9 t (.tup [.int i, .int c]) = H10 at s9
    refine ⟨_, rfl, _, _, rfl, rfl, ⟨by decide, by decide⟩, _, rfl, _, _, rfl, rfl, _, _, rfl, rfl, (by show (0 : Int) < sp + 1; omega), ?_⟩
    refine hideI 0 1000000 ⟨(md (by omega)).1, by have := (md (a := c / 4) (b := sp + 1) (by omega)).2; omega⟩ fun day y0 y1 => ?_
    refine atG (i := 10) (Sg a x1 x2 aw an tt ah sp (some (.int i)) (some (.int c)) (some (.int day)) o11 o12 o13 o14 o15) rfl ?_
    refine ⟨_, rfl, _, _, rfl, by decide, by decide, fun m0 H11 s11 _ _ => ⟨_, _, rfl, rfl, (by show (0 : Int) < 4; decide), rfl, _, rfl, ite2 (fun c1 => ?_) (fun c1 => ?_)⟩⟩
    · have s := s9.trans s11
      have co := li.co.same s
      have ls := li.ls.mono (lst_same s)
      have ew := li.ew.mono (tst_same s)
      have e1 := li.e1.mono (tst_same s)
      have et := li.et.mono (tst_same s)
      have hd := fun y hy => (li.hd y hy).mono (tst_same s) fun p h => h
      have pi := li.pi
      have lh := li.lh
      clear li
      have le := pi.le
      refine ⟨_, rfl, _, rfl, aw, xsw, es, day, rfl, ls.get 2 rfl, ew, by omega, fun r zs H12 s12 hr hr2 ez => ?_⟩
      refine atG (Sg a x1 x2 aw an tt ah sp (some (.int i)) (some (.int c)) (some (.int day)) (some (.ref r)) o12 o13 o14 o15) rfl ?_
      have co2 := co.same s12
      have nr : r ∉ ((wl1, xs1) :: (wl2, []) :: (aw, xsw) :: (an, ns.map V.int) :: (tt, xst) :: (ah, hs) :: (sl, ms.map V.int) :: hl).map (·.1) := ls.notin fun ys z => by rw [hr] at z; cases z
      have ls2 : LsOk H12 ((wl1, xs1) :: (wl2, []) :: (aw, xsw) :: (an, ns.map V.int) :: (tt, xst) :: (ah, hs) :: (sl, ms.map V.int) :: (r, zs) :: hl) := LsOk.add (A := [(wl1, xs1), (wl2, []), (aw, xsw), (an, ns.map V.int), (tt, xst), (ah, hs), (sl, ms.map V.int)]) (ls.mono (lst_same s12)) nr hr2
      obtain ⟨dx, hx⟩ := id co2.d1
      refine ⟨_, rfl, x1, dx, _, rfl, hx, noUp wl1 nl1, _, rfl, x1, wl1, nl1, xs1, es, day, rfl, co2.d1, ls2.get 0 rfl, e1.mono (tst_same s12), by omega, pi.kd, co2.lam, fun wl' g ys fz H13 fr d' nw nf nwf hw' ey hf ef lam' => ?_⟩
      refine atG (Sg a x1 x2 aw an tt ah sp (some (.int i)) (some (.int c)) (some (.int day)) (some (.ref r)) (some (.ref g)) o13 o14 o15) rfl ?_
      have t13 := co2.tups fr
      have co3 := co2.up fr d' lam'
      have ez3 := ez.mono t13
      have nw' : wl' ∉ ((wl1, xs1) :: (wl2, []) :: (aw, xsw) :: (an, ns.map V.int) :: (tt, xst) :: (ah, hs) :: (sl, ms.map V.int) :: (r, zs) :: hl).map (·.1) := ls2.notin fun ys z => by rw [nw] at z; cases z
      have nf' : g ∉ ((wl1, xs1) :: (wl2, []) :: (aw, xsw) :: (an, ns.map V.int) :: (tt, xst) :: (ah, hs) :: (sl, ms.map V.int) :: (r, zs) :: hl).map (·.1) := ls2.notin fun ys z => by rw [nf] at z; cases z
      have ls3 : LsOk H13 ((wl', ys) :: (wl2, []) :: (aw, xsw) :: (an, ns.map V.int) :: (tt, xst) :: (ah, hs) :: (sl, ms.map V.int) :: (r, zs) :: hl) := (ls2.mono (co2.lists fr)).put 0 nw' hw'
      have ls4 : LsOk H13 ((wl', ys) :: (wl2, []) :: (aw, xsw) :: (an, ns.map V.int) :: (tt, xst) :: (ah, hs) :: (sl, ms.map V.int) :: (g, fz) :: (r, zs) :: hl) := LsOk.add (A := [(wl', ys), (wl2, []), (aw, xsw), (an, ns.map V.int), (tt, xst), (ah, hs), (sl, ms.map V.int)]) ls3 (notin_set (i := 0) (p := (wl', ys)) nf' nwf.symm) hf
      refine ⟨_, rfl, _, rfl, g, r, fz, zs, _, rfl, hf, ef, ls4.get 8 rfl, ez3, _, rfl, iteF ?_⟩
      refine ⟨_, rfl, _, _, rfl, rfl, (by show (0 : Int) < 2; decide), rfl, _, rfl, ?_⟩
      refine join_if (fun σ' H' => ∃ d fx dx es' gl, σ' = Sg a x1 x2 aw an tt ah sp (some (.int i)) (some (.int c)) (some (.int day)) (some (.ref d)) (some (.ref g)) o13 o14 o15 ∧ Co C_Days T0 H' x1 x2 wl' wl2 nl1 nl2 kvs [] ∧
        LsOk H' ((wl', ys) :: (wl2, []) :: (aw, xsw) :: (an, ns.map V.int) :: (tt, xst) :: (ah, hs) :: (sl, ms.map V.int) :: (gl ++ hl)) ∧ (g, fx) ∈ gl ∧ (d, dx) ∈ gl ∧ Ens H' fx es' ∧ Ens H' dx es' ∧ Tst H13 H')
        (fun _ => ⟨r, fz, zs, _, [(g, fz), (r, zs)], rfl, co3, ls4, by simp, by simp, ef, ez3, fun _ _ h => h⟩) (fun _ N hN => ?_) ?_
      · refine ⟨_, rfl, .inl ⟨rfl, _, SqL.of hf⟩, g, fz, rfl, rfl, hf, Nat.zero_le _, fun d hd' => ?_⟩
        have co4 := co3.lst hf (.lst [])
        have ls5 : LsOk (upd H13 g (.lst [])) ((wl', ys) :: (wl2, []) :: (aw, xsw) :: (an, ns.map V.int) :: (tt, xst) :: (ah, hs) :: (sl, ms.map V.int) :: (g, []) :: (r, zs) :: hl) := ls4.set 7 [] rfl
        have t5 := tst_lst hf (.lst [])
        generalize upd H13 g (.lst []) = H14 at hd' co4 ls5 t5
        have s15 := same_new hd' (.lst [])
        have nd : d ∉ ((wl', ys) :: (wl2, []) :: (aw, xsw) :: (an, ns.map V.int) :: (tt, xst) :: (ah, hs) :: (sl, ms.map V.int) :: (g, []) :: (r, zs) :: hl).map (·.1) := ls5.notin fun ys z => by rw [hd'] at z; cases z
        have ls6 : LsOk (upd H14 d (.lst [])) ((wl', ys) :: (wl2, []) :: (aw, xsw) :: (an, ns.map V.int) :: (tt, xst) :: (ah, hs) :: (sl, ms.map V.int) :: (d, []) :: (g, []) :: (r, zs) :: hl) := LsOk.add (A := [(wl', ys), (wl2, []), (aw, xsw), (an, ns.map V.int), (tt, xst), (ah, hs), (sl, ms.map V.int)]) (ls5.mono (lst_same s15)) nd upd_same
        refine atG (Sg a x1 x2 aw an tt ah sp (some (.int i)) (some (.int c)) (some (.int day)) (some (.ref d)) (some (.ref g)) o13 o14 o15) rfl (hN _ _ ⟨d, [], [], [], [(d, []), (g, []), (r, zs)], rfl, co4.same s15, ls6, by simp, by simp, trivial, trivial, t5.trans (tst_same s15)⟩)
      · rintro σ' H14 ⟨d, fx, dx', es', gl, rfl, co4, ls5, mf, md', ef4, ed4, t14⟩
        have hah := ls5.get 5 rfl
        refine ⟨_, rfl, .inl ⟨rfl, _, SqL.of hah⟩, _, rfl, _, rfl, two, fun u hu => ?_⟩
        have s15 := same_new hu (.tup [.ref g, .ref d])
        have eu : upd H14 u (.tup [.ref g, .ref d]) u = some (.tup [.ref g, .ref d]) := upd_same
        generalize upd H14 u (.tup [.ref g, .ref d]) = H15 at s15 eu
        have hah5 := s15 _ _ hah
        refine ⟨ah, hs, _, rfl, rfl, hah5, by rw [sizeLine_eq]; omega, ?_⟩
        have co5 := (co4.same s15).lst hah5 (.lst (hs ++ [.ref u]))
        have ls6 : LsOk (upd H15 ah (.lst (hs ++ [.ref u]))) ((wl', ys) :: (wl2, []) :: (aw, xsw) :: (an, ns.map V.int) :: (tt, xst) :: (ah, hs ++ [.ref u]) :: (sl, ms.map V.int) :: (gl ++ hl)) := (ls5.mono (lst_same s15)).set 5 _ rfl
        have t5 := tst_lst hah5 (.lst (hs ++ [.ref u]))
        generalize upd H15 ah (.lst (hs ++ [.ref u])) = H16 at co5 ls6 t5
        have t46 : Tst H14 H16 := (tst_same s15).trans t5
        have t06 : Tst H11 H16 := (tst_same s12).trans (t13.trans (t14.trans t46))
        refine ⟨_, rfl, aw, rfl, ⟨_, SqL.of (ls6.get 2 rfl)⟩, fun p hp => ?_⟩
        refine comp_rows (K := K) (fun e => decide (day < e.1)) (ls6.get 2 rfl) hp (ew.mono t06) (by omega) (fun x e H2 Q ⟨t, v, ex, ht, _⟩ q => ?_) (fun x H2 Q q => ⟨_, rfl, q⟩) (fun yw eyw => ?_)
        · subst ex
          exact ⟨_, rfl, t, _, _, _, rfl, rfl, SqT.of ht, rfl, _, rfl, _, _, rfl, rfl, _, rfl, q⟩
        have s17 := same_new hp (.lst yw)
        have np : p ∉ ((wl', ys) :: (wl2, []) :: (aw, xsw) :: (an, ns.map V.int) :: (tt, xst) :: (ah, hs ++ [.ref u]) :: (sl, ms.map V.int) :: (gl ++ hl)).map (·.1) := ls6.notin fun ys z => by rw [hp] at z; cases z
        have ls7 : LsOk (upd H16 p (.lst yw)) ((wl', ys) :: (wl2, []) :: (p, yw) :: (an, ns.map V.int) :: (tt, xst) :: (ah, hs ++ [.ref u]) :: (sl, ms.map V.int) :: (gl ++ hl)) := (ls6.mono (lst_same s17)).put 2 np upd_same
        have t7 := tst_same s17
        refine atG (Sg a x1 x2 p an tt ah sp (some (.int i)) (some (.int c)) (some (.int day)) (some (.ref d)) (some (.ref g)) o13 o14 o15) rfl ?_
        refine ⟨_, _, _, _, _, _, _, _, wl', p, kvs, ys, yw, xst, hs ++ [.ref u], _, ns, ts, gl ++ hl, rfl, co5.same s17, ls7, (ey.mono (t14.trans t46)).mono t7, eyw.mono t7, (et.mono t06).mono t7, fun y hy => ?_, by rw [List.length_append]; exact Nat.succ_le_succ lh, pi.took _⟩
        rcases List.mem_append.mp hy with hy | hy
        · exact (hd y hy).mono (t06.trans t7) fun p h => List.mem_append_right _ h
        · rw [List.mem_singleton] at hy
          exact ⟨u, g, d, fx, dx', es', hy, t7 _ _ (t5 _ _ eu), List.mem_append_left _ mf, List.mem_append_left _ md', (ef4.mono t46).mono t7, (ed4.mono t46).mono t7⟩
    · have s := s9.trans s11
      have co := li.co.same s
      have ls := li.ls.mono (lst_same s)
      have ew := li.ew.mono (tst_same s)
      have e1 := li.e1.mono (tst_same s)
      have et := li.et.mono (tst_same s)
      have hd := fun y hy => (li.hd y hy).mono (tst_same s) fun p h => h
      have pi := li.pi
      have lh := li.lh
      clear li
      have le := pi.le
      have lt := pi.lt
      have ln := pi.ln
      have lk := pi.lk
      have lx1 := e1.len
      have lxw := ew.len
      have lxt := et.len
      refine ⟨_, rfl, _, rfl, _, rfl, _, rfl, tt, xst, ts, c, i, day, rfl, ls.get 4 rfl, et, by omega, by omega, pi.tm, fun qa r n H12 s12 hq nin n0 n1 => ?_⟩
      refine atG (Sg a x1 x2 aw an tt ah sp (some (.int i)) (some (.int c)) (some (.int day)) o11 o12 (some (.ref qa)) o14 o15) rfl ?_
      refine ⟨_, rfl, _, rfl, _, rfl, two, fun pr hpr => ?_⟩
      have s13 := same_new hpr (.tup [.int i, .str "a"])
      have epr : upd H12 pr (.tup [.int i, .str "a"]) pr = some (.tup [.int i, .str "a"]) := upd_same
      generalize upd H12 pr (.tup [.int i, .str "a"]) = H13 at s13 epr
      refine ⟨four, fun ll hll => ?_⟩
      have s14 := same_new hll (.lst [.int i, .str "row", .ref pr, .non])
      have ell : upd H13 ll (.lst [.int i, .str "row", .ref pr, .non]) ll = some (.lst [.int i, .str "row", .ref pr, .non]) := upd_same
      generalize upd H13 ll (.lst [.int i, .str "row", .ref pr, .non]) = H14 at s14 ell
      refine ⟨_, rfl, _, _, rfl, by decide, by decide, fun m3 H15 s15 _ _ => ?_⟩
      have epr5 := s15 _ _ (s14 _ _ epr)
      obtain ⟨v, rw', hat, rwt⟩ : ∃ v rw', atI [V.int i, .str "row", .ref pr, .non] (m3 % 4) = some v ∧ RwAt H15 rw' v := by
        have b := md (a := m3) (b := 4) (by decide)
        generalize m3 % 4 = j at b
        have z : j = 0 ∨ j = 1 ∨ j = 2 ∨ j = 3 := by omega
        rcases z with rfl | rfl | rfl | rfl
        · exact ⟨_, .at (.int i), rfl, rfl, rfl⟩
        · exact ⟨_, .at (.str "row"), rfl, rfl, rfl⟩
        · exact ⟨_, .pr i "a", rfl, pr, rfl, epr5⟩
        · exact ⟨_, .at .non, rfl, rfl, rfl⟩
      refine ⟨_, _, rfl, rfl, (by show (0 : Int) < 4; decide), ll, _, _, v, rfl, rfl, SqL.of (s15 _ _ ell), hat, one, fun u hu => ?_⟩
      have s16 := same_new hu (.tup [v])
      have eu : upd H15 u (.tup [v]) u = some (.tup [v]) := upd_same
      generalize upd H15 u (.tup [v]) = H16 at s16 eu
      have s26 : Same H12 H16 := s13.trans (s14.trans (s15.trans s16))
      refine ⟨qa, u, _, _, rfl, rfl, SqT.of (s26 _ _ hq), SqT.of eu, by simp, four, fun z => absurd z (by simp), fun _ o ho => ?_⟩
      have s17 := same_new ho (.tup ([.int day, .int r, .int n] ++ [v]))
      have eo : upd H16 o (.tup ([.int day, .int r, .int n] ++ [v])) o = some (.tup [.int day, .int r, .int n, v]) := upd_same
      generalize upd H16 o (.tup ([.int day, .int r, .int n] ++ [v])) = H17 at s17 eo
      refine atG (Sg a x1 x2 aw an tt ah sp (some (.int i)) (some (.int c)) (some (.int day)) o11 o12 (some (.ref qa)) (some (.ref o)) o15) rfl ?_
      have sA : Same H11 H17 := s12.trans (s26.trans s17)
      have rw7 := rwt.mono (tst_same (s16.trans s17))
      have hq7 := s17 _ _ (s26 _ _ hq)
      have co2 := co.same sA
      have ls2 := ls.mono (lst_same sA)
      refine ⟨_, rfl, _, rfl, _, rfl, qa, _, _, _, rfl, rfl, SqT.of hq7, rfl, _, rfl, an, _, rfl, .inl (SqL.of (ls2.get 3 rfl)), rfl, flat_all ns, x1, wl1, nl1, xs1, kvs, o, day, r, n, v, ?_, co2.d1, ls2.get 0 rfl, by omega, co2.n1, by omega, eo, fun w' hw' => ⟨_, rfl, iteF ?_⟩⟩
      · rw [pi.kn, ← in_ints]
        rfl
      have co3 := co2.put (d := day) (r := r) (n := n) (v := v) hw' (ls2.get 0 rfl)
      have t3 : Tst H17 (putH H17 w' wl1 nl1 xs1 kvs day r n v) := put_tst hw' (ls2.get 0 rfl) co2.n1
      have at3 : putH H17 w' wl1 nl1 xs1 kvs day r n v w' = some (.tup [.int day, .int r, .int n, v]) := put_at hw' (ls2.get 0 rfl) co2.n1
      have ls3 : LsOk (putH H17 w' wl1 nl1 xs1 kvs day r n v) ((wl1, xs1 ++ [.ref w']) :: (wl2, []) :: (aw, xsw) :: (an, ns.map V.int) :: (tt, xst) :: (ah, hs) :: (sl, ms.map V.int) :: hl) := put_ls hw' co2.n1 ls2 0 rfl
      generalize putH H17 w' wl1 nl1 xs1 kvs day r n v = H18 at co3 t3 at3 ls3
      have haw := ls3.get 2 rfl
      refine ⟨_, rfl, .inl ⟨rfl, _, SqL.of haw⟩, _, rfl, aw, xsw, _, rfl, rfl, haw, by rw [sizeLine_eq]; omega, ?_⟩
      have co4 := co3.lst haw (.lst (xsw ++ [.ref o]))
      have t4 := tst_lst haw (.lst (xsw ++ [.ref o]))
      have ls4 : LsOk (upd H18 aw (.lst (xsw ++ [.ref o]))) ((wl1, xs1 ++ [.ref w']) :: (wl2, []) :: (aw, xsw ++ [.ref o]) :: (an, ns.map V.int) :: (tt, xst) :: (ah, hs) :: (sl, ms.map V.int) :: hl) := ls3.set 2 _ rfl
      generalize upd H18 aw (.lst (xsw ++ [.ref o])) = H19 at co4 t4 ls4
      have han := ls4.get 3 rfl
      refine ⟨_, rfl, .inl ⟨rfl, _, SqL.of han⟩, _, rfl, qa, _, _, _, rfl, rfl, SqT.of (t4 _ _ (t3 _ _ hq7)), rfl, an, _, _, rfl, rfl, han, by rw [List.length_map, sizeLine_eq]; omega, ?_⟩
      have co5 := co4.lst han (.lst (ns.map V.int ++ [.int n]))
      have t5 := tst_lst han (.lst (ns.map V.int ++ [.int n]))
      have ls5 : LsOk (upd H19 an (.lst (ns.map V.int ++ [.int n]))) ((wl1, xs1 ++ [.ref w']) :: (wl2, []) :: (aw, xsw ++ [.ref o]) :: (an, ns.map V.int ++ [.int n]) :: (tt, xst) :: (ah, hs) :: (sl, ms.map V.int) :: hl) := ls4.set 3 _ rfl
      generalize upd H19 an (.lst (ns.map V.int ++ [.int n])) = H20 at co5 t5 ls5
      have htt := ls5.get 4 rfl
      refine ⟨_, rfl, .inl ⟨rfl, _, SqL.of htt⟩, _, rfl, tt, xst, _, rfl, rfl, htt, by rw [sizeLine_eq]; omega, ?_⟩
      have co6 := co5.lst htt (.lst (xst ++ [.ref qa]))
      have t6 := tst_lst htt (.lst (xst ++ [.ref qa]))
      have ls6 : LsOk (upd H20 tt (.lst (xst ++ [.ref qa]))) ((wl1, xs1 ++ [.ref w']) :: (wl2, []) :: (aw, xsw ++ [.ref o]) :: (an, ns.map V.int ++ [.int n]) :: (tt, xst ++ [.ref qa]) :: (ah, hs) :: (sl, ms.map V.int) :: hl) := ls5.set 4 _ rfl
      have t36 := t3.trans (t4.trans (t5.trans t6))
      have tA := (tst_same sA).trans t36
      have en : ns.map V.int ++ [V.int n] = (ns ++ [n]).map V.int := by rw [List.map_append]; rfl
      rw [en] at ls6
      refine ⟨_, _, _, _, _, _, _, _, wl1, aw, _, xs1 ++ [.ref w'], xsw ++ [.ref o], xst ++ [.ref qa], hs, es ++ [(day, r, n, rw')], ns ++ [n], ts ++ [(day, r, n)], hl, rfl, co6, ls6, (e1.mono tA).snoc (EnAt.intro ((t4.trans (t5.trans t6)) _ _ at3) (rw7.mono t36)), (ew.mono tA).snoc (EnAt.intro (t36 _ _ eo) (rw7.mono t36)), (et.mono tA).snoc (t36 _ _ hq7), fun y hy => (hd y hy).mono tA fun p h => h, Nat.le_succ_of_le lh, pi.put nin n0 n1 y1⟩
  · rintro σ H9 ⟨o8, o9, o10, o11, o12, o13, o14, o15, wl1, aw, kvs, xs1, xsw, xst, hs, es, ns, ts, hl, rfl, li⟩
    have co := li.co
    have ls := li.ls
    have ew := li.ew
    have e1 := li.e1
    have hd := li.hd
    have pi := li.pi
    have le := pi.le
    rw [List.length_map] at le
    clear li
    obtain ⟨dx2', hx2'⟩ := id co.d2
    refine ⟨_, rfl, x2, dx2', _, rfl, hx2', noHas wl2 nl2, x2, wl2, nl2, [], 64, rfl, co.d2, co.n2, _, _, rfl, rfl, _, rfl, bF rfl ?_⟩
    refine ⟨_, rfl, four, fun t ht => ?_⟩
    have sA := same_new ht (.tup [.int 5, .int 1, .int 64, .str "x"])
    have et : upd H9 t (.tup [.int 5, .int 1, .int 64, .str "x"]) t = some (.tup [.int 5, .int 1, .int 64, .str "x"]) := upd_same
    generalize upd H9 t (.tup [.int 5, .int 1, .int 64, .str "x"]) = H10 at sA et
    have coA := co.same sA
    have lsA := ls.mono (lst_same sA)
    refine ⟨x2, wl2, nl2, [], [], t, 5, 1, 64, .str "x", rfl, coA.d2, lsA.get 1 rfl, by decide, coA.n2, by decide, et, fun u hu => ⟨_, rfl, iteF ?_⟩⟩
    have coB := (coA.swap.put (d := 5) (r := 1) (n := 64) (v := .str "x") hu (lsA.get 1 rfl)).swap
    have tB : Tst H10 (putH H10 u wl2 nl2 [] [] 5 1 64 (.str "x")) := put_tst hu (lsA.get 1 rfl) coA.n2
    have atB : putH H10 u wl2 nl2 [] [] 5 1 64 (.str "x") u = some (.tup [.int 5, .int 1, .int 64, .str "x"]) := put_at hu (lsA.get 1 rfl) coA.n2
    have lsB : LsOk (putH H10 u wl2 nl2 [] [] 5 1 64 (.str "x")) ((wl1, xs1) :: (wl2, [.ref u]) :: (aw, xsw) :: (an, ns.map V.int) :: (tt, xst) :: (ah, hs) :: (sl, ms.map V.int) :: hl) := put_ls hu coA.n2 lsA 1 rfl
    generalize putH H10 u wl2 nl2 [] [] 5 1 64 (.str "x") = H11 at coB tB atB lsB
    have tAB := (tst_same sA).trans tB
    have e2 : Ens H11 [.ref u] [(5, 1, 64, .at (.str "x"))] := ⟨EnAt.intro atB ⟨rfl, rfl⟩, trivial⟩
    -- all rows
    obtain ⟨dx, hx⟩ := id coB.d1
    refine ⟨_, rfl, x1, dx, _, rfl, hx, noUp wl1 nl1, _, _, rfl, rfl, ⟨by decide, by decide, by decide⟩, x1, wl1, nl1, xs1, es, _, rfl, coB.d1, lsB.get 0 rfl, e1.mono tAB, by omega, pi.kd, coB.lam, fun wl' g ys fz H12 fr d' nw nf nwf hw' ey hf ef lam' => ?_⟩
    have t12 := coB.tups fr
    have coC := coB.up fr d' lam'
    have lsC : LsOk H12 ((wl1, xs1) :: (wl2, [.ref u]) :: (aw, xsw) :: (an, ns.map V.int) :: (tt, xst) :: (ah, hs) :: (sl, ms.map V.int) :: hl) := lsB.mono (coB.lists fr)
    have nil : (es.filter fun e => decide ((10 : Int) ^ (6 : Int).toNat < e.1)) = [] := by
      rw [List.filter_eq_nil_iff]
      intro e he z
      have z' := of_decide_eq_true z
      rw [e6] at z'
      have := pi.db e he
      omega
    rw [nil] at ey
    refine ⟨_, rfl, _, _, rfl, rfl, ⟨by decide, by decide, by decide⟩, aw, xsw, es, _, rfl, lsC.get 2 rfl, ew.mono (tAB.trans t12), by omega, fun r zs H13 s13 hr hr2 ez => ?_⟩
    refine ⟨g, r, fz, zs, _, rfl, s13 _ _ hf, ef.mono (tst_same s13), hr2, ez, _, rfl, iteF ?_⟩
    have coD := coC.same s13
    have lsD := lsC.mono (lst_same s13)
    obtain ⟨dx', hx'⟩ := id coD.d1
    refine ⟨_, rfl, x1, dx', _, rfl, hx', noUp wl' nl1, _, _, rfl, rfl, ⟨by decide, by decide, by decide⟩, x1, wl', nl1, ys, [], _, rfl, coD.d1, s13 _ _ hw', ey.mono (tst_same s13), by decide, fun _ h => (nomatch h), coD.lam, fun wl3 g3 ys3 fz3 H14 fr3 d3 nw3 nf3 nwf3 hw3 ey3 hf3 ef3 lam3 => ⟨Nat.zero_le _, fun em hem => ?_⟩⟩
    have t14 := coD.tups fr3
    have coE := coD.up fr3 d3 lam3
    have lsE := lsD.mono (coD.lists fr3)
    have s15 := same_new hem (.lst [])
    have eem : upd H14 em (.lst []) em = some (.lst []) := upd_same
    generalize upd H14 em (.lst []) = H15 at s15 eem
    have ef3' : Ens H14 fz3 [] := ef3
    refine ne_Ens (es := []) (s15 _ _ hf3) eem (ef3'.mono (tst_same s15)) trivial ⟨_, rfl, iteF ?_⟩
    have coF := coE.same s15
    have lsF := lsE.mono (lst_same s15)
    have tF : Tst H11 H15 := t12.trans ((tst_same s13).trans (t14.trans (tst_same s15)))
    have e2F := e2.mono tF
    have hdF := fun y hy => (hd y hy).mono (tAB.trans tF) fun p h => h
    -- the numbers
    refine ⟨_, rfl, an, rfl, ⟨_, SqL.of (lsF.get 3 rfl)⟩, for_list (K := K) (a := an) (xs := ns.map V.int) (fun i σ H' => (∃ o15, σ = Sg a x1 x2 aw an tt ah sp o8 o9 o10 o11 o12 o13 o14 o15) ∧ H' = H15) ⟨⟨_, rfl⟩, rfl⟩ (fun i σ H' _ ⟨_, e⟩ => by rw [e]; exact SqL.of (lsF.get 3 rfl)) ?_ ?_⟩
    · rintro i x σ H' hi ⟨⟨o15, rfl⟩, rfl⟩
      obtain ⟨n, hn, rfl⟩ := item_int hi
      obtain ⟨dy, hy⟩ := id coF.d1
      obtain ⟨dz, hz⟩ := id coF.d2
      have k1 : (valV kvs (.inl n)).isSome = true := by rw [pi.kn]; exact decide_eq_true (List.mem_of_getElem? hn)
      refine ⟨_, rfl, x1, dy, _, rfl, hy, noHas wl3 nl1, _, rfl, x1, wl3, nl1, kvs, n, rfl, coF.d1, coF.n1, _, _, rfl, rfl, _, rfl, bF (by rw [k1]; rfl) ?_⟩
      have k2 : V.bl (valV (putK ([] : List (Key × V)) (Sum.inl 64) (.bl true)) (Sum.inl n)).isSome = V.bl (decide (V.int n = V.int 64)) := by
        rw [valV_put, valV_nil]
        by_cases c : n = 64
        · rw [c, if_pos rfl]
          rfl
        · rw [if_neg (fun z => c (Sum.inl.inj z)), decide_eq_false (fun z => c (V.int.inj z))]
          rfl
      exact ⟨_, rfl, x2, dz, _, rfl, hz, noHas wl2 nl2, _, rfl, x2, wl2, nl2, _, n, rfl, coF.d2, coF.n2, _, rfl, rfl, rfl, _, rfl, nF k2 ⟨⟨_, rfl⟩, rfl⟩⟩
    · rintro σ H15 ⟨⟨o15, rfl⟩, rfl⟩
      -- what is held
      refine ⟨_, rfl, ah, rfl, ⟨_, SqL.of (lsF.get 5 rfl)⟩, for_list (K := K) (a := ah) (xs := hs) (fun i σ H' => (∃ o11 o12, σ = Sg a x1 x2 aw an tt ah sp o8 o9 o10 o11 o12 o13 o14 o15) ∧ H' = H15) ⟨⟨_, _, rfl⟩, rfl⟩ (fun i σ H' _ ⟨_, e⟩ => by rw [e]; exact SqL.of (lsF.get 5 rfl)) ?_ ?_⟩
      · rintro i x σ H' hi ⟨⟨o11, o12, rfl⟩, rfl⟩
        obtain ⟨t, g4, d4, fx, dx4, es4, rfl, ht4, mf, md4, hf4, hd4⟩ := hdF x (List.mem_of_getElem? hi)
        refine ⟨t, _, rfl, SqT.of ht4, rfl, _, _, rfl, _, _, rfl, rfl, ?_⟩
        exact ⟨_, rfl, _, rfl, ne_Ens (lsF.2 (g4, fx) (by simp [mf])) (lsF.2 (d4, dx4) (by simp [md4])) hf4 hd4 ⟨_, rfl, iteF ⟨⟨_, _, rfl⟩, rfl⟩⟩⟩
      · rintro σ H15 ⟨⟨o11, o12, rfl⟩, rfl⟩
        have kd1 : KD [(5, 1, 64, Rw.at (.str "x"))] := fun a ha b hb _ => by rw [List.mem_singleton] at ha hb; rw [ha, hb]
        have coG := coF.swap
        obtain ⟨dy, hy⟩ := id coG.d1
        refine ⟨_, rfl, x2, dy, _, rfl, hy, noUp wl2 nl2, x2, wl2, nl2, [.ref u], _, 4, rfl, coG.d1, lsF.get 1 rfl, e2F, by decide, kd1, coG.lam, fun wl5 g5 ys5 fz5 H16 fr5 d5 nw5 nf5 nwf5 hw5 ey5 hf5 ef5 lam5 => ⟨Nat.zero_le _, fun em2 hem2 => ?_⟩⟩
        have ef5' : Ens H16 fz5 [] := ef5
        have ey5' : Ens H16 ys5 [(5, 1, 64, .at (.str "x"))] := ey5
        have coH := coG.up fr5 d5 lam5
        have s17 := same_new hem2 (.lst [])
        have eem2 : upd H16 em2 (.lst []) em2 = some (.lst []) := upd_same
        generalize upd H16 em2 (.lst []) = H17 at s17 eem2
        have coI := coH.same s17
        refine eq_Ens (es := []) (s17 _ _ hf5) eem2 (ef5'.mono (tst_same s17)) trivial ⟨_, rfl, iteT ?_⟩
        obtain ⟨dz, hz⟩ := id coI.d1
        refine ⟨_, rfl, x2, dz, _, rfl, hz, noUp wl5 nl2, x2, wl5, nl2, ys5, _, 5, rfl, coI.d1, s17 _ _ hw5, ey5'.mono (tst_same s17), by decide, kd1, coI.lam, fun wl6 g6 ys6 fz6 H18 fr6 d6 nw6 nf6 nwf6 hw6 ey6 hf6 ef6 lam6 => ⟨four, fun t6 ht6 => ⟨one, fun l6 hl6 => ?_⟩⟩⟩
        have ef6' : Ens H18 fz6 [(5, 1, 64, .at (.str "x"))] := ef6
        have s19 := same_new ht6 (.tup [.int 5, .int 1, .int 64, .str "x"])
        have et6 : upd H18 t6 (.tup [.int 5, .int 1, .int 64, .str "x"]) t6 = some (.tup [.int 5, .int 1, .int 64, .str "x"]) := upd_same
        generalize upd H18 t6 (.tup [.int 5, .int 1, .int 64, .str "x"]) = H19 at s19 et6 hl6
        have s20 := same_new hl6 (.lst [.ref t6])
        have el6 : upd H19 l6 (.lst [.ref t6]) l6 = some (.lst [.ref t6]) := upd_same
        generalize upd H19 l6 (.lst [.ref t6]) = H20 at s20 el6
        exact eq_Ens (es := [(5, 1, 64, .at (.str "x"))]) (s20 _ _ (s19 _ _ hf6)) el6 (ef6'.mono (tst_same (s19.trans s20))) ⟨EnAt.intro (s20 _ _ et6) ⟨rfl, rfl⟩, trivial⟩ (q _)
end


theorem all_mk {l : PySem.W.OpenLaw} {w : World} {K : PySem.W.Frag} {h : Heap} {mg : Str → Option Value} {fa : Addr} (X : K.In h) (G : h.Ns mainGlobals mg) (hfa : mg "law" = some (.ref fa))
    {f0 : Addr} {od0 an0 : Option Addr} {sl0 : Array (Option Value)} {oc0 kV0 dc0 pm0 cd0 ct0 : Value}
    (a0 : PySem.W.nsIn K mainGlobals "_law_cell" = some (some (.ref f0))) (l0 : K.lookup f0 = some ⟨oc0, od0, .func (PySem.W.fnOf "_law_cell" "_law_cell" (defArgs s__law_cell) (defBody s__law_cell) (defScope s__law_cell) .none kV0 dc0 pm0 an0 cd0 ct0), sl0⟩) (c0 : PySem.W.codeIn K cd0 "_law_cell" = true) (k0 : PySem.W.keepIn K (.ref f0) = true)
    {f1 : Addr} {od1 an1 : Option Addr} {sl1 : Array (Option Value)} {oc1 kV1 dc1 pm1 cd1 ct1 : Value}
    (a1 : PySem.W.nsIn K mainGlobals "_law_whole" = some (some (.ref f1))) (l1 : K.lookup f1 = some ⟨oc1, od1, .func (PySem.W.fnOf "_law_whole" "_law_whole" (defArgs s__law_whole) (defBody s__law_whole) (defScope s__law_whole) .none kV1 dc1 pm1 an1 cd1 ct1), sl1⟩) (c1 : PySem.W.codeIn K cd1 "_law_whole" = true) (k1 : PySem.W.keepIn K (.ref f1) = true)
    {f2 : Addr} {od2 an2 : Option Addr} {sl2 : Array (Option Value)} {oc2 kV2 dc2 pm2 cd2 ct2 : Value}
    (a2 : PySem.W.nsIn K mainGlobals "_law_mix" = some (some (.ref f2))) (l2 : K.lookup f2 = some ⟨oc2, od2, .func (PySem.W.fnOf "_law_mix" "_law_mix" (defArgs s__law_mix) (defBody s__law_mix) (defScope s__law_mix) .none kV2 dc2 pm2 an2 cd2 ct2), sl2⟩) (c2 : PySem.W.codeIn K cd2 "_law_mix" = true) (k2 : PySem.W.keepIn K (.ref f2) = true)
    {f3 : Addr} {od3 an3 : Option Addr} {sl3 : Array (Option Value)} {oc3 kV3 dc3 pm3 cd3 ct3 : Value}
    (a3 : PySem.W.nsIn K mainGlobals "_law_ahead" = some (some (.ref f3))) (l3 : K.lookup f3 = some ⟨oc3, od3, .func (PySem.W.fnOf "_law_ahead" "_law_ahead" (defArgs s__law_ahead) (defBody s__law_ahead) (defScope s__law_ahead) .none kV3 dc3 pm3 an3 cd3 ct3), sl3⟩) (c3 : PySem.W.codeIn K cd3 "_law_ahead" = true) (k3 : PySem.W.keepIn K (.ref f3) = true)
    {f4 : Addr} {od4 an4 : Option Addr} {sl4 : Array (Option Value)} {oc4 kV4 dc4 pm4 cd4 ct4 : Value}
    (a4 : PySem.W.nsIn K mainGlobals "_law_due" = some (some (.ref f4))) (l4 : K.lookup f4 = some ⟨oc4, od4, .func (PySem.W.fnOf "_law_due" "_law_due" (defArgs s__law_due) (defBody s__law_due) (defScope s__law_due) .none kV4 dc4 pm4 an4 cd4 ct4), sl4⟩) (c4 : PySem.W.codeIn K cd4 "_law_due" = true) (k4 : PySem.W.keepIn K (.ref f4) = true)
    {f5 : Addr} {od5 an5 : Option Addr} {sl5 : Array (Option Value)} {oc5 kV5 dc5 pm5 cd5 ct5 : Value}
    (a5 : PySem.W.nsIn K mainGlobals "_law_same" = some (some (.ref f5))) (l5 : K.lookup f5 = some ⟨oc5, od5, .func (PySem.W.fnOf "_law_same" "_law_same" (defArgs s__law_same) (defBody s__law_same) (defScope s__law_same) .none kV5 dc5 pm5 an5 cd5 ct5), sl5⟩) (c5 : PySem.W.codeIn K cd5 "_law_same" = true) (k5 : PySem.W.keepIn K (.ref f5) = true)
    {f6 : Addr} {od6 an6 : Option Addr} {sl6 : Array (Option Value)} {oc6 kV6 dc6 pm6 cd6 ct6 : Value}
    (a6 : PySem.W.nsIn K mainGlobals "_law_put" = some (some (.ref f6))) (l6 : K.lookup f6 = some ⟨oc6, od6, .func (PySem.W.fnOf "_law_put" "_law_put" (defArgs s__law_put) (defBody s__law_put) (defScope s__law_put) .none kV6 dc6 pm6 an6 cd6 ct6), sl6⟩) (c6 : PySem.W.codeIn K cd6 "_law_put" = true) (k6 : PySem.W.keepIn K (.ref f6) = true)
    {f7 : Addr} {od7 an7 : Option Addr} {sl7 : Array (Option Value)} {oc7 kV7 dc7 pm7 cd7 ct7 : Value}
    (a7 : PySem.W.nsIn K mainGlobals "_law_triple" = some (some (.ref f7))) (l7 : K.lookup f7 = some ⟨oc7, od7, .func (PySem.W.fnOf "_law_triple" "_law_triple" (defArgs s__law_triple) (defBody s__law_triple) (defScope s__law_triple) .none kV7 dc7 pm7 an7 cd7 ct7), sl7⟩) (c7 : PySem.W.codeIn K cd7 "_law_triple" = true) (k7 : PySem.W.keepIn K (.ref f7) = true)
    {f8 : Addr} {od8 an8 : Option Addr} {sl8 : Array (Option Value)} {oc8 kV8 dc8 pm8 cd8 ct8 : Value}
    (a8 : PySem.W.nsIn K mainGlobals "law" = some (some (.ref f8))) (l8 : K.lookup f8 = some ⟨oc8, od8, .func (PySem.W.fnOf "law" "law" (defArgs s_law) (defBody s_law) (defScope s_law) .none kV8 dc8 pm8 an8 cd8 ct8), sl8⟩) (c8 : PySem.W.codeIn K cd8 "law" = true) (k8 : PySem.W.keepIn K (.ref f8) = true)
    {C_Days : Addr} (q_Days : PySem.W.nsIn K mainGlobals "Days" = some (some (.ref C_Days)))
    (pg_Days : PySem.W.plainGet K C_Days Str.empty = true) (hd_Days : PySem.W.hasDictIn K C_Days = true) (po_Days : PySem.W.plainOver K C_Days = true) (sa_Days : PySem.W.findIn K (.ref C_Days) "__setattr__" = some (some (.builtin "object.__setattr__"))) (mk_Days : PySem.W.makesIn K C_Days = true) (kc_Days : PySem.W.keepIn K (.ref C_Days) = true)
    (na_Days_waiting : PySem.W.findIn K (.ref C_Days) "waiting" = some none)
    (na_Days_numbers : PySem.W.findIn K (.ref C_Days) "numbers" = some none)
    (nd_C : ([C_Days] : List Addr).Nodup)
    {fDays___init__ : Addr} {odDays___init__ anDays___init__ : Option Addr} {slDays___init__ : Array (Option Value)} {ocDays___init__ kVDays___init__ dcDays___init__ pmDays___init__ cdDays___init__ ctDays___init__ : Value}
    (a_Days___init__ : PySem.W.findIn K (.ref C_Days) "__init__" = some (some (.ref fDays___init__)))
    (iDays___init__ : PySem.W.isFn K (.ref fDays___init__) = true) (lDays___init__ : K.lookup fDays___init__ = some ⟨ocDays___init__, odDays___init__, .func (PySem.W.fnOf "__init__" "Days.__init__" (defArgs s_Days___init__) (defBody s_Days___init__) (defScope s_Days___init__) .none kVDays___init__ dcDays___init__ pmDays___init__ anDays___init__ cdDays___init__ ctDays___init__), slDays___init__⟩) (cDays___init__ : PySem.W.codeIn K cdDays___init__ "Days.__init__" = true) (kDays___init__ : PySem.W.keepIn K (.ref fDays___init__) = true)
    {fDays_put : Addr} {odDays_put anDays_put : Option Addr} {slDays_put : Array (Option Value)} {ocDays_put kVDays_put dcDays_put pmDays_put cdDays_put ctDays_put : Value}
    (a_Days_put : PySem.W.findIn K (.ref C_Days) "put" = some (some (.ref fDays_put)))
    (iDays_put : PySem.W.isFn K (.ref fDays_put) = true) (lDays_put : K.lookup fDays_put = some ⟨ocDays_put, odDays_put, .func (PySem.W.fnOf "put" "Days.put" (defArgs s_Days_put) (defBody s_Days_put) (defScope s_Days_put) .none kVDays_put dcDays_put pmDays_put anDays_put cdDays_put ctDays_put), slDays_put⟩) (cDays_put : PySem.W.codeIn K cdDays_put "Days.put" = true) (kDays_put : PySem.W.keepIn K (.ref fDays_put) = true)
    {fDays_has_number : Addr} {odDays_has_number anDays_has_number : Option Addr} {slDays_has_number : Array (Option Value)} {ocDays_has_number kVDays_has_number dcDays_has_number pmDays_has_number cdDays_has_number ctDays_has_number : Value}
    (a_Days_has_number : PySem.W.findIn K (.ref C_Days) "has_number" = some (some (.ref fDays_has_number)))
    (iDays_has_number : PySem.W.isFn K (.ref fDays_has_number) = true) (lDays_has_number : K.lookup fDays_has_number = some ⟨ocDays_has_number, odDays_has_number, .func (PySem.W.fnOf "has_number" "Days.has_number" (defArgs s_Days_has_number) (defBody s_Days_has_number) (defScope s_Days_has_number) .none kVDays_has_number dcDays_has_number pmDays_has_number anDays_has_number cdDays_has_number ctDays_has_number), slDays_has_number⟩) (cDays_has_number : PySem.W.codeIn K cdDays_has_number "Days.has_number" = true) (kDays_has_number : PySem.W.keepIn K (.ref fDays_has_number) = true)
    {fDays_up_to : Addr} {odDays_up_to anDays_up_to : Option Addr} {slDays_up_to : Array (Option Value)} {ocDays_up_to kVDays_up_to dcDays_up_to pmDays_up_to cdDays_up_to ctDays_up_to : Value}
    (a_Days_up_to : PySem.W.findIn K (.ref C_Days) "up_to" = some (some (.ref fDays_up_to)))
    (iDays_up_to : PySem.W.isFn K (.ref fDays_up_to) = true) (lDays_up_to : K.lookup fDays_up_to = some ⟨ocDays_up_to, odDays_up_to, .func (PySem.W.fnOf "up_to" "Days.up_to" (defArgs s_Days_up_to) (defBody s_Days_up_to) (defScope s_Days_up_to) .none kVDays_up_to dcDays_up_to pmDays_up_to anDays_up_to cdDays_up_to ctDays_up_to), slDays_up_to⟩) (cDays_up_to : PySem.W.codeIn K cdDays_up_to "Days.up_to" = true) (kDays_up_to : PySem.W.keepIn K (.ref fDays_up_to) = true)
    (z_bool : PySem.W.nsIn K mainGlobals "bool" = some none)
    (z_enumerate : PySem.W.nsIn K mainGlobals "enumerate" = some none)
    (z_int : PySem.W.nsIn K mainGlobals "int" = some none)
    (z_isinstance : PySem.W.nsIn K mainGlobals "isinstance" = some none)
    (z_len : PySem.W.nsIn K mainGlobals "len" = some none)
    (z_list : PySem.W.nsIn K mainGlobals "list" = some none)
    (z_sorted : PySem.W.nsIn K mainGlobals "sorted" = some none)
    (z_tuple : PySem.W.nsIn K mainGlobals "tuple" = some none)
    {c51 T51 : Addr} (hc51 : cdDays_up_to = .ref c51) (hH51 : PySem.W.codeHdIn K c51 T51 = true) :
    ∃ fd : FuncData, (∀ (s : Shared) (v : Value), BindsTo s fd ⟨[v], []⟩ [("_law_script", v)]) ∧ ∀ base : Heap, K.In base → base.Ns mainGlobals mg → BI mg base → FnOk l.prog w K mg base CX0 6 fa fd ["_law_script"] (spLaw K T51) := by
  have e := hfa.symm.trans (PySem.W.mg_of X G a8)
  cases e
  have F0 := fun_mk (st := s__law_cell) l0 c0 k0
  have B0 := F0.binds (ps := ["_law_script", "_law_k"]) fun _ _ _ _ _ _ us hl => match us, hl with | [_, _], _ => rfl
  have D__law_cell : Def K mg "_law_cell" s__law_cell ["_law_script", "_law_k"] := ⟨f0, _, F0, B0, PySem.W.mg_of X G a0⟩
  have F1 := fun_mk (st := s__law_whole) l1 c1 k1
  have B1 := F1.binds (ps := ["_law_found"]) fun _ _ _ _ _ _ us hl => match us, hl with | [_], _ => rfl
  have D__law_whole : Def K mg "_law_whole" s__law_whole ["_law_found"] := ⟨f1, _, F1, B1, PySem.W.mg_of X G a1⟩
  have F2 := fun_mk (st := s__law_mix) l2 c2 k2
  have B2 := F2.binds (ps := ["_law_cell_here", "_law_k"]) fun _ _ _ _ _ _ us hl => match us, hl with | [_, _], _ => rfl
  have D__law_mix : Def K mg "_law_mix" s__law_mix ["_law_cell_here", "_law_k"] := ⟨f2, _, F2, B2, PySem.W.mg_of X G a2⟩
  have F3 := fun_mk (st := s__law_ahead) l3 c3 k3
  have B3 := F3.binds (ps := ["_law_one", "_law_other"]) fun _ _ _ _ _ _ us hl => match us, hl with | [_, _], _ => rfl
  have D__law_ahead : Def K mg "_law_ahead" s__law_ahead ["_law_one", "_law_other"] := ⟨f3, _, F3, B3, PySem.W.mg_of X G a3⟩
  have F4 := fun_mk (st := s__law_due) l4 c4 k4
  have B4 := F4.binds (ps := ["_law_waiting", "_law_day"]) fun _ _ _ _ _ _ us hl => match us, hl with | [_, _], _ => rfl
  have D__law_due : Def K mg "_law_due" s__law_due ["_law_waiting", "_law_day"] := ⟨f4, _, F4, B4, PySem.W.mg_of X G a4⟩
  have F5 := fun_mk (st := s__law_same) l5 c5 k5
  have B5 := F5.binds (ps := ["_law_found", "_law_due_here"]) fun _ _ _ _ _ _ us hl => match us, hl with | [_, _], _ => rfl
  have D__law_same : Def K mg "_law_same" s__law_same ["_law_found", "_law_due_here"] := ⟨f5, _, F5, B5, PySem.W.mg_of X G a5⟩
  have F6 := fun_mk (st := s__law_put) l6 c6 k6
  have B6 := F6.binds (ps := ["_law_days", "_law_one", "_law_known"]) fun _ _ _ _ _ _ us hl => match us, hl with | [_, _, _], _ => rfl
  have D__law_put : Def K mg "_law_put" s__law_put ["_law_days", "_law_one", "_law_known"] := ⟨f6, _, F6, B6, PySem.W.mg_of X G a6⟩
  have F7 := fun_mk (st := s__law_triple) l7 c7 k7
  have B7 := F7.binds (ps := ["_law_cell_here", "_law_k", "_law_day", "_law_triples"]) fun _ _ _ _ _ _ us hl => match us, hl with | [_, _, _, _], _ => rfl
  have D__law_triple : Def K mg "_law_triple" s__law_triple ["_law_cell_here", "_law_k", "_law_day", "_law_triples"] := ⟨f7, _, F7, B7, PySem.W.mg_of X G a7⟩
  have F8 := fun_mk (st := s_law) l8 c8 k8
  have B8 := F8.binds (ps := ["_law_script"]) fun _ _ _ _ _ _ us hl => match us, hl with | [_], _ => rfl
  have F_Days___init__ := fun_mk (x := "__init__") (qual := "Days.__init__") (st := s_Days___init__) lDays___init__ cDays___init__ kDays___init__
  have B_Days___init__ := F_Days___init__.binds (ps := ["self"]) fun _ _ _ _ _ _ us hl => match us, hl with | [_], _ => rfl
  have F_Days_put := fun_mk (x := "put") (qual := "Days.put") (st := s_Days_put) lDays_put cDays_put kDays_put
  have B_Days_put := F_Days_put.binds (ps := ["self", "day", "rank", "number", "row"]) fun _ _ _ _ _ _ us hl => match us, hl with | [_, _, _, _, _], _ => rfl
  have F_Days_has_number := fun_mk (x := "has_number") (qual := "Days.has_number") (st := s_Days_has_number) lDays_has_number cDays_has_number kDays_has_number
  have B_Days_has_number := F_Days_has_number.binds (ps := ["self", "number"]) fun _ _ _ _ _ _ us hl => match us, hl with | [_, _], _ => rfl
  have F_Days_up_to := fun_mk (x := "up_to") (qual := "Days.up_to") (st := s_Days_up_to) lDays_up_to cDays_up_to kDays_up_to
  have B_Days_up_to := F_Days_up_to.binds (ps := ["self", "day"]) fun _ _ _ _ _ _ us hl => match us, hl with | [_, _], _ => rfl
  have H_Days_make : Mk K C_Days fDays___init__ := ⟨mk_Days, a_Days___init__, iDays___init__, kc_Days⟩
  have H_Days_put : Meth K C_Days "put" fDays_put := ⟨a_Days_put, iDays_put, kDays_put⟩
  have H_Days_has_number : Meth K C_Days "has_number" fDays_has_number := ⟨a_Days_has_number, iDays_has_number, kDays_has_number⟩
  have H_Days_up_to : Meth K C_Days "up_to" fDays_up_to := ⟨a_Days_up_to, iDays_up_to, kDays_up_to⟩
  have L : Kl K mg C_Days := ⟨PySem.W.mg_of X G q_Days, ⟨pg_Days, hd_Days, po_Days, sa_Days⟩, na_Days_waiting, na_Days_numbers, nd_C⟩
  have T : Txt K mg := ⟨PySem.W.mg_none_of X G z_bool, PySem.W.mg_none_of X G z_enumerate, PySem.W.mg_none_of X G z_int, PySem.W.mg_none_of X G z_isinstance, PySem.W.mg_none_of X G z_len, PySem.W.mg_none_of X G z_list, PySem.W.mg_none_of X G z_sorted, PySem.W.mg_none_of X G z_tuple⟩
  refine ⟨PySem.W.fnOf "law" "law" (defArgs s_law) (defBody s_law) (defScope s_law) .none kV8 dc8 pm8 an8 cd8 ct8, fun s v => .of_eq rfl, fun base kb _ hbi => ?_⟩
  have KDays : KCal l.prog w K mg base 1 "Days" C_Days ["self"] (spInit C_Days) := ⟨_, _, H_Days_make, ok_Days___init__ F_Days___init__ T L, B_Days___init__, L.mg_Days⟩
  have Mhas_number : MCal l.prog w K mg base 1 C_Days "has_number" ["self", "number"] (spHas C_Days) := ⟨⟨_, _, ok_Days_has_number F_Days_has_number T L, B_Days_has_number, H_Days_has_number⟩, L.cl_Days⟩
  have Mput : MCal l.prog w K mg base 1 C_Days "put" ["self", "day", "rank", "number", "row"] (spPut C_Days) := ⟨⟨_, _, ok_Days_put F_Days_put T L, B_Days_put, H_Days_put⟩, L.cl_Days⟩
  have Mup_to : MCal l.prog w K mg base 5 C_Days "up_to" ["self", "day"] (spUp C_Days T51) := ⟨⟨_, _, ok_Days_up_to F_Days_up_to hc51 T L (PySem.W.codeHd_of_K kb hH51) hbi, B_Days_up_to, H_Days_up_to⟩, L.cl_Days⟩
  have C_law_cell : Cal l.prog w K mg base 1 "_law_cell" ["_law_script", "_law_k"] (spCell K) := D__law_cell.cal fun f fd F => ok__law_cell F T
  have C_law_mix : Cal l.prog w K mg base 1 "_law_mix" ["_law_cell_here", "_law_k"] spMix := D__law_mix.cal fun f fd F => ok__law_mix F T
  have C_law_whole : Cal l.prog w K mg base 1 "_law_whole" ["_law_found"] (spWhole K) := D__law_whole.cal fun f fd F => ok__law_whole F T
  have C_law_ahead : Cal l.prog w K mg base 1 "_law_ahead" ["_law_one", "_law_other"] spAhead := D__law_ahead.cal fun f fd F => ok__law_ahead F T
  have C_law_due : Cal l.prog w K mg base 2 "_law_due" ["_law_waiting", "_law_day"] spDue := D__law_due.cal fun f fd F => ok__law_due F T C_law_ahead
  have C_law_same : Cal l.prog w K mg base 2 "_law_same" ["_law_found", "_law_due_here"] spSame := D__law_same.cal fun f fd F => ok__law_same F T C_law_whole
  have C_law_put : Cal l.prog w K mg base 2 "_law_put" ["_law_days", "_law_one", "_law_known"] (spLPut C_Days) := D__law_put.cal fun f fd F => ok__law_put F T Mhas_number Mput
  have C_law_triple : Cal l.prog w K mg base 2 "_law_triple" ["_law_cell_here", "_law_k", "_law_day", "_law_triples"] spTriple := D__law_triple.cal fun f fd F => ok__law_triple F T C_law_mix
  exact ok_law F8 T L KDays Mhas_number Mup_to C_law_cell C_law_mix C_law_due C_law_same C_law_put C_law_triple
theorem walk {l : PySem.W.OpenLaw} {q : Program} {loose : List Str} {XP : (Str → Option Value) → Heap → Prop} {YP : World → Heap → Prop} {d : DefRec} {K : Params → PySem.W.Frag} {c T : Addr} (hn : l.most = some 63) (hdf : d.params.defaults = [])
    (hY : ∀ (w : World) (h : Heap), YP w h → (K w.params).In h) (hYT : ∀ (w : World) (h : Heap), YP w h → h.get? T = some (PySem.W.tabObj #[])) (hKT : ∀ w : World, (K w.params).lookup T = none) (hcT : ∀ w : World, PySem.W.codeHdIn (K w.params) c T = true)
    (F : ∀ (w : World) (mg : Str → Option Value) (fa : Addr) (h : Heap), (K w.params).In h → h.Ns mainGlobals mg → mg d.name = some (.ref fa) →
      ∃ fd : FuncData, (∀ (s : Shared) (u : Value), BindsTo s fd ⟨[u], []⟩ [("_law_script", u)]) ∧ ∀ base : Heap, (K w.params).In base → base.Ns mainGlobals mg → BI mg base → FnOk l.prog w (K w.params) mg base CX0 6 fa fd ["_law_script"] (spLaw (K w.params) T)) :
    PySem.W.WalkO q loose XP YP l.row.toRowW d [] (fun f vs => PySem.call f vs) :=
  L2.walk_ofT (n := 63) (k := 6) (x := "_law_script") (CX := fun _ => CX0) (sp := fun w => spLaw (K w.params) T) hn (by decide) hdf ⟨rfl, by decide, by decide⟩ hY hYT hKT hcT F (fun _ _ a ns hl hO hS => ⟨a, ns, rfl, hS, hl, hO.1, fun _ => rfl⟩) fun _ _ _ _ _ z => z
end CRL
open PySem PySem.W PyProof.Rows
set_option maxRecDepth 100000 in
set_option maxHeartbeats 0 in
theorem PySem.Challenge.cw_coverroll_k51_rows_that_wait_holds : PySem.Challenge.rw_coverroll_k51_rows_that_wait.Holds := by
  w_on; o_law; k_head; (case hw => w_witness2)
  k_fill
  refine CRL.walk (l := PySem.Challenge.rw_coverroll_k51_rows_that_wait) (c := 46) (T := 44) rfl rfl (fun w h Y => PySem.W.km_in_of Y) (fun w h Y => PySem.W.km_tabs_of Y 44 (by simp)) (fun w => by kernel_rfl) (fun w => by kernel_rfl) ?F
  case F =>
    intro w mg fa h KX G hmg
    refine' CRL.all_mk KX G hmg ?a0 ?l0 ?c0 ?k0 ?a1 ?l1 ?c1 ?k1 ?a2 ?l2 ?c2 ?k2 ?a3 ?l3 ?c3 ?k3 ?a4 ?l4 ?c4 ?k4 ?a5 ?l5 ?c5 ?k5 ?a6 ?l6 ?c6 ?k6 ?a7 ?l7 ?c7 ?k7 ?a8 ?l8 ?c8 ?k8 ?q_Days ?pg_Days ?hd_Days ?po_Days ?sa_Days ?mk_Days ?kc_Days ?na_Days_waiting ?na_Days_numbers ?nd_C ?a_Days___init__ ?iDays___init__ ?lDays___init__ ?cDays___init__ ?kDays___init__ ?a_Days_put ?iDays_put ?lDays_put ?cDays_put ?kDays_put ?a_Days_has_number ?iDays_has_number ?lDays_has_number ?cDays_has_number ?kDays_has_number ?a_Days_up_to ?iDays_up_to ?lDays_up_to ?cDays_up_to ?kDays_up_to ?z_bool ?z_enumerate ?z_int ?z_isinstance ?z_len ?z_list ?z_sorted ?z_tuple ?hc51 ?hH51
    (case a0 => k_is)
    (case l0 => k_is)
    (case c0 => k_is)
    (case k0 => k_is)
    (case a1 => k_is)
    (case l1 => k_is)
    (case c1 => k_is)
    (case k1 => k_is)
    (case a2 => k_is)
    (case l2 => k_is)
    (case c2 => k_is)
    (case k2 => k_is)
    (case a3 => k_is)
    (case l3 => k_is)
    (case c3 => k_is)
    (case k3 => k_is)
    (case a4 => k_is)
    (case l4 => k_is)
    (case c4 => k_is)
    (case k4 => k_is)
    (case a5 => k_is)
    (case l5 => k_is)
    (case c5 => k_is)
    (case k5 => k_is)
    (case a6 => k_is)
    (case l6 => k_is)
    (case c6 => k_is)
    (case k6 => k_is)
    (case a7 => k_is)
    (case l7 => k_is)
    (case c7 => k_is)
    (case k7 => k_is)
    (case a8 => k_is)
    (case l8 => k_is)
    (case c8 => k_is)
    (case k8 => k_is)
    (case q_Days => k_is)
    (case pg_Days => k_is)
    (case hd_Days => k_is)
    (case po_Days => k_is)
    (case sa_Days => k_is)
    (case mk_Days => k_is)
    (case kc_Days => k_is)
    (case na_Days_waiting => k_is)
    (case na_Days_numbers => k_is)
    (case nd_C => decide)
    (case a_Days___init__ => k_is)
    (case iDays___init__ => k_is)
    (case lDays___init__ => k_is)
    (case cDays___init__ => k_is)
    (case kDays___init__ => k_is)
    (case a_Days_put => k_is)
    (case iDays_put => k_is)
    (case lDays_put => k_is)
    (case cDays_put => k_is)
    (case kDays_put => k_is)
    (case a_Days_has_number => k_is)
    (case iDays_has_number => k_is)
    (case lDays_has_number => k_is)
    (case cDays_has_number => k_is)
    (case kDays_has_number => k_is)
    (case a_Days_up_to => k_is)
    (case iDays_up_to => k_is)
    (case lDays_up_to => k_is)
    (case cDays_up_to => k_is)
    (case kDays_up_to => k_is)
    (case z_bool => k_is)
    (case z_enumerate => k_is)
    (case z_int => k_is)
    (case z_isinstance => k_is)
    (case z_len => k_is)
    (case z_list => k_is)
    (case z_sorted => k_is)
    (case z_tuple => k_is)
    (case hc51 => exact rfl)
    (case hH51 => kernel_rfl)
