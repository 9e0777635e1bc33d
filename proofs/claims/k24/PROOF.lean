import PyProof.Rows.All
import Wide.All
import OpenK.AllK
import Wide.FinOn
import Lean
import PyProof.EqAt
import PyProof.EqKinds
import PyProof.TupleCall
import PySem.Challenge.RW_coverroll_k24_conditions_read
set_option Elab.async false
set_option linter.all false
set_option maxRecDepth 100000
set_option maxHeartbeats 4000000
namespace L2
open PySem PySem.Spec PyProof.Rows
abbrev Key := Sum Int Str
def keyIs : Key → Value → Bool
  | .inl k, v => Value.isInt k v
  | .inr x, v => Value.isStrOf x v
def keyH (w : World) : Key → Int
  | .inl k => hashInt k
  | .inr x => hashStr w x
theorem keyIs_shape : ∀ {k : Key} {v : Value}, keyIs k v = true → (∃ i t, k = Sum.inl i ∧ v = Value.int i t) ∨ (∃ x t, k = Sum.inr x ∧ v = Value.str x t)
  | .inl i, v, h => by
    obtain ⟨t, e⟩ := Value.isInt_shape (k := i) (v := v) h
    exact .inl ⟨i, t, rfl, e⟩
  | .inr x, v, h => by
    obtain ⟨t, e⟩ := Value.isStrOf_shape (x := x) (v := v) h
    exact .inr ⟨x, t, rfl, e⟩
theorem keyIs_int (i : Int) (t : Tok) : keyIs (.inl i) (.int i t) = true := by simp [keyIs, Value.isInt]
theorem keyIs_str (x : Str) (t : Tok) : keyIs (.inr x) (.str x t) = true := by simp [keyIs, Value.isStrOf]
theorem key_ll (a b : Int) : decide ((Sum.inl a : Key) = Sum.inl b) = (a == b) := by
  by_cases e : a = b
  · subst e; simp
  · have h : ¬ (Sum.inl a : Key) = Sum.inl b := fun q => e (Sum.inl.inj q)
    rw [decide_eq_false h]
    exact (beq_eq_false_iff_ne.mpr e).symm
theorem key_rr (a b : Str) : decide ((Sum.inr a : Key) = Sum.inr b) = decide (a = b) := by
  by_cases e : a = b
  · subst e; simp
  · have h : ¬ (Sum.inr a : Key) = Sum.inr b := fun q => e (Sum.inr.inj q)
    rw [decide_eq_false h, decide_eq_false e]
theorem key_lr (a : Int) (b : Str) : decide ((Sum.inl a : Key) = Sum.inr b) = false := decide_eq_false (fun q => nomatch q)
theorem key_rl (a : Str) (b : Int) : decide ((Sum.inr a : Key) = Sum.inl b) = false := decide_eq_false (fun q => nomatch q)
def mixKind (prog : Program) (w : World) : PySem.KeyKind prog w Key where
  is := keyIs
  hash := keyH w
  inj := fun v a b ha hb => by
    rcases keyIs_shape ha with ⟨i, t, rfl, rfl⟩ | ⟨x, t, rfl, rfl⟩
    · rcases keyIs_shape hb with ⟨j, u, rfl, e⟩ | ⟨y, u, rfl, e⟩
      · injection e with e1 _; rw [e1]
      · exact nomatch e
    · rcases keyIs_shape hb with ⟨j, u, rfl, e⟩ | ⟨y, u, rfl, e⟩
      · exact nomatch e
      · injection e with e1 _; rw [e1]
  byValue := fun k v h => by
    rcases keyIs_shape h with ⟨i, t, rfl, rfl⟩ | ⟨x, t, rfl, rfl⟩ <;> rfl
  pyHash := fun hv h => by
    rcases keyIs_shape hv with ⟨i, t, rfl, rfl⟩ | ⟨x, t, rfl, rfl⟩
    · exact wpAny_pyHash_int h
    · exact wpAny_pyHash_str h
  eqBool := fun hu hv h => by
    rcases keyIs_shape hu with ⟨i, t, rfl, rfl⟩ | ⟨x, t, rfl, rfl⟩
    · rcases keyIs_shape hv with ⟨j, u, rfl, rfl⟩ | ⟨y, u, rfl, rfl⟩
      · rw [key_ll] at h; exact wpAny_eqBool_int h
      · rw [key_lr] at h; exact SeqAt.EqAt.int_str i t y u _ _ _ _ h
    · rcases keyIs_shape hv with ⟨j, u, rfl, rfl⟩ | ⟨y, u, rfl, rfl⟩
      · rw [key_rl] at h; exact SeqAt.EqAt.str_int x t j u _ _ _ _ h
      · rw [key_rr] at h; exact wpAny_eqBool_str h
  «strs» := fun k x t v h => by
    rcases keyIs_shape h with ⟨i, u, rfl, e⟩ | ⟨y, u, rfl, e⟩
    · exact nomatch e
    · injection e with e1 _
      subst e1
      cases v <;> rfl
theorem mixKind_int (prog : Program) (w : World) (i : Int) (t : Tok) : (mixKind prog w).is (.inl i) (.int i t) = true := keyIs_int i t
theorem mixKind_str (prog : Program) (w : World) (x : Str) (t : Tok) : (mixKind prog w).is (.inr x) (.str x t) = true := keyIs_str x t
end L2
namespace L2
open PySem PySem.Spec PyProof.Rows
inductive V where
  | non | bl (b : Bool) | int (i : Int) | str (x : Str) | byt (b : Array UInt8) | flt (b : UInt64) | ref (a : Addr) | ty (n : String)
  deriving DecidableEq
def RelV : V → Value → Prop
  | .non, u => u = Value.none
  | .bl b, u => u = Value.bool b
  | .int i, u => ∃ t, u = Value.int i t
  | .str x, u => ∃ t, u = Value.str x t
  | .byt b, u => ∃ t, u = Value.bytes b t
  | .flt b, u => ∃ t, u = Value.float b t
  | .ref a, u => u = Value.ref a
  | .ty n, u => u = Value.type n
abbrev Vals : List V → List Value → Prop := Paired RelV
theorem Vals.length {xs : List V} {us : List Value} (r : Vals xs us) : xs.length = us.length := Paired.length r
theorem Vals.get : ∀ {xs : List V} {us : List Value} {i : Nat} {x : V}, Vals xs us → xs[i]? = some x → ∃ u, us[i]? = some u ∧ RelV x u
  | _, _, _, _, .nil, e => by simp at e
  | _, _, 0, _, .cons r _, e => by simp at e; subst e; exact ⟨_, rfl, r⟩
  | _, _, i + 1, x, .cons _ t, e => by
    obtain ⟨u, h1, h2⟩ := Vals.get (i := i) (x := x) t (by simpa using e)
    exact ⟨u, by simpa using h1, h2⟩
theorem Vals.append : ∀ {xs ys : List V} {us ws : List Value}, Vals xs us → Vals ys ws → Vals (xs ++ ys) (us ++ ws)
  | _, _, _, _, .nil, s => s
  | _, _, _, _, .cons r t, s => .cons r (Vals.append t s)
theorem Vals.take : ∀ {xs : List V} {us : List Value} (n : Nat), Vals xs us → Vals (xs.take n) (us.take n)
  | _, _, 0, _ => .nil
  | _, _, _ + 1, .nil => .nil
  | _, _, n + 1, .cons r t => .cons r (Vals.take n t)
theorem Vals.drop : ∀ {xs : List V} {us : List Value} (n : Nat), Vals xs us → Vals (xs.drop n) (us.drop n)
  | _, _, 0, r => r
  | _, _, _ + 1, .nil => .nil
  | _, _, n + 1, .cons _ t => Vals.drop n t
def RelO : Option V → Option Value → Prop
  | some v, some u => RelV v u
  | none, none => True
  | _, _ => False
def KV {κ : Type} : List (κ × V) → List (κ × Value) → Prop := Paired fun (p : κ × V) (q : κ × Value) => p.1 = q.1 ∧ RelV p.2 q.2
def kV : Key → V
  | .inl i => .int i
  | .inr x => .str x
inductive HO where
  | lst (xs : List V)
  | tup (xs : List V)
  | dK (kvs : List (Key × V)) | dT (kvs : List (List Key × V))
  | set (S : Int → Bool) (n : Nat)
  | ins (C dx : Addr) (fs : List (Str × V))
  | own (x : Addr)
  | xd (fs : List (Str × V))
  | met (f x : Addr)
  | rng (lo hi : Int)
  | frz (o : Obj) (u : HO)
  | tbl (ps : Array Value)
  | ext (φ : Heap → Prop)
abbrev Hp := Addr → Option HO
def upd (H : Hp) (a : Addr) (o : HO) : Hp := fun b => if b = a then some o else H b
theorem upd_same {H : Hp} {a : Addr} {o : HO} : upd H a o a = some o := by unfold upd; rw [if_pos rfl]
theorem upd_ne {H : Hp} {a b : Addr} {o : HO} (h : b ≠ a) : upd H a o b = H b := by unfold upd; rw [if_neg h]
theorem ne_of {H : Hp} {a b : Addr} {o u : HO} (h : H a = some o) (h' : H b = some u) (d : o ≠ u) : a ≠ b := by
  intro e; subst e; rw [h] at h'; exact d (Option.some.inj h')
theorem ne_of_none {H : Hp} {a b : Addr} {o : HO} (h : H a = some o) (h' : H b = none) : a ≠ b := by
  intro e; subst e; rw [h] at h'; cases h'
section
variable (P : Program) (w : World)
def ObjOk (H : Hp) (h : Heap) (a : Addr) : HO → Prop
  | .lst xs => xs.length ≤ sizeLine ∧ ∃ (its : List Value) (n : Nat), Vals xs its ∧ h.get? a = some { cls := .type "list", data := .seq its.toArray n }
  | .tup xs => xs.length ≤ sizeLine ∧ ∃ its : List Value, Vals xs its ∧ IsTup h a its.toArray
  | .dK kvs => kvs.length ≤ sizeLine ∧ (a == sysModules) = false ∧ ∃ vs, KV kvs vs ∧ h.DictOf (mixKind P w) a vs
  | .dT kvs => kvs.length ≤ sizeLine ∧ (a == sysModules) = false ∧ ∃ xs : List (List Key × Addr × Value),
      Paired (fun (p : List Key × V) (q : List Key × Addr × Value) => p.1 = q.1 ∧ H q.2.1 = some (.tup (p.1.map kV)) ∧ RelV p.2 q.2.2) kvs xs ∧
      ∃ o es ep, h.get? a = some o ∧ o.ExactDict ∧ o.data = .dict es ep ∧ es.toList = xs.map (entryOfKey (tupleKind (mixKind P w))) ∧ (xs.map (·.1)).Nodup
  | .set S n => h.SetOf (intKind P w) a S n
  | .ins C dx fs => H dx = some (.own a) ∧ fs.length ≤ 1000 ∧ dx ≠ a ∧ h.get? a = some (PySem.W.instObj C dx) ∧
      ∃ mA, h.Ns1 dx mA ∧ (∀ f, RelO (fs.lookup f) (mA f)) ∧ PySem.Within mA (fs.map (·.1))
  | .own _ => ∃ o, h.get? a = some o
  | .xd fs => ∃ mA, h.Ns1 a mA ∧ ∀ f, RelO (fs.lookup f) (mA f)
  | .rng lo hi => ∃ t u v, h.get? a = some { cls := .type "range", data := .fields #[.int lo t, .int hi u, .int 1 v] }
  | .frz o u => h.get? a = some o ∧ ObjOk H h a u
  | .tbl ps => h.get? a = some { cls := .none, data := .fields ps }
  | .met f x => h.get? a = some (PySem.W.methodObj (.ref f) (.ref x))
  | .ext φ => φ h ∧ (∃ o, h.get? a = some o) ∧ ∀ h1 h2 : Heap, φ h1 → (∀ o, h1.get? a = some o → h2.get? a = some o) → φ h2
def HOk (H : Hp) (h : Heap) : Prop := ∀ a o, H a = some o → ObjOk P w H h a o
end
section
variable {P : Program} {w : World} {H H' : Hp} {h h' : Heap} {a : Addr} {o : HO}
theorem ObjOk.lt (x : ObjOk P w H h a o) : a < h.objs.size := by
  cases o with
  | lst xs => obtain ⟨_, _, _, _, e⟩ := x; exact Heap.lt_size e
  | tup xs => obtain ⟨_, _, _, p⟩ := x; exact p.lt
  | dK kvs => obtain ⟨_, _, _, _, o, _, _, e, _⟩ := x; exact Heap.lt_size e
  | dT kvs => obtain ⟨_, _, _, _, o, _, _, e, _⟩ := x; exact Heap.lt_size e
  | set S n => obtain ⟨o, _, _, _, e, _⟩ := x; exact Heap.lt_size e
  | ins C dx fs => obtain ⟨_, _, _, e, _⟩ := x; exact Heap.lt_size e
  | own y => obtain ⟨_, e⟩ := x; exact Heap.lt_size e
  | xd fs => obtain ⟨_, ⟨_, _, _, e, _⟩, _⟩ := x; exact Heap.lt_size e
  | rng lo hi => obtain ⟨_, _, _, e⟩ := x; exact Heap.lt_size e
  | frz ob u => obtain ⟨e, _⟩ := x; exact Heap.lt_size e
  | tbl ps => exact Heap.lt_size (show h.get? a = some _ from x)
  | met f y => exact Heap.lt_size (show h.get? a = some _ from x)
  | ext φ => obtain ⟨_, ⟨_, e⟩, _⟩ := x; exact Heap.lt_size e
theorem Paired.mapP {α β : Type} {F G : α → β → Prop} : ∀ {l₁ : List α} {l₂ : List β}, Paired F l₁ l₂ → (∀ a b, F a b → G a b) → Paired G l₁ l₂
  | _, _, .nil, _ => .nil
  | _, _, .cons r t, f => .cons (f _ _ r) (Paired.mapP t f)
theorem ObjOk.stay (x : ObjOk P w H h a o) (k : ∀ b u, (b = a ∨ H b = some (.own a)) → h.get? b = some u → h'.get? b = some u)
    (ho : ∀ b, H b = some (.own a) → H' b = some (.own a)) (ht : ∀ b xs, H b = some (.tup xs) → H' b = some (.tup xs)) : ObjOk P w H' h' a o := by
  induction o with
  | lst xs => obtain ⟨z, its, n, r, e⟩ := x; exact ⟨z, its, n, r, k _ _ (.inl rfl) e⟩
  | tup xs => obtain ⟨z, its, r, ob, e, c⟩ := x; exact ⟨z, its, r, ob, k _ _ (.inl rfl) e, c⟩
  | dK kvs => obtain ⟨z, y, vs, r, ob, es, ep, e, c⟩ := x; exact ⟨z, y, vs, r, ob, es, ep, k _ _ (.inl rfl) e, c⟩
  | dT kvs =>
    obtain ⟨z, y, xs, r, ob, es, ep, e, c⟩ := x
    exact ⟨z, y, xs, Paired.mapP r fun p q z => ⟨z.1, ht _ _ z.2.1, z.2.2⟩, ob, es, ep, k _ _ (.inl rfl) e, c⟩
  | set S n => obtain ⟨ob, es, ep, t, e, c⟩ := x; exact ⟨ob, es, ep, t, k _ _ (.inl rfl) e, c⟩
  | ins C dx fs =>
    obtain ⟨d, z, ne, e, mA, ⟨od, es, ep, e2, c⟩, r⟩ := x
    exact ⟨ho _ d, z, ne, k _ _ (.inl rfl) e, mA, ⟨od, es, ep, k _ _ (.inr d) e2, c⟩, r⟩
  | own y => obtain ⟨ob, e⟩ := x; exact ⟨ob, k _ _ (.inl rfl) e⟩
  | xd fs => obtain ⟨mA, ⟨od, es, ep, e, c⟩, r⟩ := x; exact ⟨mA, ⟨od, es, ep, k _ _ (.inl rfl) e, c⟩, r⟩
  | rng lo hi => obtain ⟨t, u, v, e⟩ := x; exact ⟨t, u, v, k _ _ (.inl rfl) e⟩
  | frz ob u ih => obtain ⟨e, q⟩ := x; exact ⟨k _ _ (.inl rfl) e, ih q⟩
  | tbl ps =>
    have e : h.get? a = some { cls := .none, data := .fields ps } := x
    show h'.get? a = some { cls := .none, data := .fields ps }
    exact k a _ (.inl rfl) e
  | met f y =>
    have e : h.get? a = some (PySem.W.methodObj (.ref f) (.ref y)) := x
    show h'.get? a = some (PySem.W.methodObj (.ref f) (.ref y))
    exact k a _ (.inl rfl) e
  | ext φ => obtain ⟨p, ⟨o, e⟩, st⟩ := x; exact ⟨st _ _ p fun o q => k _ _ (.inl rfl) q, ⟨o, k _ _ (.inl rfl) e⟩, st⟩
theorem HOk.lt (x : HOk P w H h) (e : H a = some o) : a < h.objs.size := (x a o e).lt
theorem HOk.fresh (x : HOk P w H h) (e : h.objs.size ≤ a) : H a = none := by
  cases q : H a with
  | none => rfl
  | some u => exact absurd (Nat.lt_of_lt_of_le (x.lt q) e) (Nat.lt_irrefl _)
theorem HOk.kept (x : HOk P w H h) (k : ∀ b u, h.get? b = some u → h'.get? b = some u) : HOk P w H h' := fun a o e =>
  (x a o e).stay (fun b u _ q => k b u q) (fun _ q => q) fun _ _ q => q
theorem HOk.laid (x : HOk P w H h) (k : ∀ b u, h.get? b = some u → h'.get? b = some u) (hp : h.objs.size ≤ a) (new : ObjOk P w (upd H a o) h' a o) : HOk P w (upd H a o) h' := fun b u e => by
  have hn := x.fresh hp
  by_cases hb : b = a
  · subst hb; rw [upd_same] at e; cases e; exact new
  · rw [upd_ne hb] at e
    exact (x b u e).stay (fun c v _ q => k c v q) (fun c q => by rw [upd_ne (ne_of_none q hn)]; exact q) fun c xs q => by rw [upd_ne (ne_of_none q hn)]; exact q
end
def Rd (H : Hp) (a : Addr) (u : HO) : Prop := H a = some u ∨ ∃ o, H a = some (.frz o u)
theorem Rd.ok {P : Program} {w : World} {H : Hp} {h : Heap} {a : Addr} {u : HO} (r : Rd H a u) (x : HOk P w H h) : ObjOk P w H h a u := by
  rcases r with r | ⟨o, r⟩
  · exact x a u r
  · obtain ⟨_, q⟩ := x a _ r
    exact q
def Mut : Option HO → Prop
  | some (.lst _) => True
  | some (.dK _) => True
  | some (.dT _) => True
  | some (.set _ _) => True
  | some (.ins _ _ _) => True
  | some (.ext _) => True
  | _ => False
section
variable {P : Program} {w : World} {H : Hp} {h h' : Heap} {x e : Addr} {o' : HO}
theorem HOk.write (ok : HOk P w H h) (mu : Mut (H x)) (he : e = x ∨ H e = some (.own x)) (k : ∀ b u, b ≠ e → h.get? b = some u → h'.get? b = some u) (heo : ∃ u, h'.get? e = some u)
    (new : ObjOk P w (upd H x o') h' x o') : HOk P w (upd H x o') h' := fun b u q => by
  have nown : ∀ c y, H c = some (.own y) → c ≠ x := fun c y r z => by subst z; rw [r] at mu; exact mu
  have ntup : ∀ c xs, H c = some (.tup xs) → c ≠ x := fun c xs r z => by subst z; rw [r] at mu; exact mu
  by_cases hb : b = x
  · subst hb; rw [upd_same] at q; cases q; exact new
  · rw [upd_ne hb] at q
    by_cases hbe : b = e
    · have q' : H b = some (.own x) := by
        rcases he with z | z
        · exact absurd (hbe.trans z) hb
        · rw [hbe]; exact z
      rw [q] at q'; cases q'
      obtain ⟨v, hv⟩ := heo
      exact ⟨v, by rw [hbe]; exact hv⟩
    · refine (ok b u q).stay (fun c v hc r => k c v ?_ r) (fun c r => by rw [upd_ne (nown c b r)]; exact r) fun c xs r => by rw [upd_ne (ntup c xs r)]; exact r
      rcases hc with rfl | hc
      · exact hbe
      · rintro rfl
        rcases he with z | z
        · exact nown c b hc z
        · rw [hc] at z; cases z; exact hb rfl
end
structure Un (fs ex : List Addr) (H H' : Hp) (h h' : Heap) : Prop where
  keep : ∀ b o, h.get? b = some o → H b = none → b ∉ fs → b ∉ ex → h'.get? b = some o
  slot : ∀ b o, h.get? b = some o → H b = none → b ∈ fs → b ∉ ex → ∃ sl, h'.get? b = some { o with slots := sl }
  free : ∀ b o, h.get? b = some o → H b = none → b ∉ ex → H' b = none
  there : ∀ b o, h.get? b = some o → b ∉ ex → ∃ o', h'.get? b = some o'
  tups : ∀ b xs, H b = some (.tup xs) → H' b = some (.tup xs)
  frzs : ∀ b o u, H b = some (.frz o u) → H' b = some (.frz o u)
  tbls : ∀ b ps, H b = some (.tbl ps) → ∃ more, H' b = some (.tbl (ps ++ more))
section
variable {fs fs' ex ex' : List Addr} {H H1 H2 : Hp} {h h1 h2 h' : Heap} {a x e : Addr} {o : HO}
theorem Un.any (u : Un fs ex H H1 h h1) {b : Addr} {ob : Obj} (q : h.get? b = some ob) (n : H b = none) (hx : b ∉ ex) : ∃ sl, h1.get? b = some { ob with slots := sl } := by
  by_cases hb : b ∈ fs
  · exact u.slot b ob q n hb hx
  · exact ⟨ob.slots, u.keep b ob q n hb hx⟩
theorem Un.kept (k : ∀ b u, h.get? b = some u → h'.get? b = some u) : Un fs ex H H h h' :=
  ⟨fun b ob q _ _ _ => k b ob q, fun b ob q _ _ _ => ⟨ob.slots, k b ob q⟩, fun _ _ _ n _ => n, fun b ob q _ => ⟨ob, k b ob q⟩, fun _ _ q => q, fun _ _ _ q => q, fun _ ps q => ⟨#[], by rw [q]; simp⟩⟩
theorem Un.refl : Un fs ex H H h h := Un.kept fun _ _ q => q
theorem Un.laid (k : ∀ b u, h.get? b = some u → h'.get? b = some u) (hp : h.objs.size ≤ a) (hn : H a = none) : Un fs ex H (upd H a o) h h' where
  keep := fun b u q _ _ _ => k b u q
  slot := fun b u q _ _ _ => ⟨u.slots, k b u q⟩
  free := fun b u q n _ => by rw [upd_ne (Nat.ne_of_lt (Nat.lt_of_lt_of_le (Heap.lt_size q) hp))]; exact n
  there := fun b u q _ => ⟨u, k b u q⟩
  tups := fun b xs q => by rw [upd_ne (ne_of_none q hn)]; exact q
  frzs := fun b u xs q => by rw [upd_ne (ne_of_none q hn)]; exact q
  tbls := fun b ps q => ⟨#[], by rw [upd_ne (ne_of_none q hn), q]; simp⟩
theorem Un.write (mu : Mut (H x)) (he : e = x ∨ H e = some (.own x)) (k : ∀ b u, b ≠ e → h.get? b = some u → h'.get? b = some u) (heo : ∃ u, h'.get? e = some u) : Un fs ex H (upd H x o) h h' := by
  have hx : ∀ b, H b = none → b ≠ x := fun b n z => by subst z; rw [n] at mu; exact mu
  have hb : ∀ b, H b = none → b ≠ e := fun b n z => by
    subst z
    rcases he with r | r
    · exact hx b n r
    · rw [n] at r; cases r
  have hm : ∀ b u, H b = some u → ¬ Mut (some u) → b ≠ x := fun b u q nm z => by subst z; rw [q] at mu; exact nm mu
  refine ⟨fun b u q n _ _ => k b u (hb b n) q, fun b u q n _ _ => ⟨u.slots, k b u (hb b n) q⟩, fun b u q n _ => by rw [upd_ne (hx b n)]; exact n, fun b u q _ => ?_,
    fun b xs q => by rw [upd_ne (hm b _ q fun z => z)]; exact q, fun b u xs q => by rw [upd_ne (hm b _ q fun z => z)]; exact q, fun b ps q => ⟨#[], by rw [upd_ne (hm b _ q fun z => z), q]; simp⟩⟩
  by_cases hbe : b = e
  · subst hbe; exact heo
  · exact ⟨u, k b u hbe q⟩
end
def trk (h : Heap) (H : Hp) : List Addr := (List.range h.objs.size).filter fun a => (H a).isSome
def hidT (h : Heap) (H : Hp) : Heap := PySem.W.hideAll h (trk h H)
theorem hidT_size (h : Heap) (H : Hp) : (hidT h H).objs.size = h.objs.size := PySem.W.hideAll_size _ _
theorem hidT_get {h : Heap} {H : Hp} {b : Addr} {o : Obj} (e : h.get? b = some o) (n : H b = none) : (hidT h H).get? b = some o :=
  PySem.W.hideAll_get _ e fun hm => by
    have q : (H b).isSome = true := (List.mem_filter.mp hm).2
    rw [n] at q; simp at q
theorem of_hidT {h : Heap} {H : Hp} {b : Addr} {o : Obj} (e : (hidT h H).get? b = some o) : h.get? b = some o ∧ H b = none := by
  have e' : h.get? b = some o := PySem.W.of_hideAll (trk h H) e
  refine ⟨e', ?_⟩
  cases q : H b with
  | none => rfl
  | some x =>
    have hm : b ∈ trk h H := List.mem_filter.mpr ⟨List.mem_range.mpr (Heap.lt_size e'), by simp [q]⟩
    have z : (hidT h H).get? b = none := PySem.W.hideAll_none (trk h H) hm
    rw [z] at e; cases e
end L2
namespace L2
open PySem PySem.Spec PyProof.Rows
structure Mod (K : PySem.W.Frag) (mg : Str → Option Value) (base : Heap) : Prop where
  kin : K.In base
  glob : base.Ns mainGlobals mg
  blt : ∃ mb, base.Ns builtinsNs mb ∧ ∀ x : Str, x ≠ "__name__" → mb x = bootBuiltins x
  nolimit : base.NoLimit
/-- the context: a def's body (or a comprehension's block) running. base: fixed through the whole law; s₀, H₀: the entry; outer: the frames whose slots others may change (a def's callers); stack: all frames that run;
   ex: iterators that were made ahead of the entry and are walked here (a comprehension's); fn: the names whose cells were made at the entry (a def: all; a comprehension's block: its own); calm: not within an except suite; pn: pins that every state bears; xe: what is wanted of an exception that leaves the code -/
structure Cx where
  prog : Program
  w : World
  K : PySem.W.Frag
  mg : Str → Option Value
  base : Heap
  A : Around
  N : List Str
  s₀ : Shared
  H₀ : Hp
  env : Env
  outer : List Env
  stack : List Env
  ex : List Addr
  fn : Str → Bool
  calm : Bool
  pn : List (Addr × Obj)
  xe : Value → Shared → Prop
def frs (l : List Env) : List Addr := l.filterMap (·.frame)
abbrev Cx.fs (X : Cx) : List Addr := frs X.outer
def Vis (sc : Scope) (x : Str) : Prop := sc.names.lookup x = some .local ∨ sc.names.lookup x = some .cell ∨ sc.names.lookup x = some .free
def Loc (sc : Scope) (x : Str) : Prop := sc.names.lookup x = some .local ∨ sc.names.lookup x = some .cell
def Look (env : Env) (h : Heap) (m : Str → Option Value) (x : Str) (u : Value) : Prop :=
  (env.kindOf x = some .local ∧ m x = some u) ∨ ((env.kindOf x = some .cell ∨ env.kindOf x = some .free) ∧ ∃ c, env.cells.lookup x = some c ∧ h.IsCell c (some u))
structure Cx.Ok (X : Cx) : Prop where
  mod : Mod X.K X.mg X.base
  kind : X.env.scope.kind = .function
  glob : X.env.globals = mainGlobals
  blt : X.env.builtins = builtinsNs
  above : X.s₀.heap.objs.size ≤ X.env.locals
  inj : ∀ x y c, X.env.cells.lookup x = some c → X.env.cells.lookup y = some c → x = y
  has : ∀ x, (X.env.kindOf x = some .cell ∨ X.env.kindOf x = some .free) → ∃ c, X.env.cells.lookup x = some c
  cab : ∀ x c, X.fn x = true → X.env.cells.lookup x = some c → X.s₀.heap.objs.size ≤ c
  hd : X.calm = true → X.A.handled = none
  frames : X.A.frames = some X.stack
  stk : X.stack = X.outer ∨ (X.stack = X.env :: X.outer ∧ X.env.frame = some X.env.locals)
  exf : ∀ b ∈ X.ex, b ≠ X.env.locals ∧ ∀ x c, X.env.cells.lookup x = some c → c ≠ b
  bs : ∀ b o, X.base.get? b = some o → X.s₀.heap.get? b = some o ∧ X.H₀ b = none
  bsz : X.base.objs.size ≤ X.s₀.heap.objs.size
  noex : ∀ b o, X.base.get? b = some o → b ∉ X.ex
  exfs : ∀ b ∈ X.ex, b ∉ X.fs
  funs : X.s₀.heap.FunFrames X.base X.outer
  frf : ∀ b ∈ X.fs, X.H₀ b = none
structure Inv (X : Cx) (pins : List (Addr × Obj)) (σ : List (Option V)) (H : Hp) (s : Shared) : Prop where
  ok : X.Ok
  os : s.os = X.s₀.os
  bare : AllBare s.gens
  base : Un X.fs X.ex X.H₀ H X.s₀.heap s.heap
  loc : ∃ m, s.heap.Ns X.env.locals m ∧ ∀ (i : Nat) (x : Str) (v : V), X.N[i]? = some x → σ[i]? = some (some v) → Vis X.env.scope x → ∃ u, RelV v u ∧ Look X.env s.heap m x u
  cell : ∀ x c, X.env.cells.lookup x = some c → ∃ v, s.heap.IsCell c v
  free : H X.env.locals = none
  freeC : ∀ x c, X.env.cells.lookup x = some c → H c = none
  pin : ∀ p ∈ X.pn ++ pins, s.heap.get? p.1 = some p.2 ∧ H p.1 = none ∧ p.1 ≠ X.env.locals ∧ p.1 ∉ X.fs ∧ ∀ v, p.2.data ≠ .cell v
  hok : HOk X.prog X.w H s.heap
  len : σ.length = X.N.length
section
variable {X : Cx} {pins : List (Addr × Obj)} {σ : List (Option V)} {H H' : Hp} {s : Shared} {h' : Heap}
theorem Cx.Ok.nofr (ok : X.Ok) {b : Addr} {o : Obj} (e : X.base.get? b = some o) : b ∉ X.fs := fun hb => by
  have := (ok.funs.mem hb).1
  rw [e] at this; cases this
theorem Inv.bs (I : Inv X pins σ H s) : ∀ b o, X.base.get? b = some o → s.heap.get? b = some o ∧ H b = none := fun b o e =>
  ⟨I.base.keep b o (I.ok.bs b o e).1 (I.ok.bs b o e).2 (I.ok.nofr e) (I.ok.noex b o e), I.base.free b o (I.ok.bs b o e).1 (I.ok.bs b o e).2 (I.ok.noex b o e)⟩
theorem Inv.bk (I : Inv X pins σ H s) : ∀ b o, X.base.get? b = some o → s.heap.get? b = some o := fun b o e => (I.bs b o e).1
theorem Inv.mod (I : Inv X pins σ H s) : Mod X.K X.mg X.base := I.ok.mod
theorem Inv.kIn (I : Inv X pins σ H s) : X.K.In s.heap := I.ok.mod.kin.keeps I.bk
theorem Inv.lt (I : Inv X pins σ H s) : X.env.locals < s.heap.objs.size := let ⟨_, hn, _⟩ := I.loc; hn.lt
theorem Inv.sz (I : Inv X pins σ H s) : X.s₀.heap.objs.size ≤ s.heap.objs.size := Nat.le_trans I.ok.above (Nat.le_of_lt I.lt)
theorem Inv.nofs (I : Inv X pins σ H s) {a : Addr} (h : s.heap.objs.size ≤ a) : a ∉ X.fs := fun hb => by
  obtain ⟨_, o, ho, _⟩ := I.ok.funs.mem hb
  exact absurd (Nat.lt_of_lt_of_le (Heap.lt_size ho) (Nat.le_trans I.sz h)) (Nat.lt_irrefl _)
theorem Inv.cne (I : Inv X pins σ H s) : ∀ x c, X.env.cells.lookup x = some c → c ≠ X.env.locals := fun x c e z => by
  obtain ⟨v, o, ho, hd⟩ := I.cell x c e
  obtain ⟨m, ⟨o', es, ep, ho', hd', _⟩, _⟩ := I.loc
  rw [z, ho'] at ho; cases ho; rw [hd'] at hd; cases hd
theorem Inv.funs (I : Inv X pins σ H s) : s.heap.FunFrames X.base X.outer := by
  have all : ∀ (l : List Env), (∀ b ∈ frs l, b ∈ X.fs) → X.s₀.heap.FunFrames X.base l → s.heap.FunFrames X.base l := by
    intro l
    induction l with
    | nil => intro _ _; trivial
    | cons env r ih =>
      intro hs hl
      obtain ⟨hk, ⟨L, o, hf, hn, ho, hd⟩, hr⟩ := hl
      have hL : L ∈ X.fs := hs L (by unfold frs; rw [List.filterMap_cons, hf]; exact List.mem_cons_self)
      obtain ⟨sl, e⟩ := I.base.slot L o ho (I.ok.frf L hL) hL fun z => I.ok.exfs L z hL
      exact ⟨hk, ⟨L, _, hf, hn, e, hd⟩, ih (fun b hb => hs b (by unfold frs; rw [List.filterMap_cons, hf]; exact List.mem_cons_of_mem _ hb)) hr⟩
  exact all X.outer (fun _ hb => hb) I.ok.funs
theorem Inv.stack (I : Inv X pins σ H s) : s.heap.FunFrames X.base X.stack := by
  rcases I.ok.stk with e | ⟨e, hf⟩
  · rw [e]; exact I.funs
  · rw [e]
    obtain ⟨m, hn, _⟩ := I.loc
    refine .cons (by rw [I.ok.kind]; decide) hf hn ?_ I.funs
    exact Heap.get?_none_of_le (Nat.le_trans I.ok.bsz I.ok.above)
theorem Inv.stkSub (I : Inv X pins σ H s) : ∀ b ∈ frs X.stack, b ∈ X.env.locals :: X.fs := fun b hb => by
  rcases I.ok.stk with e | ⟨e, hf⟩
  · rw [e] at hb; exact List.mem_cons_of_mem _ hb
  · rw [e] at hb
    unfold frs at hb
    rw [List.filterMap_cons, hf] at hb
    exact hb
theorem Inv.stkFree (I : Inv X pins σ H s) : ∀ b ∈ frs X.stack, H b = none := fun b hb => by
  rcases List.mem_cons.mp (I.stkSub b hb) with e | hb
  · rw [e]; exact I.free
  · obtain ⟨_, o, ho, _⟩ := I.ok.funs.mem hb
    exact I.base.free b o ho (I.ok.frf b hb) fun z => I.ok.exfs b z hb
theorem Inv.step {g' : Array GenState} {t' : Nat} {d' : Drawn} {ch : List Addr} (I : Inv X pins σ H s)
    (hch : ∀ b ∈ ch, (b ∈ X.ex ∨ X.s₀.heap.objs.size ≤ b) ∧ b ≠ X.env.locals ∧ (∀ x c, X.env.cells.lookup x = some c → c ≠ b) ∧ ∀ p ∈ X.pn ++ pins, p.1 ≠ b)
    (keep : ∀ b o, b ≠ X.env.locals → b ∉ X.fs → b ∉ ch → s.heap.get? b = some o → H b = none → h'.get? b = some o)
    (slot : ∀ b o, b ≠ X.env.locals → b ∈ X.fs → b ∉ ch → s.heap.get? b = some o → H b = none → ∃ sl, h'.get? b = some { o with slots := sl }) (free : ∀ b o, b ∉ ch → s.heap.get? b = some o → H b = none → H' b = none)
    (there : ∀ b o, b ∉ ch → s.heap.get? b = some o → ∃ o', h'.get? b = some o')
    (tups : ∀ b xs, H b = some (.tup xs) → H' b = some (.tup xs)) (frzs : ∀ b o u, H b = some (.frz o u) → H' b = some (.frz o u)) (tbls : ∀ b ps, H b = some (.tbl ps) → ∃ more, H' b = some (.tbl (ps ++ more)))
    (ns : ∀ m, s.heap.Ns X.env.locals m → h'.Ns X.env.locals m) (hok : HOk X.prog X.w H' h') (hg : AllBare g') :
    Inv X pins σ H' { s with heap := h', gens := g', drawn := d', toks := t' } := by
  have neL : ∀ b o, X.s₀.heap.get? b = some o → b ≠ X.env.locals := fun b o e => Nat.ne_of_lt (Nat.lt_of_lt_of_le (Heap.lt_size e) I.ok.above)
  have neC : ∀ b o, X.s₀.heap.get? b = some o → b ∉ X.ex → b ∉ ch := fun b o e hx hb => by
    rcases (hch b hb).1 with z | z
    · exact hx z
    · exact absurd (Nat.lt_of_lt_of_le (Heap.lt_size e) z) (Nat.lt_irrefl _)
  have cellK : ∀ x c, X.env.cells.lookup x = some c → ∀ v, s.heap.IsCell c v → h'.IsCell c v := fun x c e v ⟨o, ho, hd⟩ => by
    have nch : c ∉ ch := fun z => (hch c z).2.2.1 x c e rfl
    by_cases hc : c ∈ X.fs
    · obtain ⟨sl, q⟩ := slot c o (I.cne x c e) hc nch ho (I.freeC x c e)
      exact ⟨_, q, hd⟩
    · exact ⟨o, keep c o (I.cne x c e) hc nch ho (I.freeC x c e), hd⟩
  refine ⟨I.ok, I.os, hg, ⟨fun b o e n hb hx => ?_, fun b o e n hb hx => ?_, fun b o e n hx => ?_, fun b o e hx => ?_, fun b xs e => tups b xs (I.base.tups b xs e), fun b o xs e => frzs b o xs (I.base.frzs b o xs e), fun b ps e => ?_⟩, ?_, fun x c e => ?_, ?_, fun x c e => ?_, fun p hp => ?_, hok, I.len⟩
  · exact keep b o (neL b o e) hb (neC b o e hx) (I.base.keep b o e n hb hx) (I.base.free b o e n hx)
  · obtain ⟨sl, e1⟩ := I.base.slot b o e n hb hx
    obtain ⟨sl', e2⟩ := slot b _ (neL b o e) hb (neC b o e hx) e1 (I.base.free b o e n hx)
    exact ⟨sl', e2⟩
  · obtain ⟨o', e1⟩ := I.base.there b o e hx
    exact free b o' (neC b o e hx) e1 (I.base.free b o e n hx)
  · obtain ⟨o', e1⟩ := I.base.there b o e hx
    exact there b o' (neC b o e hx) e1
  · obtain ⟨m1, e1⟩ := I.base.tbls b ps e
    obtain ⟨m2, e2⟩ := tbls b _ e1
    exact ⟨m1 ++ m2, by rw [e2, Array.append_assoc]⟩
  · obtain ⟨m, hn, hl⟩ := I.loc
    refine ⟨m, ns m hn, fun i x v e1 e2 e3 => ?_⟩
    obtain ⟨u, r, l⟩ := hl i x v e1 e2 e3
    refine ⟨u, r, ?_⟩
    rcases l with l | ⟨k, c, e, z⟩
    · exact .inl l
    · exact .inr ⟨k, c, e, cellK x c e _ z⟩
  · obtain ⟨v, z⟩ := I.cell x c e
    exact ⟨v, cellK x c e v z⟩
  · obtain ⟨m, ⟨o, _, _, ho, _⟩, _⟩ := I.loc
    exact free _ o (fun z => (hch _ z).2.1 rfl) ho I.free
  · obtain ⟨v, o, ho, hd⟩ := I.cell x c e
    exact free c o (fun z => (hch c z).2.2.1 x c e rfl) ho (I.freeC x c e)
  · obtain ⟨e, n, ne, nf, d⟩ := I.pin p hp
    have nch : p.1 ∉ ch := fun z => (hch p.1 z).2.2.2 p hp rfl
    exact ⟨keep p.1 p.2 ne nf nch e n, free p.1 p.2 nch e n, ne, nf, d⟩
theorem Inv.un {t' : Nat} (I : Inv X pins σ H s) (u : Un X.fs [] H H' s.heap h') (hok : HOk X.prog X.w H' h') : Inv X pins σ H' { s with heap := h', toks := t' } := by
  obtain ⟨m, ⟨o, es, ep, ho, r⟩, _⟩ := id I.loc
  obtain ⟨sl, hL⟩ := u.any ho I.free (by simp)
  exact I.step (g' := s.gens) (d' := s.drawn) (ch := []) (fun _ z => nomatch z) (fun b o _ hb _ e n => u.keep b o e n hb (by simp)) (fun b o _ hb _ e n => u.slot b o e n hb (by simp)) (fun b o _ e n => u.free b o e n (by simp)) (fun b o _ e => u.there b o e (by simp)) u.tups u.frzs u.tbls (fun m' hm => by
    obtain ⟨o', es', ep', ho', r'⟩ := hm
    rw [ho] at ho'; cases ho'
    exact ⟨_, es', ep', hL, r'⟩) hok I.bare
theorem Inv.call {g' : Array GenState} {t' : Nat} {d' : Drawn} {ch : List Addr} (I : Inv X pins σ H s) (u : Un (frs X.stack) ch H H' s.heap h') (hok : HOk X.prog X.w H' h') (hg : AllBare g')
    (hch : ∀ b ∈ ch, (b ∈ X.ex ∨ X.s₀.heap.objs.size ≤ b) ∧ b ≠ X.env.locals ∧ (∀ x c, X.env.cells.lookup x = some c → c ≠ b) ∧ ∀ p ∈ X.pn ++ pins, p.1 ≠ b) :
    Inv X pins σ H' { s with heap := h', gens := g', drawn := d', toks := t' } := by
  obtain ⟨m, ⟨o, es, ep, ho, r⟩, _⟩ := id I.loc
  obtain ⟨sl, hL⟩ := u.any ho I.free fun z => (hch _ z).2.1 rfl
  exact I.step (ch := ch) hch (fun b o hL hb hc e n => u.keep b o e n (fun z => (List.mem_cons.mp (I.stkSub b z)).elim hL hb) hc) (fun b o _ _ hc e n => u.any e n hc) (fun b o hc e n => u.free b o e n hc) (fun b o hc e => u.there b o e hc) u.tups u.frzs u.tbls (fun m' hm => by
    obtain ⟨o', es', ep', ho', r'⟩ := hm
    rw [ho] at ho'; cases ho'
    exact ⟨_, es', ep', hL, r'⟩) hok hg
theorem Inv.turned {t' : Nat} {it : Addr} (I : Inv X pins σ H s) (k : ∀ b o, b ≠ it → s.heap.get? b = some o → h'.get? b = some o) (hn : H it = none) (hL : it ≠ X.env.locals)
    (h1 : it ∈ X.ex ∨ X.s₀.heap.objs.size ≤ it) (h2 : ∀ x c, X.env.cells.lookup x = some c → c ≠ it) (h3 : ∀ p ∈ X.pn ++ pins, p.1 ≠ it) : Inv X pins σ H { s with heap := h', toks := t' } := by
  have nit : ∀ b u, H b = some u → b ≠ it := fun b u e z => by rw [z, hn] at e; cases e
  refine I.step (g' := s.gens) (d' := s.drawn) (ch := [it]) (fun b hb => ?_) (fun b o _ _ hc e _ => k b o (fun z => hc (by simp [z])) e) (fun b o _ _ hc e _ => ⟨o.slots, k b o (fun z => hc (by simp [z])) e⟩) (fun _ _ _ _ n => n)
    (fun b o hc e => ⟨o, k b o (fun z => hc (by simp [z])) e⟩) (fun _ _ e => e) (fun _ _ _ e => e) (fun b ps e => ⟨#[], by rw [e]; simp⟩) (fun m hm => ?_) (fun b u e => ?_) I.bare
  · have e : b = it := by simpa using hb
    subst e
    exact ⟨h1, hL, h2, h3⟩
  · obtain ⟨o, es, ep, ho, r⟩ := hm
    exact ⟨o, es, ep, k _ o (Ne.symm hL) ho, r⟩
  · refine (I.hok b u e).stay (fun c v hc q => k c v ?_ q) (fun _ q => q) fun _ _ q => q
    rcases hc with z | z
    · rw [z]; exact nit b u e
    · exact nit c _ z
theorem Inv.tok (I : Inv X pins σ H s) (t : Nat) : Inv X pins σ H { s with toks := t } := I.un (h' := s.heap) (t' := t) Un.refl I.hok
theorem Inv.kept {t' : Nat} (I : Inv X pins σ H s) (k : ∀ b u, s.heap.get? b = some u → h'.get? b = some u) : Inv X pins σ H { s with heap := h', toks := t' } := I.un (Un.kept k) (I.hok.kept k)
theorem Inv.laid {a : Addr} {o : HO} {t' : Nat} (I : Inv X pins σ H s) (k : ∀ b u, s.heap.get? b = some u → h'.get? b = some u) (hp : s.heap.objs.size ≤ a) (new : ObjOk X.prog X.w (upd H a o) h' a o) :
    Inv X pins σ (upd H a o) { s with heap := h', toks := t' } := I.un (Un.laid k hp (I.hok.fresh hp)) (I.hok.laid k hp new)
theorem Inv.write {x e : Addr} {o : HO} {t' : Nat} (I : Inv X pins σ H s) (mu : Mut (H x)) (he : e = x ∨ H e = some (.own x)) (k : ∀ b u, b ≠ e → s.heap.get? b = some u → h'.get? b = some u) (heo : ∃ u, h'.get? e = some u)
    (new : ObjOk X.prog X.w (upd H x o) h' x o) : Inv X pins σ (upd H x o) { s with heap := h', toks := t' } := I.un (Un.write mu he k heo) (I.hok.write mu he k heo new)
theorem Inv.pins_of {pins' : List (Addr × Obj)} (I : Inv X pins σ H s) (h : ∀ p ∈ pins', s.heap.get? p.1 = some p.2 ∧ H p.1 = none ∧ p.1 ≠ X.env.locals ∧ p.1 ∉ X.fs ∧ ∀ v, p.2.data ≠ .cell v) : Inv X pins' σ H s :=
  ⟨I.ok, I.os, I.bare, I.base, I.loc, I.cell, I.free, I.freeC, fun p hp => (List.mem_append.mp hp).elim (fun z => I.pin p (List.mem_append_left _ z)) (h p), I.hok, I.len⟩
theorem nodup_ix {N : List Str} (hN : N.Nodup) {i j : Nat} {x : Str} (a : N[i]? = some x) (b : N[j]? = some x) : i = j := by
  obtain ⟨h1, e1⟩ := List.getElem?_eq_some_iff.mp a
  obtain ⟨h2, e2⟩ := List.getElem?_eq_some_iff.mp b
  exact (List.getElem_inj hN).mp (e1.trans e2.symm)
theorem store_ok2 {M : Model} {A : Around} {E : Value → Shared → Prop} {i : Nat} {x : Str} {v : V} {u : Value} {Q : Unit → Shared → Prop} (I : Inv X pins σ H s) (hN : X.N.Nodup) (hi : X.N[i]? = some x) (hx : Loc X.env.scope x) (r : RelV v u)
    (h : ∀ s', Inv X pins (σ.set i (some v)) H s' → (∃ a, Heap.SameBut a s.heap s'.heap ∧ (a = X.env.locals ∨ X.env.cells.lookup x = some a)) → Q () s') (hf : X.fn x = true ∨ X.env.scope.names.lookup x = some .local := by first | exact .inl rfl | exact .inr rfl | assumption) : wpAny M A (storeName X.env x u) Q E s := by
  obtain ⟨m, hn, hl⟩ := id I.loc
  have hcls : (X.env.scope.kind == .class || (X.env.scope.kind == .module && X.env.locals != X.env.globals)) = false := by rw [I.ok.kind]; rfl
  have hiσ : i < σ.length := by rw [I.len]; exact (List.getElem?_eq_some_iff.mp hi).1
  have cne := I.cne
  have tracked : ∀ {a : Addr} {h' : Heap}, (∃ o, s.heap.get? a = some o ∧ H a = none) → Heap.SameBut a s.heap h' → HOk X.prog X.w H h' := fun {a h'} ha hs b ob e => by
    obtain ⟨_, _, hfree⟩ := ha
    refine (I.hok b ob e).stay (fun c w' hc q => (hs.2 c ?_).trans q) (fun _ q => q) fun _ _ q => q
    rintro rfl
    rcases hc with rfl | hc
    · rw [hfree] at e; cases e
    · rw [hfree] at hc; cases hc
  rcases hx with hk | hk
  · refine wpAny_storeName_local hk hn (fun h' hn' hs => ?_) hcls
    obtain ⟨oL, _, _, hoL, _⟩ := id hn
    refine h _ ⟨I.ok, I.os, I.bare, ⟨fun b o e n hb hx => ?_, fun b o e n hb hx => ?_, I.base.free, fun b o e hx => ?_, I.base.tups, I.base.frzs, I.base.tbls⟩, ⟨_, hn', fun j y v' e1 e2 e3 => ?_⟩, fun y c e => ?_, I.free, I.freeC, fun p hp => ?_, tracked ⟨oL, hoL, I.free⟩ hs, by simpa using I.len⟩ ⟨_, hs, .inl rfl⟩
    · exact (hs.2 b (Nat.ne_of_lt (Nat.lt_of_lt_of_le (Heap.lt_size e) I.ok.above))).trans (I.base.keep b o e n hb hx)
    · obtain ⟨sl, e1⟩ := I.base.slot b o e n hb hx
      exact ⟨sl, (hs.2 b (Nat.ne_of_lt (Nat.lt_of_lt_of_le (Heap.lt_size e) I.ok.above))).trans e1⟩
    · obtain ⟨o', e1⟩ := I.base.there b o e hx
      exact ⟨o', (hs.2 b (Nat.ne_of_lt (Nat.lt_of_lt_of_le (Heap.lt_size e) I.ok.above))).trans e1⟩
    · by_cases hj : j = i
      · subst hj
        rw [hi] at e1; cases e1
        rw [List.getElem?_set_self hiσ] at e2
        cases e2
        exact ⟨u, r, .inl ⟨hk, by simp⟩⟩
      · rw [List.getElem?_set_ne (Ne.symm hj)] at e2
        obtain ⟨u', r', q⟩ := hl j y v' e1 e2 e3
        refine ⟨u', r', ?_⟩
        rcases q with ⟨k, e⟩ | ⟨k, c, e, z⟩
        · refine .inl ⟨k, ?_⟩
          have : y ≠ x := fun e => hj (nodup_ix hN e1 (e ▸ hi))
          simp [this, e]
        · exact .inr ⟨k, c, e, z.sameBut hs (cne y c e)⟩
    · obtain ⟨w', z⟩ := I.cell y c e
      exact ⟨w', z.sameBut hs (cne y c e)⟩
    · obtain ⟨e, n, ne, nf, d⟩ := I.pin p hp
      exact ⟨(hs.2 p.1 ne).trans e, n, ne, nf, d⟩
  · have hfn : X.fn x = true := by
      rcases hf with z | z
      · exact z
      · rw [z] at hk; cases hk
    obtain ⟨c, hc⟩ := I.ok.has x (.inl hk)
    obtain ⟨w', z⟩ := I.cell x c hc
    refine wpAny_storeName_cell I.ok.kind hk hc z (fun h' hc' hs => ?_)
    obtain ⟨oc, hoc, hocd⟩ := id z
    refine h { s with heap := h' } ⟨I.ok, I.os, I.bare, ⟨fun b o e n hb hx => ?_, fun b o e n hb hx => ?_, I.base.free, fun b o e hx => ?_, I.base.tups, I.base.frzs, I.base.tbls⟩, ⟨m, hn.sameBut hs (Ne.symm (cne x c hc)), fun j y v' e1 e2 e3 => ?_⟩, fun y c' e => ?_, I.free, I.freeC, fun p hp => ?_, tracked ⟨oc, hoc, I.freeC x c hc⟩ hs, by simpa using I.len⟩ ⟨c, hs, .inr hc⟩
    · exact (hs.2 b (Nat.ne_of_lt (Nat.lt_of_lt_of_le (Heap.lt_size e) (I.ok.cab x c hfn hc)))).trans (I.base.keep b o e n hb hx)
    · obtain ⟨sl, e1⟩ := I.base.slot b o e n hb hx
      exact ⟨sl, (hs.2 b (Nat.ne_of_lt (Nat.lt_of_lt_of_le (Heap.lt_size e) (I.ok.cab x c hfn hc)))).trans e1⟩
    · obtain ⟨o', e1⟩ := I.base.there b o e hx
      exact ⟨o', (hs.2 b (Nat.ne_of_lt (Nat.lt_of_lt_of_le (Heap.lt_size e) (I.ok.cab x c hfn hc)))).trans e1⟩
    · by_cases hj : j = i
      · subst hj
        rw [hi] at e1; cases e1
        rw [List.getElem?_set_self hiσ] at e2
        cases e2
        exact ⟨u, r, .inr ⟨.inl hk, c, hc, hc'⟩⟩
      · rw [List.getElem?_set_ne (Ne.symm hj)] at e2
        obtain ⟨u', r', q⟩ := hl j y v' e1 e2 e3
        refine ⟨u', r', ?_⟩
        rcases q with q | ⟨k, c', e, z'⟩
        · exact .inl q
        · refine .inr ⟨k, c', e, z'.sameBut hs ?_⟩
          rintro rfl
          exact hj (nodup_ix hN e1 (I.ok.inj _ _ _ e hc ▸ hi))
    · by_cases hcc : c' = c
      · subst hcc; exact ⟨_, hc'⟩
      · obtain ⟨w2, z2⟩ := I.cell y c' e
        exact ⟨w2, z2.sameBut hs hcc⟩
    · obtain ⟨e, n, ne, nf, d⟩ := I.pin p hp
      refine ⟨(hs.2 p.1 ?_).trans e, n, ne, nf, d⟩
      intro q
      rw [q, hoc] at e
      have q' : oc = p.2 := Option.some.inj e
      exact d w' (by rw [← q']; exact hocd)
theorem store_ok {M : Model} {A : Around} {E : Value → Shared → Prop} {i : Nat} {x : Str} {v : V} {u : Value} {Q : Unit → Shared → Prop} (I : Inv X pins σ H s) (hN : X.N.Nodup) (hi : X.N[i]? = some x) (hx : Loc X.env.scope x) (r : RelV v u)
    (h : ∀ s', Inv X pins (σ.set i (some v)) H s' → Q () s') (hf : X.fn x = true ∨ X.env.scope.names.lookup x = some .local := by first | exact .inl rfl | exact .inr rfl | assumption) : wpAny M A (storeName X.env x u) Q E s :=
  store_ok2 I hN hi hx r (fun s' I' _ => h s' I') hf
end
abbrev XK := Value → Option Addr → Hp → Prop
abbrev St := List (Option V)
abbrev VK := V → Hp → Prop
abbrev TE := St → Hp → VK → Prop
abbrev TT := St → Hp → (Bool → Hp → Prop) → Prop
abbrev TA := St → Hp → (List V → Hp → Prop) → Prop
structure Ends where
  nx : St → Hp → Prop
  rt : VK
  bk : St → Hp → Prop := fun _ _ => False
  ct : St → Hp → Prop := fun _ _ => False
abbrev TS := Ends → St → Hp → Prop
def EP (X : Cx) (pins : List (Addr × Obj)) (σ : St) (Q : VK) (u : Value) (s' : Shared) : Prop := ∃ v H', Inv X pins σ H' s' ∧ RelV v u ∧ Q v H'
def TP (X : Cx) (pins : List (Addr × Obj)) (σ : St) (Q : Bool → Hp → Prop) (b : Bool) (s' : Shared) : Prop := ∃ H', Inv X pins σ H' s' ∧ Q b H'
def AP (X : Cx) (pins : List (Addr × Obj)) (σ : St) (Q : List V → Hp → Prop) (us : List Value) (s' : Shared) : Prop := ∃ vs H', Inv X pins σ H' s' ∧ Vals vs us ∧ Q vs H'
def SP (X : Cx) (pins : List (Addr × Obj)) (D : Ends) (f : Flow) (s' : Shared) : Prop :=
  match f with
  | .next => ∃ σ' H', Inv X pins σ' H' s' ∧ D.nx σ' H'
  | .brk => ∃ σ' H', Inv X pins σ' H' s' ∧ D.bk σ' H'
  | .cont => ∃ σ' H', Inv X pins σ' H' s' ∧ D.ct σ' H'
  | .ret u => ∃ v σ' H', Inv X pins σ' H' s' ∧ RelV v u ∧ D.rt v H'
def PE (X : Cx) (e : Expr) (t : TE) : Prop :=
  ∀ (pins : List (Addr × Obj)) (s : Shared) (σ : St) (H : Hp) (Q : VK), Inv X pins σ H s → t σ H Q → wpAny (model X.prog X.w) X.A (eval e X.env) (EP X pins σ Q) X.xe s
def PT (X : Cx) (e : Expr) (t : TT) : Prop :=
  ∀ (pins : List (Addr × Obj)) (s : Shared) (σ : St) (H : Hp) (Q : Bool → Hp → Prop), Inv X pins σ H s → t σ H Q → wpAny (model X.prog X.w) X.A (isTrue e X.env (eval e X.env)) (TP X pins σ Q) X.xe s
def PW (X : Cx) (e : Expr) (t : TT) : Prop :=
  ∀ (whole : Sem Value) (pins : List (Addr × Obj)) (s : Shared) (σ : St) (H : Hp) (Q : Bool → Hp → Prop), Inv X pins σ H s → t σ H Q → wpAny (model X.prog X.w) X.A (isTrue e X.env whole) (TP X pins σ Q) X.xe s
theorem PW.pt {X : Cx} {e : Expr} {t : TT} (h : PW X e t) : PT X e t := h _
def PA (X : Cx) (es : List Expr) (t : TA) : Prop :=
  ∀ (pos : Pos) (pins : List (Addr × Obj)) (s : Shared) (σ : St) (H : Hp) (Q : List V → Hp → Prop), Inv X pins σ H s → t σ H Q → wpAny (model X.prog X.w) X.A (spliced (backTo pos (starEach es X.env))) (AP X pins σ Q) X.xe s
def PS (X : Cx) (st : Stmt) (t : TS) : Prop :=
  ∀ (pins : List (Addr × Obj)) (s : Shared) (σ : St) (H : Hp) (D : Ends), Inv X pins σ H s → t D σ H → wpAny (model X.prog X.w) X.A (exec st X.env) (SP X pins D) X.xe s
def PSs (X : Cx) (st : List Stmt) (t : TS) : Prop :=
  ∀ (pins : List (Addr × Obj)) (s : Shared) (σ : St) (H : Hp) (D : Ends), Inv X pins σ H s → t D σ H → wpAny (model X.prog X.w) X.A (execs st X.env) (SP X pins D) X.xe s
theorem thn {α : Type} {t : Sem α} {Q Q' : α → Shared → Prop} {M : Model} {A : Around} {E : Value → Shared → Prop} {s : Shared} (h : wpAny M A t Q E s) (hQ : ∀ a s, Q a s → Q' a s) : wpAny M A t Q' E s := wpAny_mono h hQ fun _ _ x => x
end L2
namespace L2
open PySem PySem.Spec PyProof.Rows
section
variable {X : Cx}
theorem bin {a b : Expr} {ta tb : TE} (ha : PE X a ta) (hb : PE X b tb) {pins : List (Addr × Obj)} {s : Shared} {σ : St} {H : Hp} {R : V → V → Hp → Prop} (I : Inv X pins σ H s) (h : ta σ H fun x H1 => tb σ H1 fun y H2 => R x y H2)
    {α : Type} {Q : α → Shared → Prop} {f : Value → Value → Sem α}
    (hf : ∀ v u s2 x y H2, Inv X pins σ H2 s2 → RelV x v → RelV y u → R x y H2 → wpAny (model X.prog X.w) X.A (f v u) Q X.xe s2) :
    wpAny (model X.prog X.w) X.A (eval a X.env) (fun v s₁ => wpAny (model X.prog X.w) X.A (eval b X.env) (fun u s₂ => wpAny (model X.prog X.w) X.A (f v u) Q X.xe s₂) X.xe s₁) X.xe s := by
  refine thn (ha pins s σ H _ I h) fun v s1 ⟨x, H1, I1, r1, q1⟩ => ?_
  refine thn (hb pins s1 σ H1 _ I1 q1) fun u s2 ⟨y, H2, I2, r2, q2⟩ => ?_
  exact hf v u s2 x y H2 I2 r1 r2 q2
def tVar (i : Nat) : TE := fun σ H Q => ∃ v, σ[i]? = some (some v) ∧ Q v H
def tC (v : V) : TE := fun _ H Q => Q v H
theorem pe_var {i : Nat} {x : Str} {pos : Pos} (hN : X.N[i]? = some x) (hv : Vis X.env.scope x) (hd : (x == ("__debug__" : Str)) = false := by decide) (hcd : (x == ("__classdict__" : Str)) = false := by decide) : PE X (.Name x pos) (tVar i) := by
  intro pins s σ H Q I h
  obtain ⟨v, e, h⟩ := h
  obtain ⟨m, hn, hl⟩ := I.loc
  obtain ⟨u, r, l⟩ := hl i x v hN e hv
  have fin : EP X pins σ Q u s := ⟨v, H, I, r, h⟩
  rcases l with ⟨hk, hm⟩ | ⟨hk, c, hc, hcell⟩
  · exact wpAny_Name (wpAny_loadName_local I.ok.kind hk hn hm fin) hd
  · rcases hk with hk | hk
    · exact wpAny_Name (wpAny_loadName_cell I.ok.kind hk hc hcell fin) hd
    · exact wpAny_Name (wpAny_loadName_free I.ok.kind hk hc hcell fin hcd) hd
theorem pe_int {i j pos} : PE X (.Constant (.int i) j pos) (tC (.int i)) := fun _ _ _ H _ I h => wpAny_Constant_int ⟨.int i, H, I.tok _, ⟨_, rfl⟩, h⟩
theorem pe_bl {b j pos} : PE X (.Constant (.bool b) j pos) (tC (.bl b)) := fun _ _ _ H _ I h => Constant_bool ⟨.bl b, H, I, rfl, h⟩
theorem pe_non {j pos} : PE X (.Constant .none j pos) (tC .non) := fun _ _ _ H _ I h => Constant_none ⟨.non, H, I, rfl, h⟩
theorem pe_str {x j pos} : PE X (.Constant (.str x) j pos) (tC (.str x)) := fun _ _ _ H _ I h => Calls.Constant_str ⟨.str x, H, I.tok _, ⟨_, rfl⟩, h⟩
def Gl (X : Cx) (x : Str) : Prop := X.env.kindOf x = some .globalImplicit
theorem ld_glob {E : Value → Shared → Prop} {pins : List (Addr × Obj)} {s : Shared} {σ : St} {H : Hp} {x : Str} {u : Value} {pos : Pos} {Q : Value → Shared → Prop} (I : Inv X pins σ H s) (hg : Gl X x) (hm : X.mg x = some u) (h : Q u s)
    (hd : (x == ("__debug__" : Str)) = false := by decide) : wpAny (model X.prog X.w) X.A (eval (.Name x pos) X.env) Q E s :=
  Calls.Name_function_global I.ok.kind hg (Calls.loadGlobal_global (by rw [I.ok.glob]; exact I.mod.glob.keeps I.bk) hm h) hd
theorem ld_blt {E : Value → Shared → Prop} {pins : List (Addr × Obj)} {s : Shared} {σ : St} {H : Hp} {x : Str} {u : Value} {pos : Pos} {Q : Value → Shared → Prop} (I : Inv X pins σ H s) (hg : Gl X x) (hm : X.mg x = none) (hv : bootBuiltins x = some u) (h : Q u s)
    (hn : x ≠ "__name__" := by decide) (hd : (x == ("__debug__" : Str)) = false := by decide) : wpAny (model X.prog X.w) X.A (eval (.Name x pos) X.env) Q E s := by
  obtain ⟨mb, h1, h2⟩ := I.mod.blt
  exact Calls.Name_function_global I.ok.kind hg (Calls.loadGlobal_builtin (by rw [I.ok.glob]; exact I.mod.glob.keeps I.bk) hm (by rw [I.ok.blt]; exact h1.keeps I.bk) ((h2 x hn).trans hv) h) hd
theorem pe_glob {x : Str} {v : V} {u : Value} {pos : Pos} (hg : Gl X x) (hm : X.mg x = some u) (r : RelV v u) (hd : (x == ("__debug__" : Str)) = false := by decide) : PE X (.Name x pos) (tC v) :=
  fun _ _ _ H _ I h => ld_glob I hg hm ⟨v, H, I, r, h⟩ hd
theorem pe_bltn {x : Str} {v : V} {u : Value} {pos : Pos} (hg : Gl X x) (hm : X.mg x = none) (hv : bootBuiltins x = some u) (r : RelV v u) (hn : x ≠ "__name__" := by decide) (hd : (x == ("__debug__" : Str)) = false := by decide) : PE X (.Name x pos) (tC v) :=
  fun _ _ _ H _ I h => ld_blt I hg hm hv ⟨v, H, I, r, h⟩ hn hd
variable {a b : Expr} {ta tb : TE} {pos : Pos}
def PC (X : Cx) (op : CmpOp) (a b : Expr) (t : TE) : Prop :=
  ∀ (pins : List (Addr × Obj)) (s : Shared) (σ : St) (H : Hp) (Q : VK), Inv X pins σ H s → t σ H Q →
    wpAny (model X.prog X.w) X.A (eval a X.env) (fun v s₁ => wpAny (model X.prog X.w) X.A (eval b X.env) (fun u s₂ => wpAny (model X.prog X.w) X.A (compareOp op v u) (EP X pins σ Q) X.xe s₂) X.xe s₁) X.xe s
def tB (t : TE) : TT := fun σ H Q => t σ H fun x H1 => ∃ c, x = .bl c ∧ Q c H1
theorem pt_cmp {op : CmpOp} {t : TE} (h : PC X op a b t) (h1 : behindInMarks op b = false := by first | exact nobehind _ (by decide) (by decide) | rfl) : PT X (.Compare a [op] [b] pos) (tB t) := by
  intro pins s σ H Q I hw
  refine wpAny_isTrue_Compare1 (thn (h pins s σ H _ I hw) fun v s1 h1 => thn h1 fun u s2 h2 => thn h2 fun c s3 ⟨x, H1, I1, r1, q1⟩ => ?_) h1
  obtain ⟨d, rfl, q⟩ := q1
  cases r1
  exact wpAny_truthy_bool ⟨H1, I1, q⟩
theorem pt_val {e : Expr} {t : TE} (h : PE X e t) (he : ∀ whole, isTrue e X.env whole = (do let v ← whole; standAt e.pos; holding [v] (truthy v)) := by intro _; rfl) : PT X e (tB t) := by
  intro pins s σ H Q I hw
  refine isTrue_plain (thn (h pins s σ H _ I hw) fun v s1 ⟨x, H1, I1, r1, q1⟩ => ?_) (he _)
  obtain ⟨d, rfl, q⟩ := q1
  cases r1
  exact wpAny_truthy_bool ⟨H1, I1, q⟩
variable {tA tB' : TT} {rest : List Expr}
def tAnd (t u : TT) : TT := fun σ H Q => t σ H fun c H1 => if c = true then u σ H1 Q else Q false H1
def tOr (t u : TT) : TT := fun σ H Q => t σ H fun c H1 => if c = true then Q true H1 else u σ H1 Q
def tNot (t : TT) : TT := fun σ H Q => t σ H fun c H1 => Q (!c) H1
theorem pw_and1 (ha : PT X a tA) : PW X (.BoolOp .And [a] pos) tA := by
  intro wh pins s σ H Q I h
  refine isTrue_and (thn (ha pins s σ H Q I h) fun c s1 e => ?_)
  cases c with
  | true => exact isTrue_and_nil e
  | false => exact e
theorem pw_or1 (ha : PT X a tA) : PW X (.BoolOp .Or [a] pos) tA := by
  intro wh pins s σ H Q I h
  refine isTrue_or (thn (ha pins s σ H Q I h) fun c s1 e => ?_)
  cases c with
  | false => exact isTrue_or_nil e
  | true => exact e
theorem pw_and (ha : PT X a tA) (hb : PW X (.BoolOp .And (b :: rest) pos) tB') : PW X (.BoolOp .And (a :: b :: rest) pos) (tAnd tA tB') := by
  intro wh pins s σ H Q I h
  refine isTrue_and (thn (ha pins s σ H _ I h) fun c s1 ⟨H1, I1, q1⟩ => ?_)
  cases c with
  | true => exact hb wh pins s1 σ H1 Q I1 q1
  | false => exact ⟨H1, I1, q1⟩
theorem pw_or (ha : PT X a tA) (hb : PW X (.BoolOp .Or (b :: rest) pos) tB') : PW X (.BoolOp .Or (a :: b :: rest) pos) (tOr tA tB') := by
  intro wh pins s σ H Q I h
  refine isTrue_or (thn (ha pins s σ H _ I h) fun c s1 ⟨H1, I1, q1⟩ => ?_)
  cases c with
  | true => exact ⟨H1, I1, q1⟩
  | false => exact hb wh pins s1 σ H1 Q I1 q1
theorem pt_not (ha : PT X a tA) : PT X (.UnaryOp .Not a pos) (tNot tA) := by
  intro pins s σ H Q I h
  exact isTrue_not (ha pins s σ H (fun c H1 => Q (!c) H1) I h)
def tAndV (ta tb : TE) : TE := fun σ H Q => ta σ H fun x H1 => ∃ c, x = .bl c ∧ if c = true then tb σ H1 Q else Q (.bl false) H1
def tNotV (ta : TE) : TE := fun σ H Q => ta σ H fun x H1 => ∃ c, x = .bl c ∧ Q (.bl (!c)) H1
theorem pe_one {op} {t : TE} (h : PE X a t) : PE X (.BoolOp op [a] pos) t := fun pins s σ H Q I hw => BoolOp_one (h pins s σ H Q I hw)
theorem pe_and (ha : PE X a ta) (hb : PE X (.BoolOp .And (b :: rest) pos) tb) : PE X (.BoolOp .And (a :: b :: rest) pos) (tAndV ta tb) := by
  intro pins s σ H Q I h
  refine BoolOp_and (thn (ha pins s σ H _ I h) fun v s1 ⟨x, H1, I1, r1, q1⟩ => ?_)
  obtain ⟨c, rfl, q1⟩ := q1
  cases r1
  refine wpAny_truthy_bool ?_
  cases c with
  | true => exact hb pins s1 σ H1 Q I1 q1
  | false => exact ⟨.bl false, H1, I1, rfl, q1⟩
theorem pe_not (ha : PE X a ta) : PE X (.UnaryOp .Not a pos) (tNotV ta) := by
  intro pins s σ H Q I h
  refine UnaryOp_ (thn (ha pins s σ H _ I h) fun v s1 ⟨x, H1, I1, r1, q1⟩ => ?_)
  obtain ⟨c, rfl, q1⟩ := q1
  cases r1
  exact not_of (wpAny_truthy_bool ⟨.bl (!c), H1, I1, rfl, q1⟩)
def tIf (t : TT) (ta tb : TE) : TE := fun σ H Q => t σ H fun c H1 => if c = true then ta σ H1 Q else tb σ H1 Q
theorem pe_ifExp {c : Expr} (hc : PT X c tA) (ha : PE X a ta) (hb : PE X b tb) : PE X (.IfExp c a b pos) (tIf tA ta tb) := by
  intro pins s σ H Q I h
  refine wpAny_IfExp (thn (hc pins s σ H _ I h) fun d s1 ⟨H1, I1, q1⟩ => ?_)
  cases d with
  | true => exact ha pins s1 σ H1 Q I1 q1
  | false => exact hb pins s1 σ H1 Q I1 q1
end
end L2
namespace L2
open PySem PySem.Spec PyProof.Rows
def SqL (K : PySem.W.Frag) (H : Hp) (a : Addr) (xs : List V) : Prop :=
  Rd H a (.lst xs) ∨
    ∃ (o : Obj) (its : Array Value) (n : Nat), K.lookup a = some o ∧ o.cls = .type "list" ∧ o.dict = none ∧ o.data = .seq its n ∧ its.size ≤ sizeLine ∧ Vals xs its.toList
def SqT (K : PySem.W.Frag) (H : Hp) (a : Addr) (xs : List V) : Prop :=
  Rd H a (.tup xs) ∨
    ∃ (o : Obj) (its : Array Value) (n : Nat), K.lookup a = some o ∧ o.cls = .type "tuple" ∧ o.data = .seq its n ∧ its.size ≤ sizeLine ∧ Vals xs its.toList
def absV : Value → Option V
  | .none => some .non
  | .bool b => some (.bl b)
  | .int i _ => some (.int i)
  | .str x _ => some (.str x)
  | .bytes b _ => some (.byt b)
  | .float b _ => some (.flt b)
  | .ref a => some (.ref a)
  | .type n => some (.ty n)
  | _ => none
theorem RelV.abs {x : V} {u : Value} (r : RelV x u) : absV u = some x := by
  cases x with
  | non => cases r; rfl
  | bl _ => cases r; rfl
  | int _ => obtain ⟨t, rfl⟩ := r; rfl
  | str _ => obtain ⟨t, rfl⟩ := r; rfl
  | byt _ => obtain ⟨t, rfl⟩ := r; rfl
  | flt _ => obtain ⟨t, rfl⟩ := r; rfl
  | ref _ => cases r; rfl
  | ty _ => cases r; rfl
theorem RelV.inj {x y : V} {u : Value} (r : RelV x u) (q : RelV y u) : x = y := Option.some.inj (r.abs.symm.trans q.abs)
theorem Vals.inj : ∀ {xs ys : List V} {us : List Value}, Vals xs us → Vals ys us → xs = ys
  | _, _, _, .nil, .nil => rfl
  | _, _, _, .cons r t, .cons r' t' => by rw [r.inj r', Vals.inj t t']
section
variable {X : Cx} {pins : List (Addr × Obj)} {σ : St} {H : Hp} {s : Shared} {a : Addr} {xs ys : List V}
theorem SqL.of {K : PySem.W.Frag} (h : H a = some (.lst xs)) : SqL K H a xs := .inl (.inl h)
theorem SqT.of {K : PySem.W.Frag} (h : H a = some (.tup xs)) : SqT K H a xs := .inl (.inl h)
theorem Inv.list (I : Inv X pins σ H s) (h : SqL X.K H a xs) : ∃ its : List Value, Vals xs its ∧ PlainL s.heap a its.toArray ∧ xs.length ≤ sizeLine := by
  rcases h with h | ⟨o, its, n, hk, hc, hd, hs, hz, r⟩
  · obtain ⟨z, its, n, r, e⟩ := h.ok I.hok
    exact ⟨its, r, ⟨_, n, e, rfl, rfl, rfl⟩, z⟩
  · refine ⟨its.toList, r, ⟨o, n, I.kIn a o hk, hc, hd, by simpa using hs⟩, ?_⟩
    have e := r.length
    simp only [Array.length_toList] at e
    omega
theorem Inv.tuple (I : Inv X pins σ H s) (h : SqT X.K H a xs) : ∃ its : List Value, Vals xs its ∧ IsTup s.heap a its.toArray ∧ xs.length ≤ sizeLine := by
  rcases h with h | ⟨o, its, n, hk, hc, hs, hz, r⟩
  · obtain ⟨z, its, r, p⟩ := h.ok I.hok
    exact ⟨its, r, p, z⟩
  · refine ⟨its.toList, r, ⟨o, I.kIn a o hk, hc, n, by simpa using hs⟩, ?_⟩
    have e := r.length
    simp only [Array.length_toList] at e
    omega
theorem Inv.list_inj (I : Inv X pins σ H s) (h : SqL X.K H a xs) (h' : SqL X.K H a ys) : xs = ys := by
  obtain ⟨its, r, ⟨o, n, e, _, _, d⟩, _⟩ := I.list h
  obtain ⟨its', r', ⟨o', n', e', _, _, d'⟩, _⟩ := I.list h'
  rw [e] at e'; cases e'
  rw [d] at d'
  injection d' with d1 _
  have : its = its' := by simpa using congrArg Array.toList d1
  subst this
  exact r.inj r'
end
abbrev Cx.wish (X : Cx) (E : Value → Shared → Prop) : Cx := { X with xe := E }
abbrev Cx.nox (X : Cx) : Cx := X.wish fun _ _ => False
theorem Cx.Ok.wish {X : Cx} (ok : X.Ok) (E : Value → Shared → Prop) : (X.wish E).Ok :=
  ⟨ok.mod, ok.kind, ok.glob, ok.blt, ok.above, ok.inj, ok.has, ok.cab, ok.hd, ok.frames, ok.stk, ok.exf, ok.bs, ok.bsz, ok.noex, ok.exfs, ok.funs, ok.frf⟩
theorem Cx.Ok.unwish {X : Cx} {E : Value → Shared → Prop} (ok : (X.wish E).Ok) : X.Ok :=
  ⟨ok.mod, ok.kind, ok.glob, ok.blt, ok.above, ok.inj, ok.has, ok.cab, ok.hd, ok.frames, ok.stk, ok.exf, ok.bs, ok.bsz, ok.noex, ok.exfs, ok.funs, ok.frf⟩
section
variable {X : Cx} {pins : List (Addr × Obj)} {σ : St} {H : Hp} {s : Shared} {E : Value → Shared → Prop}
theorem Inv.wish (I : Inv X pins σ H s) (E : Value → Shared → Prop) : Inv (X.wish E) pins σ H s := ⟨I.ok.wish E, I.os, I.bare, I.base, I.loc, I.cell, I.free, I.freeC, I.pin, I.hok, I.len⟩
theorem Inv.unwish (I : Inv (X.wish E) pins σ H s) : Inv X pins σ H s := ⟨I.ok.unwish, I.os, I.bare, I.base, I.loc, I.cell, I.free, I.freeC, I.pin, I.hok, I.len⟩
theorem SP.unwish {D : Ends} {f : Flow} {s' : Shared} (h : SP (X.wish E) pins D f s') : SP X pins D f s' := by
  cases f with
  | next => obtain ⟨σ', H', I, q⟩ := h; exact ⟨σ', H', I.unwish, q⟩
  | brk => obtain ⟨σ', H', I, q⟩ := h; exact ⟨σ', H', I.unwish, q⟩
  | cont => obtain ⟨σ', H', I, q⟩ := h; exact ⟨σ', H', I.unwish, q⟩
  | ret u => obtain ⟨v, σ', H', I, r, q⟩ := h; exact ⟨v, σ', H', I.unwish, r, q⟩
theorem PSs.nox {st : List Stmt} {t : TS} (h : PSs X.nox st t) : PSs X st t := fun pins s σ H D I hw =>
  wpAny_mono (h pins s σ H D (I.wish _) hw) (fun _ _ q => q.unwish) fun _ _ z => False.elim z
end
section
variable {X : Cx} {st : Stmt} {rest : List Stmt} {t u : TS} {e : Expr} {te : TE} {pos : Pos}
def tNext : TS := fun D σ H => D.nx σ H
def tSeq (t u : TS) : TS := fun D σ H => t { D with nx := u D } σ H
theorem pss_nil : PSs X [] tNext := fun _ _ σ H _ I h => wpAny_execs_nil ⟨σ, H, I, h⟩
theorem pss_cons (h1 : PS X st t) (h2 : PSs X rest u) : PSs X (st :: rest) (tSeq t u) := by
  intro pins s σ H D I h
  refine wpAny_execs_cons (thn (h1 pins s σ H { D with nx := u D } I h) fun f s1 q => ?_)
  cases f with
  | next =>
    obtain ⟨σ', H', I', q⟩ := q
    exact h2 pins s1 σ' H' D I' q
  | ret v => exact q
  | brk => exact q
  | cont => exact q
theorem pss_one (h1 : PS X st t) : PSs X [st] t := by
  intro pins s σ H D I h
  refine wpAny_execs_cons (thn (h1 pins s σ H D I h) fun f s1 q => ?_)
  cases f with
  | next => exact wpAny_execs_nil q
  | ret v => exact q
  | brk => exact q
  | cont => exact q
theorem Inv.quiet {pins : List (Addr × Obj)} {σ : St} {H : Hp} {s : Shared} (I : Inv X pins σ H s) : interactive X.env = false := by simp [interactive, I.ok.kind]
def tDrop (te : TE) : TS := fun D σ H => te σ H fun _ H1 => D.nx σ H1
theorem ps_expr (he : PE X e te) (hs : swapsWith e none pos.line X.env = pure false := by rfl) : PS X (.Expr e pos) (tDrop te) := by
  intro pins s σ H D I h
  exact wpAny_Expr_any (thn (he pins s σ H _ I h) fun v s1 ⟨x, H1, I1, r1, q1⟩ => ⟨σ, H1, I1, q1⟩) I.quiet hs
def tRet (te : TE) : TS := fun D σ H => te σ H D.rt
theorem ps_ret (he : PE X e te) : PS X (.Return (some e) pos) (tRet te) := by
  intro pins s σ H D I h
  exact wpAny_Return_some (thn (he pins s σ H _ I h) fun v s1 ⟨x, H1, I1, r1, q1⟩ => ⟨x, σ, H1, I1, r1, q1⟩)
def tIfS (c : TT) (t u : TS) : TS := fun D σ H => c σ H fun b H1 => if b = true then t D σ H1 else u D σ H1
theorem ps_if {c : Expr} {a b : List Stmt} {tc : TT} (hc : PT X c tc) (ha : PSs X a t) (hb : PSs X b u) : PS X (.If c a b pos) (tIfS tc t u) := by
  intro pins s σ H D I h
  refine wpAny_If (thn (hc pins s σ H _ I h) fun d s1 ⟨H1, I1, q1⟩ => ?_)
  cases d with
  | true => exact ha pins s1 σ H1 D I1 q1
  | false => exact hb pins s1 σ H1 D I1 q1
def tNever : TS := fun _ _ _ => False
theorem ps_never : PS X st tNever := fun _ _ _ _ _ _ h => h.elim
end
abbrev TG := V → St → Hp → (St → Hp → Prop) → Prop
abbrev TGs := List V → St → Hp → (St → Hp → Prop) → Prop
def PG (X : Cx) (target : Expr) (t : TG) : Prop :=
  ∀ (pins : List (Addr × Obj)) (s : Shared) (σ : St) (H : Hp) (v : V) (u : Value) (Q : St → Hp → Prop), Inv X pins σ H s → RelV v u → t v σ H Q →
    wpAny (model X.prog X.w) X.A (assign target X.env u) (fun _ s' => ∃ σ' H', Inv X pins σ' H' s' ∧ Q σ' H') X.xe s
def PGs (X : Cx) (ts : List Expr) (t : TGs) : Prop :=
  ∀ (pins : List (Addr × Obj)) (s : Shared) (σ : St) (H : Hp) (vs : List V) (us : List Value) (Q : St → Hp → Prop), Inv X pins σ H s → Vals vs us → t vs σ H Q →
    wpAny (model X.prog X.w) X.A (assignInOrder ((assignEach ts X.env).map (·.2)) us) (fun _ s' => ∃ σ' H', Inv X pins σ' H' s' ∧ Q σ' H') X.xe s
section
variable {X : Cx} {pos : Pos}
def gName (i : Nat) : TG := fun v σ H Q => Q (σ.set i (some v)) H
theorem pg_name {i : Nat} {x : Str} (hN : X.N.Nodup) (hi : X.N[i]? = some x) (hx : Loc X.env.scope x) (hf : X.fn x = true ∨ X.env.scope.names.lookup x = some .local := by first | exact .inl rfl | exact .inr rfl | assumption) : PG X (.Name x pos) (gName i) := by
  intro pins s σ H v u Q I r h
  exact wpAny_assign_Name (store_ok I hN hi hx r (fun s' I' => ⟨_, H, I', h⟩) hf)
def gNil : TGs := fun vs σ H Q => vs = [] ∧ Q σ H
def gCons (t : TG) (u : TGs) : TGs := fun vs σ H Q => ∃ v r, vs = v :: r ∧ t v σ H fun σ' H' => u r σ' H' Q
theorem pgs_nil : PGs X [] gNil := by
  intro pins s σ H vs us Q I r h
  obtain ⟨e, h⟩ := h
  subst e
  cases r
  exact assignInOrder_nil ⟨σ, H, I, h⟩
theorem pgs_cons {e : Expr} {es : List Expr} {t : TG} {u : TGs} (h1 : PG X e t) (h2 : PGs X es u)
    (hs : (assignEach (e :: es) X.env).map (·.2) = assign e X.env :: (assignEach es X.env).map (·.2) := by rfl) : PGs X (e :: es) (gCons t u) := by
  intro pins s σ H vs us Q I r h
  obtain ⟨v, vr, e1, h⟩ := h
  subst e1
  cases r with
  | cons r rr =>
    rw [hs]
    refine assignInOrder_cons (thn (h1 pins s σ H _ _ _ I r h) fun _ s1 ⟨σ1, H1, I1, q1⟩ => ?_)
    exact h2 pins s1 σ1 H1 _ _ Q I1 rr q1
def gTup (K : PySem.W.Frag) (n : Nat) (t : TGs) : TG := fun v σ H Q => ∃ a xs, v = .ref a ∧ SqT K H a xs ∧ xs.length = n ∧ t xs σ H Q
theorem pg_tup {es : List Expr} {k : Nat} {t : TGs} {n : Nat} (hc : X.calm = true) (h : PGs X es t)
    (hn : (assignEach es X.env).length = n := by rfl) (hst : (assignEach es X.env).findIdx? (·.1) = none := by rfl) : PG X (.Tuple es k pos) (gTup X.K n t) := by
  intro pins s σ H v u Q I r hw
  obtain ⟨a, xs, e1, hq, hl, hw⟩ := hw
  subst e1
  cases r
  obtain ⟨its, rv, ht, hz⟩ := I.tuple hq
  refine assign_Tuple_tuple (I.ok.hd hc) ht (by simp [hn, ← hl, rv.length]) hst fun h' hx => ?_
  have I1 : Inv X pins σ H { s with heap := h' } := I.kept (t' := s.toks) fun b o e => hx b o (Nat.ne_of_lt (Heap.lt_size e)) e
  exact h pins _ σ H xs _ Q I1 (by simpa using rv) hw
def tAsg (te : TE) (g : TG) : TS := fun D σ H => te σ H fun x H1 => g x σ H1 D.nx
theorem ps_set {i : Nat} {x : Str} {e : Expr} {te : TE} {pos' : Pos} (hN : X.N.Nodup) (hi : X.N[i]? = some x) (hx : Loc X.env.scope x) (he : PE X e te) (hs : swapsWith e (some (.Name x pos')) pos.line X.env = pure false := by rfl) (hf : X.fn x = true ∨ X.env.scope.names.lookup x = some .local := by first | exact .inl rfl | exact .inr rfl | assumption) :
    PS X (.Assign [.Name x pos'] e pos) (tAsg te (gName i)) := by
  intro pins s σ H D I h
  refine wpAny_Assign_Name (thn (he pins s σ H _ I h) fun v s1 ⟨y, H1, I1, r1, q1⟩ => ?_) hs
  exact store_ok I1 hN hi hx r1 (fun s2 I2 => ⟨_, H1, I2, q1⟩) hf
end
section
variable {X : Cx} {pos : Pos}
def tWhile (c : TT) (tb : TS) : TS := fun D σ H => ∃ W : Nat → St → Hp → Prop, (∃ m, W m σ H) ∧ ∀ m σ H, W m σ H →
  c σ H fun b H1 => if b = true then ∃ N : St → Hp → Prop, (∀ σ' H', N σ' H' → ∃ m', m' < m ∧ W m' σ' H') ∧ tb { D with nx := N, ct := N, bk := D.nx } σ H1 else D.nx σ H1
theorem ps_while {c : Expr} {body : List Stmt} {tc : TT} {tb : TS} (hp : PassesOwn (model X.prog X.w) X.A X.env X.xe) (hc : PT X c tc) (hb : PSs X body tb) : PS X (.While c body [] pos) (tWhile tc tb) := by
  intro pins s σ H D I h
  obtain ⟨W, ⟨m0, w0⟩, turn⟩ := h
  refine wpAny_While (codeAny_whileLoop (fun n s' => ∃ σ' H', Inv X pins σ' H' s' ∧ W n σ' H') ?_ m0 ⟨σ, H, I, w0⟩)
  rintro n s1 ⟨σ1, H1, I1, w1⟩
  refine wpAny_passesOwn hp (thn (hc pins s1 σ1 H1 _ I1 (turn n σ1 H1 w1)) fun b s2 ⟨H2, I2, q2⟩ => ?_)
  cases b with
  | true =>
    obtain ⟨N, hN, q2⟩ := q2
    rw [if_pos rfl]
    refine wpAny_passesOwn hp (thn (hb pins s2 σ1 H2 _ I2 q2) fun f s3 q3 => ?_)
    cases f with
    | next =>
      obtain ⟨σ3, H3, I3, n3⟩ := q3
      obtain ⟨m', hm, w3⟩ := hN σ3 H3 n3
      exact ⟨m', hm, σ3, H3, I3, w3⟩
    | cont =>
      obtain ⟨σ3, H3, I3, n3⟩ := q3
      obtain ⟨m', hm, w3⟩ := hN σ3 H3 n3
      exact ⟨m', hm, σ3, H3, I3, w3⟩
    | brk => exact q3
    | ret v => exact q3
  | false =>
    rw [if_neg Bool.false_ne_true]
    exact wpAny_execs_nil ⟨σ1, H2, I2, q2⟩
end
structure It where
  go : Nat → Hp → Prop
  yld : Nat → Hp → V → Hp → Prop
  stop : Nat → Hp → Prop
def FpOk (X : Cx) (pins : List (Addr × Obj)) (H : Hp) (b : Addr) : Prop :=
  H b = none ∧ b ≠ X.env.locals ∧ b ∉ X.fs ∧ (b ∈ X.ex ∨ X.s₀.heap.objs.size ≤ b) ∧ (∀ x c, X.env.cells.lookup x = some c → c ≠ b) ∧ ∀ p ∈ X.pn ++ pins, p.1 ≠ b
theorem Inv.fpOk {X : Cx} {pins : List (Addr × Obj)} {σ : St} {H H' : Hp} {s : Shared} {b : Addr} (I : Inv X pins σ H s) (hb : s.heap.objs.size ≤ b) (hn : H' b = none) : FpOk X pins H' b := by
  refine ⟨hn, Nat.ne_of_gt (Nat.lt_of_lt_of_le I.lt hb), I.nofs hb, .inr (Nat.le_trans I.sz hb), fun x c e z => ?_, fun p hp z => ?_⟩
  · obtain ⟨v, q⟩ := I.cell x c e
    exact absurd (Nat.lt_of_lt_of_le q.lt (by rw [z]; exact hb)) (Nat.lt_irrefl _)
  · exact absurd (Nat.lt_of_lt_of_le (Heap.lt_size (I.pin p hp).1) (by rw [z]; exact hb)) (Nat.lt_irrefl _)
structure Turn (P : Program) (w : World) (K : PySem.W.Frag) (tg : Expr) (J : It) (fp : List Addr) (it : Addr) (tn : Nat → Heap → Prop) : Prop where
  mem : it ∈ fp
  obj : ∀ i h, tn i h → ∀ b ∈ fp, ∃ o, h.get? b = some o ∧ ∀ v, o.data ≠ .cell v
  keep : ∀ i h h', tn i h → (∀ b ∈ fp, ∀ o, h.get? b = some o → h'.get? b = some o) → tn i h'
  item : ∀ (X : Cx), X.prog = P → X.w = w → X.K = K → X.calm = true → ∀ (i : Nat) (pins : List (Addr × Obj)) (s : Shared) (σ : St) (H : Hp) (E : Value → Shared → Prop), Inv X pins σ H s → (∀ b ∈ fp, FpOk X pins H b) → tn i s.heap → J.go i H →
    wpAny (model P w) X.A (pyNext (.ref it)) (fun r s1 => ∃ u, r = some u ∧
      wpAny (model P w) X.A (letOwnedTupleGo tg (.ref it) u) (fun _ s2 => ∃ x H', Inv X pins σ H' s2 ∧ RelV x u ∧ J.yld i H x H' ∧ tn (i + 1) s2.heap ∧ ∀ b ∈ fp, H' b = none) E s1) E s
  done : ∀ (X : Cx), X.prog = P → X.w = w → X.K = K → X.calm = true → ∀ (i : Nat) (pins : List (Addr × Obj)) (s : Shared) (σ : St) (H : Hp) (E : Value → Shared → Prop), Inv X pins σ H s → (∀ b ∈ fp, FpOk X pins H b) → tn i s.heap → J.stop i H →
    wpAny (model P w) X.A (pyNext (.ref it)) (fun r s1 => r = none ∧ Inv X pins σ H s1) E s
  self : ∀ (A : Around) (i : Nat) (s : Shared) (Q : Value → Shared → Prop) (E : Value → Shared → Prop), tn i s.heap → Q (.ref it) s → wpAny (model P w) A (pyIter (.ref it)) Q E s
abbrev TI := St → Hp → (It → Hp → Prop) → Prop
def PIE (X : Cx) (pins : List (Addr × Obj)) (σ : St) (tg : Expr) (R : It → Hp → Prop) (itv : Value) (s2 : Shared) : Prop :=
  ∃ (it : Addr) (fp : List Addr) (tn : Nat → Heap → Prop) (J : It) (H' : Hp), itv = .ref it ∧ Inv X pins σ H' s2 ∧ Turn X.prog X.w X.K tg J fp it tn ∧ tn 0 s2.heap ∧ (∀ b ∈ fp, FpOk X pins H' b) ∧ R J H'
def PI (X : Cx) (tg iter : Expr) (wi : TI) : Prop :=
  ∀ (pins : List (Addr × Obj)) (s : Shared) (σ : St) (H : Hp) (R : It → Hp → Prop), Inv X pins σ H s → wi σ H R →
    wpAny (model X.prog X.w) X.A (eval iter X.env) (fun v s1 => wpAny (model X.prog X.w) X.A (pyIter v) (PIE X pins σ tg R) X.xe s1) X.xe s
theorem go_of {M : Model} {A : Around} {E : Value → Shared → Prop} {s : Shared} {tg : Expr} {it : Addr} {u : Value} {o : Obj} {n : String} {vs : Array Value} {Q : Unit → Shared → Prop} (ho : s.heap.get? it = some o) (hc : o.cls = .type n) (hd : o.data = .fields vs)
    (hn : ["enumerate", "zip", "dict_itemiterator", "dict_reverseitemiterator", "odict_iterator", "itertools.zip_longest", "itertools.pairwise"].contains n = false) (hQ : Q () s) : wpAny M A (letOwnedTupleGo tg (.ref it) u) Q E s := by
  unfold letOwnedTupleGo
  cases tg <;> first
    | exact wpAny_pure hQ
    | (cases u <;> first
        | exact wpAny_pure hQ
        | (refine wpAny_bind (wpAny_load ho ?_)
           rw [hc, hd]
           show wpAny M A (if (["enumerate", "zip", "dict_itemiterator", "dict_reverseitemiterator", "odict_iterator", "itertools.zip_longest", "itertools.pairwise"].contains n && vs[0]? == some (rawInt _)) = true then _ else _) Q E s
           rw [if_neg (by intro h; rw [hn, Bool.false_and] at h; cases h)]
           exact wpAny_pure hQ))
def Itl (K : PySem.W.Frag) (a : Addr) : It :=
  ⟨fun i H => ∃ xs x, SqL K H a xs ∧ xs[i]? = some x, fun i H x H' => H' = H ∧ ∀ xs, SqL K H a xs → xs[i]? = some x, fun i H => ∃ xs, SqL K H a xs ∧ xs.length ≤ i⟩
def Itr (lo : Int) (n : Nat) : It := ⟨fun i _ => i < n, fun i H x H' => H' = H ∧ x = .int (lo + i), fun i _ => n ≤ i⟩
theorem turn_list {P : Program} {w : World} {K : PySem.W.Frag} {tg : Expr} (a it : Addr) : Turn P w K tg (Itl K a) [it] it (fun i h => h.IsListIter it a i) where
  mem := by simp
  obj := fun i h st b hb => by
    have e : b = it := by simpa using hb
    subst e
    obtain ⟨o, e, c, d⟩ := st
    exact ⟨o, e, fun v z => by rw [d] at z; cases z⟩
  keep := fun i h h' st k => st.at fun o e => k it (by simp) o e
  item := by
    intro X hP hw hK hc i pins s σ H E I hf st hg
    subst hP hw hK
    obtain ⟨xs, x, hq, hx⟩ := hg
    obtain ⟨its, rv, p, hz⟩ := I.list hq
    obtain ⟨u, hu, ru⟩ := rv.get hx
    obtain ⟨f0, f1, f2, f3, f4, f5⟩ := hf it (by simp)
    refine wpAny_pyNext_list_item st p.isList (x := u) (by simpa using hu) fun h' st' sb => ?_
    have I1 : Inv X pins σ H { s with heap := h' } := I.turned (t' := s.toks) (fun b o hb e => (sb.2 b hb).trans e) f0 f1 f3 f4 f5
    obtain ⟨o, e, c, d⟩ := id st'
    exact ⟨u, rfl, go_of (s := { s with heap := h' }) e c d (by decide) ⟨x, H, I1, ru, ⟨rfl, fun ys hy => by rw [I.list_inj hy hq]; exact hx⟩, st', fun b hb => (hf b hb).1⟩⟩
  done := by
    intro X hP hw hK hc i pins s σ H E I hf st hg
    subst hP hw hK
    obtain ⟨xs, hq, hx⟩ := hg
    obtain ⟨its, rv, p, hz⟩ := I.list hq
    obtain ⟨f0, f1, f2, f3, f4, f5⟩ := hf it (by simp)
    have hl := rv.length
    exact wpAny_pyNext_list_end (I.ok.hd hc) st p.isList (by simp; omega) fun h' eb => ⟨rfl, I.turned (t' := s.toks) (fun b o hb e => eb b o hb e) f0 f1 f3 f4 f5⟩
  self := fun _ _ _ _ _ st h => wpAny_pyIter_listiter st h
theorem turn_range {P : Program} {w : World} {K : PySem.W.Frag} {tg : Expr} (it : Addr) (lo : Int) (n : Nat) : Turn P w K tg (Itr lo n) [it] it (fun i h => IsRangeIter h it (lo + (i : Nat) * 1) ((n : Int) - (i : Nat)) 1) where
  mem := by simp
  obj := fun i h st b hb => by
    have e : b = it := by simpa using hb
    subst e
    exact ⟨_, st, fun v z => by
      have z' : Data.fields _ = Data.cell v := z
      cases z'⟩
  keep := fun i h h' st k => k it (by simp) _ st
  item := by
    intro X hP hw hK hc i pins s σ H E I hf st hg
    subst hP hw hK
    obtain ⟨f0, f1, f2, f3, f4, f5⟩ := hf it (by simp)
    have W := Walks.range (prog := X.prog) (w := X.w) (I.ok.hd hc) it lo 1 n
    refine W.item i s _ _ hg st fun v h' tk hv st' kk => ?_
    obtain ⟨t, rfl⟩ := hv
    have I1 : Inv X pins σ H { s with heap := h', toks := tk } := I.turned (fun b o hb e => kk b o (by simpa using hb) e) f0 f1 f3 f4 f5
    refine ⟨_, rfl, go_of (s := { s with heap := h', toks := tk }) (n := "range_iterator") st' rfl rfl (by decide) ⟨.int (lo + i), H, I1, ⟨t, ?_⟩, ⟨rfl, rfl⟩, st', fun b hb => (hf b hb).1⟩⟩
    rw [Int.mul_one]
  done := by
    intro X hP hw hK hc i pins s σ H E I hf st hg
    subst hP hw hK
    obtain ⟨f0, f1, f2, f3, f4, f5⟩ := hf it (by simp)
    exact wpAny_pyNext_range_end (I.ok.hd hc) st (by have : n ≤ i := hg; omega) fun h' eb => ⟨rfl, I.turned (t' := s.toks) (fun b o hb e => eb b o hb e) f0 f1 f3 f4 f5⟩
  self := fun _ _ _ _ _ st h => wpAny_pyIter_rangeiter st h
end L2
namespace L2
open PySem PySem.Spec PyProof.Rows
section
variable {X : Cx} {tg : Expr}
def iList (K : PySem.W.Frag) (tl : TE) : TI := fun σ H R => tl σ H fun x H1 => ∃ a, x = .ref a ∧ (∃ xs, SqL K H1 a xs) ∧ R (Itl K a) H1
theorem pi_list {l : Expr} {tl : TE} (hl : PE X l tl) : PI X tg l (iList X.K tl) := by
  intro pins s σ H R I h
  refine thn (hl pins s σ H _ I h) fun v s1 ⟨x, H1, I1, r1, q1⟩ => ?_
  obtain ⟨a, e, ⟨xs, hq⟩, q⟩ := q1
  subst e
  cases r1
  obtain ⟨its, rv, p, hz⟩ := I1.list hq
  refine wpAny_pyIter_list p.isList ?_
  refine ⟨s1.heap.objs.size, [s1.heap.objs.size], _, _, H1, rfl, I1.kept (t' := s1.toks) fun b o e => Heap.get?_push_of_some _ e, turn_list a _, ⟨_, Heap.get?_push_size _ rfl, rfl, rfl⟩, fun b hb => ?_, q⟩
  have e : b = s1.heap.objs.size := by simpa using hb
  subst e
  exact I1.fpOk (Nat.le_refl _) (I1.hok.fresh (Nat.le_refl _))
theorem range_it {pins : List (Addr × Obj)} {σ : St} {H : Hp} {s : Shared} {R : It → Hp → Prop} {E : Value → Shared → Prop} {lo hi : Int} {t u v : Tok} {tk : Nat} (I : Inv X pins σ H s) (h1 : -(2 ^ 62) ≤ lo) (h2 : lo < 2 ^ 62) (h3 : -(2 ^ 62) ≤ hi) (h4 : hi < 2 ^ 62)
    (q : R (Itr lo (hi - lo).toNat) H) : wpAny (model X.prog X.w) X.A (pyIter (.ref s.heap.objs.size)) (PIE X pins σ tg R) E { s with heap := s.heap.push { cls := .type "range", data := .fields #[.int lo t, .int hi u, .int 1 v] }, toks := tk } := by
  refine wpAny_pyIter_range (IsRange.new ..) (small_one h1 h2 h3 h4) ?_
  have I1 : Inv X pins σ H { s with heap := s.heap.push { cls := .type "range", data := .fields #[.int lo t, .int hi u, .int 1 v] }, toks := tk } := I.kept fun b o e => Heap.get?_push_of_some _ e
  refine ⟨(s.heap.push { cls := .type "range", data := .fields #[.int lo t, .int hi u, .int 1 v] }).objs.size, [(s.heap.push { cls := .type "range", data := .fields #[.int lo t, .int hi u, .int 1 v] }).objs.size], _, _, H, rfl,
    I1.kept (t' := tk) fun b o e => Heap.get?_push_of_some _ e, turn_range _ lo (hi - lo).toNat, ?_, fun b hb => ?_, q⟩
  · have e1 : lo + ((0 : Nat) : Int) * 1 = lo := by simp
    have e2 : (((hi - lo).toNat : Nat) : Int) - ((0 : Nat) : Int) = Builtin.Range.rangeSize lo hi 1 := by rw [rangeSize_one]; split <;> omega
    show IsRangeIter _ _ (lo + ((0 : Nat) : Int) * 1) ((((hi - lo).toNat : Nat) : Int) - ((0 : Nat) : Int)) 1
    rw [e1, e2]
    exact Heap.get?_push_size _ rfl
  · have e : b = (s.heap.push { cls := .type "range", data := .fields #[.int lo t, .int hi u, .int 1 v] }).objs.size := by simpa using hb
    subst e
    exact I1.fpOk (Nat.le_refl _) (I1.hok.fresh (Nat.le_refl _))
def iRng1 (ta : TA) : TI := fun σ H R => ta σ H fun vs H1 => ∃ j : Int, vs = [.int j] ∧ -(2 ^ 62) ≤ j ∧ j < 2 ^ 62 ∧ R (Itr 0 j.toNat) H1
theorem pi_range1 {a : Expr} {ta : TA} {p pos : Pos} (hg : Gl X "range") (hm : X.mg "range" = none) (ha : PA X [a] ta) (hs : starEach [a] X.env = [(false, eval a X.env)] := by rfl) : PI X tg (.Call (.Name "range" p) [a] [] pos) (iRng1 ta) := by
  intro pins s σ H R I h
  refine Call_ (ld_blt I hg hm boot_range (PyProof.Rows.callWith_type1 (thn (ha pos pins s σ H _ I h) fun us s1 ⟨vs, H1, I1, r1, q1⟩ => ?_) hs rfl))
  obtain ⟨j, e, q1, q2, q⟩ := q1
  subst e
  cases r1 with
  | cons r rr =>
    cases rr
    obtain ⟨t, rfl⟩ := r
    exact call_range_1 (range_it I1 (by omega) (by omega) q1 q2 (by simpa using q))
def tFor (wi : TI) (g : TG) (tb : TS) : TS := fun D σ H => wi σ H fun J H1 => ∃ W : Nat → Nat → St → Hp → Prop, (∃ m, W 0 m σ H1) ∧ ∀ i m σ H, W i m σ H →
  (J.stop i H ∧ D.nx σ H) ∨ (J.go i H ∧ ∃ N : St → Hp → Prop, (∀ σ' H', N σ' H' → ∃ m', m' < m ∧ W (i + 1) m' σ' H') ∧ ∀ x H', J.yld i H x H' → g x σ H' fun σ2 H2 => tb { D with nx := N, ct := N, bk := D.nx } σ2 H2)
def pinsAt (fp : List Addr) (h : Heap) : List (Addr × Obj) := fp.filterMap fun b => (h.get? b).map fun o => (b, o)
theorem mem_pinsAt {fp : List Addr} {h : Heap} {b : Addr} {o : Obj} (hb : b ∈ fp) (e : h.get? b = some o) : (b, o) ∈ pinsAt fp h := List.mem_filterMap.mpr ⟨b, hb, by rw [e]; rfl⟩
theorem of_pinsAt {fp : List Addr} {h : Heap} {p : Addr × Obj} (hp : p ∈ pinsAt fp h) : p.1 ∈ fp ∧ h.get? p.1 = some p.2 := by
  obtain ⟨b, hb, e⟩ := List.mem_filterMap.mp hp
  cases q : h.get? b with
  | none => rw [q] at e; cases e
  | some o =>
    rw [q] at e
    have e' : (b, o) = p := Option.some.inj e
    subst e'
    exact ⟨hb, q⟩
theorem Inv.pinned {pins : List (Addr × Obj)} {σ : St} {H : Hp} {s : Shared} {fp : List Addr} (I : Inv X pins σ H s) (hf : ∀ b ∈ fp, FpOk X pins H b) (ho : ∀ b ∈ fp, ∃ o, s.heap.get? b = some o ∧ ∀ v, o.data ≠ .cell v) : Inv X (pins ++ pinsAt fp s.heap) σ H s :=
  I.pins_of fun p hp => (List.mem_append.mp hp).elim (fun z => I.pin p (List.mem_append_right _ z)) fun z => by
    obtain ⟨hb, e⟩ := of_pinsAt z
    obtain ⟨f0, f1, f2, _⟩ := hf p.1 hb
    obtain ⟨o, e', d⟩ := ho p.1 hb
    rw [e] at e'; cases e'
    exact ⟨e, f0, f1, f2, d⟩
theorem Inv.unpinned {pins pl : List (Addr × Obj)} {σ : St} {H : Hp} {s : Shared} (I : Inv X (pins ++ pl) σ H s) : Inv X pins σ H s := I.pins_of fun p hp => I.pin p (List.mem_append_right _ (List.mem_append_left _ hp))
theorem ps_for {iter : Expr} {body : List Stmt} {wi : TI} {g : TG} {tb : TS} {pos : Pos} (hp : PassesOwn (model X.prog X.w) X.A X.env X.xe) (hc : X.calm = true) (hi : PI X tg iter wi) (hg : PG X tg g) (hb : PSs X body tb)
    (hs : ∀ x, foldedSetIterable iter X.env x = pure x := by intro _; rfl) : PS X (.For tg iter body [] pos) (tFor wi g tb) := by
  intro pins s σ H D I h
  refine wpAny_For (thn (hi pins s σ H _ I h) fun v s1 h1 => thn h1 fun itv s2 h2 => ?_) hs
  obtain ⟨it, fp, tn, J, H2, e, I2, T, st2, f2, W, ⟨m0, w0⟩, turn⟩ := h2
  subst e
  have stat : ∀ {H' : Hp}, (∀ b ∈ fp, H' b = none) → ∀ b ∈ fp, FpOk X pins H' b := fun hn b hb => ⟨hn b hb, (f2 b hb).2⟩
  refine codeAny_forLoop_any (fun n s' => ∃ i σ' H', Inv X pins σ' H' s' ∧ tn i s'.heap ∧ (∀ b ∈ fp, H' b = none) ∧ W i n σ' H') ?_ m0 ⟨0, σ, H2, I2, st2, fun b hb => (f2 b hb).1, w0⟩
  rintro n s3 ⟨i, σ3, H3, I3, st3, fr3, w3⟩
  rcases turn i n σ3 H3 w3 with ⟨stop, qn⟩ | ⟨go, N, hN, step⟩
  · refine wpAny_passesOwn hp (thn (T.done X rfl rfl rfl hc i pins s3 σ3 H3 X.xe I3 (stat fr3) st3 stop) fun r s4 ⟨hr, I4⟩ => ?_)
    subst hr
    exact wpAny_execs_nil ⟨σ3, H3, I4, qn⟩
  · refine wpAny_passesOwn hp (thn (T.item X rfl rfl rfl hc i pins s3 σ3 H3 X.xe I3 (stat fr3) st3 go) fun r s4 ⟨u, hr, h4⟩ => ?_)
    subst hr
    refine wpAny_passesOwn hp (thn h4 fun _ s5 ⟨x, H5, I5, r5, y5, st5, fr5⟩ => ?_)
    have I5' := I5.pinned (stat fr5) (T.obj _ _ st5)
    refine wpAny_passesOwn hp (thn (hg _ s5 σ3 H5 x u _ I5' r5 (step x H5 y5)) fun _ s6 ⟨σ6, H6, I6, q6⟩ => ?_)
    refine wpAny_passesOwn hp (thn (hb _ s6 σ6 H6 _ I6 q6) fun f s7 q7 => ?_)
    have again : ∀ {σ7 : St} {H7 : Hp}, Inv X (pins ++ pinsAt fp s5.heap) σ7 H7 s7 → N σ7 H7 → ∃ m, m < n ∧ ∃ i σ' H', Inv X pins σ' H' s7 ∧ tn i s7.heap ∧ (∀ b ∈ fp, H' b = none) ∧ W i m σ' H' := fun {σ7 H7} I7 n7 => by
      obtain ⟨m', hm, w7⟩ := hN σ7 H7 n7
      refine ⟨m', hm, i + 1, σ7, H7, I7.unpinned, T.keep _ _ _ st5 fun b hb o e => (I7.pin (b, o) (List.mem_append_right _ (List.mem_append_right _ (mem_pinsAt hb e)))).1, fun b hb => ?_, w7⟩
      obtain ⟨o, e, d⟩ := T.obj _ _ st5 b hb
      exact (I7.pin (b, o) (List.mem_append_right _ (List.mem_append_right _ (mem_pinsAt hb e)))).2.1
    cases f with
    | next => obtain ⟨σ7, H7, I7, n7⟩ := q7; exact again I7 n7
    | cont => obtain ⟨σ7, H7, I7, n7⟩ := q7; exact again I7 n7
    | brk => obtain ⟨σ7, H7, I7, q7⟩ := q7; exact ⟨σ7, H7, I7.unpinned, q7⟩
    | ret v => obtain ⟨x7, σ7, H7, I7, r7, q7⟩ := q7; exact ⟨x7, σ7, H7, I7.unpinned, r7, q7⟩
end
theorem for_list {K : PySem.W.Frag} {a : Addr} {xs : List V} {g : TG} {tb : TS} {D : Ends} {σ : St} {H : Hp} (Pv : Nat → St → Hp → Prop) (h0 : Pv 0 σ H) (hl : ∀ i σ H, i ≤ xs.length → Pv i σ H → SqL K H a xs)
    (hs : ∀ i x σ H, xs[i]? = some x → Pv i σ H → g x σ H fun σ2 H2 => tb { D with nx := Pv (i + 1), ct := Pv (i + 1), bk := D.nx } σ2 H2) (hd : ∀ σ H, Pv xs.length σ H → D.nx σ H) :
    ∃ W : Nat → Nat → St → Hp → Prop, (∃ m, W 0 m σ H) ∧ ∀ i m σ H, W i m σ H →
      ((Itl K a).stop i H ∧ D.nx σ H) ∨ ((Itl K a).go i H ∧ ∃ N : St → Hp → Prop, (∀ σ' H', N σ' H' → ∃ m', m' < m ∧ W (i + 1) m' σ' H') ∧ ∀ x H', (Itl K a).yld i H x H' → g x σ H' fun σ2 H2 => tb { D with nx := N, ct := N, bk := D.nx } σ2 H2) := by
  refine ⟨fun i m σ H => m = xs.length - i ∧ i ≤ xs.length ∧ Pv i σ H, ⟨xs.length, by simp, Nat.zero_le _, h0⟩, ?_⟩
  rintro i m σ H ⟨rfl, hi, p⟩
  have q := hl i σ H hi p
  by_cases hlt : i < xs.length
  · refine .inr ⟨⟨xs, xs[i], q, by simp [hlt]⟩, Pv (i + 1), fun σ' H' p' => ⟨xs.length - (i + 1), by omega, rfl, hlt, p'⟩, fun x H' y => ?_⟩
    obtain ⟨e, y⟩ := y
    subst e
    exact hs i x σ _ (y xs q) p
  · have e : i = xs.length := by omega
    subst e
    exact .inl ⟨⟨xs, q, Nat.le_refl _⟩, hd σ H p⟩
theorem for_range {lo : Int} {n : Nat} {g : TG} {tb : TS} {D : Ends} {σ : St} {H : Hp} (Pv : Nat → St → Hp → Prop) (h0 : Pv 0 σ H)
    (hs : ∀ i σ H, i < n → Pv i σ H → g (.int (lo + i)) σ H fun σ2 H2 => tb { D with nx := Pv (i + 1), ct := Pv (i + 1), bk := D.nx } σ2 H2) (hd : ∀ σ H, Pv n σ H → D.nx σ H) :
    ∃ W : Nat → Nat → St → Hp → Prop, (∃ m, W 0 m σ H) ∧ ∀ i m σ H, W i m σ H →
      ((Itr lo n).stop i H ∧ D.nx σ H) ∨ ((Itr lo n).go i H ∧ ∃ N : St → Hp → Prop, (∀ σ' H', N σ' H' → ∃ m', m' < m ∧ W (i + 1) m' σ' H') ∧ ∀ x H', (Itr lo n).yld i H x H' → g x σ H' fun σ2 H2 => tb { D with nx := N, ct := N, bk := D.nx } σ2 H2) := by
  refine ⟨fun i m σ H => m = n - i ∧ i ≤ n ∧ Pv i σ H, ⟨n, by simp, Nat.zero_le _, h0⟩, ?_⟩
  rintro i m σ H ⟨rfl, hi, p⟩
  by_cases hlt : i < n
  · refine .inr ⟨hlt, Pv (i + 1), fun σ' H' p' => ⟨n - (i + 1), by omega, rfl, hlt, p'⟩, fun x H' y => ?_⟩
    obtain ⟨e, y⟩ := y
    subst e y
    exact hs i σ _ hlt p
  · have e : i = n := by omega
    subst e
    exact .inl ⟨Nat.le_refl _, hd σ H p⟩
end L2
namespace L2
open PySem PySem.Spec PyProof.Rows
abbrev R2 := V → V → Hp → VK → Prop
def OpR (X : Cx) (f : Value → Value → Sem Value) (r : R2) : Prop :=
  ∀ (pins : List (Addr × Obj)) (s : Shared) (σ : St) (H : Hp) (x y : V) (v u : Value) (Q : VK), Inv X pins σ H s → RelV x v → RelV y u → r x y H Q →
    wpAny (model X.prog X.w) X.A (f v u) (EP X pins σ Q) X.xe s
def UnR (X : Cx) (f : Value → Sem Value) (r : V → Hp → VK → Prop) : Prop :=
  ∀ (pins : List (Addr × Obj)) (s : Shared) (σ : St) (H : Hp) (x : V) (v : Value) (Q : VK), Inv X pins σ H s → RelV x v → r x H Q →
    wpAny (model X.prog X.w) X.A (f v) (EP X pins σ Q) X.xe s
def CallR (X : Cx) (f : Value) (r : List V → Hp → VK → Prop) : Prop :=
  ∀ (pins : List (Addr × Obj)) (s : Shared) (σ : St) (H : Hp) (xs : List V) (us : List Value) (Q : VK), Inv X pins σ H s → Vals xs us → r xs H Q →
    wpAny (model X.prog X.w) X.A (call f us) (EP X pins σ Q) X.xe s
def tOp (r : R2) (ta tb : TE) : TE := fun σ H Q => ta σ H fun x H1 => tb σ H1 fun y H2 => r x y H2 Q
def tUn (r : V → Hp → VK → Prop) (ta : TE) : TE := fun σ H Q => ta σ H fun x H1 => r x H1 Q
def rI (C : Int → Int → Prop) (g : Int → Int → V) : R2 := fun x y H Q => ∃ i j, x = .int i ∧ y = .int j ∧ C i j ∧ Q (g i j) H
def rI0 (g : Int → Int → V) : R2 := fun x y H Q => ∃ i j, x = .int i ∧ y = .int j ∧ Q (g i j) H
def rU (g : Int → V) : V → Hp → VK → Prop := fun x H Q => ∃ i, x = .int i ∧ Q (g i) H
section
variable {X : Cx} {a b c : Expr} {ta tb tc : TE} {pos : Pos}
theorem binT (ha : PE X a ta) (hb : PE X b tb) {pins : List (Addr × Obj)} {s : Shared} {σ : St} {H : Hp} {R : V → V → Hp → Prop} (I : Inv X pins σ H s)
    (h : ta σ H fun x H1 => tb σ H1 fun y H2 => R x y H2) {Q : Value → Shared → Prop} {f : Value → Value → Sem Value}
    (hf : ∀ v u s2 x y H2, Inv X pins σ H2 s2 → RelV x v → RelV y u → R x y H2 → wpAny (model X.prog X.w) X.A (f v u) Q X.xe s2) :
    wpAny (model X.prog X.w) X.A (eval a X.env) (fun v s₁ => wpAny (model X.prog X.w) X.A (eval b X.env) (fun u s₂ => wpAny (model X.prog X.w) X.A (f v u) Q X.xe s₂) X.xe s₁) X.xe s := by
  refine thn (ha pins s σ H _ I h) fun v s1 ⟨x, H1, I1, r1, q1⟩ => ?_
  refine thn (hb pins s1 σ H1 _ I1 q1) fun u s2 ⟨y, H2, I2, r2, q2⟩ => ?_
  exact hf v u s2 x y H2 I2 r1 r2 q2
theorem pe_op {op : Operator} {r : R2} (ho : OpR X (binaryOp op) r) (ha : PE X a ta) (hb : PE X b tb) : PE X (.BinOp a op b pos) (tOp r ta tb) := by
  intro pins s σ H Q I h
  exact wpAny_BinOp (binT ha hb I h fun v u s2 x y H2 I2 rx ry q => ho pins s2 σ H2 x y v u Q I2 rx ry q)
theorem pe_un {op : UnaryOp} {r : V → Hp → VK → Prop} (ho : UnR X (unaryOp op) r) (ha : PE X a ta) : PE X (.UnaryOp op a pos) (tUn r ta) := by
  intro pins s σ H Q I h
  exact UnaryOp_ (thn (ha pins s σ H _ I h) fun v s1 ⟨x, H1, I1, r1, q1⟩ => ho pins s1 σ H1 x v Q I1 r1 q1)
theorem opI {f : Value → Value → Sem Value} {C : Int → Int → Prop} {g : Int → Int → Int}
    (rule : ∀ (i j : Int) (t u : Tok) (s : Shared) (Q : Value → Shared → Prop) (E : Value → Shared → Prop), C i j → Q (.int (g i j) s.toks) { s with toks := s.toks + 1 } → wpAny (model X.prog X.w) X.A (f (.int i t) (.int j u)) Q E s) :
    OpR X f (rI C fun i j => .int (g i j)) := by
  intro pins s σ H x y v u Q I rx ry h
  obtain ⟨i, j, rfl, rfl, hc, q⟩ := h
  obtain ⟨t, rfl⟩ := rx
  obtain ⟨t', rfl⟩ := ry
  exact rule i j t t' s _ _ hc ⟨.int (g i j), H, I.tok _, ⟨_, rfl⟩, q⟩
theorem opI0 {f : Value → Value → Sem Value} {g : Int → Int → Int}
    (rule : ∀ (i j : Int) (t u : Tok) (s : Shared) (Q : Value → Shared → Prop) (E : Value → Shared → Prop), Q (.int (g i j) s.toks) { s with toks := s.toks + 1 } → wpAny (model X.prog X.w) X.A (f (.int i t) (.int j u)) Q E s) :
    OpR X f (rI0 fun i j => .int (g i j)) := by
  intro pins s σ H x y v u Q I rx ry h
  obtain ⟨i, j, rfl, rfl, q⟩ := h
  obtain ⟨t, rfl⟩ := rx
  obtain ⟨t', rfl⟩ := ry
  exact rule i j t t' s _ _ ⟨.int (g i j), H, I.tok _, ⟨_, rfl⟩, q⟩
theorem opB0 {f : Value → Value → Sem Value} {g : Int → Int → Bool}
    (rule : ∀ (i j : Int) (t u : Tok) (s : Shared) (Q : Value → Shared → Prop) (E : Value → Shared → Prop), Q (.bool (g i j)) s → wpAny (model X.prog X.w) X.A (f (.int i t) (.int j u)) Q E s) :
    OpR X f (rI0 fun i j => .bl (g i j)) := by
  intro pins s σ H x y v u Q I rx ry h
  obtain ⟨i, j, rfl, rfl, q⟩ := h
  obtain ⟨t, rfl⟩ := rx
  obtain ⟨t', rfl⟩ := ry
  exact rule i j t t' s _ _ ⟨.bl (g i j), H, I, rfl, q⟩
def CDiv (i j : Int) : Prop := 0 < j ∧ j < 1073741824
def CPow (i j : Int) : Prop := 0 ≤ j ∧ j ≤ 1000000 ∧ i.natAbs < 2 ^ 64
def CMul (i j : Int) : Prop := (-(2 ^ 64) < i ∧ i < 2 ^ 64) ∨ (-(2 ^ 64) < j ∧ j < 2 ^ 64)
theorem CMul.ok {i j : Int} (h : CMul i j) : IntMulOk i j := by
  rcases h with ⟨h1, h2⟩ | ⟨h1, h2⟩
  · exact .of_left (intBits_le_64 h1 h2)
  · exact .of_right (intBits_le_64 h1 h2)
theorem op_add : OpR X (binaryOp .Add) (rI0 fun i j => .int (i + j)) := opI0 fun _ _ _ _ _ _ _ q => add_int q
theorem op_sub : OpR X (binaryOp .Sub) (rI0 fun i j => .int (i - j)) := opI0 fun _ _ _ _ _ _ _ q => sub_int q
theorem op_mul : OpR X (binaryOp .Mult) (rI CMul fun i j => .int (i * j)) := opI fun _ _ _ _ _ _ _ hc q => mul_int q hc.ok
theorem op_fdiv : OpR X (binaryOp .FloorDiv) (rI CDiv fun i j => .int (i / j)) := opI fun i j _ _ _ _ _ hc q => by
  have h1 : (0 : Int) < j := hc.1
  have h2 : j < 1073741824 := hc.2
  exact floordiv_int (by omega) (by rw [Int.fdiv_eq_ediv_of_nonneg i (by omega)]; exact q) (.inl (PyProof.noPylong_small (by omega)))
theorem op_mod : OpR X (binaryOp .Mod) (rI (fun _ j => 0 < j) fun i j => .int (i % j)) := opI fun i j _ _ _ _ _ hc q => by
  have h1 : (0 : Int) < j := hc
  exact mod_int' (by omega) (by rw [Int.fmod_eq_emod_of_nonneg i (by omega)]; exact q)
theorem op_pow : OpR X (binaryOp .Pow) (rI CPow fun i j => .int (i ^ j.toNat)) := opI fun _ _ _ _ _ _ _ hc q => pow_int_small hc.1 hc.2.1 hc.2.2 q
theorem unI {f : Value → Sem Value} {g : Int → Int}
    (rule : ∀ (i : Int) (t : Tok) (s : Shared) (Q : Value → Shared → Prop) (E : Value → Shared → Prop), Q (.int (g i) s.toks) { s with toks := s.toks + 1 } → wpAny (model X.prog X.w) X.A (f (.int i t)) Q E s) :
    UnR X f (rU fun i => .int (g i)) := by
  intro pins s σ H x v Q I rx h
  obtain ⟨i, rfl, q⟩ := h
  obtain ⟨t, rfl⟩ := rx
  exact rule i t s _ _ ⟨.int (g i), H, I.tok _, ⟨_, rfl⟩, q⟩
theorem un_neg : UnR X (unaryOp .USub) (rU fun i => .int (-i)) := unI fun _ _ _ _ _ q => neg_int q
end
def scal : V → V → Bool
  | .non, .non => true | .non, .int _ => true | .int _, .non => true | .non, .bl _ => true | .bl _, .non => true | .non, .str _ => true | .str _, .non => true
  | .int _, .int _ => true | .bl _, .bl _ => true | .str _, .str _ => true | .byt _, .byt _ => true
  | .int _, .str _ => true | .str _, .int _ => true | .bl _, .str _ => true | .str _, .bl _ => true
  | _, _ => false
def rEq : R2 := fun x y H Q => scal x y = true ∧ Q (.bl (decide (x = y))) H
def rNe : R2 := fun x y H Q => scal x y = true ∧ Q (.bl (!decide (x = y))) H
theorem dec_int {i j : Int} : decide (V.int i = V.int j) = (i == j) := by
  rw [Bool.eq_iff_iff]
  simp
theorem dec_bl {i j : Bool} : decide (V.bl i = V.bl j) = (i == j) := by
  rw [Bool.eq_iff_iff]
  simp
theorem dec_str {i j : Str} : decide (V.str i = V.str j) = (i == j) := by
  rw [Bool.eq_iff_iff]
  simp
theorem dec_byt {i j : Array UInt8} : decide (V.byt i = V.byt j) = (i.toList == j.toList) := by
  rw [Bool.eq_iff_iff]
  cases i
  cases j
  simp
section
variable {X : Cx} {a b c : Expr} {ta tb tc : TE} {pos : Pos}
theorem fin_bl {pins : List (Addr × Obj)} {σ : St} {H : Hp} {s : Shared} {Q : VK} {k k' : Bool} (I : Inv X pins σ H s) (q : Q (.bl k) H) (e : k = k') : EP X pins σ Q (.bool k') s := by
  subst e
  exact ⟨.bl k, H, I, rfl, q⟩
theorem op_eq : OpR X (compareOp .Eq) rEq := by
  intro pins s σ H x y v u Q I rx ry h
  obtain ⟨hs, q⟩ := h
  cases x with
  | non =>
    cases rx
    cases y with
    | non => cases ry; exact PySem.EqNone.eq_none_none (fin_bl I q (by simp))
    | bl j => cases ry; exact PySem.EqNone.eq_none_bool (fin_bl I q (by simp))
    | int j => obtain ⟨t', rfl⟩ := ry; exact PySem.EqNone.eq_none_int (fin_bl I q (by simp))
    | str j => obtain ⟨t', rfl⟩ := ry; exact PySem.EqNone.eq_none_str (fin_bl I q (by simp))
    | _ => exact absurd (show false = true from hs) Bool.false_ne_true
  | bl i =>
    cases rx
    cases y with
    | non => cases ry; exact PySem.EqNone.eq_bool_none (fin_bl I q (by simp))
    | bl j => cases ry; exact eq_bool (fin_bl I q dec_bl)
    | str j => obtain ⟨t', rfl⟩ := ry; exact PySem.EqMixed.eq_bool_str (fin_bl I q (by simp))
    | _ => exact absurd (show false = true from hs) Bool.false_ne_true
  | int i =>
    obtain ⟨t, rfl⟩ := rx
    cases y with
    | non => cases ry; exact PySem.EqNone.eq_int_none (fin_bl I q (by simp))
    | int j => obtain ⟨t', rfl⟩ := ry; exact eq_int (fin_bl I q dec_int)
    | str j => obtain ⟨t', rfl⟩ := ry; exact PySem.EqMixed.eq_int_str (fin_bl I q (by simp))
    | _ => exact absurd (show false = true from hs) Bool.false_ne_true
  | str i =>
    obtain ⟨t, rfl⟩ := rx
    cases y with
    | non => cases ry; exact PySem.EqNone.eq_str_none (fin_bl I q (by simp))
    | bl j => cases ry; exact PySem.EqMixed.eq_str_bool (fin_bl I q (by simp))
    | int j => obtain ⟨t', rfl⟩ := ry; exact PySem.EqMixed.eq_str_int (fin_bl I q (by simp))
    | str j => obtain ⟨t', rfl⟩ := ry; exact eq_str (fin_bl I q dec_str)
    | _ => exact absurd (show false = true from hs) Bool.false_ne_true
  | byt i =>
    obtain ⟨t, rfl⟩ := rx
    cases y with
    | byt j => obtain ⟨t', rfl⟩ := ry; exact PySem.W.eq_bytes (fin_bl I q dec_byt)
    | _ => exact absurd (show false = true from hs) Bool.false_ne_true
  | _ => cases y <;> exact absurd (show false = true from hs) Bool.false_ne_true
theorem op_ne : OpR X (compareOp .NotEq) rNe := by
  intro pins s σ H x y v u Q I rx ry h
  obtain ⟨hs, q⟩ := h
  cases x with
  | non =>
    cases rx
    cases y with
    | non => cases ry; exact PySem.EqNone.ne_none_none (fin_bl I q (by simp))
    | bl j => cases ry; exact PySem.EqNone.ne_none_bool (fin_bl I q (by simp))
    | int j => obtain ⟨t', rfl⟩ := ry; exact PySem.EqNone.ne_none_int (fin_bl I q (by simp))
    | str j => obtain ⟨t', rfl⟩ := ry; exact PySem.EqNone.ne_none_str (fin_bl I q (by simp))
    | _ => exact absurd (show false = true from hs) Bool.false_ne_true
  | bl i =>
    cases rx
    cases y with
    | non => cases ry; exact PySem.EqNone.ne_bool_none (fin_bl I q (by simp))
    | bl j => cases ry; exact ne_bool (fin_bl I q (congrArg not dec_bl))
    | str j => obtain ⟨t', rfl⟩ := ry; exact PySem.EqMixed.ne_bool_str (fin_bl I q (by simp))
    | _ => exact absurd (show false = true from hs) Bool.false_ne_true
  | int i =>
    obtain ⟨t, rfl⟩ := rx
    cases y with
    | non => cases ry; exact PySem.EqNone.ne_int_none (fin_bl I q (by simp))
    | int j => obtain ⟨t', rfl⟩ := ry; exact ne_int (fin_bl I q (congrArg not dec_int))
    | str j => obtain ⟨t', rfl⟩ := ry; exact PySem.EqMixed.ne_int_str (fin_bl I q (by simp))
    | _ => exact absurd (show false = true from hs) Bool.false_ne_true
  | str i =>
    obtain ⟨t, rfl⟩ := rx
    cases y with
    | non => cases ry; exact PySem.EqNone.ne_str_none (fin_bl I q (by simp))
    | bl j => cases ry; exact PySem.EqMixed.ne_str_bool (fin_bl I q (by simp))
    | int j => obtain ⟨t', rfl⟩ := ry; exact PySem.EqMixed.ne_str_int (fin_bl I q (by simp))
    | str j => obtain ⟨t', rfl⟩ := ry; exact ne_str (fin_bl I q (congrArg not dec_str))
    | _ => exact absurd (show false = true from hs) Bool.false_ne_true
  | byt i =>
    obtain ⟨t, rfl⟩ := rx
    cases y with
    | byt j => obtain ⟨t', rfl⟩ := ry; exact PySem.W.ne_bytes (fin_bl I q (congrArg not dec_byt))
    | _ => exact absurd (show false = true from hs) Bool.false_ne_true
  | _ => cases y <;> exact absurd (show false = true from hs) Bool.false_ne_true
theorem op_lt : OpR X (compareOp .Lt) (rI0 fun i j => .bl (decide (i < j))) := opB0 fun _ _ _ _ _ _ _ q => lt_int q
theorem op_le : OpR X (compareOp .LtE) (rI0 fun i j => .bl (decide (i ≤ j))) := opB0 fun _ _ _ _ _ _ _ q => le_int q
theorem op_gt : OpR X (compareOp .Gt) (rI0 fun i j => .bl (decide (j < i))) := opB0 fun _ _ _ _ _ _ _ q => gt_int q
theorem op_isN : OpR X (compareOp .Is) (fun x y H Q => y = .non ∧ Q (.bl (decide (x = .non))) H) := by
  intro pins s σ H x y v u Q I rx ry h
  obtain ⟨rfl, q⟩ := h
  cases ry
  refine is_none_gen (fin_bl I q ?_)
  cases x <;> first
    | (cases rx; rfl)
    | (obtain ⟨t, rfl⟩ := rx; rfl)
theorem nomark (b : Expr) {op : CmpOp} (h : op ≠ .In := by decide) (h2 : op ≠ .NotIn := by decide) : behindInMarks op b = false := by
  have e1 : (op == CmpOp.In) = false := by cases op <;> first | rfl | exact absurd rfl h
  have e2 : (op == CmpOp.NotIn) = false := by cases op <;> first | rfl | exact absurd rfl h2
  cases b <;> simp [behindInMarks, e1, e2]
theorem pe_cmpR {op : CmpOp} {r : R2} (ho : OpR X (compareOp op) r) (ha : PE X a ta) (hb : PE X b tb) (hm : behindInMarks op b = false) : PE X (.Compare a [op] [b] pos) (tOp r ta tb) := by
  intro pins s σ H Q I h
  exact wpAny_Compare1 (binT ha hb I h fun v u s2 x y H2 I2 rx ry q => ho pins s2 σ H2 x y v u Q I2 rx ry q) hm
def tTest (t : TE) : TT := fun σ H Q => t σ H fun x H' => ∃ k, x = .bl k ∧ Q k H'
theorem pt_cmpR {op : CmpOp} {r : R2} (ho : OpR X (compareOp op) r) (ha : PE X a ta) (hb : PE X b tb) (hm : behindInMarks op b = false) : PT X (.Compare a [op] [b] pos) (tTest (tOp r ta tb)) := by
  intro pins s σ H Q I h
  refine wpAny_isTrue_Compare1 (thn (ha pins s σ H _ I h) fun v s1 ⟨x, H1, I1, r1, q1⟩ => thn (hb pins s1 σ H1 _ I1 q1) fun u s2 ⟨y, H2, I2, r2, q2⟩ =>
    thn (ho pins s2 σ H2 x y v u _ I2 r1 r2 q2) fun c s3 ⟨z, H3, I3, r3, k, e, q3⟩ => ?_) hm
  subst e
  cases r3
  exact wpAny_truthy_bool ⟨H3, I3, q3⟩
def tChain (r r' : R2) (ta tb tc : TE) : TE := fun σ H Q => ta σ H fun x H1 => tb σ H1 fun y H2 => r x y H2 fun z H3 => ∃ k, z = .bl k ∧
  (if k = true then tc σ H3 fun w' H4 => r' y w' H4 Q else Q (.bl false) H3)
theorem pe_chain {op op' : CmpOp} {r r' : R2} (ho : OpR X (compareOp op) r) (ho' : OpR X (compareOp op') r') (ha : PE X a ta) (hb : PE X b tb) (hc : PE X c tc)
    (hm : lastMarks [op, op'] [b, c] = false := by with_unfolding_all rfl) : PE X (.Compare a [op, op'] [b, c] pos) (tChain r r' ta tb tc) := by
  intro pins s σ H Q I h
  refine Compare_chain (thn (ha pins s σ H _ I h) fun v s1 ⟨x, H1, I1, r1, q1⟩ => chain_link (thn (hb pins s1 σ H1 _ I1 q1) fun u s2 ⟨y, H2, I2, r2, q2⟩ =>
    thn (ho pins s2 σ H2 x y v u _ I2 r1 r2 q2) fun d s3 ⟨z, H3, I3, r3, k, e, q3⟩ => ?_)) hm
  subst e
  cases r3
  refine wpAny_truthy_bool ?_
  cases k with
  | false => exact ite_ff ⟨.bl false, H3, I3, rfl, q3⟩
  | true => exact ite_tt (chain_last (thn (hc pins s3 σ H3 _ I3 q3) fun w' s4 ⟨z', H4, I4, r4, q4⟩ => ho' pins s4 σ H4 y z' u w' Q I4 r2 r4 q4))
theorem line63 : (sizeLine : Nat) < 2 ^ 63 := by rw [sizeLine_eq]; decide
theorem op_add_str : OpR X (binaryOp .Add) (fun x y H Q => ∃ i j, x = .str i ∧ y = .str j ∧ i.length + j.length ≤ sizeLine ∧ Q (.str (i ++ j)) H) := by
  intro pins s σ H x y v u Q I rx ry h
  obtain ⟨i, j, rfl, rfl, hz, q⟩ := h
  obtain ⟨t, rfl⟩ := rx
  obtain ⟨t', rfl⟩ := ry
  exact add_str (fun t' tk => ⟨.str (i ++ j), H, I.tok _, ⟨_, rfl⟩, q⟩) hz
theorem vals1 {x : V} {us : List Value} (r : Vals [x] us) : ∃ u, us = [u] ∧ RelV x u := by
  cases r with
  | cons r1 r2 => cases r2; exact ⟨_, rfl, r1⟩
theorem vals2 {x y : V} {us : List Value} (r : Vals [x, y] us) : ∃ u w', us = [u, w'] ∧ RelV x u ∧ RelV y w' := by
  cases r with
  | cons r1 r2 =>
    cases r2 with
    | cons r3 r4 => cases r4; exact ⟨_, _, rfl, r1, r3⟩
theorem call_max2 (hc : X.calm = true) : CallR X (.builtin "max") (fun xs H Q => ∃ i j, xs = [.int i, .int j] ∧ Q (.int (if j > i then j else i)) H) := by
  intro pins s σ H xs us Q I r h
  obtain ⟨i, j, rfl, q⟩ := h
  obtain ⟨u, w', rfl, ⟨t, rfl⟩, ⟨t', rfl⟩⟩ := vals2 r
  refine max_two_ints (I.ok.hd hc) fun h' tk k => ⟨_, H, I.kept k, ?_, q⟩
  by_cases hj : j > i
  · rw [if_pos hj, if_pos hj]; exact ⟨_, rfl⟩
  · rw [if_neg hj, if_neg hj]; exact ⟨_, rfl⟩
theorem call_min2 (hc : X.calm = true) : CallR X (.builtin "min") (fun xs H Q => ∃ i j, xs = [.int i, .int j] ∧ Q (.int (if j < i then j else i)) H) := by
  intro pins s σ H xs us Q I r h
  obtain ⟨i, j, rfl, q⟩ := h
  obtain ⟨u, w', rfl, ⟨t, rfl⟩, ⟨t', rfl⟩⟩ := vals2 r
  refine min_two_ints (I.ok.hd hc) fun h' tk k => ⟨_, H, I.kept k, ?_, q⟩
  by_cases hj : j < i
  · rw [if_pos hj, if_pos hj]; exact ⟨_, rfl⟩
  · rw [if_neg hj, if_neg hj]; exact ⟨_, rfl⟩
theorem call_int1 : CallR X (.type "int") (fun xs H Q => (∃ i, xs = [.int i] ∧ Q (.int i) H) ∨ ∃ k, xs = [.bl k] ∧ Q (.int (if k then 1 else 0)) H) := by
  intro pins s σ H xs us Q I r h
  rcases h with ⟨i, rfl, q⟩ | ⟨k, rfl, q⟩
  · obtain ⟨u, rfl, t, rfl⟩ := vals1 r
    exact call_int_int ⟨.int i, H, I, ⟨_, rfl⟩, q⟩
  · obtain ⟨u, rfl, r1⟩ := vals1 r
    cases r1
    exact call_int_bool ⟨.int (if k then 1 else 0), H, I.tok _, ⟨_, rfl⟩, q⟩
theorem call_str_int : CallR X (.type "str") (fun xs H Q => ∃ i, xs = [.int i] ∧ i.natAbs.log2 < 1920 ∧ Q (.str (toString i)) H) := by
  intro pins s σ H xs us Q I r h
  obtain ⟨i, rfl, hz, q⟩ := h
  obtain ⟨u, rfl, t, rfl⟩ := vals1 r
  exact PySem.P.str_of_int hz ⟨.str _, H, I.tok _, ⟨_, rfl⟩, q⟩
end
end L2
namespace L2
open PySem PySem.Spec PyProof.Rows
structure ObjM (h : Heap) (x dx C : Addr) (mA : Str → Option Value) : Prop where
  obj : h.get? x = some (PySem.W.instObj C dx)
  ns : h.Ns1 dx mA
  ne : dx ≠ x
theorem lookIn_ns {h : Heap} {dx : Addr} {mA : Str → Option Value} (n : h.Ns1 dx mA) : ∃ od, h.get? dx = some od ∧ ∀ name, PySem.W.lookIn name od = some (mA name) := by
  obtain ⟨o, es, ep, ho, hd, hk, _, hm⟩ := n
  refine ⟨o, ho, fun name => ?_⟩
  have e := hm name
  unfold nsFind findBy at e
  rw [← Array.find?_toList] at e
  unfold PySem.W.lookIn
  rw [hd]
  dsimp only
  split
  · rename_i y q
    rw [q] at e
    exact congrArg some e
  · rename_i q
    rw [q] at e
    have a : es.toList.any (·.refKey) = false := by
      rw [List.any_eq_false]
      intro y hy
      obtain ⟨z, t, hkey⟩ := hk y (Array.mem_toList_iff.mp hy)
      simp [DictEntry.refKey, hkey]
    have a' : ¬ es.toList.any (·.refKey) = true := by rw [a]; exact Bool.false_ne_true
    rw [if_neg a']
    exact congrArg some e
theorem ObjM.look {h : Heap} {x dx C : Addr} {mA : Str → Option Value} (I : ObjM h x dx C mA) : ∃ od, PySem.W.InstAt h x (PySem.W.instObj C dx) C (some od) ∧ ∀ name, PySem.W.lookIn name od = some (mA name) :=
  let ⟨od, ho, hl⟩ := lookIn_ns I.ns
  ⟨od, ⟨I.obj, rfl, rfl, ho⟩, hl⟩
section
variable {prog : Program} {w : World} {A : Around} {E : Value → Shared → Prop} {s : Shared} {K : PySem.W.Frag} {x dx C f : Addr} {mA : Str → Option Value} {name : Str} {v : Value}
theorem get_map {expr : Bool} {Q : Value → Shared → Prop} (X : K.In s.heap) (I : ObjM s.heap x dx C mA) (hg : PySem.W.plainGet K C name = true) (hh : PySem.W.hasDictIn K C = true)
    (ha : PySem.W.findIn K (.ref C) name = some none) (hv : mA name = some v) (hv' : PySem.W.handedIn v = true) (h : Q v { s with toks := s.toks + 1 }) :
    wpAny (model prog w) A (getAttr (.ref x) name expr) Q E s := by
  obtain ⟨od, J, hl⟩ := I.look
  exact PySem.W.get_value X J (PySem.W.plainGet_of hg).1 (PySem.W.findObj_own hh ha rfl (by rw [hl, hv])) hv' h
theorem get_meth {pl : Sem Bool} {Q : Value × List Value → Shared → Prop} (X : K.In s.heap) (I : ObjM s.heap x dx C mA) (hg : PySem.W.plainGet K C name = true)
    (hf : PySem.W.findIn K (.ref C) name = some (some (.ref f))) (ht : PySem.W.isFn K (.ref f) = true) (hv : mA name = none) (h : Q (.ref f, [.ref x]) s) :
    wpAny (model prog w) A (getMethod (.ref x) name pl) Q E s := by
  obtain ⟨od, J, hl⟩ := I.look
  exact PySem.W.method_fn X J (PySem.W.plainGet_of hg).1 (PySem.W.plainGet_of hg).2 hf (beq_iff_eq.mp ht) (by show (PySem.W.lookIn name od).map (·.isSome) = some false; rw [hl, hv]; rfl) h
theorem set_map {ns : List Str} {Q : Unit → Shared → Prop} (X : K.In s.heap) (I : ObjM s.heap x dx C mA)
    (hs : PySem.W.findIn K (.ref C) "__setattr__" = some (some (.builtin "object.__setattr__"))) (hp : PySem.W.plainOver K C = true) (ht : PySem.W.takerIn K C name = some none) (hh : PySem.W.hasDictIn K C = true)
    (hw : PySem.Within mA ns) (hsz : ns.length ≤ sizeLine)
    (h : ∀ h', ObjM h' x dx C (fun y => if y = name then some v else mA y) → Heap.SameBut dx s.heap h' → Q () { s with heap := h', toks := s.toks + 2 }) :
    wpAny (model prog w) A (setAttr (.ref x) name v) Q E s := by
  obtain ⟨od, J, hl⟩ := I.look
  refine PySem.W.set_plain X J hs (PySem.W.osa_open (s := { s with toks := s.toks + 1 }) (r := none) X J hp ht fun b => ?_)
  obtain ⟨cd, hc, hd'⟩ := PySem.W.any_some hh
  have hx : s.heap.get? x = some ⟨.ref C, some dx, .plain, #[]⟩ := I.obj
  refine wpAny_bind (wpAny_pure (wpAny_bind (wpAny_bind (wpAny_loadPart hx (wpAny_bind (PySem.W.Looks.here (s := { s with toks := s.toks + 1 }) (PySem.W.looks_clsIn X hc) ?_))))))
  rw [hd']
  refine wpAny_pure (a := some dx) (wpAny_bind (wpAny_pure (wpAny_bind ?_)))
  refine wpAny_nsSet1 (s := { s with toks := s.toks + 1 }) I.ns fun h' hn2 hs2 => ?_
  obtain ⟨oD, esD, epD, hoD, hdD, hcD⟩ := hn2.count (PySem.Within.cons name v hw)
  refine wpAny_bind (wpAny_lookBehind hoD (by rw [hdD]; exact pastItsLine_dict (Nat.le_trans hcD (by rw [List.length_cons]; omega))) ?_)
  exact wpAny_pure (h _ ⟨(hs2.2 _ (Ne.symm I.ne)).trans I.obj, hn2, I.ne⟩ hs2)
theorem make_map {R : Result → Shared → Prop} {vs : List Value} {kw : List (Str × Value)} (X : K.In s.heap) (hm : PySem.W.makesIn K C = true)
    (hi : PySem.W.findIn K (.ref C) "__init__" = some (some (.ref f))) (hf : PySem.W.typeIn K (.ref f) = some (.type "function"))
    (h : codeAny (model prog w) (A.under (.builtin "type.__call__" ⟨.ref C :: vs, kw⟩)) (.call (.ref f) ⟨.ref (s.heap.objs.size + 1) :: vs, kw⟩) (PySem.W.InitBack (s.heap.objs.size + 1) R)
      { s with heap := (s.heap.push PySem.W.emptyDict).push (PySem.W.instObj C s.heap.objs.size) }) :
    codeAny (model prog w) A (.call (.ref C) ⟨vs, kw⟩) R s := by
  obtain ⟨hh, g, d, t, os⟩ := s
  exact PySem.W.make_core (PySem.W.makes_of X hm) (PySem.W.looks_findIn X hi) (fun self => PySem.W.bind_fn X self hf) (.inl rfl) h
theorem make_map0 {R : Result → Shared → Prop} (X : K.In s.heap) (hm : PySem.W.makesIn K C = true)
    (hi : PySem.W.findIn K (.ref C) "__init__" = some (some (.builtin "object.__init__")))
    (hb : ∀ self, PySem.W.Looks (model prog w) s.heap (bindSpecial (.builtin "object.__init__") self) (.builtin "object.__init__", [self]))
    (h : codeAny (model prog w) (A.under (.builtin "type.__call__" ⟨[.ref C], []⟩)) (.call (.builtin "object.__init__") ⟨[.ref (s.heap.objs.size + 1)], []⟩) (PySem.W.InitBack (s.heap.objs.size + 1) R)
      { s with heap := (s.heap.push PySem.W.emptyDict).push (PySem.W.instObj C s.heap.objs.size) }) :
    codeAny (model prog w) A (.call (.ref C) ⟨[], []⟩) R s := by
  obtain ⟨hh, g, d, t, os⟩ := s
  exact PySem.W.make_core (PySem.W.makes_of X hm) (PySem.W.looks_findIn X hi) hb (.inr ⟨rfl, rfl⟩) h
end
def putF (f : Str) (v : V) : List (Str × V) → List (Str × V)
  | [] => [(f, v)]
  | (g, x) :: r => if g = f then (g, v) :: r else (g, x) :: putF f v r
theorem lookup_putF (f g : Str) (v : V) : ∀ fs : List (Str × V), (putF f v fs).lookup g = if g = f then some v else fs.lookup g
  | [] => by
    show List.lookup g [(f, v)] = _
    by_cases h : g = f
    · have hb : (g == f) = true := beq_iff_eq.mpr h
      simp only [List.lookup, hb, if_pos h]
    · have hb : (g == f) = false := beq_eq_false_iff_ne.mpr h
      simp only [List.lookup, hb, if_neg h]
  | (k, x) :: r => by
    have ih := lookup_putF f g v r
    rw [show putF f v ((k, x) :: r) = (if k = f then (k, v) :: r else (k, x) :: putF f v r) from rfl]
    by_cases hk : k = f
    · rw [if_pos hk]
      by_cases h : g = k
      · have hb : (g == k) = true := beq_iff_eq.mpr h
        simp only [List.lookup, hb, if_pos (h.trans hk)]
      · have hb : (g == k) = false := beq_eq_false_iff_ne.mpr h
        simp only [List.lookup, hb, if_neg (fun e : g = f => h (e.trans hk.symm))]
    · rw [if_neg hk]
      by_cases h : g = k
      · have hb : (g == k) = true := beq_iff_eq.mpr h
        simp only [List.lookup, hb, if_neg (fun e : g = f => hk (h.symm.trans e))]
      · have hb : (g == k) = false := beq_eq_false_iff_ne.mpr h
        simp only [List.lookup, hb]
        exact ih
theorem keys_putF (f : Str) (v : V) : ∀ fs : List (Str × V), f ∈ (putF f v fs).map (·.1) ∧ ∀ g, g ∈ fs.map (·.1) → g ∈ (putF f v fs).map (·.1)
  | [] => ⟨by simp [putF], fun g h => by simp at h⟩
  | (k, x) :: r => by
    obtain ⟨i1, i2⟩ := keys_putF f v r
    rw [show putF f v ((k, x) :: r) = (if k = f then (k, v) :: r else (k, x) :: putF f v r) from rfl]
    by_cases hk : k = f
    · rw [if_pos hk]
      subst hk
      exact ⟨by simp, fun g h => by simpa using h⟩
    · rw [if_neg hk]
      refine ⟨?_, fun g h => ?_⟩
      · rw [List.map_cons]
        exact List.mem_cons_of_mem _ i1
      · rw [List.map_cons] at h ⊢
        rcases List.mem_cons.mp h with e | e
        · exact List.mem_cons.mpr (.inl e)
        · exact List.mem_cons_of_mem _ (i2 g e)
theorem length_putF (f : Str) (v : V) : ∀ fs : List (Str × V), (putF f v fs).length ≤ fs.length + 1
  | [] => by simp [putF]
  | (k, x) :: r => by
    have ih := length_putF f v r
    rw [show putF f v ((k, x) :: r) = (if k = f then (k, v) :: r else (k, x) :: putF f v r) from rfl]
    by_cases hk : k = f
    · rw [if_pos hk, List.length_cons, List.length_cons]; omega
    · rw [if_neg hk, List.length_cons, List.length_cons]; omega
theorem RelO.some_of {v : V} {o : Option Value} (r : RelO (some v) o) : ∃ u, o = some u ∧ RelV v u := by
  cases o with
  | none => exact (show False from r).elim
  | some u => exact ⟨u, rfl, r⟩
theorem RelO.none_of {o : Option Value} (r : RelO none o) : o = none := by
  cases o with
  | none => rfl
  | some u => exact (show False from r).elim
theorem handed_of {v : V} {u : Value} (r : RelV v u) : PySem.W.handedIn u = true := by
  cases v with
  | non => cases (show u = Value.none from r); rfl
  | bl b => cases (show u = Value.bool b from r); rfl
  | int i => obtain ⟨t, e⟩ := (show ∃ t, u = Value.int i t from r); cases e; rfl
  | str x => obtain ⟨t, e⟩ := (show ∃ t, u = Value.str x t from r); cases e; rfl
  | byt b => obtain ⟨t, e⟩ := (show ∃ t, u = Value.bytes b t from r); cases e; rfl
  | flt b => obtain ⟨t, e⟩ := (show ∃ t, u = Value.float b t from r); cases e; rfl
  | ref a => cases (show u = Value.ref a from r); rfl
  | ty n => cases (show u = Value.type n from r); rfl
section
variable {P : Program} {w : World} {H H' : Hp} {h h' : Heap} {a C dx : Addr} {fs fs' : List (Str × V)}
theorem ins_get (hok : HOk P w H h) (e : H a = some (.ins C dx fs)) : ∃ mA, ObjM h a dx C mA ∧ (∀ f, RelO (fs.lookup f) (mA f)) ∧ PySem.Within mA (fs.map (·.1)) ∧ fs.length ≤ 1000 ∧ H dx = some (.own a) := by
  obtain ⟨d, z, ne, ob, mA, n, r, q⟩ := (show ObjOk P w H h a (.ins C dx fs) from hok a _ e)
  exact ⟨mA, ⟨ob, n, ne⟩, r, q, z, d⟩
end
structure Cls (K : PySem.W.Frag) (C : Addr) : Prop where
  pg : PySem.W.plainGet K C Str.empty = true
  hd : PySem.W.hasDictIn K C = true
  po : PySem.W.plainOver K C = true
  sa : PySem.W.findIn K (.ref C) "__setattr__" = some (some (.builtin "object.__setattr__"))
theorem Cls.get {K : PySem.W.Frag} {C : Addr} (c : Cls K C) (f : Str) : PySem.W.plainGet K C f = true := c.pg
def NoAttr (K : PySem.W.Frag) (C : Addr) (f : Str) : Prop := PySem.W.findIn K (.ref C) f = some none
theorem NoAttr.taker {K : PySem.W.Frag} {C : Addr} {f : Str} (n : NoAttr K C f) : PySem.W.takerIn K C f = some none := by
  unfold PySem.W.takerIn
  rw [show PySem.W.findIn K (.ref C) f = some none from n]
  rfl
structure Meth (K : PySem.W.Frag) (C : Addr) (m : Str) (f : Addr) : Prop where
  at_ : PySem.W.findIn K (.ref C) m = some (some (.ref f))
  fn : PySem.W.isFn K (.ref f) = true
  kp : PySem.W.keepIn K (.ref f) = true
section
variable {X : Cx} {pins : List (Addr × Obj)} {σ : St} {H : Hp} {s : Shared} {a C dx : Addr} {fs : List (Str × V)} {f : Str} {v : V} {A : Around} {E : Value → Shared → Prop}
theorem getattr_ok {b : Bool} {Q : Value → Shared → Prop} (I : Inv X pins σ H s) (e : H a = some (.ins C dx fs)) (c : Cls X.K C) (n : NoAttr X.K C f) (l : fs.lookup f = some v)
    (h : ∀ u s', Inv X pins σ H s' → RelV v u → Q u s') : wpAny (model X.prog X.w) A (getAttr (.ref a) f b) Q E s := by
  obtain ⟨mA, O, r, _, _, _⟩ := ins_get I.hok e
  obtain ⟨u, hu, ru⟩ := RelO.some_of (v := v) (o := mA f) (by rw [← l]; exact r f)
  exact get_map I.kIn O (c.get f) c.hd n hu (handed_of ru) (h u _ (I.tok _) ru)
theorem getmeth_ok {m : Str} {g : Addr} {pl : Sem Bool} {Q : Value × List Value → Shared → Prop} (I : Inv X pins σ H s) (e : H a = some (.ins C dx fs)) (c : Cls X.K C) (k : Meth X.K C m g) (l : fs.lookup m = none)
    (h : Q (.ref g, [.ref a]) s) : wpAny (model X.prog X.w) A (getMethod (.ref a) m pl) Q E s := by
  obtain ⟨mA, O, r, _, _, _⟩ := ins_get I.hok e
  have hn : mA m = none := RelO.none_of (by rw [← l]; exact r m)
  exact get_meth I.kIn O (c.get m) k.at_ k.fn hn h
theorem setattr_ok {y : V} {u : Value} {Q : Unit → Shared → Prop} (I : Inv X pins σ H s) (e : H a = some (.ins C dx fs)) (c : Cls X.K C) (n : NoAttr X.K C f) (hl : fs.length < 1000) (ry : RelV y u)
    (h : ∀ s', Inv X pins σ (upd H a (.ins C dx (putF f y fs))) s' → Q () s') : wpAny (model X.prog X.w) A (setAttr (.ref a) f u) Q E s := by
  obtain ⟨mA, O, r, wi, _, ho⟩ := ins_get I.hok e
  have hz : (fs.map (·.1)).length ≤ sizeLine := by rw [List.length_map, sizeLine_eq]; omega
  refine set_map I.kIn O c.sa c.po n.taker c.hd wi hz fun h' O' sb => h _ ?_
  have hd : ∃ o, h'.get? dx = some o := let ⟨o, _, _, e', _⟩ := O'.ns; ⟨o, e'⟩
  refine I.write (x := a) (e := dx) (by rw [e]; exact True.intro) (.inr ho) (fun b q hb z => (sb.2 b hb).trans z) hd ?_
  refine ⟨by rw [upd_ne O.ne]; exact ho, ?_, O.ne, O'.obj, _, O'.ns, fun g => ?_, fun g hg => ?_⟩
  · have := length_putF f y fs; omega
  · show RelO ((putF f y fs).lookup g) (if g = f then some u else mA g)
    rw [lookup_putF]
    by_cases q : g = f
    · rw [if_pos q, if_pos q]; exact ry
    · rw [if_neg q, if_neg q]; exact r g
  · by_cases q : g = f
    · rw [q]; exact (keys_putF f y fs).1
    · refine (keys_putF f y fs).2 g (wi g fun z => hg ?_)
      show (if g = f then some u else mA g) = none
      rw [if_neg q]; exact z
theorem Inv.made (I : Inv X pins σ H s) : Inv X pins σ (upd (upd H s.heap.objs.size (.own (s.heap.objs.size + 1))) (s.heap.objs.size + 1) (.ins C s.heap.objs.size []))
    { s with heap := (s.heap.push PySem.W.emptyDict).push (PySem.W.instObj C s.heap.objs.size) } := by
  have e1 : (s.heap.push PySem.W.emptyDict).get? s.heap.objs.size = some PySem.W.emptyDict := Heap.get?_push_size s.heap rfl
  have e2 : ((s.heap.push PySem.W.emptyDict).push (PySem.W.instObj C s.heap.objs.size)).get? (s.heap.objs.size + 1) = some (PySem.W.instObj C s.heap.objs.size) := by
    have := Heap.get?_push_size (s.heap.push PySem.W.emptyDict) (o := PySem.W.instObj C s.heap.objs.size) rfl
    rwa [Heap.size_push] at this
  have e3 : (s.heap.push PySem.W.emptyDict).Ns s.heap.objs.size (fun _ => none) := ⟨PySem.W.emptyDict, #[], _, e1, rfl, (fun e he => absurd he (by simp)), fun _ => rfl⟩
  have I1 := I.laid (a := s.heap.objs.size) (o := .own (s.heap.objs.size + 1)) (h' := s.heap.push PySem.W.emptyDict) (t' := s.toks) (fun b u q => Heap.get?_push_of_some _ q) (Nat.le_refl _) ⟨_, e1⟩
  refine I1.laid (a := s.heap.objs.size + 1) (o := .ins C s.heap.objs.size []) (t' := s.toks) (fun b u q => Heap.get?_push_of_some _ q) (Nat.le_of_eq (Heap.size_push _ _)) ?_
  have ne : s.heap.objs.size ≠ s.heap.objs.size + 1 := Nat.ne_of_lt (Nat.lt_succ_self _)
  refine ⟨by rw [upd_ne ne, upd_same], Nat.zero_le _, ne, e2, fun _ => none, (Heap.Ns1.of_empty e3).at fun o q => Heap.get?_push_of_some _ q, fun _ => True.intro, fun y hy => absurd rfl hy⟩
theorem attr_of {prog : Program} {w : World} {env : Env} {e : Expr} {f : Str} {pos : Pos} {s : Shared} {Q : Value → Shared → Prop} (hb : attributeBase e f env (eval e env) = eval e env)
    (h : wpAny (model prog w) A (eval e env) (fun o s₁ => wpAny (model prog w) A (getAttr o f true) Q E s₁) E s) : wpAny (model prog w) A (eval (.Attribute e f pos) env) Q E s :=
  Attribute_any_ h (by rw [arm_eval_Attribute, hb])
end
def tFld (K : PySem.W.Frag) (ta : TE) (f : Str) : TE := fun σ H Q => ta σ H fun x H1 => ∃ a C dx fs v, x = .ref a ∧ H1 a = some (.ins C dx fs) ∧ Cls K C ∧ NoAttr K C f ∧ fs.lookup f = some v ∧ Q v H1
def sFld (K : PySem.W.Frag) (ta tv : TE) (f : Str) : TS := fun D σ H => tv σ H fun y H1 => ta σ H1 fun x H2 => ∃ a C dx fs, x = .ref a ∧ H2 a = some (.ins C dx fs) ∧ Cls K C ∧ NoAttr K C f ∧ fs.length < 1000 ∧
  D.nx σ (upd H2 a (.ins C dx (putF f y fs)))
section
variable {X : Cx} {o e value : Expr} {f : Str} {pos pos' tpos : Pos} {ta tv : TE}
theorem pe_fld (he : PE X e ta) (hb : attributeBase e f X.env (eval e X.env) = eval e X.env) : PE X (.Attribute e f pos) (tFld X.K ta f) := by
  intro pins s σ H Q I h
  refine attr_of hb (thn (he pins s σ H _ I h) fun u s1 ⟨x, H1, I1, rx, a, C, dx, fs, v, ex, ea, c, n, l, q⟩ => ?_)
  subst ex
  obtain rfl : u = Value.ref a := rx
  exact getattr_ok I1 ea c n l fun u' s2 I2 ru => ⟨v, H1, I2, ru, q⟩
theorem ps_fld (ha : PE X o ta) (hv : PE X value tv) (hs : swapsWith value (some (.Attribute o f pos')) pos.line X.env = pure false) : PS X (.Assign [.Attribute o f pos'] value pos) (sFld X.K ta tv f) := by
  intro pins s σ H D I h
  refine plainObj_wpAny_Assign_Attribute (thn (hv pins s σ H _ I h) fun u s1 ⟨y, H1, I1, ry, q⟩ => thn (ha pins s1 σ H1 _ I1 q) fun ov s2 ⟨x, H2, I2, rx, a, C, dx, fs, ex, ea, c, n, l, q2⟩ => ?_) hs
  subst ex
  obtain rfl : ov = Value.ref a := rx
  exact setattr_ok I2 ea c n l ry fun s3 I3 => ⟨σ, _, I3, q2⟩
theorem methcall_of {pl : Sem Bool} {m : Str} {apos : Pos} {args : List Expr} {pins : List (Addr × Obj)} {s : Shared} {σ : St} {H : Hp} {Q : Value → Shared → Prop} {te : TE} (he : PE X e te) (I : Inv X pins σ H s)
    (h : te σ H fun x H1 => ∃ a C dx fs g, x = .ref a ∧ H1 a = some (.ins C dx fs) ∧ Cls X.K C ∧ Meth X.K C m g ∧ fs.lookup m = none ∧
      ∀ s1, Inv X pins σ H1 s1 → wpAny (model X.prog X.w) X.A (callWith pos (.ref g) [.ref a] (backTo pos (starEach args X.env)) (backToKw pos (keywordEach [] X.env))) Q X.xe s1)
    (ht : eval (.Call (.Attribute e m apos) args [] pos) X.env = (do
      let ov ← eval e X.env
      standAt apos.atName
      let (f, first) ← holding [ov] (getMethod ov m pl)
      callWith pos f first (backTo pos (starEach args X.env)) (backToKw pos (keywordEach [] X.env)))) :
    wpAny (model X.prog X.w) X.A (eval (.Call (.Attribute e m apos) args [] pos) X.env) Q X.xe s := by
  refine PySem.W.methodCall_KW (pl := pl) (thn (he pins s σ H _ I h) fun u s1 ⟨x, H1, I1, rx, a, C, dx, fs, g, ex, ea, c, k, l, q⟩ => ?_) ht
  subst ex
  obtain rfl : u = Value.ref a := rx
  exact getmeth_ok I1 ea c k l (q s1 I1)
end
section
variable {X : Cx} {pins : List (Addr × Obj)} {σ : St} {H : Hp} {s : Shared} {A : Around} {E : Value → Shared → Prop} {Q : Value → Shared → Prop} {c : Value} {b : Bool}
inductive TyOf (K : PySem.W.Frag) (H : Hp) : V → Value → Prop where
  | non : TyOf K H .non (.type "NoneType")
  | bl (x : Bool) : TyOf K H (.bl x) (.type "bool")
  | int (i : Int) : TyOf K H (.int i) (.type "int")
  | str (x : Str) : TyOf K H (.str x) (.type "str")
  | flt (x : UInt64) : TyOf K H (.flt x) (.type "float")
  | lst {a : Addr} {xs : List V} (e : H a = some (.lst xs)) : TyOf K H (.ref a) (.type "list")
  | frz {a : Addr} {o : Obj} {xs : List V} (e : H a = some (.frz o (.lst xs))) : TyOf K H (.ref a) (.type "list")
  | tup {a : Addr} {xs : List V} (e : H a = some (.tup xs)) : TyOf K H (.ref a) (.type "tuple")
  | dK {a : Addr} {kvs : List (Key × V)} (e : H a = some (.dK kvs)) : TyOf K H (.ref a) (.type "dict")
  | dT {a : Addr} {kvs : List (List Key × V)} (e : H a = some (.dT kvs)) : TyOf K H (.ref a) (.type "dict")
  | ins {a C dx : Addr} {fs : List (Str × V)} (e : H a = some (.ins C dx fs)) (cl : Cls K C) (ha : PySem.W.findIn K (.ref C) "__class__" = some (some (.builtin "object.__class__")))
      (hn : PySem.W.specialIn K (.builtin "object.__class__") "__get__" = some (some (.builtin "getset_descriptor.__get__"))) (htk : PySem.W.takesIn K (.builtin "object.__class__") = some true)
      (hm : PySem.W.mroIn K C (.type "object") = some true) : TyOf K H (.ref a) (.ref C)
theorem isinst_ok {x : V} {u t : Value} (I : Inv X pins σ H s) (rx : RelV x u) (ty : TyOf X.K H x t) (e : PySem.W.kitOne X.K t c = some b) (h : ∀ tk, Q (.bool b) { s with toks := tk }) :
    wpAny (model X.prog X.w) A (call (.builtin "isinstance") [u, c]) Q E s := by
  cases ty with
  | non => cases (show u = Value.none from rx); exact PySem.W.kia_one PySem.W.kitx_none I.kIn True.intro e (fun z => nomatch z) h
  | bl y => cases (show u = Value.bool y from rx); exact PySem.W.kia_one PySem.W.kitx_bool I.kIn True.intro e (fun z => nomatch z) h
  | int i => obtain ⟨t, q⟩ := (show ∃ t, u = Value.int i t from rx); cases q; exact PySem.W.kia_one PySem.W.kitx_int I.kIn True.intro e (fun z => nomatch z) h
  | str y => obtain ⟨t, q⟩ := (show ∃ t, u = Value.str y t from rx); cases q; exact PySem.W.kia_one PySem.W.kitx_str I.kIn True.intro e (fun z => nomatch z) h
  | flt y => obtain ⟨t, q⟩ := (show ∃ t, u = Value.float y t from rx); cases q; exact PySem.W.kia_one PySem.W.kitx_float I.kIn True.intro e (fun z => nomatch z) h
  | @lst a xs ea =>
    cases (show u = Value.ref a from rx)
    obtain ⟨_, _, n, _, h1⟩ := (show ObjOk X.prog X.w H s.heap a (.lst xs) from I.hok a _ ea)
    exact PySem.W.kia_one PySem.W.kitx_list I.kIn ⟨_, h1, rfl⟩ e (fun z => nomatch z) h
  | @frz a ob xs ea =>
    cases (show u = Value.ref a from rx)
    obtain ⟨_, _, _, n, _, h1⟩ := (show ObjOk X.prog X.w H s.heap a (.frz ob (.lst xs)) from I.hok a _ ea)
    exact PySem.W.kia_one PySem.W.kitx_list I.kIn ⟨_, h1, rfl⟩ e (fun z => nomatch z) h
  | @tup a xs ea =>
    cases (show u = Value.ref a from rx)
    obtain ⟨_, _, _, p⟩ := (show ObjOk X.prog X.w H s.heap a (.tup xs) from I.hok a _ ea)
    obtain ⟨o, h1, h2, _⟩ := p
    exact PySem.W.kia_one PySem.W.kitx_tuple I.kIn ⟨o, h1, h2⟩ e (fun z => nomatch z) h
  | @dK a kvs ea =>
    cases (show u = Value.ref a from rx)
    obtain ⟨_, _, vs, _, p⟩ := (show ObjOk X.prog X.w H s.heap a (.dK kvs) from I.hok a _ ea)
    obtain ⟨o, es, ep, h1, h2, _⟩ := p
    exact PySem.W.kia_one PySem.W.kitx_dict I.kIn ⟨o, h1, h2.1⟩ e (fun z => nomatch z) h
  | @dT a kvs ea =>
    cases (show u = Value.ref a from rx)
    obtain ⟨_, _, xs, _, o, es, ep, h1, h2, _⟩ := (show ObjOk X.prog X.w H s.heap a (.dT kvs) from I.hok a _ ea)
    exact PySem.W.kia_one PySem.W.kitx_dict I.kIn ⟨o, h1, h2.1⟩ e (fun z => nomatch z) h
  | @ins a C dx fs ea cl ha hn htk hm =>
    cases (show u = Value.ref a from rx)
    obtain ⟨mA, O, _⟩ := ins_get I.hok ea
    obtain ⟨od, J, _⟩ := O.look
    exact PySem.W.kia_one (PySem.W.kitx_own (cl.get _) cl.hd ha hn htk hm) I.kIn J e (fun z => nomatch z) h
end
end L2
namespace L2
open PySem PySem.Spec PyProof.Rows
structure Room (k : Nat) (A : Around) : Prop where
  hd : A.handled = none
  dp : A.depth + 3 * k + 5 < recursionLimit
  un : A.units + 16 * k + 200 < cLine
theorem Room.mono {j k : Nat} {A : Around} (r : Room k A) (h : j ≤ k) : Room j A := ⟨r.hd, by have := r.dp; omega, by have := r.un; omega⟩
theorem Room.deeper {k : Nat} {A : Around} (r : Room (k + 1) A) (env : Env) : Room k (A.deeper env) :=
  ⟨r.hd, by have := r.dp; show A.depth + 1 + 3 * k + 5 < _; omega, by have := r.un; show A.units + 3 + 16 * k + 200 < _; omega⟩
theorem make_depth {A : Around} {C : Addr} {us : List Value} {kw : List (Str × Value)} : (A.under (.builtin "type.__call__" ⟨.ref C :: us, kw⟩)).depth = A.depth + 1 := by
  first | rfl | simp [Around.under, Code.weight, Code.isCreation, Code.isGuard, Code.isCaller, Code.frames, Code.isFrame, guardIds]
theorem make_units {A : Around} {C : Addr} {us : List Value} {kw : List (Str × Value)} : (A.under (.builtin "type.__call__" ⟨.ref C :: us, kw⟩)).units = A.units + 1 := by
  first | rfl | simp [Around.under, Code.cUnits, Code.frames, Code.isFrame]
theorem Room.make {k : Nat} {A : Around} (r : Room (k + 1) A) (C : Addr) (us : List Value) (kw : List (Str × Value)) : Room k (A.under (.builtin "type.__call__" ⟨.ref C :: us, kw⟩)) :=
  ⟨r.hd, by have := r.dp; rw [make_depth]; omega, by have := r.un; rw [make_units]; omega⟩
theorem Room.depth {k : Nat} {A : Around} (r : Room k A) : A.depth < recursionLimit := by have := r.dp; omega
theorem Room.units {k : Nat} {A : Around} (r : Room k A) : A.units + 64 < cLine := by have := r.un; omega
theorem Room.units0 {k : Nat} {A : Around} (r : Room k A) : A.units < cLine := by have := r.un; omega
def tNil : TA := fun _ H Q => Q [] H
def tCons (ta : TE) (tr : TA) : TA := fun σ H Q => ta σ H fun x H1 => tr σ H1 fun xs H2 => Q (x :: xs) H2
section
variable {X : Cx} {e : Expr} {es : List Expr} {te : TE} {t : TA} {pos : Pos}
theorem pa_nil : PA X [] tNil := fun _ _ _ _ H Q I h => Calls.spliced_nil ⟨[], H, I, .nil, h⟩
theorem pa_cons (ha : PE X e te) (hr : PA X es t) (hs : starEach (e :: es) X.env = (false, eval e X.env) :: starEach es X.env := by rfl) : PA X (e :: es) (tCons te t) := by
  intro pos pins s σ H Q I h
  rw [hs]
  show wpAny _ _ (spliced ((false, eval e X.env) :: backTo pos (starEach es X.env))) _ _ s
  refine Calls.spliced_cons (thn (ha pins s σ H _ I h) fun u s1 ⟨x, H1, I1, r1, q1⟩ => ?_)
  exact thn (hr pos pins s1 σ H1 _ I1 q1) fun us s2 ⟨xs, H2, I2, r2, q2⟩ => ⟨x :: xs, H2, I2, .cons r1 r2, q2⟩
def tTup (t : TA) : TE := fun σ H Q => t σ H fun xs H1 => xs.length ≤ sizeLine ∧ ∀ p, H1 p = none → Q (.ref p) (upd H1 p (.tup xs))
def tLst (t : TA) : TE := fun σ H Q => t σ H fun xs H1 => xs.length ≤ sizeLine ∧ ∀ p, H1 p = none → Q (.ref p) (upd H1 p (.lst xs))
theorem pe_tup {x1} (h : PA X es t) : PE X (.Tuple es x1 pos) (tTup t) := by
  intro pins s σ H Q I hq
  refine wpAny_Tuple_spliced (thn (h pos pins s σ H _ I hq) fun us s1 ⟨xs, H1, I1, r, z, q⟩ => ⟨by rw [← r.length]; exact z, ?_⟩)
  have hf : H1 s1.heap.objs.size = none := I1.hok.fresh (Nat.le_refl _)
  refine ⟨.ref s1.heap.objs.size, upd H1 s1.heap.objs.size (.tup xs), I1.laid (t' := s1.toks) (fun b u e => Heap.get?_push_of_some _ e) (Nat.le_refl _) ?_, rfl, q _ hf⟩
  exact ⟨z, us, r, ⟨_, Heap.get?_push_size _ rfl, rfl, _, rfl⟩⟩
theorem pe_lst (h : PA X es t) : PE X (.List es pos) (tLst t) := by
  intro pins s σ H Q I hq
  refine wpAny_List_spliced (thn (h pos pins s σ H _ I hq) fun us s1 ⟨xs, H1, I1, r, z, q⟩ => ⟨by rw [← r.length]; exact z, ?_⟩)
  have hf : H1 s1.heap.objs.size = none := I1.hok.fresh (Nat.le_refl _)
  refine ⟨.ref s1.heap.objs.size, upd H1 s1.heap.objs.size (.lst xs), I1.laid (t' := s1.toks) (fun b u e => Heap.get?_push_of_some _ e) (Nat.le_refl _) ?_, rfl, q _ hf⟩
  exact ⟨z, us, 0, r, Heap.get?_push_size _ rfl⟩
end
abbrev Sp := List V → Hp → VK → XK → Prop
abbrev CXT := List Env → Hp → Shared → XK → Value → Shared → Prop
structure Env0 (P : Program) (w : World) (K : PySem.W.Frag) (mg : Str → Option Value) (base : Heap) (A : Around) (outer : List Env) (s : Shared) (H : Hp) : Prop where
  frames : A.frames = some outer
  mod : Mod K mg base
  bs : ∀ b o, base.get? b = some o → s.heap.get? b = some o ∧ H b = none
  bsz : base.objs.size ≤ s.heap.objs.size
  funs : s.heap.FunFrames base outer
  frf : ∀ b ∈ frs outer, H b = none
  hok : HOk P w H s.heap
  bare : AllBare s.gens
def CE (outer : List Env) (P : Program) (w : World) (H : Hp) (s : Shared) (Q : VK) (u : Value) (s' : Shared) : Prop :=
  ∃ v H', s'.os = s.os ∧ AllBare s'.gens ∧ Un (frs outer) [] H H' s.heap s'.heap ∧ HOk P w H' s'.heap ∧ RelV v u ∧ Q v H'
def CR (CX : CXT) (outer : List Env) (P : Program) (w : World) (H : Hp) (s : Shared) (Q : VK) (E : XK) (r : Result) (s' : Shared) : Prop :=
  match r with
  | .ok (.ret u) => CE outer P w H s Q u s'
  | .ok _ => False
  | .error e => CX outer H s E e s'
structure FnOk (P : Program) (w : World) (K : PySem.W.Frag) (mg : Str → Option Value) (base : Heap) (CX : CXT) (k : Nat) (f : Addr) (fd : FuncData) (ps : List Str) (sp : Sp) : Prop where
  len : ∀ vs H Q E, sp vs H Q E → vs.length = ps.length
  run : ∀ (A : Around) (outer : List Env) (s : Shared) (H : Hp) (args : Args) (us : List Value) (vs : List V) (Q : VK) (E : XK), Room k A → Env0 P w K mg base A outer s H → BindsTo s fd args (ps.zip us) → Vals vs us → sp vs H Q E →
    codeAny (model P w) A (.call (.ref f) args) (CR CX outer P w H s Q E) s
theorem FnOk.mono {P : Program} {w : World} {K : PySem.W.Frag} {mg : Str → Option Value} {base : Heap} {CX : CXT} {j k : Nat} {f : Addr} {fd : FuncData} {ps : List Str} {sp : Sp} (F : FnOk P w K mg base CX j f fd ps sp) (h : j ≤ k) :
    FnOk P w K mg base CX k f fd ps sp := ⟨F.len, fun A outer s H args us vs Q E hr => F.run A outer s H args us vs Q E (hr.mono h)⟩
theorem Env0.make {P : Program} {w : World} {K : PySem.W.Frag} {mg : Str → Option Value} {base : Heap} {A : Around} {outer : List Env} {s : Shared} {H : Hp} (e : Env0 P w K mg base A outer s H) (C : Addr) (us : List Value) (kw : List (Str × Value)) :
    Env0 P w K mg base (A.under (.builtin "type.__call__" ⟨.ref C :: us, kw⟩)) outer s H := ⟨by first | exact e.frames | (simpa [Around.under, Code.envs, Code.isFrame, pushEnvs] using e.frames), e.mod, e.bs, e.bsz, e.funs, e.frf, e.hok, e.bare⟩
section
variable {X : Cx} {pins : List (Addr × Obj)} {σ : St} {H : Hp} {s s' : Shared}
theorem Inv.env0 (I : Inv X pins σ H s) : Env0 X.prog X.w X.K X.mg X.base X.A X.stack s H :=
  ⟨I.ok.frames, I.ok.mod, I.bs, Nat.le_trans I.ok.bsz I.sz, I.stack, I.stkFree, I.hok, I.bare⟩
theorem Inv.after {Q : VK} {u : Value} (I : Inv X pins σ H s) (h : CE X.stack X.prog X.w H s Q u s') : EP X pins σ Q u s' := by
  obtain ⟨v, H', os, bare, un, hok, r, q⟩ := h
  obtain ⟨hh, g, d, t, os'⟩ := s'
  obtain rfl : os' = s.os := os
  exact ⟨v, H', I.call (h' := hh) (g' := g) (d' := d) (t' := t) (ch := []) un hok bare (fun b z => absurd z (by simp)), r, q⟩
end
def tCall (sp : Sp) (dvs : List V) (E : XK) (t : TA) : TE := fun σ H Q => t σ H fun vs H1 => sp (vs ++ dvs) H1 Q E
def tMeth (C : Addr) (m : Str) (sp : Sp) (dvs : List V) (E : XK) (ta : TE) (t : TA) : TE := fun σ H Q => ta σ H fun x H1 => ∃ a dx fs, x = .ref a ∧ H1 a = some (.ins C dx fs) ∧ fs.lookup m = none ∧
  t σ H1 fun vs H2 => sp (x :: (vs ++ dvs)) H2 Q E
def tMake (C : Addr) (sp : Sp) (dvs : List V) (E : XK) (t : TA) : TE := fun σ H Q => t σ H fun vs H1 => ∀ x dx, H1 x = none → H1 dx = none → dx ≠ x →
  sp (.ref x :: (vs ++ dvs)) (upd (upd H1 dx (.own x)) x (.ins C dx [])) (fun v H2 => v = .non ∧ Q (.ref x) H2) E
def Binds (K : PySem.W.Frag) (fd : FuncData) (ps : List Str) (ds : List Value) : Prop :=
  ∀ (s : Shared) (us : List Value), K.In s.heap → (us ++ ds).length = ps.length → BindsTo s fd ⟨us, []⟩ (ps.zip (us ++ ds))
theorem Binds.all {K : PySem.W.Frag} {fd : FuncData} {ps : List Str} (h : ∀ us : List Value, us.length = ps.length → bindArgs fd ⟨us, []⟩ = pure (ps.zip us)) : Binds K fd ps [] := fun s us _ hl => by
  rw [List.append_nil] at hl ⊢
  exact .of_eq (h us hl)
def Passes (CX : CXT) (X : Cx) (E : XK) : Prop := ∀ (pins : List (Addr × Obj)) (σ : St) (H : Hp) (s : Shared) (e : Value) (s' : Shared), Inv X pins σ H s → CX X.stack H s E e s' → X.xe e s'
section
variable {X : Cx} {CX : CXT} {k : Nat} {f C : Addr} {fd : FuncData} {ps : List Str} {sp : Sp} {dvs : List V} {ds : List Value} {E : XK} {x m : Str} {p pos apos : Pos} {e o : Expr} {es : List Expr} {ta : TE} {t : TA}
theorem run_fn {pins : List (Addr × Obj)} {σ : St} {H : Hp} {s : Shared} {Q : VK} {us : List Value} {vs : List V} (F : FnOk X.prog X.w X.K X.mg X.base CX k f fd ps sp) (hr : Room k X.A) (hb : Binds X.K fd ps ds) (hd : Vals dvs ds) (hx : Passes CX X E)
    (I : Inv X pins σ H s) (r : Vals vs us) (h : sp (vs ++ dvs) H Q E) : wpAny (model X.prog X.w) X.A (call (.ref f) us) (EP X pins σ Q) X.xe s := by
  have r2 : Vals (vs ++ dvs) (us ++ ds) := r.append hd
  have hl : (us ++ ds).length = ps.length := by rw [← r2.length]; exact F.len _ _ _ _ h
  refine wpAny_call (codeAny_mono (F.run X.A X.stack s H ⟨us, []⟩ (us ++ ds) (vs ++ dvs) Q E hr I.env0 (hb s us I.kIn hl) r2 h) fun r s' hq => ?_)
  cases r with
  | error e => exact hx pins σ H s e s' I hq
  | ok fl =>
    cases fl with
    | ret u => exact I.after hq
    | next => exact False.elim hq
    | brk => exact False.elim hq
    | cont => exact False.elim hq
theorem pe_call (F : FnOk X.prog X.w X.K X.mg X.base CX k f fd ps sp) (hr : Room k X.A) (hg : Gl X x) (hm : X.mg x = some (.ref f)) (hk : PySem.W.keepIn X.K (.ref f) = true) (hb : Binds X.K fd ps ds) (hd : Vals dvs ds) (hx : Passes CX X E)
    (ha : PA X (e :: es) t) (hdb : (x == ("__debug__" : Str)) = false := by decide) (he : starEach (e :: es) X.env = (false, eval e X.env) :: starEach es X.env := by rfl) (hpl : (backTo pos (starEach es X.env)).any (·.1) = false := by rfl) :
    PE X (.Call (.Name x p) (e :: es) [] pos) (tCall sp dvs E t) := by
  intro pins s σ H Q I h
  refine wpAny_Call_Name_kw (ld_glob I hg hm ?_ hdb)
  refine PySem.W.callWith_K (h₀ := X.base) I.ok.mod.kin hk (thn (ha pos pins s σ H _ I h) fun us s1 ⟨vs, H1, I1, r, q⟩ => ⟨I1.kIn, ?_⟩) he hpl
  exact run_fn F hr hb hd hx I1 r q
theorem pe_meth {pl : Sem Bool} (he : PE X o ta) (c : Cls X.K C) (hm : Meth X.K C m f) (F : FnOk X.prog X.w X.K X.mg X.base CX k f fd ps sp) (hr : Room k X.A) (hb : Binds X.K fd ps ds) (hd : Vals dvs ds) (hx : Passes CX X E) (ha : PA X (e :: es) t)
    (hst : starEach (e :: es) X.env = (false, eval e X.env) :: starEach es X.env := by rfl) (hpl : (backTo pos (starEach es X.env)).any (·.1) = false := by rfl)
    (ht : eval (.Call (.Attribute o m apos) (e :: es) [] pos) X.env = (do
      let ov ← eval o X.env
      standAt apos.atName
      let (f, first) ← holding [ov] (getMethod ov m pl)
      callWith pos f first (backTo pos (starEach (e :: es) X.env)) (backToKw pos (keywordEach [] X.env))) := by rfl) :
    PE X (.Call (.Attribute o m apos) (e :: es) [] pos) (tMeth C m sp dvs E ta t) := by
  intro pins s σ H Q I h
  refine PySem.W.methodCall_KW (pl := pl) (thn (he pins s σ H _ I h) fun u s1 ⟨x, H1, I1, rx, a, dx, fs, ex, ea, l, q⟩ => ?_) ht
  subst ex
  obtain rfl : u = Value.ref a := rx
  refine getmeth_ok I1 ea c hm l ?_
  refine PySem.W.callWith_K (first := [.ref a]) (h₀ := X.base) I.ok.mod.kin hm.kp (thn (ha pos pins s1 σ H1 _ I1 q) fun us s2 ⟨vs, H2, I2, r, q2⟩ => ⟨I2.kIn, ?_⟩) hst hpl
  exact run_fn (us := .ref a :: us) (vs := .ref a :: vs) F hr hb hd hx I2 (.cons rfl r) q2
theorem pe_meth0 {pl : Sem Bool} (he : PE X o ta) (c : Cls X.K C) (hm : Meth X.K C m f) (F : FnOk X.prog X.w X.K X.mg X.base CX k f fd ps sp) (hr : Room k X.A) (hb : Binds X.K fd ps ds) (hd : Vals dvs ds) (hx : Passes CX X E)
    (ht : eval (.Call (.Attribute o m apos) [] [] pos) X.env = (do
      let ov ← eval o X.env
      standAt apos.atName
      let (f, first) ← holding [ov] (getMethod ov m pl)
      callWith pos f first (backTo pos (starEach [] X.env)) (backToKw pos (keywordEach [] X.env))) := by rfl) :
    PE X (.Call (.Attribute o m apos) [] [] pos) (tMeth C m sp dvs E ta tNil) := by
  intro pins s σ H Q I h
  refine PySem.W.methodCall_KW (pl := pl) (thn (he pins s σ H _ I h) fun u s1 ⟨x, H1, I1, rx, a, dx, fs, ex, ea, l, q⟩ => ?_) ht
  subst ex
  obtain rfl : u = Value.ref a := rx
  refine getmeth_ok I1 ea c hm l ?_
  exact PySem.W.callWith_K0 (first := [.ref a]) I1.kIn hm.kp (run_fn (us := [.ref a]) (vs := [.ref a]) F hr hb hd hx I1 (.cons rfl .nil) q)
structure Mk (K : PySem.W.Frag) (C f : Addr) : Prop where
  makes : PySem.W.makesIn K C = true
  init : PySem.W.findIn K (.ref C) "__init__" = some (some (.ref f))
  fn : PySem.W.isFn K (.ref f) = true
  kp : PySem.W.keepIn K (.ref C) = true
theorem run_make {pins : List (Addr × Obj)} {σ : St} {H : Hp} {s : Shared} {Q : VK} {us : List Value} {vs : List V} (M : Mk X.K C f) (F : FnOk X.prog X.w X.K X.mg X.base CX k f fd ps sp) (hr : Room (k + 1) X.A) (hb : Binds X.K fd ps ds) (hd : Vals dvs ds)
    (hx : Passes CX X E) (I : Inv X pins σ H s) (r : Vals vs us)
    (h : ∀ x dx, H x = none → H dx = none → dx ≠ x → sp (.ref x :: (vs ++ dvs)) (upd (upd H dx (.own x)) x (.ins C dx [])) (fun v H2 => v = .non ∧ Q (.ref x) H2) E) :
    wpAny (model X.prog X.w) X.A (call (.ref C) us) (EP X pins σ Q) X.xe s := by
  have hq := h (s.heap.objs.size + 1) s.heap.objs.size (I.hok.fresh (Nat.le_succ _)) (I.hok.fresh (Nat.le_refl _)) (Nat.ne_of_lt (Nat.lt_succ_self _))
  have I2 := Inv.made (C := C) I
  have r2 : Vals (V.ref (s.heap.objs.size + 1) :: (vs ++ dvs)) (Value.ref (s.heap.objs.size + 1) :: (us ++ ds)) := .cons rfl (r.append hd)
  have hl : (Value.ref (s.heap.objs.size + 1) :: us ++ ds).length = ps.length := by
    have e := r2.length
    rw [F.len _ _ _ _ hq] at e
    exact e.symm
  refine wpAny_call (make_map (f := f) I.kIn M.makes M.init (beq_iff_eq.mp M.fn) (codeAny_mono (F.run _ X.stack _ _ ⟨Value.ref (s.heap.objs.size + 1) :: us, []⟩ (Value.ref (s.heap.objs.size + 1) :: (us ++ ds)) _ _ E (hr.make C us [])
    (I2.env0.make C us []) (hb _ (Value.ref (s.heap.objs.size + 1) :: us) I2.kIn hl) r2 hq) fun r s' hq' => ?_))
  cases r with
  | error e => exact hx pins σ _ _ e s' I2 hq'
  | ok fl =>
    cases fl with
    | ret u =>
      obtain ⟨v, H', I3, rv, ev, q3⟩ := I2.after hq'
      subst ev
      exact ⟨rv, ⟨V.ref (s.heap.objs.size + 1), H', I3, rfl, q3⟩⟩
    | next => exact False.elim hq'
    | brk => exact False.elim hq'
    | cont => exact False.elim hq'
theorem pe_make (M : Mk X.K C f) (F : FnOk X.prog X.w X.K X.mg X.base CX k f fd ps sp) (hr : Room (k + 1) X.A) (hg : Gl X x) (hm : X.mg x = some (.ref C)) (hb : Binds X.K fd ps ds) (hd : Vals dvs ds) (hx : Passes CX X E)
    (ha : PA X (e :: es) t) (hdb : (x == ("__debug__" : Str)) = false := by decide) (he : starEach (e :: es) X.env = (false, eval e X.env) :: starEach es X.env := by rfl) (hpl : (backTo pos (starEach es X.env)).any (·.1) = false := by rfl) :
    PE X (.Call (.Name x p) (e :: es) [] pos) (tMake C sp dvs E t) := by
  intro pins s σ H Q I h
  refine wpAny_Call_Name_kw (ld_glob I hg hm ?_ hdb)
  refine PySem.W.callWith_K (h₀ := X.base) I.ok.mod.kin M.kp (thn (ha pos pins s σ H _ I h) fun us s1 ⟨vs, H1, I1, r, q⟩ => ⟨I1.kIn, ?_⟩) he hpl
  exact run_make M F hr hb hd hx I1 r q
end
section
variable {X : Cx} {CX : CXT} {k : Nat} {f C : Addr} {fd : FuncData} {ps ks : List Str} {sp : Sp} {E : XK} {x m : Str} {p pos apos kpos : Pos} {e o : Expr} {es : List Expr} {kws : List Keyword} {te ta : TE} {t tk : TA} {nm : Option Str}
variable {g : List Value → List Value → List Value} {gV : List V → List V → List V}
end
structure FnScope (N P : List Str) (sc : Scope) : Prop where
  kind : sc.kind = .function
  co : sc.isCoroutine = false
  gen : sc.isGenerator = false
  nd : N.Nodup
  pre : N.take P.length = P
  par : ∀ x ∈ P, sc.names.lookup x = some .local ∨ sc.names.lookup x = some .cell
  nofree : ∀ y ∈ sc.names, y.2 ≠ .free
theorem bindL_out {kindOf : Str → Option NameKind} {x : Str} : ∀ {binds : List (Str × Value)} {m : Str → Option Value}, (∀ v, (x, v) ∉ binds) → bindL kindOf binds m x = m x
  | [], _, _ => rfl
  | (n, v) :: r, m, h => by
    unfold bindL
    rw [bindL_out fun w hw => h w (List.mem_cons_of_mem _ hw)]
    split
    · have : x ≠ n := by rintro rfl; exact h v List.mem_cons_self
      simp [this]
    · rfl
theorem bindC_out {kindOf : Str → Option NameKind} {x : Str} : ∀ {binds : List (Str × Value)} {m : Str → Option Value}, (∀ v, (x, v) ∉ binds) → bindC kindOf binds m x = m x
  | [], _, _ => rfl
  | (n, v) :: r, m, h => by
    unfold bindC
    rw [bindC_out fun w hw => h w (List.mem_cons_of_mem _ hw)]
    split
    · rfl
    · have : x ≠ n := by rintro rfl; exact h v List.mem_cons_self
      simp [this]
theorem bindL_get {kindOf : Str → Option NameKind} {x : Str} {v : Value} : ∀ {P : List Str} {vs : List Value} {i : Nat} {m : Str → Option Value}, P.Nodup → P[i]? = some x → vs[i]? = some v → kindOf x = some .local →
    bindL kindOf (P.zip vs) m x = some v
  | [], _, _, _, _, h, _, _ => by simp at h
  | _ :: _, [], _, _, _, _, h, _ => by simp at h
  | p :: P, w :: vs, 0, m, nd, h1, h2, hk => by
    simp at h1 h2; subst h1; subst h2
    show bindL kindOf ((p, w) :: P.zip vs) m p = _
    unfold bindL
    rw [bindL_out fun v hv => (List.nodup_cons.mp nd).1 (List.of_mem_zip hv).1, if_pos hk]
    simp
  | p :: P, w :: vs, i + 1, m, nd, h1, h2, hk => by
    show bindL kindOf ((p, w) :: P.zip vs) m x = _
    unfold bindL
    exact bindL_get (i := i) (List.nodup_cons.mp nd).2 (by simpa using h1) (by simpa using h2) hk
theorem bindC_get {kindOf : Str → Option NameKind} {x : Str} {v : Value} : ∀ {P : List Str} {vs : List Value} {i : Nat} {m : Str → Option Value}, P.Nodup → P[i]? = some x → vs[i]? = some v → kindOf x ≠ some .local →
    bindC kindOf (P.zip vs) m x = some v
  | [], _, _, _, _, h, _, _ => by simp at h
  | _ :: _, [], _, _, _, _, h, _ => by simp at h
  | p :: P, w :: vs, 0, m, nd, h1, h2, hk => by
    simp at h1 h2; subst h1; subst h2
    show bindC kindOf ((p, w) :: P.zip vs) m p = _
    unfold bindC
    rw [bindC_out fun v hv => (List.nodup_cons.mp nd).1 (List.of_mem_zip hv).1, if_neg hk]
    simp
  | p :: P, w :: vs, i + 1, m, nd, h1, h2, hk => by
    show bindC kindOf ((p, w) :: P.zip vs) m x = _
    unfold bindC
    exact bindC_get (i := i) (List.nodup_cons.mp nd).2 (by simpa using h1) (by simpa using h2) hk
def start (N : List Str) (vs : List V) : St := vs.map some ++ List.replicate (N.length - vs.length) none
def cxOf (CX : CXT) (P : Program) (w : World) (K : PySem.W.Frag) (mg : Str → Option Value) (base : Heap) (N : List Str) (qual : Str) (scope : Scope) (f : Addr) (cd : Value) (A : Around) (outer : List Env) (s : Shared) (H : Hp) (E : XK) : Cx where
  prog := P
  w := w
  K := K
  mg := mg
  base := base
  A := A.deeper (envOfC qual scope s.heap.objs.size f cd)
  N := N
  s₀ := s
  H₀ := H
  env := envOfC qual scope s.heap.objs.size f cd
  outer := outer
  stack := envOfC qual scope s.heap.objs.size f cd :: outer
  ex := []
  calm := true
  fn := fun _ => true
  pn := []
  xe := fun e s' => wpAny (model P w) (A.deeper (envOfC qual scope s.heap.objs.size f cd)) (leaving (envOfC qual scope s.heap.objs.size f cd) e) (fun _ s'' => CX outer H s E e s'') (fun e' s'' => CX outer H s E e' s'') s'
theorem cell_has {sc : Scope} {n : Nat} {x : Str} (h : sc.names.lookup x = some .cell) : ∃ c, (cellsFrom n sc.names []).lookup x = some c := by
  have q := PySem.W.cellsFrom_some sc.names n [] (.inl h)
  exact Option.isSome_iff_exists.mp q
theorem inv_start {CX : CXT} {P : Program} {w : World} {K : PySem.W.Frag} {mg : Str → Option Value} {base : Heap} {N ps : List Str} {qual : Str} {scope : Scope} {f : Addr} {cd : Value} {A : Around} {outer : List Env} {s s1 : Shared} {H : Hp} {E : XK} {us : List Value} {vs : List V}
    (S : FnScope N ps scope) (hd : A.handled = none) (e0 : Env0 P w K mg base A outer s H) (hl : vs.length = ps.length) (r : Vals vs us)
    (x : InCallC s s.heap.objs.size (bindL (envOfC qual scope s.heap.objs.size f cd).kindOf (ps.zip us) fun _ => none) (cellsFrom (s.heap.objs.size + 1) scope.names []) (bindC (envOfC qual scope s.heap.objs.size f cd).kindOf (ps.zip us) fun _ => none) s1) :
    Inv (cxOf CX P w K mg base N qual scope f cd A outer s H E) [] (start N vs) H s1 := by
  have hpl : ps.length ≤ N.length := by have := congrArg List.length S.pre; rw [List.length_take] at this; omega
  obtain ⟨h1, tk, rfl, hk⟩ := x.done
  have noA : ∀ b : Addr, b ∉ (cxOf CX P w K mg base N qual scope f cd A outer s H E).ex := fun b z => absurd (show b ∈ ([] : List Addr) from z) (by simp)
  refine ⟨⟨e0.mod, S.kind, rfl, rfl, Nat.le_refl _, fun y z c h1 h2 => ?_, fun y hy => ?_, fun y c _ h => ?_, fun _ => hd, Around.frames_deeper e0.frames, .inr ⟨rfl, rfl⟩, fun b z => absurd z (noA b), e0.bs, e0.bsz, fun b _ _ => noA b, fun b z => absurd z (noA b), e0.funs, e0.frf⟩,
    rfl, e0.bare, Un.kept hk, ⟨_, x.toInCall.ns, fun i y v h1 h2 h3 => ?_⟩, fun y c h => ⟨_, x.cell y c h⟩, e0.hok.fresh (Nat.le_refl _), fun y c h => ?_, fun p hp => absurd (show p ∈ ([] : List (Addr × Obj)) from hp) (by simp), e0.hok.kept hk, ?_⟩
  · exact name_of_addr x.apart (PySem.mem_of_lookup h1) (PySem.mem_of_lookup h2)
  · have hy : scope.names.lookup y = some .cell ∨ scope.names.lookup y = some .free := hy
    rcases hy with hy | hy
    · exact cell_has hy
    · exact absurd rfl (S.nofree _ (PySem.mem_of_lookup hy))
  · exact Nat.le_of_lt (x.above y c (PySem.mem_of_lookup h))
  · have hi : i < vs.length := by
      unfold start at h2
      by_cases hi : i < vs.length
      · exact hi
      · rw [List.getElem?_append_right (by simpa using hi)] at h2
        rw [List.getElem?_replicate] at h2
        split at h2 <;> cases h2
    have ha : vs[i]? = some v := by
      unfold start at h2
      rw [List.getElem?_append_left (by simpa using hi), List.getElem?_map] at h2
      cases e : vs[i]? with
      | none => rw [e] at h2; cases h2
      | some a => rw [e] at h2; cases h2; rfl
    obtain ⟨u, hu, rv⟩ := r.get ha
    have hp : ps[i]? = some y := by
      rw [← S.pre, List.getElem?_take_of_lt (by omega)]; exact h1
    have ndP : ps.Nodup := by rw [← S.pre]; exact S.nd.sublist (List.take_sublist _ _)
    refine ⟨u, rv, ?_⟩
    rcases S.par y (List.mem_of_getElem? hp) with k | k
    · exact .inl ⟨k, bindL_get ndP hp hu k⟩
    · obtain ⟨c, e⟩ := cell_has (n := s.heap.objs.size + 1) k
      refine .inr ⟨.inl k, c, e, ?_⟩
      have q := x.cell y c e
      rw [bindC_get ndP hp hu (by show scope.names.lookup y ≠ _; rw [k]; decide)] at q
      exact q
  · exact e0.hok.fresh (Nat.le_of_lt (x.above y c (PySem.mem_of_lookup h)))
  · unfold start
    show _ = N.length
    rw [List.length_append, List.length_map, List.length_replicate]
    omega
theorem fn_of {CX : CXT} {P : Program} {w : World} {K : PySem.W.Frag} {mg : Str → Option Value} {base : Heap} {k : Nat} {f : Addr} {name qual : Str} {params : Arguments} {body : List Stmt} {scope : Scope} {dV kV doc pm cdv ct oc : Value} {an od : Option Addr}
    {osl : Array (Option Value)} {N ps : List Str} {sp : Sp} (lk : K.lookup f = some ⟨oc, od, .func (PySem.W.fnOf name qual params body scope dV kV doc pm an cdv ct), osl⟩) (hcd : PySem.W.codeIn K cdv qual = true) (S : FnScope N ps scope)
    (len : ∀ vs H Q E, sp vs H Q E → vs.length = ps.length)
    (hbody : ∀ (A : Around) (outer : List Env) (s : Shared) (H : Hp) (vs : List V) (Q : VK) (E : XK), Room k (A.deeper (envOfC qual scope s.heap.objs.size f cdv)) → sp vs H Q E →
      ∃ t, PSs (cxOf CX P w K mg base N qual scope f cdv A outer s H E) body t ∧ t { nx := fun _ H' => Q .non H', rt := Q } (start N vs) H) :
    FnOk P w K mg base CX (k + 1) f (PySem.W.fnOf name qual params body scope dV kV doc pm an cdv ct) ps sp := by
  refine ⟨len, fun A outer s H args us vs Q E hr e0 hb r hsp => ?_⟩
  have hl := len _ _ _ _ hsp
  have KX : K.In s.heap := e0.mod.kin.keeps fun b o e => (e0.bs b o e).1
  have lim : s.heap.NoLimit := e0.mod.nolimit.keeps fun b o e => (e0.bs b o e).1
  have hkind : ∀ y ∈ ps.zip us, scope.names.lookup y.1 = some .local ∨ (scope.names.lookup y.1 = some .cell ∧ ((cellsFrom (s.heap.objs.size + 1) scope.names []).lookup y.1).isSome = true) := fun ⟨n, v⟩ hy => by
    rcases S.par n (List.of_mem_zip hy).1 with q | q
    · exact .inl q
    · exact .inr ⟨q, PySem.W.cellsFrom_some _ _ _ (.inl q)⟩
  refine codeAny_call_function hr.depth (KX _ _ lk) rfl S.co S.gen rfl (PySem.W.codeRec_of KX hcd) (hb _ _ _ _ ?_)
  refine wpAny_newFunctionEnv_cells S.kind hkind fun env he s1 x => ?_
  subst he
  refine ⟨lim.keeps x.toInCall.keep, codeAny_func ?_⟩
  obtain ⟨t, ht, hq⟩ := hbody A outer s H vs Q E (hr.deeper _) hsp
  have I : Inv (cxOf CX P w K mg base N qual scope f cdv A outer s H E) [] (start N vs) H s1 := inv_start S hr.hd e0 hl r x
  refine wpAny_mono (ht [] s1 (start N vs) H _ I hq) (fun fl s' hs => ?_) fun e s' hs => hs
  have fin : ∀ {σ' : St} {H' : Hp} {v : V} {u : Value}, Inv (cxOf CX P w K mg base N qual scope f cdv A outer s H E) [] σ' H' s' → RelV v u → Q v H' → CE outer P w H s Q u s' :=
    fun {σ' H' v u} J rv q => ⟨v, H', J.os, J.bare, J.base, J.hok, rv, q⟩
  cases fl with
  | ret u =>
    obtain ⟨v, σ', H', J, rv, q⟩ := hs
    exact fin J rv q
  | next =>
    obtain ⟨σ', H', J, q⟩ := hs
    exact fin (v := V.non) (u := Value.none) J rfl q
  | brk =>
    obtain ⟨_, _, _, q⟩ := hs
    exact False.elim q
  | cont =>
    obtain ⟨_, _, _, q⟩ := hs
    exact False.elim q
end L2
namespace L2
open PySem PySem.Spec PyProof.Rows
section
variable {X : Cx} {x : Str} {p pos : Pos} {e : Expr} {es : List Expr} {t : TA} {id T : String} {r : List V → Hp → VK → Prop}
def tCB (r : List V → Hp → VK → Prop) (t : TA) : TE := fun σ H Q => t σ H fun vs H1 => r vs H1 Q
theorem pe_callB (hc : CallR X (.builtin id) r) (hg : Gl X x) (hm : X.mg x = none) (hv : bootBuiltins x = some (.builtin id)) (ha : PA X (e :: es) t) (hn : x ≠ "__name__" := by decide) (hdb : (x == ("__debug__" : Str)) = false := by decide)
    (he : starEach (e :: es) X.env = (false, eval e X.env) :: starEach es X.env := by rfl) (hpl : (backTo pos (starEach es X.env)).any (·.1) = false := by rfl) : PE X (.Call (.Name x p) (e :: es) [] pos) (tCB r t) := by
  intro pins s σ H Q I h
  refine wpAny_Call_Name_kw (ld_blt I hg hm hv ?_ hn hdb)
  exact PyProof.Rows.callWith_builtin1 (thn (ha pos pins s σ H _ I h) fun us s1 ⟨vs, H1, I1, r1, q1⟩ => hc pins s1 σ H1 vs us Q I1 r1 q1) he hpl
theorem pe_callTy (hc : CallR X (.type T) r) (hg : Gl X x) (hm : X.mg x = none) (hv : bootBuiltins x = some (.type T)) (ha : PA X (e :: es) t) (hn : x ≠ "__name__" := by decide) (hdb : (x == ("__debug__" : Str)) = false := by decide)
    (he : starEach (e :: es) X.env = (false, eval e X.env) :: starEach es X.env := by rfl) (hpl : (backTo pos (starEach es X.env)).any (·.1) = false := by rfl) : PE X (.Call (.Name x p) (e :: es) [] pos) (tCB r t) := by
  intro pins s σ H Q I h
  refine wpAny_Call_Name_kw (ld_blt I hg hm hv ?_ hn hdb)
  exact PyProof.Rows.callWith_type1 (thn (ha pos pins s σ H _ I h) fun us s1 ⟨vs, H1, I1, r1, q1⟩ => hc pins s1 σ H1 vs us Q I1 r1 q1) he hpl
end
end L2
namespace HT
open PySem PyProof.Rows
section
open PySem.SeqAt
open PySem.AutoSeq1 (wpAny_loadPart')
open PySem.MeetsSeq PySem.MeetsSeq2 PySem.MeetsSeq3
end
section
variable {prog : Program} {w : World} {A : Around} {E : Value → Shared → Prop} {s : Shared}
def sIx (n d : Nat) : Option Int → Nat
  | none => d
  | some v => if v < 0 then (v + (n : Int)).toNat else min v.toNat n
theorem sIx_none (n d : Nat) : sIx n d none = d := rfl
theorem sIx_nat (n d k : Nat) : sIx n d (some (k : Int)) = min k n := by
  show (if (k : Int) < 0 then ((k : Int) + (n : Int)).toNat else min (k : Int).toNat n) = min k n
  rw [if_neg (by omega), Int.toNat_natCast]
end
end HT
namespace L2
open PySem PySem.Spec PyProof.Rows
abbrev TO := St → Hp → (Option Int → Hp → Prop) → Prop
def PO (X : Cx) (e : Option Expr) (t : TO) : Prop :=
  ∀ (pins : List (Addr × Obj)) (s : Shared) (σ : St) (H : Hp) (Q : Option Int → Hp → Prop), Inv X pins σ H s → t σ H Q →
    wpAny (model X.prog X.w) X.A (evalPart e X.env) (fun u s' => ∃ o H', Inv X pins σ H' s' ∧ IsPart u o ∧ Q o H') X.xe s
def tNoPart : TO := fun _ H Q => Q none H
def tPart (t : TE) : TO := fun σ H Q => t σ H fun x H1 => ∃ i, x = .int i ∧ Q (some i) H1
section
variable {X : Cx} {e : Expr} {te : TE} {lo hi : Option Expr} {tl th : TO} {pos p2 : Pos}
theorem po_none : PO X none tNoPart := by
  intro pins s σ H Q I h
  rw [evalPart_none]
  exact wpAny_pure ⟨none, H, I, .none, h⟩
theorem po_some (h : PE X e te) : PO X (some e) (tPart te) := by
  intro pins s σ H Q I hw
  rw [evalPart_some]
  refine thn (h pins s σ H _ I hw) fun u s1 ⟨x, H1, I1, r1, q1⟩ => ?_
  obtain ⟨i, rfl, q⟩ := q1
  obtain ⟨t, rfl⟩ := r1
  exact ⟨some i, H1, I1, .int i t, q⟩
def SlR (X : Cx) (r : V → Option Int → Option Int → Hp → VK → Prop) : Prop :=
  ∀ (pins : List (Addr × Obj)) (s : Shared) (σ : St) (H : Hp) (x : V) (v vl vu : Value) (lo hi : Option Int) (sl : Addr) (Q : VK), Inv X pins σ H s → RelV x v → s.heap.IsSliceOf sl vl vu .none → IsPart vl lo → IsPart vu hi → r x lo hi H Q →
    ∃ T id, typeLookup (.type T) "__getitem__" = pure (some (.builtin id)) ∧ s.TypeIs v T ∧ wpAny (model X.prog X.w) X.A (getItem v (.ref sl)) (EP X pins σ Q) X.xe s
def tSl (r : V → Option Int → Option Int → Hp → VK → Prop) (te : TE) (tl th : TO) : TE := fun σ H Q => te σ H fun x H1 => tl σ H1 fun l H2 => th σ H2 fun u H3 => r x l u H3 Q
theorem pe_slice {r : V → Option Int → Option Int → Hp → VK → Prop} (hr : SlR X r) (he : PE X e te) (hl : PO X lo tl) (hu : PO X hi th) : PE X (.Subscript e (.Slice lo hi none p2) pos) (tSl r te tl th) := by
  intro pins s σ H Q I h
  refine Subscript_ (thn (he pins s σ H _ I h) fun v s1 ⟨x, H1, I1, r1, q1⟩ => ?_)
  refine wpAny_Slice (thn (hl pins s1 σ H1 _ I1 q1) fun vl s2 ⟨l, H2, I2, pl, q2⟩ => thn (hu pins s2 σ H2 _ I2 q2) fun vu s3 ⟨u, H3, I3, pu, q3⟩ => ?_)
  rw [evalPart_none]
  refine wpAny_pure ?_
  have I4 : Inv X pins σ H3 { s3 with heap := s3.heap.push { cls := .type "slice", data := .fields #[vl, vu, .none] } } := I3.kept (t' := s3.toks) fun b ob q => Heap.get?_push_of_some _ q
  obtain ⟨T, id, hT, ht, hg⟩ := hr pins { s3 with heap := s3.heap.push { cls := .type "slice", data := .fields #[vl, vu, .none] } } σ H3 x v vl vu l u s3.heap.objs.size Q I4 r1 (Heap.IsSliceOf.new ..) pl pu q3
  show wpAny (model X.prog X.w) X.A (subscriptTail e (.Slice lo hi none p2) v (.ref s3.heap.objs.size)) (EP X pins σ Q) X.xe { s3 with heap := s3.heap.push { cls := .type "slice", data := .fields #[vl, vu, .none] } }
  exact tail_any (ops := [.ref s3.heap.objs.size, v]) ht hT hg (by with_unfolding_all rfl)
def cutV (xs : List V) (lo hi : Option Int) : List V := (xs.drop (HT.sIx xs.length 0 lo)).take (HT.sIx xs.length xs.length hi - HT.sIx xs.length 0 lo)
theorem cutV_length (xs : List V) (lo hi : Option Int) : (cutV xs lo hi).length ≤ xs.length := by
  unfold cutV
  rw [List.length_take, List.length_drop]
  omega
end
end L2
namespace L2
open PySem PySem.Spec PyProof.Rows
def ixN (n : Nat) (i : Int) : Option Nat := if 0 ≤ i then (if i < n then some i.toNat else none) else if -(n : Int) ≤ i then some (i + n).toNat else none
def atI {α : Type} (xs : List α) (i : Int) : Option α := (ixN xs.length i).bind fun j => xs[j]?
theorem ixN_seq {n : Nat} {i : Int} {j : Nat} (h : ixN n i = some j) : seqIndex? i n = some j ∧ j < n ∧ -(n : Int) ≤ i ∧ i < n := by
  unfold ixN at h
  by_cases h0 : 0 ≤ i
  · rw [if_pos h0] at h
    by_cases h1 : i < n
    · rw [if_pos h1] at h
      have e : i.toNat = j := Option.some.inj h
      exact ⟨by rw [seqIndex_of h0 h1, e], by omega, by omega, h1⟩
    · rw [if_neg h1] at h; cases h
  · rw [if_neg h0] at h
    by_cases h1 : -(n : Int) ≤ i
    · rw [if_pos h1] at h
      have e : (i + n).toNat = j := Option.some.inj h
      exact ⟨by rw [seqIndex_neg (by omega) h1, e], by omega, h1, by omega⟩
    · rw [if_neg h1] at h; cases h
theorem atI_get {α : Type} {xs : List α} {i : Int} {v : α} (h : atI xs i = some v) : ∃ j, seqIndex? i xs.length = some j ∧ xs[j]? = some v ∧ j < xs.length ∧ -(xs.length : Int) ≤ i ∧ i < xs.length := by
  unfold atI at h
  cases e : ixN xs.length i with
  | none => rw [e] at h; cases h
  | some j =>
    rw [e] at h
    obtain ⟨h1, h2, h3, h4⟩ := ixN_seq e
    exact ⟨j, h1, h, h2, h3, h4⟩
theorem atI_nat {α : Type} {xs : List α} {j : Nat} {v : α} (h : xs[j]? = some v) : atI xs (j : Int) = some v := by
  have hj : j < xs.length := (List.getElem?_eq_some_iff.mp h).1
  have e : ixN xs.length (j : Int) = some j := by
    unfold ixN
    rw [if_pos (by omega), if_pos (by omega)]; simp
  unfold atI; rw [e]; exact h
def PlainIx (b : Expr) : Prop := ∀ o i, subscripted b false o i = operate [o, i] (getItem o i)
def IxR (X : Cx) (r : R2) : Prop :=
  ∀ (value slice : Expr) (pins : List (Addr × Obj)) (s : Shared) (σ : St) (H : Hp) (x y : V) (v u : Value) (Q : VK), Inv X pins σ H s → RelV x v → RelV y u → r x y H Q →
    subscripted slice false v u = operate [v, u] (getItem v u) → wpAny (model X.prog X.w) X.A (subscriptTail value slice v u) (EP X pins σ Q) X.xe s
def MtR (X : Cx) (id : String) (r : V → List V → Hp → VK → Prop) : Prop :=
  ∀ (pins : List (Addr × Obj)) (s : Shared) (σ : St) (H : Hp) (x : V) (xs : List V) (v : Value) (us : List Value) (Q : VK), Inv X pins σ H s → RelV x v → Vals xs us → r x xs H Q →
    wpAny (model X.prog X.w) X.A (call (.builtin id) (v :: us)) (EP X pins σ Q) X.xe s
section
variable {X : Cx} {a b : Expr} {ta tb : TE} {pos : Pos}
theorem pe_ix {r : R2} (hr : IxR X r) (ha : PE X a ta) (hb : PE X b tb) (hs : PlainIx b) : PE X (.Subscript a b pos) (tOp r ta tb) := by
  intro pins s σ H Q I h
  exact Subscript_ (binT ha hb I h fun v u s2 x y H2 I2 rx ry q => hr a b pins s2 σ H2 x y v u Q I2 rx ry q (hs _ _))
def rIxL (K : PySem.W.Frag) : R2 := fun x y H Q => ∃ p xs i v, x = .ref p ∧ y = .int i ∧ SqL K H p xs ∧ atI xs i = some v ∧ Q v H
def rIxT (K : PySem.W.Frag) : R2 := fun x y H Q => ∃ p xs i v, x = .ref p ∧ y = .int i ∧ SqT K H p xs ∧ atI xs i = some v ∧ Q v H
def rIxS : R2 := fun x y H Q => ∃ z i c, x = .str z ∧ y = .int i ∧ z.length ≤ sizeLine ∧ atI z.cps.toList i = some c ∧ Q (.str ⟨#[c]⟩) H
theorem ix_list : IxR X (rIxL X.K) := by
  intro value slice pins s σ H x y v u Q I rx ry h hs
  obtain ⟨p, xs, i, z, rfl, rfl, hq, he, q⟩ := h
  cases rx
  obtain ⟨t, rfl⟩ := ry
  obtain ⟨its, r, pl, hz⟩ := I.list hq
  obtain ⟨j, h1, h2, h3, h4, h5⟩ := atI_get he
  obtain ⟨w, ew, rw'⟩ := r.get h2
  have hl := r.length
  have hn := line63
  have fin : EP X pins σ Q w s := ⟨z, H, I, rw', q⟩
  by_cases h0 : 0 ≤ i
  · have hj : i.toNat = j := by
      rw [seqIndex_of h0 h5] at h1
      exact Option.some.inj h1
    exact item_listR pl.isList h0 (by omega) (by rw [hj]; simpa using ew) fin hs
  · have hj : (i + (its.toArray.size : Int)).toNat = j := by
      rw [seqIndex_neg (by omega) h4] at h1
      rw [List.size_toArray, ← hl]
      exact Option.some.inj h1
    exact subscriptTail_builtinR (x := w) pl.isList.typeIs slot_list_getitem.lookup
      (wpAny_getItem_list_neg (Q := fun r s' => r = w ∧ EP X pins σ Q r s') pl.isList (by omega) (by rw [List.size_toArray] <;> omega) (by omega) (by rw [hj]; simpa using ew) ⟨rfl, fin⟩) hs
theorem ix_tup : IxR X (rIxT X.K) := by
  intro value slice pins s σ H x y v u Q I rx ry h hs
  obtain ⟨p, xs, i, z, rfl, rfl, hq, he, q⟩ := h
  cases rx
  obtain ⟨t, rfl⟩ := ry
  obtain ⟨its, r, pl, hz⟩ := I.tuple hq
  obtain ⟨j, h1, h2, h3, h4, h5⟩ := atI_get he
  obtain ⟨w, ew, rw'⟩ := r.get h2
  have hl := r.length
  have hn := line63
  have fin : EP X pins σ Q w s := ⟨z, H, I, rw', q⟩
  exact subscriptTail_builtinR (x := w) pl.typeIs slot_tuple_getitem.lookup
    (getItem_tuple (j := j) (Q := fun r s' => r = w ∧ EP X pins σ Q r s') pl (by omega) (by omega) (by rw [List.size_toArray, ← hl]; exact h1) (by simpa using ew) ⟨rfl, fin⟩) hs
theorem ix_str : IxR X rIxS := by
  intro value slice pins s σ H x y v u Q I rx ry h hs
  obtain ⟨z, i, c, rfl, rfl, hz, he, q⟩ := h
  obtain ⟨t, rfl⟩ := rx
  obtain ⟨t', rfl⟩ := ry
  obtain ⟨j, h1, h2, h3, h4, h5⟩ := atI_get he
  have hl : z.cps.toList.length = z.length := by simp [Str.length]
  rw [hl] at h1 h4 h5
  have hn := line63
  exact tail_any (typeIs_str s z t) slot_str_getitem.lookup (getItem_str (c := c) (by
    have e1 : decide (i < -(2 ^ 63 : Int)) = false := decide_eq_false (by omega)
    have e2 : decide (i ≥ 2 ^ 63) = false := decide_eq_false (by omega)
    rw [e1, e2, Bool.or_false]) (by rw [h1]; simpa using h2) ⟨.str ⟨#[c]⟩, H, I.tok _, ⟨_, rfl⟩, q⟩) hs
theorem slice_bounds (lo hi : Option Int) (n : Nat) : (sliceBounds lo hi none n).1 = ((HT.sIx n 0 lo : Nat) : Int) ∧ (sliceBounds lo hi none n).2.1 = ((HT.sIx n n hi : Nat) : Int) ∧ (sliceBounds lo hi none n).2.2 = 1 := by
  refine ⟨?_, ?_, rfl⟩
  · cases lo with
    | none => simp [sliceBounds, HT.sIx]
    | some i =>
      simp only [sliceBounds, HT.sIx, Option.getD_none, show (1 : Int) > 0 by decide, if_true]
      by_cases h : i < 0
      · simp only [h, if_true] <;> omega
      · simp only [h, if_false] <;> omega
  · cases hi with
    | none => simp [sliceBounds, HT.sIx]
    | some i =>
      simp only [sliceBounds, HT.sIx, Option.getD_none, show (1 : Int) > 0 by decide, if_true]
      by_cases h : i < 0
      · simp only [h, if_true] <;> omega
      · simp only [h, if_false] <;> omega
theorem slicePick_cut (its : List Value) (lo hi : Option Int) : slicePick its.toArray lo hi none = ((its.drop (HT.sIx its.length 0 lo)).take (HT.sIx its.length its.length hi - HT.sIx its.length 0 lo)).toArray := by
  obtain ⟨h1, h2, h3⟩ := slice_bounds lo hi its.toArray.size
  unfold slicePick
  rw [h1, h2, h3]
  simp only [sliceRange_one, pick_run, List.size_toArray] <;> rfl
def rSlL (K : PySem.W.Frag) : V → Option Int → Option Int → Hp → VK → Prop := fun x lo hi H Q => ∃ a xs, x = .ref a ∧ SqL K H a xs ∧ ∀ p, H p = none → Q (.ref p) (upd H p (.lst (cutV xs lo hi)))
theorem sl_list : SlR X (rSlL X.K) := by
  intro pins s σ H x v vl vu lo hi sl Q I rx hs pl pu h
  obtain ⟨a, xs, rfl, hx, q⟩ := h
  cases rx
  obtain ⟨its, r, ht, hz⟩ := I.list hx
  have hlen := r.length
  refine ⟨"list", _, slot_list_getitem.lookup, ht.isList.typeIs, ?_⟩
  refine wpAny_getItem_list_slice ht.isList hs pl pu .none (by simp) ?_ (by rw [List.size_toArray] <;> omega)
  rw [slicePick_cut, ← hlen]
  refine ⟨.ref s.heap.objs.size, _, I.laid (t' := s.toks) (o := .lst (cutV xs lo hi)) (fun b ob q => Heap.get?_push_of_some _ q) (Nat.le_refl _) ?_, rfl, q _ (I.hok.fresh (Nat.le_refl _))⟩
  exact ⟨Nat.le_trans (cutV_length xs lo hi) hz, _, 0, (r.drop (HT.sIx xs.length 0 lo)).take (HT.sIx xs.length xs.length hi - HT.sIx xs.length 0 lo), Heap.get?_push_size _ rfl⟩
def flatV : V → Bool
  | .non => true
  | .bl _ => true
  | .int _ => true
  | .str _ => true
  | _ => false
def eqV : V → V → Bool
  | .non, .non => true
  | .bl a, .bl b => a == b
  | .bl a, .int b => (if a then 1 else 0) == b
  | .int a, .bl b => a == (if b then 1 else 0)
  | .int a, .int b => a == b
  | .str a, .str b => a == b
  | _, _ => false
theorem eqAt_V {A : Around} {s : Shared} {y x : V} {u v : Value} (ry : RelV y u) (rx : RelV x v) (fy : flatV y = true) (fx : flatV x = true) : SeqAt.EqAt A s u v (eqV y x) := by
  cases y with
  | non =>
    cases ry
    cases x with
    | non => cases rx; exact SeqAt.EqAt.same _
    | bl b => cases rx; exact SeqAt.EqAt.none_bool b
    | int b => obtain ⟨t, rfl⟩ := rx; exact SeqAt.EqAt.none_int b t
    | str b => obtain ⟨t, rfl⟩ := rx; exact SeqAt.EqAt.none_str b t
    | _ => exact absurd (show false = true from fx) Bool.false_ne_true
  | bl a =>
    cases ry
    cases x with
    | non => cases rx; exact SeqAt.EqAt.bool_none a
    | bl b => cases rx; exact SeqAt.EqAt.bool_bool a b
    | int b => obtain ⟨t, rfl⟩ := rx; exact SeqAt.EqAt.bool_int a b t
    | str b => obtain ⟨t, rfl⟩ := rx; exact SeqAt.EqAt.bool_str a b t
    | _ => exact absurd (show false = true from fx) Bool.false_ne_true
  | int a =>
    obtain ⟨t', rfl⟩ := ry
    cases x with
    | non => cases rx; exact SeqAt.EqAt.int_none a t'
    | bl b => cases rx; exact SeqAt.EqAt.int_bool a t' b
    | int b => obtain ⟨t, rfl⟩ := rx; exact SeqAt.EqAt.int_int a t' b t
    | str b => obtain ⟨t, rfl⟩ := rx; exact SeqAt.EqAt.int_str a t' b t
    | _ => exact absurd (show false = true from fx) Bool.false_ne_true
  | str a =>
    obtain ⟨t', rfl⟩ := ry
    cases x with
    | non => cases rx; exact SeqAt.EqAt.str_none a t'
    | bl b => cases rx; exact SeqAt.EqAt.str_bool a t' b
    | int b => obtain ⟨t, rfl⟩ := rx; exact SeqAt.EqAt.str_int a t' b t
    | str b => obtain ⟨t, rfl⟩ := rx; exact SeqAt.EqAt.str_str a t' b t
    | _ => exact absurd (show false = true from fx) Bool.false_ne_true
  | _ => exact absurd (show false = true from fy) Bool.false_ne_true
def eqU (x : V) (u : Value) : Bool := match u with
  | .none => eqV .non x
  | .bool b => eqV (.bl b) x
  | .int i _ => eqV (.int i) x
  | .str z _ => eqV (.str z) x
  | _ => false
theorem eqU_of {x y : V} {u : Value} (r : RelV y u) (f : flatV y = true) : eqU x u = eqV y x := by
  cases y with
  | non => cases r; rfl
  | bl b => cases r; rfl
  | int i => obtain ⟨t, rfl⟩ := r; rfl
  | str z => obtain ⟨t, rfl⟩ := r; rfl
  | _ => exact absurd (show false = true from f) Bool.false_ne_true
theorem any_eqU {x : V} : ∀ {xs : List V} {us : List Value}, Vals xs us → xs.all flatV = true → us.any (eqU x) = xs.any fun y => eqV y x
  | _, _, .nil, _ => rfl
  | y :: xs, u :: us, .cons r t, f => by
    rw [List.all_cons, Bool.and_eq_true] at f
    rw [List.any_cons, List.any_cons, eqU_of r f.1, any_eqU t f.2]
theorem mem_eqAt {A : Around} {s : Shared} {x : V} {v : Value} (rx : RelV x v) (fx : flatV x = true) : ∀ {xs : List V} {us : List Value}, Vals xs us → xs.all flatV = true → ∀ u ∈ us, SeqAt.EqAt A s u v (eqU x u)
  | _, _, .nil, _ => fun u hu => by cases hu
  | y :: xs, u :: us, .cons r t, f => fun u' hu => by
    rw [List.all_cons, Bool.and_eq_true] at f
    rcases List.mem_cons.mp hu with rfl | hu
    · rw [eqU_of r f.1]; exact eqAt_V r rx f.1 fx
    · exact mem_eqAt rx fx t f.2 u' hu
def inV (x : V) (xs : List V) : Bool := xs.any fun y => eqV y x
def rIn (K : PySem.W.Frag) (neg : Bool) : R2 := fun x y H Q => ∃ p xs, y = .ref p ∧ (SqL K H p xs ∨ SqT K H p xs) ∧ flatV x = true ∧ xs.all flatV = true ∧ Q (.bl (if neg then !inV x xs else inV x xs)) H
theorem op_in_seq : OpR X (compareOp .In) (rIn X.K false) := by
  intro pins s σ H x y v u Q I rx ry h
  obtain ⟨p, xs, rfl, hq, fx, fs, q⟩ := h
  cases ry
  rcases hq with hq | hq
  · obtain ⟨its, r, pl, hz⟩ := I.list hq
    refine SeqAt.in_listAt (eqU x) pl.isList (fun w hw => mem_eqAt rx fx r fs w (by simpa using hw)) ⟨.bl _, H, I, rfl, ?_⟩
    rw [show its.toArray.any (eqU x) = its.any (eqU x) by simp, any_eqU r fs]
    exact q
  · obtain ⟨its, r, pl, hz⟩ := I.tuple hq
    refine SeqAt.in_tupleAt (eqU x) pl (fun w hw => mem_eqAt rx fx r fs w (by simpa using hw)) ⟨.bl _, H, I, rfl, ?_⟩
    rw [show its.toArray.any (eqU x) = its.any (eqU x) by simp, any_eqU r fs]
    exact q
theorem op_notIn_seq : OpR X (compareOp .NotIn) (rIn X.K true) := by
  intro pins s σ H x y v u Q I rx ry h
  obtain ⟨p, xs, rfl, hq, fx, fs, q⟩ := h
  cases ry
  rcases hq with hq | hq
  · obtain ⟨its, r, pl, hz⟩ := I.list hq
    refine SeqAt.notIn_listAt (eqU x) pl.isList (fun w hw => mem_eqAt rx fx r fs w (by simpa using hw)) ⟨.bl _, H, I, rfl, ?_⟩
    rw [show its.toArray.any (eqU x) = its.any (eqU x) by simp, any_eqU r fs]
    exact q
  · obtain ⟨its, r, pl, hz⟩ := I.tuple hq
    refine SeqAt.notIn_tupleAt (eqU x) pl (fun w hw => mem_eqAt rx fx r fs w (by simpa using hw)) ⟨.bl _, H, I, rfl, ?_⟩
    rw [show its.toArray.any (eqU x) = its.any (eqU x) by simp, any_eqU r fs]
    exact q
theorem op_notIn_str : OpR X (compareOp .NotIn) (fun x y H Q => ∃ i j, x = .str i ∧ y = .str j ∧ Q (.bl (!(!(Builtin.Str.occurrences j i 0 j.length 1).isEmpty))) H) := by
  intro pins s σ H x y v u Q I rx ry h
  obtain ⟨i, j, rfl, rfl, q⟩ := h
  obtain ⟨t, rfl⟩ := rx
  obtain ⟨t', rfl⟩ := ry
  exact notIn_str ⟨.bl _, H, I, rfl, q⟩
theorem call_len_seq : CallR X (.builtin "len") (fun xs H Q => ∃ p ys, xs = [.ref p] ∧ (SqL X.K H p ys ∨ SqT X.K H p ys) ∧ Q (.int ys.length) H) := by
  intro pins s σ H xs us Q I r h
  obtain ⟨p, ys, rfl, hq, q⟩ := h
  obtain ⟨u, rfl, rx⟩ := vals1 r
  cases rx
  have hn := line63
  rcases hq with hq | hq
  · obtain ⟨its, r', pl, hz⟩ := I.list hq
    have hlen := r'.length
    exact Calls.call_len_list pl.isList (by simp only [List.size_toArray] <;> omega) ⟨.int ys.length, H, I.tok _, ⟨s.toks + 1, by rw [List.size_toArray, hlen]⟩, q⟩
  · obtain ⟨its, r', pl, hz⟩ := I.tuple hq
    have hlen := r'.length
    exact len_tuple pl (by simp only [List.size_toArray] <;> omega) ⟨.int ys.length, H, I.tok _, ⟨s.toks + 1, by rw [List.size_toArray, hlen]⟩, q⟩
theorem call_len_str : CallR X (.builtin "len") (fun xs H Q => ∃ z, xs = [.str z] ∧ z.length ≤ sizeLine ∧ Q (.int z.length) H) := by
  intro pins s σ H xs us Q I r h
  obtain ⟨z, rfl, hz, q⟩ := h
  obtain ⟨u, rfl, t, rfl⟩ := vals1 r
  have hn := line63
  exact len_str (by omega) ⟨.int z.length, H, I.tok _, ⟨_, rfl⟩, q⟩
theorem call_list_of : CallR X (.type "list") (fun xs H Q => ∃ p ys, xs = [.ref p] ∧ (SqL X.K H p ys ∨ SqT X.K H p ys) ∧ ∀ l, H l = none → Q (.ref l) (upd H l (.lst ys))) := by
  intro pins s σ H xs us Q I r h
  obtain ⟨p, ys, rfl, hq, q⟩ := h
  obtain ⟨u, rfl, rx⟩ := vals1 r
  cases rx
  have fin : ∀ (its : List Value), Vals ys its → ys.length ≤ sizeLine → ∀ (h' : Heap) (c' : Nat), (∀ b o', s.heap.get? b = some o' → h'.get? b = some o') →
      h'.get? s.heap.objs.size = some { cls := .type "list", dict := none, data := .seq its.toArray c', slots := #[] } → EP X pins σ Q (.ref s.heap.objs.size) { s with heap := h' } := fun its r' hz h' c' kp e =>
    ⟨.ref s.heap.objs.size, _, I.laid (t' := s.toks) kp (Nat.le_refl _) (show ObjOk X.prog X.w _ h' _ (.lst ys) from ⟨hz, its, c', r', e⟩), rfl, q _ (I.hok.fresh (Nat.le_refl _))⟩
  rcases hq with hq | hq
  · obtain ⟨its, r', pl, hz⟩ := I.list hq
    have hlen := r'.length
    obtain ⟨o, ho, hc, n, hd⟩ := pl.isList
    exact call_list_seq p (.inl rfl) ho hc hd (fun h' c' kp e => fin its r' hz h' c' kp e) (by simp only [List.size_toArray] <;> omega)
  · obtain ⟨its, r', pl, hz⟩ := I.tuple hq
    have hlen := r'.length
    obtain ⟨o, ho, hc, n, hd⟩ := pl
    exact call_list_seq p (.inr rfl) ho hc hd (fun h' c' kp e => fin its r' hz h' c' kp e) (by simp only [List.size_toArray] <;> omega)
def tyV (K : PySem.W.Frag) (T : String) (x : V) (H : Hp) : Prop := match x with
  | .str _ => T = "str"
  | .int _ => T = "int"
  | .ref p => (T = "list" ∧ ∃ xs, SqL K H p xs) ∨ (T = "tuple" ∧ ∃ o, K.lookup p = some o ∧ o.cls = .type "tuple" ∧ o.dict = none) ∨
      (T = "dict" ∧ ((∃ kvs, H p = some (.dK kvs)) ∨ ∃ kvs, H p = some (.dT kvs))) ∨ (T = "set" ∧ ∃ S n, H p = some (.set S n))
  | _ => False
theorem tyV_is {pins : List (Addr × Obj)} {σ : St} {H : Hp} {s : Shared} {T : String} {x : V} {v : Value} (I : Inv X pins σ H s) (r : RelV x v) (ty : tyV X.K T x H) :
    s.TypeIs v T ∧ ∀ a, v = .ref a → ∃ ob, s.heap.get? a = some ob ∧ ob.dict = none := by
  cases x with
  | str z =>
    obtain ⟨t, rfl⟩ := r
    cases (show T = "str" from ty)
    exact ⟨typeIs_str s z t, fun _ e => nomatch e⟩
  | int i =>
    obtain ⟨t, rfl⟩ := r
    cases (show T = "int" from ty)
    exact ⟨typeIs_int s i t, fun _ e => nomatch e⟩
  | ref p =>
    cases r
    rcases ty with ⟨rfl, xs, hq⟩ | ⟨rfl, o, hk, hc, hd⟩ | ⟨rfl, hk⟩ | ⟨rfl, S, n, hk⟩
    · obtain ⟨its, _, pl, _⟩ := I.list hq
      refine ⟨pl.isList.typeIs, fun a e => ?_⟩
      cases e
      obtain ⟨o, n, e, c, hd, _⟩ := pl
      exact ⟨o, e, hd⟩
    · refine ⟨⟨o, I.kIn p o hk, hc⟩, fun a e => ?_⟩
      cases e
      exact ⟨o, I.kIn _ o hk, hd⟩
    · have z : ∃ o, s.heap.get? p = some o ∧ o.ExactDict := by
        rcases hk with ⟨kvs, hk⟩ | ⟨kvs, hk⟩
        · obtain ⟨_, _, _, _, o, _, _, e, ex, _⟩ := I.hok p _ hk
          exact ⟨o, e, ex⟩
        · obtain ⟨_, _, _, _, o, _, _, e, ex, _⟩ := I.hok p _ hk
          exact ⟨o, e, ex⟩
      obtain ⟨o, e, ex⟩ := z
      refine ⟨⟨o, e, ex.1⟩, fun a e2 => ?_⟩
      cases e2
      exact ⟨o, e, ex.2.1⟩
    · obtain ⟨o, _, _, _, e, ex, _⟩ := I.hok p _ hk
      refine ⟨⟨o, e, ex.1⟩, fun a e2 => ?_⟩
      cases e2
      exact ⟨o, e, ex.2.1⟩
  | _ => exact False.elim ty
def tBM (K : PySem.W.Frag) (T : String) (r : V → List V → Hp → VK → Prop) (to : TE) (t : TA) : TE := fun σ H Q => to σ H fun x H1 => tyV K T x H1 ∧ t σ H1 fun xs H2 => r x xs H2 Q
variable {o e : Expr} {es : List Expr} {to : TE} {t : TA} {name : Str} {apos cpos : Pos} {T id : String} {r : V → List V → Hp → VK → Prop}
theorem pe_bm (pa : PlainAttrs T) (slot : Slot T name id) (hty : typeOf (.builtin id) = pure (.type "method_descriptor")) (hm : MtR X id r) (ho : PE X o to) (ha : PA X (e :: es) t)
    (hbase : attributeBase o name X.env (eval o X.env) = eval o X.env := by rfl)
    (hfew : ((backTo cpos (starEach (e :: es) X.env)).all (fun x => !x.1) && (backToKw cpos (keywordEach [] X.env)).all (fun x => x.1.isSome)
      && decide ((e :: es).length + ([] : List Keyword).length + (if ([] : List Keyword).isEmpty then 0 else 1) < 30)) = true := by rfl)
    (hline : (apos.endLine == cpos.line) = true := by rfl) (hs : starEach (e :: es) X.env = (false, eval e X.env) :: starEach es X.env := by rfl) (hplain : (backTo cpos (starEach es X.env)).any (·.1) = false := by rfl) :
    PE X (.Call (.Attribute o name apos) (e :: es) [] cpos) (tBM X.K T r to t) := by
  intro pins s σ H Q I h
  refine wpAny_Call_method_late hbase hfew hline rfl (thn (ho pins s σ H _ I h) fun v s1 ⟨x, H1, I1, r1, ty, q1⟩ => ?_)
  obtain ⟨h1, h2⟩ := tyV_is I1 r1 ty
  refine ⟨T, id, pa, slot, hty, h1, h2, ?_⟩
  have hA := ha cpos pins s1 σ H1 _ I1 q1
  rw [hs] at hA ⊢
  refine Calls.callWith_builtin (by show (false || (backTo cpos (starEach es X.env)).any (·.1)) = false; rw [hplain] <;> rfl) (Calls.evalArgs_plain ?_)
  exact thn hA fun us s2 ⟨vs, H2, I2, r2, q2⟩ => hm pins s2 σ H2 x vs v us Q I2 r1 r2 q2
/- xs.append(e), list.index on a module's tuple .. are MtR facts of 06m -/
end
end L2
namespace L2
open PySem PySem.Spec PyProof.Rows
def MtM (X : Cx) (id : String) (r : V → List V → Hp → VK → Prop) : Prop :=
  ∀ (pins : List (Addr × Obj)) (s : Shared) (σ : St) (H : Hp) (x : V) (xs : List V) (v : Value) (us : List Value) (Q : VK), Inv X pins σ H s → RelV x v → Vals xs us → r x xs H Q →
    wpAny (model X.prog X.w) X.A (call (.builtin id) (v :: us)) (EP X pins σ Q) X.xe s
theorem Vals.one : ∀ {x : V} {us : List Value}, Vals [x] us → ∃ u, us = [u] ∧ RelV x u
  | _, _, .cons r .nil => ⟨_, rfl, r⟩
section
variable {X : Cx} {pins : List (Addr × Obj)} {σ : St} {H : Hp} {s : Shared} {l b : Addr} {xs ys zs : List V}
theorem Inv.lset {its its' : List Value} {n : Nat} {f : Array Value → Array Value} {t' : Nat} (I : Inv X pins σ H s) (hH : H l = some (.lst xs))
    (e : s.heap.get? l = some { cls := .type "list", data := .seq its.toArray n }) (hf : f its.toArray = its'.toArray) (hv : Vals ys its') (hz : ys.length ≤ sizeLine) :
    Inv X pins σ (upd H l (.lst ys)) { s with heap := s.heap.update l (Obj.mapSeq f), toks := t' } := by
  have q := PySem.IsL.update e f
  rw [hf] at q
  refine I.write (x := l) (e := l) (by rw [hH]; exact trivial) (.inl rfl) (fun b' u hb hu => (Heap.get?_update_other s.heap (Obj.mapSeq f) (Ne.symm hb)).trans hu) ⟨_, q⟩ ?_
  exact ⟨hz, its', _, hv, q⟩
theorem Inv.lnew {its : List Value} {t' : Nat} (I : Inv X pins σ H s) (hv : Vals ys its) (hz : ys.length ≤ sizeLine) :
    Inv X pins σ (upd H s.heap.objs.size (.lst ys)) { s with heap := s.heap.push { cls := .type "list", data := .seq its.toArray }, toks := t' } :=
  I.laid (fun _ _ q => Heap.get?_push_of_some _ q) (Nat.le_refl _) ⟨hz, its, 0, hv, Heap.get?_push_size _ rfl⟩
theorem Inv.fresh (I : Inv X pins σ H s) : H s.heap.objs.size = none := I.hok.fresh (Nat.le_refl _)
theorem Inv.lstM (I : Inv X pins σ H s) (hH : H l = some (.lst xs)) : xs.length ≤ sizeLine ∧ ∃ (its : List Value) (n : Nat), Vals xs its ∧ xs.length = its.length ∧ s.heap.get? l = some { cls := .type "list", data := .seq its.toArray n } := by
  obtain ⟨z, its, n, r, e⟩ := I.hok l _ hH
  exact ⟨z, its, n, r, r.length, e⟩
theorem notLongL {n : Nat} (h : n ≤ sizeLine) : Builtin.List.listTooLong n = false := by
  unfold Builtin.List.listTooLong
  exact decide_eq_false (by omega)
end
section
variable {X : Cx}
def rAppend : V → List V → Hp → VK → Prop := fun x vs H Q => ∃ l xs y, x = .ref l ∧ vs = [y] ∧ H l = some (.lst xs) ∧ xs.length < sizeLine ∧ Q .non (upd H l (.lst (xs ++ [y])))
theorem mt_append : MtM X "list.append" rAppend := by
  intro pins s σ H x vs v us Q I rx rv h
  obtain ⟨l, xs, y, rfl, rfl, hH, hz, q⟩ := h
  cases rx
  obtain ⟨u, rfl, ru⟩ := rv.one
  obtain ⟨z, its, n, r, hl, e⟩ := I.lstM hH
  refine call_meets F.slot_list_append ⟨_, e, rfl⟩ F.entry_list_append (F.args_list_append_2 _ _) (PySem.list_append l its.toArray n u (by rw [List.size_toArray]; omega)) ⟨e, ?_⟩
  refine ⟨.non, _, I.lset (its' := its ++ [u]) hH e (by simp) (r.append (.cons ru .nil)) ?_, rfl, q⟩
  rw [List.length_append, List.length_singleton]
  omega
def rExtend : V → List V → Hp → VK → Prop := fun x vs H Q => ∃ l b xs zs, x = .ref l ∧ vs = [.ref b] ∧ H l = some (.lst xs) ∧ H b = some (.lst zs) ∧ xs.length + zs.length ≤ sizeLine ∧ Q .non (upd H l (.lst (xs ++ zs)))
theorem mt_extend : MtM X "list.extend" rExtend := by
  intro pins s σ H x vs v us Q I rx rv h
  obtain ⟨l, b, xs, zs, rfl, rfl, hH, hB, hz, q⟩ := h
  cases rx
  obtain ⟨u, rfl, ru⟩ := rv.one
  cases ru
  obtain ⟨z, its, n, r, hl, e⟩ := I.lstM hH
  obtain ⟨z2, its2, n2, r2, hl2, e2⟩ := I.lstM hB
  have hsz : its.toArray.size + its2.toArray.size ≤ sizeLine := by rw [List.size_toArray, List.size_toArray]; omega
  have hlong : ¬ (!its.toArray.isEmpty && Builtin.List.listTooLong (its.toArray.size + its2.toArray.size)) = true := by
    rw [notLongL hsz, Bool.and_false]
    exact Bool.false_ne_true
  refine call_meets F.slot_list_extend ⟨_, e, rfl⟩ F.entry_list_extend (F.args_list_extend_2 _ _)
    (AutoSeq1.list_extend_list_list_0 l its.toArray n b its2.toArray n2 hlong (by rw [List.size_toArray]; omega) (by omega)) ⟨e, e2, ?_⟩
  refine ⟨.non, _, I.lset (its' := its ++ its2) hH e (by simp) (r.append r2) ?_, rfl, q⟩
  rw [List.length_append]
  omega
def rCat : R2 := fun x y H Q => ∃ l b xs zs, x = .ref l ∧ y = .ref b ∧ H l = some (.lst xs) ∧ H b = some (.lst zs) ∧ xs.length + zs.length ≤ sizeLine ∧ ∀ p, H p = none → Q (.ref p) (upd H p (.lst (xs ++ zs)))
theorem op_cat : OpR X (binaryOp .Add) rCat := by
  intro pins s σ H x y v u Q I rx ry h
  obtain ⟨l, b, xs, zs, rfl, rfl, hH, hB, hz, q⟩ := h
  cases rx
  cases ry
  obtain ⟨z, its, n, r, hl, e⟩ := I.lstM hH
  obtain ⟨z2, its2, n2, r2, hl2, e2⟩ := I.lstM hB
  refine PySem.P.add_list e e2 ?_ (by rw [List.size_toArray, List.size_toArray]; omega)
  have ea : its.toArray ++ its2.toArray = (its ++ its2).toArray := by simp
  rw [ea]
  exact ⟨.ref _, _, I.lnew (t' := s.toks) (r.append r2) (by rw [List.length_append]; omega), rfl, q _ I.fresh⟩
end
section
variable {prog : Program} {w : World} {A : Around} {E : Value → Shared → Prop} {s : Shared}
end
section
variable {X : Cx}
end
end L2
namespace Att
open PySem PySem.W PySem.Calls PyProof.Rows
theorem ints_of_wellAll {P : Params} {h : Heap} : ∀ (ns : List Int) (vs : List Value), WellAll P h vs (ns.map WData.int) → IntsAre vs ns := by
  intro ns
  induction ns with
  | nil =>
    intro vs w
    rw [List.map_nil] at w
    cases w
    exact .nil
  | cons n ns ih =>
    intro vs w
    rw [List.map_cons] at w
    cases w with
    | cons a b =>
      cases a
      exact .cons _ _ (ih _ b)
theorem script_of {l : OpenLaw} {n : Nat} (hn : l.most = some n) {P : Params} {h : Heap} {args : List WData} {vals : List Value}
    (hpre : l.row.toRowW.claim.pre args = true) (hwl : WellAll P h vals args) :
    ∃ a vs ns, vals = [Value.ref a] ∧ args = [WData.list (ns.map WData.int)] ∧ h.get? a = some { cls := .type "list", data := .seq vs.toArray } ∧ IntsAre vs ns ∧ ns.length ≤ n := by
  have hsh : WShape.hasAll [] args [.list .int] = true := (pre_splitW hpre).1
  have hc : l.pre.holds [] { args := args } = true := (pre_splitW hpre).2
  obtain ⟨d, r, rfl, h1, h2⟩ := hasAllW_cons hsh
  obtain rfl := hasAllW_nil h2
  obtain ⟨xs, rfl, h3⟩ := hasW_list h1
  obtain ⟨ns, rfl⟩ := items_int h3
  have hlen : ns.length ≤ n := by
    unfold OpenLaw.pre at hc
    have h4 : (WTm.not (.lt (.lit (.int (n : Int))) (.len (.arg 0)))).holds [] { args := [.list (ns.map .int)] } = true := by
      have h4 := (holds_andW hc).1
      rw [hn] at h4
      exact h4
    have h5 := condW_of h4 (w_not (w_lt w_lit (w_len_list (w_arg rfl))))
    rw [List.length_map] at h5
    refine Nat.le_of_not_lt fun q => ?_
    have q' : (n : Int) < ((ns.length : Nat) : Int) := by omega
    first
      | (rw [decide_eq_true q'] at h5; exact absurd h5 (by decide))
      | (simp at h5; omega)
  cases hwl with
  | cons w1 w2 =>
    cases w2
    cases w1 with
    | list ho hall => exact ⟨_, _, ns, rfl, rfl, ho, ints_of_wellAll ns _ hall, hlen⟩
theorem post_true (l : OpenLaw) (args : List WData) : l.row.toRowW.claim.post args (.bool true) args = true :=
  postW_of (r := l.row.toRowW) (X := (true == true))
    (show WShape.has [] (.bool true) .bool = true by first | rfl | decide | simp [WShape.has, WShape.arms, WShape.armsAll])
    (show (WTm.eq .res (.lit (.bool true))).value [] { args := args, res := some (.bool true), after := args } = some (.bool (true == true)) from w_eq_bool (w_res rfl) w_lit) rfl
theorem attach_call {l : OpenLaw} {n : Nat} {q : Program} {loose : List Str} {XP : (Str → Option Value) → Heap → Prop} {YP : World → Heap → Prop} {d : DefRec}
    (hn : l.most = some n) (hdf : d.params.defaults = [])
    (call : ∀ (w : World) (s₀ s₁ : Shared) (mg mb : Str → Option Value) (fa : Addr) (o : Obj) (pm cd doc : Value) (a : Addr) (vs : List Value) (ns : List Int),
      Ground q loose [] XP w s₀ mg mb s₁.heap → YP w s₁.heap →
      s₁.heap.get? fa = some o → o.data = .func (docDef d.name d.params d.body d.scope pm cd doc) → s₁.heap.CodeRec cd d.name → mg d.name = some (.ref fa) →
      s₁.heap.get? a = some { cls := .type "list", data := .seq vs.toArray } → IntsAre vs ns → ns.length ≤ n → s₁.gens = #[] →
      codeAny (model l.prog w) callerA (.call (.ref fa) ⟨[.ref a], []⟩) (fun r s' => r = .ok (.ret (.bool true)) ∧ OldK s₁.heap s'.heap ∧ s'.os = s₁.os ∧ AllBare s'.gens) s₁) :
    WalkO q loose XP YP l.row.toRowW d [] (fun f vs => PySem.call f vs) := by
  intro w s₀ s₁ mg mb G Y fa o pm cd doc dV kV ho hd hcd hD hmg hg args vals as hpre hlay hrd hwl hlo
  obtain rfl : dV = .none := Dflts.none hD hdf
  obtain rfl : kV = .none := Dflts.noKw hD
  obtain ⟨a, vs, ns, rfl, rfl, hobj, hints, hlen⟩ := script_of hn hpre hwl
  refine enter_call (codeAny_mono (call w s₀ s₁ mg mb fa o pm cd doc a vs ns G Y ho (fd_plain hd) hcd hmg hobj hints hlen hg) fun r s' hq => ?_)
  obtain ⟨rfl, h2, h3, h4⟩ := hq
  exact ⟨.inl ⟨.bool true, .bool true, [], rfl, fun _ => rfl, .bool true, post_true l _, fun _ => ⟨List.Pairwise.nil, fun _ hm => (nomatch hm)⟩⟩, h2, h3, h4⟩
section
variable {prog : Program} {w : World} {A : Around} {E : Value → Shared → Prop} {s : Shared} {K : Frag}
end
end Att
namespace L2
open PySem PySem.Spec PyProof.Rows
theorem vals_ints : ∀ {vs : List Value} {ns : List Int}, IntsAre vs ns → Vals (ns.map V.int) vs
  | _, _, .nil => .nil
  | _, _, .cons n t h => .cons ⟨t, rfl⟩ (vals_ints h)
def Only (H : Hp) : Prop := ∀ b, H b = none ∨ ∃ o xs, H b = some (.frz o (.lst xs))
theorem law_call {P : Program} {w : World} {K : PySem.W.Frag} {mg mb : Str → Option Value} {CX : CXT} {k : Nat} {fa a : Addr} {fd : FuncData} {x : Str} {sp : Sp} {s₁ : Shared} {vs : List Value} {ns : List Int}
    (KX : K.In s₁.heap) (hns : s₁.heap.Ns mainGlobals mg) (hb : s₁.heap.Ns builtinsNs mb) (hbb : ∀ x : Str, x ≠ "__name__" → mb x = bootBuiltins x) (hlim : s₁.heap.NoLimit) (hg : s₁.gens = #[])
    (ha : s₁.heap.get? a = some { cls := .type "list", data := .seq vs.toArray }) (hi : IntsAre vs ns) (hl : ns.length ≤ sizeLine) (hr : Room k callerA)
    (F : ∀ base : Heap, K.In base → base.Ns mainGlobals mg → FnOk P w K mg base CX k fa fd [x] sp) (hbind : ∀ (s : Shared) (u : Value), BindsTo s fd ⟨[u], []⟩ [(x, u)])
    (hsp : ∀ H : Hp, Only H → SqL K H a (ns.map V.int) → sp [.ref a] H (fun v _ => v = .bl true) fun _ _ _ => False)
    (hCX : ∀ H e s', CX [] H s₁ (fun _ _ _ => False) e s' → False) :
    codeAny (model P w) callerA (.call (.ref fa) ⟨[.ref a], []⟩) (fun r s' => r = .ok (.ret (.bool true)) ∧ OldK s₁.heap s'.heap ∧ s'.os = s₁.os ∧ AllBare s'.gens) s₁ := by
  have rv := vals_ints hi
  have lenV := hi.length
  have core : ∀ H : Hp, Only H → SqL K H a (ns.map V.int) → HOk P w H s₁.heap → (∀ b, H b ≠ none → b = a) → (H a ≠ none → K.lookup a = none) →
      codeAny (model P w) callerA (.call (.ref fa) ⟨[.ref a], []⟩) (fun r s' => r = .ok (.ret (.bool true)) ∧ OldK s₁.heap s'.heap ∧ s'.os = s₁.os ∧ AllBare s'.gens) s₁ := by
    intro H hO hS hok hA hK
    have base_of : ∀ {b : Addr} {o : Obj}, s₁.heap.get? b = some o → H b = none → (hidT s₁.heap H).get? b = some o := fun e n => hidT_get e n
    have noA : ∀ {b : Addr} {o : Obj} {es : Array DictEntry} {ep : Nat}, s₁.heap.get? b = some o → o.data = .dict es ep → H b = none := fun {b o es ep} e d => by
      cases q : H b with
      | none => rfl
      | some u =>
        have e' : b = a := hA b (by rw [q]; simp)
        subst e'
        rw [ha] at e; cases e
        have d' : Data.seq vs.toArray _ = Data.dict es ep := d
        cases d'
    have nsK : ∀ {b : Addr} {m : Str → Option Value}, s₁.heap.Ns b m → (hidT s₁.heap H).Ns b m := fun {b m} ⟨o, es, ep, e, d, r⟩ => ⟨o, es, ep, base_of e (noA e d), d, r⟩
    have hKb : K.In (hidT s₁.heap H) := fun b o e => base_of (KX b o e) (by
      cases q : H b with
      | none => rfl
      | some u =>
        have e' : b = a := hA b (by rw [q]; simp)
        subst e'
        rw [hK (by rw [q]; simp)] at e; cases e)
    have hM : Mod K mg (hidT s₁.heap H) := ⟨hKb, nsK hns, ⟨mb, nsK hb, hbb⟩, let ⟨mc, h1, h2⟩ := hlim; ⟨mc, nsK h1, h2⟩⟩
    have e0 : Env0 P w K mg (hidT s₁.heap H) callerA [] s₁ H := ⟨rfl, hM, fun b o e => of_hidT e, Nat.le_of_eq (hidT_size _ _), trivial, fun b hb => absurd (show b ∈ ([] : List Addr) from hb) (by simp), hok, .of_eq hg⟩
    refine codeAny_mono ((F _ hKb (nsK hns)).run callerA [] s₁ H ⟨[.ref a], []⟩ [.ref a] [.ref a] _ _ hr e0 (hbind s₁ (.ref a)) (.cons rfl .nil) (hsp H hO hS)) fun r s' h => ?_
    cases r with
    | error e => exact (hCX H e s' h).elim
    | ok fl =>
      cases fl with
      | next => exact False.elim h
      | brk => exact False.elim h
      | cont => exact False.elim h
      | ret u =>
        obtain ⟨v, H', os, bare, un, hok', r', q⟩ := h
        have q' : v = .bl true := q
        subst q'
        obtain rfl : u = Value.bool true := r'
        refine ⟨rfl, OldK.of_keep fun b o e => ?_, os, bare⟩
        cases q : H b with
        | none => exact un.keep b o e q (by intro z; exact absurd (show b ∈ ([] : List Addr) from z) (by simp)) (by simp)
        | some u =>
          rcases hO b with z | ⟨ob, xs, z⟩
          · rw [q] at z; cases z
          · have z2 := un.frzs b ob _ z
            obtain ⟨e1, _⟩ := hok b _ z
            obtain ⟨e2, _⟩ := hok' b _ z2
            rw [e] at e1; cases e1
            exact e2
  cases hk : K.lookup a with
  | some o =>
    have e := KX a o hk
    rw [ha] at e
    cases e
    refine core (fun _ => none) (fun _ => .inl rfl) (.inr ⟨_, vs.toArray, _, hk, rfl, rfl, rfl, by rw [List.size_toArray, lenV]; exact hl, by simpa using rv⟩) (fun b u z => by have z' : (none : Option HO) = some u := z; cases z') (fun b z => absurd rfl z) fun z => absurd rfl z
  | none =>
    refine core (fun b => if b = a then some (.frz { cls := .type "list", data := .seq vs.toArray } (.lst (ns.map V.int))) else none) (fun b => ?_) (.inl (.inr ⟨{ cls := .type "list", data := .seq vs.toArray }, if_pos rfl⟩)) (fun b u z => ?_) (fun b z => ?_) fun _ => hk
    · by_cases hb : b = a
      · exact .inr ⟨_, _, if_pos hb⟩
      · exact .inl (if_neg hb)
    · by_cases hb : b = a
      · have z' := (if_pos hb).symm.trans z
        cases z'
        subst hb
        exact ⟨ha, by rw [List.length_map]; exact hl, vs, _, rv, ha⟩
      · have z' := (if_neg hb).symm.trans z
        cases z'
    · by_cases hb : b = a
      · exact hb
      · exact absurd (if_neg hb) z
end L2
namespace L2
open PySem PySem.Spec PyProof.Rows
theorem walk_of {l : PySem.W.OpenLaw} {n k : Nat} {q : Program} {loose : List Str} {XP : (Str → Option Value) → Heap → Prop} {YP : World → Heap → Prop} {d : DefRec} {K : Params → PySem.W.Frag} {CX : World → CXT} {sp : World → Sp} {x : Str}
    (hn : l.most = some n) (hn2 : n ≤ sizeLine) (hdf : d.params.defaults = []) (hr : Room k callerA)
    (hY : ∀ (w : World) (h : Heap), YP w h → (K w.params).In h)
    (F : ∀ (w : World) (mg : Str → Option Value) (fa : Addr) (h : Heap), (K w.params).In h → h.Ns mainGlobals mg → mg d.name = some (.ref fa) →
      ∃ fd : FuncData, (∀ (s : Shared) (u : Value), BindsTo s fd ⟨[u], []⟩ [(x, u)]) ∧
        ∀ base : Heap, (K w.params).In base → base.Ns mainGlobals mg → FnOk l.prog w (K w.params) mg base (CX w) k fa fd [x] (sp w))
    (hsp : ∀ (w : World) (H : Hp) (a : Addr) (ns : List Int), ns.length ≤ n → Only H → SqL (K w.params) H a (ns.map V.int) → sp w [.ref a] H (fun v _ => v = .bl true) fun _ _ _ => False)
    (hCX : ∀ (w : World) (H : Hp) (s : Shared) (e : Value) (s' : Shared), CX w [] H s (fun _ _ _ => False) e s' → False) :
    PySem.W.WalkO q loose XP YP l.row.toRowW d [] (fun f vs => PySem.call f vs) := by
  refine Att.attach_call hn hdf fun w s₀ s₁ mg mb fa o pm cd doc a vs ns G Y ho hd hcd hmg hobj hints hlen hg => ?_
  have KX := hY w _ Y
  obtain ⟨fd, hb, hF⟩ := F w mg fa _ KX G.T.g hmg
  exact law_call KX G.T.g G.T.b G.T.builtins G.T.nolimit hg hobj hints (Nat.le_trans hlen hn2) hr hF hb (fun H hO hS => hsp w H a ns hlen hO hS) fun H e s' => hCX w H s₁ e s'
end L2
/- THE LAST THEOREM (shape; LID, My.* are yours):
   My.Adr: a structure of the addresses that your layer names (classes, functions); My.Txt K t: a structure (Prop) of the equations over K;
   My.txt_mk : {K} {implicit addresses ..} (e1 : nsIn K mainGlobals "law" = some (some (.ref f))) (e2 : K.lookup f = some ⟨oc, od, .func (fnOf "law" "law" params body scope dV kV doc pm an cdv ct), sl⟩) (e3 : codeIn K cdv "law" = true) .. : ∃ t, My.Txt K t
theorem PySem.Challenge.cw_LID_holds : PySem.Challenge.rw_LID.Holds := by
  w_on; o_law; k_head; (case hw => w_witness2)
  k_fill
  refine L2.walk_of (l := PySem.Challenge.rw_LID) (n := 63) (k := 40) (x := "script") (CX := fun w => ..) (sp := fun _ => My.sp_law) rfl (by decide) rfl ⟨rfl, by decide, by decide⟩ (fun w h Y => PySem.W.kIn_of Y) ?F ?S ?C
  case F =>
    intro w mg fa h KX G hmg
    have T : ∃ t, My.Txt (L2.KOf KX) t := by
      dsimp only [L2.KOf]                          -- K must stand as «<heap const> w.params» for k_is
      refine' My.txt_mk ?e1 ?e2 ?e3 ..
      (case e1 => PySem.W.k_is)                    -- in the order: a name -> its address -> its object -> its parts
      (case e2 => PySem.W.k_is)
      ..
    obtain ⟨t, T⟩ := T
    have e0 := hmg.symm.trans (PySem.W.mg_of KX G T.law)
    cases e0                                       -- fa is the law's own address
    exact ⟨_, fun s u => .of_eq rfl, fun base kb nb => My.law_fn T kb nb⟩     -- if «.of_eq rfl» comes too early: refine' ⟨_, ?b, fun base kb nb => My.law_fn T kb nb⟩; exact fun s u => .of_eq rfl
  case S => exact fun w H a ns hl hO hS => ..
  case C => exact ..
(the tactic k_is has no namespace: write k_is) -/
namespace L2
open PySem PySem.Spec PyProof.Rows
def inClass (s : Stmt) (j : Nat) : Stmt := match s with
  | .ClassDef _ _ _ body _ _ _ _ _ _ _ => body.getD j (.Pass ⟨0, 0, 0, 0⟩)
  | _ => .Pass ⟨0, 0, 0, 0⟩
def defArgs (s : Stmt) : Arguments := match s with
  | .FunctionDef _ a _ _ _ _ _ _ _ _ => a
  | _ => { posonlyargs := [], args := [], vararg := none, kwonlyargs := [], kw_defaults := [], kwarg := none, defaults := [] }
def defBody (s : Stmt) : List Stmt := match s with
  | .FunctionDef _ _ b _ _ _ _ _ _ _ => b
  | _ => []
def defScope (s : Stmt) : Scope := match s with
  | .FunctionDef _ _ _ _ _ _ sc _ _ _ => sc
  | _ => { kind := .function, names := [], isGenerator := false, isCoroutine := false }
abbrev CX0 : CXT := fun _ _ _ _ _ _ => False
abbrev E0 : XK := fun _ _ _ => False
theorem pass0 {X : Cx} : Passes CX0 X E0 := fun _ _ _ _ _ _ _ h => h.elim
structure Fun (K : PySem.W.Frag) (x qual : Str) (st : Stmt) (f : Addr) (fd : FuncData) : Prop where
  ex : ∃ (oc : Value) (od : Option Addr) (kV doc pm : Value) (an : Option Addr) (cdv ct : Value) (osl : Array (Option Value)),
    fd = PySem.W.fnOf x qual (defArgs st) (defBody st) (defScope st) .none kV doc pm an cdv ct ∧ K.lookup f = some ⟨oc, od, .func fd, osl⟩ ∧ PySem.W.codeIn K cdv qual = true
  kp : PySem.W.keepIn K (.ref f) = true
section
variable {P : Program} {w : World} {K : PySem.W.Frag} {mg : Str → Option Value} {base : Heap}
theorem Fun.ok {x qual : Str} {st : Stmt} {f : Addr} {fd : FuncData} {N ps : List Str} {k : Nat} {sp : Sp} (F : Fun K x qual st f fd) (S : FnScope N ps (defScope st)) (len : ∀ vs H Q E, sp vs H Q E → vs.length = ps.length)
    (hbody : ∀ (cdv : Value) (A : Around) (outer : List Env) (s : Shared) (H : Hp) (vs : List V) (Q : VK) (E : XK), Room k (A.deeper (envOfC qual (defScope st) s.heap.objs.size f cdv)) → sp vs H Q E →
      ∃ t, PSs (cxOf CX0 P w K mg base N qual (defScope st) f cdv A outer s H E).nox (defBody st) t ∧ t { nx := fun _ H' => Q .non H', rt := Q } (start N vs) H) : FnOk P w K mg base CX0 (k + 1) f fd ps sp := by
  obtain ⟨oc, od, kV, doc, pm, an, cdv, ct, osl, rfl, lk, hcd⟩ := F.ex
  refine fn_of lk hcd S len fun A outer s H vs Q E hr hsp => ?_
  obtain ⟨t, h, q⟩ := hbody cdv A outer s H vs Q E hr hsp
  exact ⟨t, h.nox, q⟩
theorem Fun.binds {x qual : Str} {st : Stmt} {f : Addr} {fd : FuncData} {ps : List Str} (F : Fun K x qual st f fd)
    (h : ∀ (kV doc pm : Value) (an : Option Addr) (cdv ct : Value) (us : List Value), us.length = ps.length → bindArgs (PySem.W.fnOf x qual (defArgs st) (defBody st) (defScope st) .none kV doc pm an cdv ct) ⟨us, []⟩ = pure (ps.zip us)) : Binds K fd ps [] := by
  obtain ⟨oc, od, kV, doc, pm, an, cdv, ct, osl, rfl, lk, hcd⟩ := F.ex
  exact .all (h kV doc pm an cdv ct)
theorem fun_mk {x qual : Str} {st : Stmt} {f : Addr} {oc : Value} {od an : Option Addr} {osl : Array (Option Value)} {kV doc pm cdv ct : Value} (l : K.lookup f = some ⟨oc, od, .func (PySem.W.fnOf x qual (defArgs st) (defBody st) (defScope st) .none kV doc pm an cdv ct), osl⟩)
    (c : PySem.W.codeIn K cdv qual = true) (k : PySem.W.keepIn K (.ref f) = true) : Fun K x qual st f (PySem.W.fnOf x qual (defArgs st) (defBody st) (defScope st) .none kV doc pm an cdv ct) := ⟨⟨oc, od, kV, doc, pm, an, cdv, ct, osl, rfl, l, c⟩, k⟩
end
theorem hu_of {A : Around} {k : Nat} (hr : Room k A) : A.units + 1 < cLine := Nat.lt_of_le_of_lt (Nat.add_le_add_left (by decide : 1 ≤ 64) _) hr.units
theorem small1000 {n : Nat} (h : n ≤ 1000) : n < sizeLine := Nat.lt_of_le_of_lt h (by decide)
section
variable {X : Cx}
theorem pv (i : Nat) {x : Str} {pos : Pos} (hN : X.N[i]? = some x := by rfl) (hv : Vis X.env.scope x := by first | exact Or.inl rfl | exact Or.inr (Or.inl rfl) | exact Or.inr (Or.inr rfl)) (hd : (x == ("__debug__" : Str)) = false := by decide)
    (hcd : (x == ("__classdict__" : Str)) = false := by decide) : PE X (.Name x pos) (tVar i) := pe_var hN hv hd hcd
end
theorem iteF {A B : Prop} (h : B) : if false = true then A else B := by
  rw [if_neg Bool.false_ne_true]
  exact h
theorem iteT {A B : Prop} (h : A) : if true = true then A else B := by
  rw [if_pos rfl]
  exact h
theorem ite2 {c A B : Prop} [Decidable c] (h1 : c → A) (h2 : ¬ c → B) : if c then A else B := by
  by_cases h : c
  · rw [if_pos h]
    exact h1 h
  · rw [if_neg h]
    exact h2 h
def Same (H H' : Hp) : Prop := ∀ b o, H b = some o → H' b = some o
theorem Same.refl (H : Hp) : Same H H := fun _ _ h => h
theorem Same.trans {H H1 H2 : Hp} (a : Same H H1) (b : Same H1 H2) : Same H H2 := fun c o h => b c o (a c o h)
theorem Same.free {H H' : Hp} (e : Same H H') {l : Addr} (h : H' l = Option.none) : H l = Option.none := by
  cases q : H l with
  | none => rfl
  | some o =>
    rw [e l o q] at h
    cases h
theorem Same.seq {K : PySem.W.Frag} {H H' : Hp} {a : Addr} {xs : List V} (e : Same H H') (h : SqL K H a xs) : SqL K H' a xs := by
  rcases h with (h | ⟨o, h⟩) | h
  · exact .inl (.inl (e _ _ h))
  · exact .inl (.inr ⟨o, e _ _ h⟩)
  · exact .inr h
end L2
namespace L2
open PySem PySem.Spec PyProof.Rows
section
variable {κ : Type} [DecidableEq κ]
def valV (kvs : List (κ × V)) (k : κ) : Option V := (kvs.find? fun kv => decide (kv.1 = k)).map (·.2)
def putK (kvs : List (κ × V)) (k : κ) (v : V) : List (κ × V) :=
  if (kvs.any fun kv => decide (kv.1 = k)) = true then kvs.map (fun kv => if kv.1 = k then (kv.1, v) else kv) else kvs ++ [(k, v)]
theorem valV_pos {p : κ × V} {r : List (κ × V)} {k : κ} (e : p.1 = k) : valV (p :: r) k = some p.2 := by simp [valV, List.find?_cons, e]
theorem valV_neg {p : κ × V} {r : List (κ × V)} {k : κ} (e : ¬ p.1 = k) : valV (p :: r) k = valV r k := by simp [valV, List.find?_cons, e]
theorem length_putK (kvs : List (κ × V)) (k : κ) (v : V) : (putK kvs k v).length ≤ kvs.length + 1 := by
  unfold putK
  split
  · rw [List.length_map]; omega
  · rw [List.length_append, List.length_cons, List.length_nil]; omega
theorem RelO.getD {o : Option V} {u : Option Value} {d : V} {d' : Value} (r : RelO o u) (rd : RelV d d') : RelV (o.getD d) (u.getD d') := by
  cases o with
  | none => cases u with
    | none => exact rd
    | some _ => exact (show False from r).elim
  | some _ => cases u with
    | none => exact (show False from r).elim
    | some _ => exact r
theorem KV.val {kvs : List (κ × V)} {vs : List (κ × Value)} (r : KV kvs vs) (k : κ) : RelO (valV kvs k) (valueAt vs k) := by
  unfold KV at r
  induction r with
  | nil => exact True.intro
  | @cons p q ps qs h t ih =>
    obtain ⟨h1, h2⟩ := h
    by_cases e : p.1 = k
    · have e' : q.1 = k := h1.symm.trans e
      have b : valueAt (q :: qs) k = some q.2 := by simp [valueAt, List.find?_cons, e']
      rw [valV_pos e, b]; exact h2
    · have e' : ¬ q.1 = k := fun z => e (h1.trans z)
      have b : valueAt (q :: qs) k = valueAt qs k := by simp [valueAt, List.find?_cons, e']
      rw [valV_neg e, b]; exact ih
theorem KV.any {kvs : List (κ × V)} {vs : List (κ × Value)} (r : KV kvs vs) (k : κ) : (kvs.any fun kv => decide (kv.1 = k)) = vs.any fun kv => decide (kv.1 = k) := by
  unfold KV at r
  induction r with
  | nil => rfl
  | cons h t ih => rw [List.any_cons, List.any_cons, ih, h.1]
theorem KV.repl {kvs : List (κ × V)} {vs : List (κ × Value)} (r : KV kvs vs) (k : κ) {y : V} {u : Value} (ry : RelV y u) :
    KV (kvs.map fun kv => if kv.1 = k then (kv.1, y) else kv) (vs.map fun kv => if kv.1 = k then (kv.1, u) else kv) := by
  unfold KV at r ⊢
  induction r with
  | nil => exact .nil
  | @cons p q ps qs h t ih =>
    rw [List.map_cons, List.map_cons]
    refine .cons ?_ ih
    obtain ⟨h1, h2⟩ := h
    by_cases e : p.1 = k
    · rw [if_pos e, if_pos (h1.symm.trans e)]; exact ⟨h1, ry⟩
    · rw [if_neg e, if_neg (fun z => e (h1.trans z))]; exact ⟨h1, h2⟩
theorem KV.put {kvs : List (κ × V)} {vs : List (κ × Value)} (r : KV kvs vs) (k : κ) {y : V} {u : Value} (ry : RelV y u) : KV (putK kvs k y) (stored vs k u) := by
  unfold putK stored
  rw [r.any k]
  by_cases e : (vs.any fun kv => decide (kv.1 = k)) = true
  · rw [if_pos e, if_pos e]; exact r.repl k ry
  · rw [if_neg e, if_neg e]; exact Paired.snoc r ⟨rfl, ry⟩
end
theorem kV_is {P : Program} {w : World} {k : Key} {u : Value} (r : RelV (kV k) u) : (mixKind P w).is k u = true := by
  cases k with
  | inl i => obtain ⟨t, e⟩ := (show ∃ t, u = Value.int i t from r); subst e; exact mixKind_int P w i t
  | inr x => obtain ⟨t, e⟩ := (show ∃ t, u = Value.str x t from r); subst e; exact mixKind_str P w x t
theorem items_are {P : Program} {w : World} : ∀ {ks : List Key} {us : List Value}, Vals (ks.map kV) us → ItemsAre (mixKind P w) ks us
  | [], _, r => by rw [List.map_nil] at r; cases r; exact .nil
  | k :: ks, _, r => by
    rw [List.map_cons] at r
    cases r with
    | cons h t => exact .cons (kV_is h) (items_are t)
abbrev KT (H : Hp) : List (List Key × V) → List (List Key × Addr × Value) → Prop := Paired fun p q => p.1 = q.1 ∧ H q.2.1 = some (.tup (p.1.map kV)) ∧ RelV p.2 q.2.2
theorem KT.val {H : Hp} {kvs : List (List Key × V)} {xs : List (List Key × Addr × Value)} (r : KT H kvs xs) (k : List Key) : RelO (valV kvs k) ((atKey xs k).map (·.2)) := by
  induction r with
  | nil => exact True.intro
  | @cons p q ps qs h t ih =>
    obtain ⟨h1, _, h2⟩ := h
    by_cases e : p.1 = k
    · have e' : q.1 = k := h1.symm.trans e
      have b : atKey (q :: qs) k = some q.2 := by simp [atKey, List.find?_cons, e']
      rw [valV_pos e, b]; exact h2
    · have e' : ¬ q.1 = k := fun z => e (h1.trans z)
      have b : atKey (q :: qs) k = atKey qs k := by simp [atKey, List.find?_cons, e']
      rw [valV_neg e, b]; exact ih
section
variable {P : Program} {w : World} {H : Hp} {h : Heap} {a : Addr}
theorem rd_of {u : HO} (ok : HOk P w H h) (e : Rd H a u) : ObjOk P w H h a u := e.ok ok
theorem dk_rd {kvs : List (Key × V)} (ok : HOk P w H h) (e : Rd H a (.dK kvs)) : kvs.length ≤ sizeLine ∧ (a == sysModules) = false ∧ ∃ vs, KV kvs vs ∧ h.DictOf (mixKind P w) a vs :=
  show ObjOk P w H h a (.dK kvs) from rd_of ok e
theorem dk_of {kvs : List (Key × V)} (ok : HOk P w H h) (e : H a = some (.dK kvs)) : kvs.length ≤ sizeLine ∧ (a == sysModules) = false ∧ ∃ vs, KV kvs vs ∧ h.DictOf (mixKind P w) a vs := dk_rd ok (.inl e)
theorem key_of {ks : List Key} (ok : HOk P w H h) (e : H a = some (.tup (ks.map kV))) : (tupleKind (mixKind P w)).is h ks a := by
  obtain ⟨_, its, r, o, h1, h2, n, h3⟩ := (show ObjOk P w H h a (.tup (ks.map kV)) from ok a _ e)
  exact ⟨o, its.toArray, n, h1, h2, h3, by simpa using items_are r⟩
theorem dt_rd {kvs : List (List Key × V)} (ok : HOk P w H h) (e : Rd H a (.dT kvs)) : kvs.length ≤ sizeLine ∧ (a == sysModules) = false ∧
    ∃ xs, KT H kvs xs ∧ h.DictOfH (tupleKind (mixKind P w)) a xs := by
  obtain ⟨z, y, xs, r, o, es, ep, h1, h2, h3, h4, h5⟩ := (show ObjOk P w H h a (.dT kvs) from rd_of ok e)
  refine ⟨z, y, xs, r, o, es, ep, h1, h2, h3, h4, fun x hx => ?_, h5⟩
  have all : ∀ {l : List (List Key × V)} {m : List (List Key × Addr × Value)}, KT H l m → ∀ x ∈ m, (tupleKind (mixKind P w)).is h x.1 x.2.1 := by
    intro l m q
    induction q with
    | nil => intro x hx; exact nomatch hx
    | @cons p q ps qs hq t ih =>
      intro x hx
      rcases List.mem_cons.mp hx with e | hx
      · subst e
        exact key_of ok (by rw [← hq.1]; exact hq.2.1)
      · exact ih x hx
  exact all r x hx
end
def DGet (H : Hp) (a : Addr) (y : V) (r : Option V) : Prop :=
  (∃ kvs k, Rd H a (.dK kvs) ∧ y = kV k ∧ r = valV kvs k) ∨ ∃ kvs k b, Rd H a (.dT kvs) ∧ y = .ref b ∧ H b = some (.tup (k.map kV)) ∧ r = valV kvs k
theorem DGet.k {H : Hp} {a : Addr} {kvs : List (Key × V)} {k : Key} (e : H a = some (.dK kvs)) : DGet H a (kV k) (valV kvs k) := .inl ⟨kvs, k, .inl e, rfl, rfl⟩
section
variable {X : Cx} {pins : List (Addr × Obj)} {σ : St} {H : Hp} {s : Shared} {a : Addr} {y v : V} {u r : Value} {o : Option V} {A : Around} {E : Value → Shared → Prop}
theorem Inv.big (I : Inv X pins σ H s) : sysModules < s.heap.objs.size := by
  have h : mainGlobals < s.heap.objs.size := (I.mod.glob.keeps I.bk).lt
  exact Nat.lt_trans (by decide) h
theorem d_getItem {Q : Value → Shared → Prop} (hu : A.units + 1 < cLine) (I : Inv X pins σ H s) (g : DGet H a y (some v)) (ry : RelV y u) (h : ∀ w' s', Inv X pins σ H s' → RelV v w' → Q w' s') :
    wpAny (model X.prog X.w) A (getItem (.ref a) u) Q E s := by
  rcases g with ⟨kvs, k, e, ey, l⟩ | ⟨kvs, k, b, e, ey, eb, l⟩
  · subst ey
    obtain ⟨z, hd, vs, rel, dd⟩ := dk_rd I.hok e
    obtain ⟨w', hw, rw'⟩ := RelO.some_of (v := v) (o := valueAt vs k) (by rw [l]; exact rel.val k)
    exact wpAny_getItem_of (kV_is ry) dd.mapOf hw (h w' _ (I.tok _) rw')
  · subst ey
    cases (show u = Value.ref b from ry)
    obtain ⟨z, hd, xs, rel, dd⟩ := dt_rd I.hok e
    obtain ⟨w', hw, rw'⟩ := RelO.some_of (v := v) (o := (atKey xs k).map (·.2)) (by rw [l]; exact rel.val k)
    obtain ⟨p, hp, hp2⟩ := Option.map_eq_some_iff.mp hw
    refine wpAny_getItem_heap (tupleKind_room_in1 hu) (key_of I.hok eb) dd hp ?_
    rw [hp2]
    exact h w' _ (I.tok _) rw'
theorem d_write {h' : Heap} {t' : Nat} {ob : HO} (I : Inv X pins σ H s) (mu : Mut (H a)) (hs : Heap.SameBut a s.heap h') (he : ∃ q, h'.get? a = some q) (new : ObjOk X.prog X.w (upd H a ob) h' a ob) :
    Inv X pins σ (upd H a ob) { s with heap := h', toks := t' } :=
  I.write (x := a) (e := a) mu (.inl rfl) (fun b q hb z => (hs.2 b hb).trans z) he new
theorem dk_new {P : Program} {w : World} {H' : Hp} {h' : Heap} {kvs : List (Key × V)} {vs : List (Key × Value)} (z : kvs.length ≤ sizeLine) (hd : (a == sysModules) = false) (rel : KV kvs vs) (dd : h'.DictOf (mixKind P w) a vs) :
    ObjOk P w H' h' a (.dK kvs) := ⟨z, hd, vs, rel, dd⟩
end
section
variable {X : Cx} {pins : List (Addr × Obj)} {σ : St} {H : Hp} {s : Shared} {a : Addr} {kvs : List (Key × V)} {k : Key} {u : Value} {A : Around} {E : Value → Shared → Prop}
end
def NoSl (i : Expr) : Prop := ∀ ov iv, subscripted i false ov iv = operate [ov, iv] (getItem ov iv)
theorem subD_of {prog : Program} {w : World} {A : Around} {E : Value → Shared → Prop} {s : Shared} {env : Env} {value slice : Expr} {pos : Pos} {T id : String} {Q : Value → Shared → Prop}
    (hl : typeLookup (.type T) "__getitem__" = pure (some (.builtin id))) (hs : NoSl slice)
    (h : wpAny (model prog w) A (eval value env) (fun o s₁ => wpAny (model prog w) A (eval slice env) (fun i s₂ => s₂.TypeIs o T ∧ wpAny (model prog w) A (getItem o i) Q E s₂) E s₁) E s) :
    wpAny (model prog w) A (eval (.Subscript value slice pos) env) Q E s := by
  refine Subscript_ (wpAny_mono h (fun o s₁ h₁ => wpAny_mono h₁ (fun i s₂ h₂ => ?_) fun _ _ x => x) fun _ _ x => x)
  obtain ⟨hT, h₂⟩ := h₂
  unfold subscriptTail
  refine wpAny_bind ?_
  rw [getitemInPython_of_ne hT.not_modules]
  refine wpAny_bind (wpAny_specialOf hT hl ?_)
  have fin : wpAny (model prog w) A (subscripted slice false o i) (fun r s₃ => wpAny (model prog w) A (letTemporaryGo value o r >>= fun _ => pure r) Q E s₃) E s₂ := by
    rw [hs o i]
    exact wpAny_operating (wpAny_mono h₂ (fun r s₃ h₃ => wpAny_bind (wpAny_letTemporaryGo (wpAny_pure h₃))) fun _ _ x => x)
  first
    | exact wpAny_pure (wpAny_bind fin)
    | exact wpAny_bind (wpAny_pure (wpAny_bind fin))
    | exact wpAny_bind fin
theorem dict_typeIs {X : Cx} {pins : List (Addr × Obj)} {σ : St} {H : Hp} {s : Shared} {a : Addr} {y : V} {o : Option V} (I : Inv X pins σ H s) (g : DGet H a y o) : s.TypeIs (.ref a) "dict" := by
  rcases g with ⟨kvs, k, e, _, _⟩ | ⟨kvs, k, b, e, _, _, _⟩
  · obtain ⟨_, _, vs, _, dd⟩ := dk_rd I.hok e
    exact dd.typeIs
  · obtain ⟨_, _, xs, _, dd⟩ := dt_rd I.hok e
    exact dd.typeIs
def tDGet (td ty : TE) : TE := fun σ H Q => td σ H fun x H1 => ty σ H1 fun y H2 => ∃ a v, x = .ref a ∧ DGet H2 a y (some v) ∧ Q v H2
section
variable {X : Cx} {o i e value : Expr} {pos pos' tpos : Pos} {td ty tv : TE}
theorem pe_dget (hu : X.A.units + 1 < cLine) (ho : PE X o td) (hi : PE X i ty) (hs : NoSl i) : PE X (.Subscript o i pos) (tDGet td ty) := by
  intro pins s σ H Q I h
  refine subD_of PySem.F.slot_dict_getitem.lookup hs (thn (ho pins s σ H _ I h) fun u s1 ⟨x, H1, I1, rx, q1⟩ => thn (hi pins s1 σ H1 _ I1 q1) fun iv s2 ⟨y, H2, I2, ry, a, v, ex, g, q2⟩ => ?_)
  subst ex
  obtain rfl : u = Value.ref a := rx
  exact ⟨dict_typeIs I2 g, d_getItem hu I2 g ry fun w' s3 I3 rw' => ⟨v, H2, I3, rw', q2⟩⟩
end
theorem dk_empty {P : Program} {w : World} {H : Hp} (h : Heap) (hb : sysModules < h.objs.size) : ObjOk P w H (h.push { cls := .type "dict", data := .dict #[] }) h.objs.size (.dK []) :=
  ⟨Nat.zero_le _, beq_eq_false_iff_ne.mpr (Ne.symm (Nat.ne_of_lt hb)), [], .nil, Heap.DictOf.new h⟩
section
variable {X : Cx} {pos : Pos}
end
def tPairs : List (TE × TE) → St → Hp → (List (V × V) → Hp → Prop) → Prop
  | [], _, H, Q => Q [] H
  | (tk, tv) :: r, σ, H, Q => tk σ H fun x H1 => tv σ H1 fun y H2 => tPairs r σ H2 fun ps H3 => Q ((x, y) :: ps) H3
abbrev VV : List (V × V) → List (Value × Value) → Prop := Paired fun p q => RelV p.1 q.1 ∧ RelV p.2 q.2
def PPs (X : Cx) (pos : Pos) (keys : List (Option Expr)) (values : List Expr) (trs : List (TE × TE)) : Prop :=
  ∀ (pins : List (Addr × Obj)) (s : Shared) (σ : St) (H : Hp) (Q : List (V × V) → Hp → Prop), Inv X pins σ H s → tPairs trs σ H Q →
    wpAny (model X.prog X.w) X.A (evalPairs (pairTrees keys values X.env pos)) (fun vs s' => ∃ ps H', Inv X pins σ H' s' ∧ VV ps vs ∧ Q ps H') X.xe s
theorem pps_nil {X : Cx} {pos : Pos} : PPs X pos [] [] [] := fun pins s σ H Q I h => pairTrees_nil_walk ⟨[], H, I, .nil, h⟩
theorem pps_cons {X : Cx} {pos : Pos} {k v : Expr} {ks : List (Option Expr)} {vs : List Expr} {tk tv : TE} {trs : List (TE × TE)} (hk : PE X k tk) (hv : PE X v tv) (hr : PPs X pos ks vs trs) :
    PPs X pos (some k :: ks) (v :: vs) ((tk, tv) :: trs) := fun pins s σ H Q I h =>
  pairTrees_cons_walk (thn (hk pins s σ H _ I h) fun u s1 ⟨x, H1, I1, rx, q1⟩ => thn (hv pins s1 σ H1 _ I1 q1) fun w2 s2 ⟨y, H2, I2, ry, q2⟩ =>
    thn (hr pins s2 σ H2 _ I2 q2) fun ws s3 ⟨ps, H3, I3, rel, q3⟩ => ⟨(x, y) :: ps, H3, I3, .cons ⟨rx, ry⟩ rel, q3⟩)
def mergeK (kvs more : List (Key × V)) : List (Key × V) := more.foldl (fun acc kv => putK acc kv.1 kv.2) kvs
theorem KV.merge : ∀ {more : List (Key × V)} {rs : List (Key × Value)} {kvs : List (Key × V)} {vs : List (Key × Value)}, KV more rs → KV kvs vs → KV (mergeK kvs more) (merged vs rs) := by
  intro more rs kvs vs r
  unfold KV at r
  induction r generalizing kvs vs with
  | nil => intro q; exact q
  | @cons p q ps qs h t ih =>
    intro r0
    have e : KV (putK kvs p.1 p.2) (stored vs q.1 q.2) := by
      have := r0.put p.1 h.2
      rw [← h.1]; exact this
    exact ih e
theorem length_mergeK : ∀ (more kvs : List (Key × V)), (mergeK kvs more).length ≤ kvs.length + more.length
  | [], kvs => by show kvs.length ≤ kvs.length + 0; omega
  | p :: r, kvs => by
    have h1 := length_mergeK r (putK kvs p.1 p.2)
    have h2 := length_putK kvs p.1 p.2
    show (mergeK (putK kvs p.1 p.2) r).length ≤ _
    rw [List.length_cons]; omega
theorem carries_of {P : Program} {w : World} : ∀ {kvs : List (Key × V)} {ws : List (Value × Value)}, VV (kvs.map fun kv => (kV kv.1, kv.2)) ws → ∃ rs, Carries (mixKind P w) ws rs ∧ KV kvs rs
  | [], _, r => by rw [List.map_nil] at r; cases r; exact ⟨[], True.intro, .nil⟩
  | p :: kvs, _, r => by
    rw [List.map_cons] at r
    cases r with
    | @cons a b as bs h t =>
      obtain ⟨rs, c, q⟩ := carries_of (P := P) (w := w) t
      obtain ⟨b1, b2⟩ := b
      exact ⟨(p.1, b2) :: rs, ⟨kV_is h.1, rfl, c⟩, .cons ⟨rfl, h.2⟩ q⟩
def tDisp (trs : List (TE × TE)) : TE := fun σ H Q => ∀ p, H p = none → tPairs trs σ (upd H p (.dK [])) fun ps H2 => H2 p = some (.dK []) ∧ ∃ kvs : List (Key × V), ps = kvs.map (fun kv => (kV kv.1, kv.2)) ∧ kvs.length ≤ 15 ∧ Q (.ref p) (upd H2 p (.dK (mergeK [] kvs)))
theorem pe_disp {X : Cx} {pos : Pos} {keys : List (Option Expr)} {values : List Expr} {trs : List (TE × TE)} (h : PPs X pos keys values trs) (hall : keys.all (·.isSome) = true) (hl : keys.length = values.length) (h0 : keys ≠ [])
    (h15 : keys.length ≤ 15) : PE X (.Dict keys values pos) (tDisp trs) := by
  intro pins s σ H Q I q
  have hn := I.hok.fresh (Nat.le_refl s.heap.objs.size)
  have I1 := I.laid (a := s.heap.objs.size) (o := .dK []) (h' := s.heap.push { cls := .type "dict", data := .dict #[] }) (t' := s.toks) (fun _ _ q => Heap.get?_push_of_some _ q) (Nat.le_refl _) (dk_empty s.heap I.big)
  refine wpAny_Dict_walk (knd := mixKind X.prog X.w) hall hl h0 h15 (thn (h pins _ σ _ _ I1 (q _ hn)) fun ws s2 ⟨ps, H2, I2, rel, e, kvs, ep, lk, q2⟩ => ?_)
  subst ep
  obtain ⟨rs, c, rk⟩ := carries_of (P := X.prog) (w := X.w) rel
  obtain ⟨z, hd, vs0, r0, dd⟩ := dk_of I2.hok e
  cases r0
  refine ⟨rs, c, dd, fun h' dd' hs => ⟨.ref s.heap.objs.size, _, ?_, rfl, q2⟩⟩
  have hz : (mergeK [] kvs).length ≤ sizeLine := by
    have h1 := length_mergeK kvs []
    rw [List.length_nil] at h1
    rw [sizeLine_eq]; omega
  have he : ∃ q, h'.get? s.heap.objs.size = some q := let ⟨q, _, _, hq, _⟩ := dd'; ⟨q, hq⟩
  exact d_write I2 (by rw [e]; exact True.intro) hs he (dk_new hz hd (rk.merge .nil) dd')
structure M2 (X : Cx) (o : Expr) (m : Str) (apos : Pos) (e f : Expr) (cpos : Pos) : Prop where
  base : attributeBase o m X.env (eval o X.env) = eval o X.env
  few : ((backTo cpos (starEach [e, f] X.env)).all (fun x => !x.1) && (backToKw cpos (keywordEach [] X.env)).all (fun x => x.1.isSome)
    && decide (([e, f] : List Expr).length + ([] : List Keyword).length + (if ([] : List Keyword).isEmpty then 0 else 1) < 30)) = true
  line : (apos.endLine == cpos.line) = true
  trees : backTo cpos (starEach [e, f] X.env) = [(false, eval e X.env), (false, eval f X.env)]
def IsD (H : Hp) (a : Addr) : Prop := (∃ kvs, Rd H a (.dK kvs)) ∨ ∃ kvs, Rd H a (.dT kvs)
theorem isD_at {X : Cx} {pins : List (Addr × Obj)} {σ : St} {H : Hp} {s : Shared} {a : Addr} (I : Inv X pins σ H s) (d : IsD H a) :
    s.TypeIs (.ref a) "dict" ∧ (∀ b, Value.ref a = .ref b → ∃ ob, s.heap.get? b = some ob ∧ ob.dict = none) ∧ (a == sysModules) = false := by
  rcases d with ⟨kvs, e⟩ | ⟨kvs, e⟩
  · obtain ⟨_, hd, vs, _, dd⟩ := dk_rd I.hok e
    refine ⟨dd.typeIs, fun b q => ?_, hd⟩
    cases q
    obtain ⟨ob, _, _, h1, h2, _⟩ := dd
    exact ⟨ob, h1, h2.2.1⟩
  · obtain ⟨_, hd, xs, _, dd⟩ := dt_rd I.hok e
    refine ⟨dd.typeIs, fun b q => ?_, hd⟩
    cases q
    obtain ⟨ob, _, _, h1, h2, _⟩ := dd
    exact ⟨ob, h1, h2.2.1⟩
section
variable {X : Cx} {pins : List (Addr × Obj)} {σ : St} {H : Hp} {s : Shared} {a : Addr} {y d : V} {u r : Value} {o : Option V} {A : Around} {E : Value → Shared → Prop}
theorem d_get2 {Q : Value → Shared → Prop} (hu : A.units + 1 < cLine) (I : Inv X pins σ H s) (g : DGet H a y o) (ry : RelV y u) (rd : RelV d r) (h : ∀ w' s', Inv X pins σ H s' → RelV (o.getD d) w' → Q w' s') :
    wpAny (model X.prog X.w) A (call (.builtin "dict.get") [.ref a, u, r]) Q E s := by
  rcases g with ⟨kvs, k, e, ey, l⟩ | ⟨kvs, k, b, e, ey, eb, l⟩
  · subst ey
    obtain ⟨z, hd, vs, rel, dd⟩ := dk_rd I.hok e
    refine call_meetsIn PySem.F.slot_dict_get dd.typeIs PySem.F.entry_dict_get (PySem.F.args_dict_get_3 _ _ _) (meets_dict_get_default (mixKind X.prog X.w) a (kV_is ry) hd r) ⟨_, dd.mapOf, h _ _ (I.tok _) ?_⟩
    rw [l]
    exact (rel.val k).getD rd
  · subst ey
    cases (show u = Value.ref b from ry)
    obtain ⟨z, hd, xs, rel, dd⟩ := dt_rd I.hok e
    refine call_meetsIn PySem.F.slot_dict_get dd.typeIs PySem.F.entry_dict_get (PySem.F.args_dict_get_3 _ _ _) (meetsH_dict_get_default (tupleKind (mixKind X.prog X.w)) a b hd r) ⟨tupleKind_room_in1 hu, k, xs, key_of I.hok eb, dd, h _ _ (I.tok _) ?_⟩
    rw [l]
    exact (rel.val k).getD rd
end
def tDGet2 (td ty tx : TE) : TE := fun σ H Q => td σ H fun x H1 => ∃ a, x = .ref a ∧ IsD H1 a ∧ ty σ H1 fun y H2 => tx σ H2 fun z H3 => ∃ o, DGet H3 a y o ∧ Q (o.getD z) H3
section
variable {X : Cx} {o e f : Expr} {apos cpos : Pos} {td ty tx : TE}
theorem pe_dget2 (hu : X.A.units + 1 < cLine) (ho : PE X o td) (he : PE X e ty) (hf : PE X f tx) (m : M2 X o "get" apos e f cpos) : PE X (.Call (.Attribute o "get" apos) [e, f] [] cpos) (tDGet2 td ty tx) := by
  intro pins s σ H Q I h
  refine wpAny_Call_method m.base m.few m.line PySem.F.plainAttrs_dict PySem.F.slot_dict_get PySem.F.type_dict_get (thn (ho pins s σ H _ I h) fun u s1 ⟨x, H1, I1, rx, a, ex, d, q1⟩ => ?_)
  subst ex
  obtain rfl : u = Value.ref a := rx
  obtain ⟨t1, t2, _⟩ := isD_at I1 d
  refine ⟨t1, t2, ?_⟩
  rw [m.trees]
  refine Calls.callWith_builtin rfl (Calls.evalArgs_plain (Calls.spliced_cons (thn (he pins s1 σ H1 _ I1 q1) fun iv s2 ⟨y, H2, I2, ry, q2⟩ =>
    Calls.spliced_cons (thn (hf pins s2 σ H2 _ I2 q2) fun fv s3 ⟨z, H3, I3, rz, ov, g, q3⟩ => Calls.spliced_nil ?_))))
  exact d_get2 hu I3 g ry rz fun w' s4 I4 rw' => ⟨_, H3, I4, rw', q3⟩
end
section
variable {X : Cx} {pins : List (Addr × Obj)} {σ : St} {H : Hp} {s : Shared} {a : Addr} {kvs : List (Key × V)} {A : Around} {E : Value → Shared → Prop}
end
section
variable {X : Cx} {pins : List (Addr × Obj)} {σ : St} {H : Hp} {s : Shared} {a : Addr} {y : V} {u : Value} {A : Around} {E : Value → Shared → Prop}
end
end L2
namespace L2
open PySem PySem.Spec PyProof.Rows
section
variable {X : Cx}
end
section
variable {κ : Type} [DecidableEq κ]
end
end L2
namespace L2
open PySem PySem.Spec PyProof.Rows
def clo (cells : List (Str × Addr)) : List (Str × NameKind) → List (Str × Addr) → List (Str × Addr)
  | [], cs => cs
  | (n, k) :: r, cs => clo cells r (if k == NameKind.free then (match cells.lookup n with | some a => (n, a) :: cs | none => cs) else cs)
theorem clo_loop {env : Env} : ∀ (names : List (Str × NameKind)) (cs : List (Str × Addr)), (∀ y ∈ names, y.2 = .free → ∃ c, env.cells.lookup y.1 = some c) →
    (forIn names cs fun (x : Str × NameKind) (r : List (Str × Addr)) => if (x.2 == NameKind.free) = true then (do let a ← cellOf env x.1; pure (ForInStep.yield ((x.1, a) :: r))) else (pure (ForInStep.yield r) : Sem (ForInStep (List (Str × Addr)))))
      = (pure (clo env.cells names cs) : Sem (List (Str × Addr)))
  | [], cs, _ => rfl
  | (n, k) :: r, cs, h => by
    have ih := clo_loop (env := env) r
    rw [List.forIn_cons]
    unfold clo
    cases hk : (k == NameKind.free) with
    | false =>
      simp only [Bool.false_eq_true, if_false]
      show (forIn r cs _ : Sem _) = _
      exact ih cs fun y hy => h y (List.mem_cons_of_mem _ hy)
    | true =>
      obtain ⟨c, hc⟩ := h (n, k) List.mem_cons_self (by simpa using hk)
      have hc' : env.cells.lookup n = some c := hc
      have e : cellOf env n = pure c := by unfold cellOf; rw [hc']
      simp only [if_true, e, hc']
      show (forIn r ((n, c) :: cs) _ : Sem _) = _
      exact ih _ fun y hy => h y (List.mem_cons_of_mem _ hy)
theorem clo_is {scope : Scope} {env : Env} (h : ∀ y ∈ scope.names, y.2 = .free → ∃ c, env.cells.lookup y.1 = some c) : closureFor scope env = pure (clo env.cells scope.names []) := by
  unfold closureFor
  have q := clo_loop (env := env) scope.names [] h
  refine Eq.trans ?_ (congrArg (fun z : Sem (List (Str × Addr)) => z >>= fun cs => pure cs) q)
  rfl
theorem clo_mem {cells : List (Str × Addr)} : ∀ (names : List (Str × NameKind)) (cs : List (Str × Addr)), (∀ p ∈ cs, cells.lookup p.1 = some p.2) → ∀ p ∈ clo cells names cs, cells.lookup p.1 = some p.2
  | [], cs, h, p, hp => h p hp
  | (n, k) :: r, cs, h, p, hp => by
    unfold clo at hp
    refine clo_mem r _ (fun q hq => ?_) p hp
    split at hq
    · split at hq
      · rename_i a e
        rcases List.mem_cons.mp hq with rfl | hq
        · exact e
        · exact h q hq
      · exact h q hq
    · exact h q hq
theorem clo_sub {cells : List (Str × Addr)} {names : List (Str × NameKind)} {x : Str} {c : Addr} (e : (clo cells names []).lookup x = some c) : cells.lookup x = some c :=
  clo_mem names [] (fun _ z => nomatch z) (x, c) (PySem.mem_of_lookup e)
theorem clo_keeps {cells : List (Str × Addr)} : ∀ (names : List (Str × NameKind)) (cs : List (Str × Addr)) (p : Str × Addr), p ∈ cs → p ∈ clo cells names cs
  | [], cs, p, hp => hp
  | (n, k) :: r, cs, p, hp => by
    unfold clo
    refine clo_keeps r _ p ?_
    split
    · split
      · exact List.mem_cons_of_mem _ hp
      · exact hp
    · exact hp
theorem clo_has {cells : List (Str × Addr)} {x : Str} {c : Addr} (hc : cells.lookup x = some c) : ∀ (names : List (Str × NameKind)) (cs : List (Str × Addr)), (x, NameKind.free) ∈ names → (x, c) ∈ clo cells names cs
  | [], _, h => nomatch h
  | (n, k) :: r, cs, h => by
    unfold clo
    rcases List.mem_cons.mp h with e | h
    · cases e
      refine clo_keeps r _ _ ?_
      rw [hc]
      simp
    · exact clo_has hc r _ h
theorem lookup_some_of_mem {x : Str} {c : Addr} : ∀ {l : List (Str × Addr)}, (x, c) ∈ l → ∃ d, l.lookup x = some d
  | [], h => nomatch h
  | (y, d) :: r, h => by
    rw [List.lookup_cons]
    cases e : (x == y) with
    | true => exact ⟨d, rfl⟩
    | false =>
      rcases List.mem_cons.mp h with z | z
      · cases z
        simp at e
      · exact lookup_some_of_mem z
theorem relabel_look {env : Env} : ∀ {names : List (Str × NameKind)} {x : Str} {k : NameKind},
    (names.map fun (n, k) => if (k == NameKind.free && env.scope.kind == .function && env.kindOf n == some .cell) then (n, NameKind.cell) else (n, k)).lookup x = some k →
      names.lookup x = some k ∨ (k = .cell ∧ names.lookup x = some .free)
  | [], _, _, h => by simp at h
  | (n, k0) :: r, x, k, h => by
    have ih := @relabel_look env r x k
    rw [List.map_cons] at h
    rw [List.lookup_cons]
    by_cases c : (k0 == NameKind.free && env.scope.kind == .function && env.kindOf n == some .cell) = true
    · have h' := h
      simp only [c, if_true] at h'
      rw [List.lookup_cons] at h'
      cases e : (x == n) with
      | true =>
        rw [e] at h'
        have c1 : k0 = .free := by
          simp only [Bool.and_eq_true] at c
          simpa using c.1.1
        refine .inr ⟨(Option.some.inj h').symm, ?_⟩
        rw [c1]
      | false =>
        rw [e] at h'
        exact ih h'
    · have h' := h
      simp only [c, Bool.false_eq_true, if_false] at h'
      rw [List.lookup_cons] at h'
      cases e : (x == n) with
      | true =>
        rw [e] at h'
        exact .inl h'
      | false =>
        rw [e] at h'
        exact ih h'
theorem relabel_free {env : Env} : ∀ {names : List (Str × NameKind)} {x : Str}, names.lookup x = some .free →
    (names.map fun (n, k) => if (k == NameKind.free && env.scope.kind == .function && env.kindOf n == some .cell) then (n, NameKind.cell) else (n, k)).lookup x = some .cell ∨
    (names.map fun (n, k) => if (k == NameKind.free && env.scope.kind == .function && env.kindOf n == some .cell) then (n, NameKind.cell) else (n, k)).lookup x = some .free
  | [], _, h => by simp at h
  | (n, k0) :: r, x, h => by
    have ih := @relabel_free env r x
    rw [List.map_cons]
    rw [List.lookup_cons] at h
    by_cases c : (k0 == NameKind.free && env.scope.kind == .function && env.kindOf n == some .cell) = true
    · simp only [c, if_true, List.lookup_cons]
      cases e : (x == n) with
      | true => exact .inl rfl
      | false =>
        rw [e] at h
        exact ih h
    · simp only [c, Bool.false_eq_true, if_false, List.lookup_cons]
      cases e : (x == n) with
      | true =>
        rw [e] at h
        exact .inr h
      | false =>
        rw [e] at h
        exact ih h
def compOk (sc scope : Scope) : Bool :=
  scope.kind == .function && scope.names.all fun y => y.2 != .cell && (y.2 != .local || scope.names.lookup y.1 == some .local) && (y.2 != .free || (sc.names.lookup y.1 == some .cell || sc.names.lookup y.1 == some .free))
structure CompScope (sc scope : Scope) : Prop where
  kind : scope.kind = .function
  cell : ∀ y ∈ scope.names, y.2 ≠ .cell
  own : ∀ y ∈ scope.names, y.2 = .local → scope.names.lookup y.1 = some .local
  free : ∀ y ∈ scope.names, y.2 = .free → sc.names.lookup y.1 = some .cell ∨ sc.names.lookup y.1 = some .free
theorem CompScope.of {sc scope : Scope} (h : compOk sc scope = true) : CompScope sc scope := by
  unfold compOk at h
  rw [Bool.and_eq_true, List.all_eq_true] at h
  obtain ⟨h1, h2⟩ := h
  have h3 : ∀ y ∈ scope.names, (y.2 ≠ .cell ∧ (y.2 ≠ .local ∨ scope.names.lookup y.1 = some .local)) ∧ (y.2 ≠ .free ∨ (sc.names.lookup y.1 = some .cell ∨ sc.names.lookup y.1 = some .free)) := fun y hy => by
    have q := h2 y hy
    simpa [Bool.and_eq_true, Bool.or_eq_true] using q
  refine ⟨by simpa using h1, fun y hy => (h3 y hy).1.1, fun y hy e => ?_, fun y hy e => ?_⟩
  · exact (h3 y hy).1.2.resolve_left fun n => n e
  · exact (h3 y hy).2.resolve_left fun n => n e
def cxB (X : Cx) (NC : List Str) (scope : Scope) (s3 : Shared) (H3 : Hp) (fp : List Addr) : Cx :=
  { X with N := NC, s₀ := s3, H₀ := H3, env := compEnvC scope (clo X.env.cells scope.names []) s3.heap.objs.size X.env, outer := X.stack, ex := fp, fn := fun _ => false, pn := [], xe := fun _ _ => False }
def capt (own : Nat) (ix : List Nat) (σ : St) : St := List.replicate own none ++ ix.map fun j => (σ[j]?).getD none
def Caps (X : Cx) (scope : Scope) : List Str → List Nat → Prop
  | [], [] => True
  | x :: cs, j :: js => (X.N[j]? = some x ∧ (X.env.kindOf x = some .cell ∨ X.env.kindOf x = some .free) ∧ scope.names.lookup x = some .free) ∧ Caps X scope cs js
  | _, _ => False
theorem Caps.len {X : Cx} {scope : Scope} : ∀ {cs : List Str} {js : List Nat}, Caps X scope cs js → cs.length = js.length
  | [], [], _ => rfl
  | _ :: _, _ :: _, h => by rw [List.length_cons, List.length_cons, Caps.len h.2]
  | [], _ :: _, h => h.elim
  | _ :: _, [], h => h.elim
theorem Caps.at {X : Cx} {scope : Scope} : ∀ {cs : List Str} {js : List Nat} {i : Nat} {x : Str}, Caps X scope cs js → cs[i]? = some x →
    ∃ j, js[i]? = some j ∧ X.N[j]? = some x ∧ (X.env.kindOf x = some .cell ∨ X.env.kindOf x = some .free) ∧ scope.names.lookup x = some .free
  | [], [], _, _, _, e => by simp at e
  | x :: _, j :: _, 0, _, h, e => by simp at e; subst e; exact ⟨j, rfl, h.1⟩
  | _ :: _, _ :: _, i + 1, _, h, e => by
    obtain ⟨j, e1, r⟩ := Caps.at (i := i) h.2 (by simpa using e)
    exact ⟨j, by simpa using e1, r⟩
  | [], _ :: _, _, _, h, _ => h.elim
  | _ :: _, [], _, _, h, _ => h.elim
def tTrue : TT := fun _ H Q => Q true H
def PTs (Y : Cx) (ifs : List Expr) (t : TT) : Prop :=
  ∀ (pins : List (Addr × Obj)) (s : Shared) (σ : St) (H : Hp) (Q : Bool → Hp → Prop), Inv Y pins σ H s → t σ H Q →
    wpAny (model Y.prog Y.w) Y.A (forIn ifs true fun c r => if r = true then do let ok ← isTrue c Y.env (eval c Y.env); pure (ForInStep.yield ok) else pure (ForInStep.yield r)) (TP Y pins σ Q) Y.xe s
theorem pts_nil {Y : Cx} : PTs Y [] tTrue := fun _ _ _ H _ I h => wpAny_tests_nil ⟨H, I, h⟩
def CompW (g : TG) (tc : TT) (te : TE) (own : Nat) (ix : List Nat) (σ : St) (J : It) (p : Addr) (H1 : Hp) (QQ : Hp → Prop) : Prop :=
  ∃ W : Nat → Nat → List V → St → Hp → Prop, (∃ m, W 0 m [] (capt own ix σ) (upd H1 p (.lst []))) ∧ ∀ i m ys σ2 H2, W i m ys σ2 H2 → H2 p = some (.lst ys) ∧
    ((J.stop i H2 ∧ QQ H2) ∨ (J.go i H2 ∧ ys.length < sizeLine ∧ ∀ x H3, J.yld i H2 x H3 → ∃ N : List V → St → Hp → Prop, (∀ ys' σ' H', N ys' σ' H' → ∃ m', m' < m ∧ W (i + 1) m' ys' σ' H') ∧
      g x σ2 H3 fun σ4 H4 => tc σ4 H4 fun b H5 => if b = true then te σ4 H5 fun y H6 => H6 p = some (.lst ys) ∧ N (ys ++ [y]) σ4 (upd H6 p (.lst (ys ++ [y]))) else N ys σ4 H5))
def tComp (wi : TI) (g : TG) (tc : TT) (te : TE) (own : Nat) (ix : List Nat) : TE := fun σ H Q => wi σ H fun J H1 => ∀ p, H1 p = none → CompW g tc te own ix σ J p H1 (Q (.ref p))
theorem comp_loop {prog : Program} {w : World} {A : Around} {R : Result → Shared → Prop} {s : Shared} {elt target iter : Expr} {ifs : List Expr} {scope : Scope} {pos : Pos} {it acc : Value} {env : Env} (I : Nat → Shared → Prop)
    (turn : ∀ n s, I n s → wpAny (model prog w) A (pyNext it) (fun r s₁ => (r = none ∧ R (.ok .next) s₁) ∨ ∃ v, r = some v ∧
      wpAny (model prog w) A (letOwnedTupleGo target it v) (fun _ s₂ => wpAny (model prog w) A (assign target env v) (fun _ s₃ =>
        wpAny (model prog w) A (forIn ifs true fun c r => if r = true then do let ok ← isTrue c env (eval c env); pure (ForInStep.yield ok) else pure (ForInStep.yield r)) (fun ok s₄ =>
          (ok = true ∧ wpAny (model prog w) A (eval elt env) (fun x s₅ => wpAny (model prog w) A (call (.builtin "list.append") [acc, x]) (fun _ s₆ => ∃ m, m < n ∧ I m s₆) (fun _ _ => False) s₅) (fun _ _ => False) s₄) ∨
          (ok = false ∧ ∃ m, m < n ∧ I m s₄)) (fun _ _ => False) s₃) (fun _ _ => False) s₂) (fun _ _ => False) s₁) (fun _ _ => False) s)
    (n : Nat) (h : I n s) : codeAny (model prog w) A (.compLoop (.ListComp elt [⟨target, iter, ifs, 0⟩] scope pos) 0 it acc env) R s := by
  refine codeAny_loop rfl I (fun n s hI => ?_) n h
  show wpAny _ A ((compTurn (.ListComp elt [⟨target, iter, ifs, 0⟩] scope pos) 0 it acc env).onRaise (fun x => do noteFrame x env; theTreesLotGoes x)) _ _ s
  refine wpAny_noted ?_
  rw [compTurn_list]
  have no : ∀ (e : Value) (s' : Shared), False → notedBy (model prog w) A env (fun e s' => R (.error e) s') e s' := fun _ _ f => f.elim
  refine wpAny_bind (wpAny_standAt (wpAny_bind (wpAny_mono (turn n s hI) (fun r s₁ h₁ => ?_) no)))
  rcases h₁ with ⟨rfl, h₁⟩ | ⟨v, rfl, h₁⟩
  · exact wpAny_pure h₁
  refine wpAny_bind (wpAny_mono h₁ (fun _ s₂ h₂ => ?_) no)
  refine wpAny_bind (wpAny_mono h₂ (fun _ s₃ h₃ => ?_) no)
  refine wpAny_bind (wpAny_mono h₃ (fun ok s₄ h₄ => ?_) no)
  rcases h₄ with ⟨rfl, h₄⟩ | ⟨rfl, h₄⟩
  · refine wpAny_bind (wpAny_bind (wpAny_mono h₄ (fun x s₅ h₅ => ?_) no))
    exact wpAny_bind (wpAny_mono h₅ (fun _ s₆ h₆ => wpAny_pure (wpAny_pure ⟨rfl, h₆⟩)) no)
  · exact wpAny_pure ⟨rfl, h₄⟩
section
variable {X : Cx} {pins : List (Addr × Obj)} {σ : St} {H H' : Hp} {s s' : Shared}
theorem block_start {NC own cs : List Str} {ix : List Nat} {scope : Scope} {fp : List Addr} {h4 : Heap} {t4 : Nat} (I : Inv X pins σ H s) (S : CompScope X.env.scope scope) (hN : NC = own ++ cs) (hc : Caps X scope cs ix)
    (hf : ∀ b ∈ fp, FpOk X pins H b) (hl : ∀ b ∈ fp, b < s.heap.objs.size) (hns : h4.Ns s.heap.objs.size fun _ => none) (hk : ∀ b o, s.heap.get? b = some o → h4.get? b = some o) :
    Inv (cxB X NC scope s H fp) [] (capt own.length ix σ) H { s with heap := h4, toks := t4 } := by
  have cs_has : ∀ y ∈ scope.names, y.2 = .free → ∃ c, X.env.cells.lookup y.1 = some c := fun y hy e => I.ok.has y.1 (S.free y hy e)
  have len := hc.len
  refine ⟨⟨I.ok.mod, S.kind, I.ok.glob, I.ok.blt, Nat.le_refl _, fun x y c e1 e2 => I.ok.inj x y c (clo_sub e1) (clo_sub e2), fun x hx => ?_, fun _ _ z => (nomatch z), I.ok.hd, I.ok.frames, .inl rfl, fun b hb => ⟨Nat.ne_of_lt (hl b hb), fun x c e => (hf b hb).2.2.2.2.1 x c (clo_sub e)⟩,
      I.bs, Nat.le_trans I.ok.bsz I.sz, fun b o e hb => ?_, fun b hb z => ?_, I.stack, I.stkFree⟩, rfl, I.bare, Un.kept hk, ⟨_, hns, fun i x v e1 e2 e3 => ?_⟩, fun x c e => ?_, I.hok.fresh (Nat.le_refl _), fun x c e => I.freeC x c (clo_sub e), fun p hp => ?_, I.hok.kept hk, ?_⟩
  · -- a cell for each caught name
    have hx' : (relabel scope X.env).names.lookup x = some .cell ∨ (relabel scope X.env).names.lookup x = some .free := hx
    have q : scope.names.lookup x = some .free := by
      rcases hx' with h | h
      · rcases relabel_look h with h | ⟨_, h⟩
        · exact absurd rfl (S.cell _ (PySem.mem_of_lookup h))
        · exact h
      · rcases relabel_look h with h | ⟨z, _⟩
        · exact h
        · cases z
    obtain ⟨c, hc'⟩ := cs_has (x, .free) (PySem.mem_of_lookup q) rfl
    exact lookup_some_of_mem (clo_has hc' scope.names [] (PySem.mem_of_lookup q))
  · rcases (hf b hb).2.2.2.1 with z | z
    · exact I.ok.noex b o e z
    · exact absurd (Nat.lt_of_lt_of_le (Heap.lt_size e) (Nat.le_trans I.ok.bsz z)) (Nat.lt_irrefl _)
  · rcases List.mem_cons.mp (I.stkSub b z) with z | z
    · exact (hf b hb).2.1 z
    · exact (hf b hb).2.2.1 z
  · -- the caught names' values
    have e1' : (own ++ cs)[i]? = some x := hN ▸ e1
    have hi : own.length ≤ i := by
      by_cases hi : own.length ≤ i
      · exact hi
      · unfold capt at e2
        rw [List.getElem?_append_left (by rw [List.length_replicate]; omega), List.getElem?_replicate, if_pos (by omega)] at e2
        cases e2
    rw [List.getElem?_append_right hi] at e1'
    obtain ⟨j, ej, en, kx, fx⟩ := hc.at e1'
    have e2' : (σ[j]?).getD none = some v := by
      unfold capt at e2
      rw [List.getElem?_append_right (by rw [List.length_replicate]; omega), List.length_replicate, List.getElem?_map, ej] at e2
      exact Option.some.inj e2
    have e2'' : σ[j]? = some (some v) := by
      cases z : σ[j]? with
      | none => rw [z] at e2'; cases e2'
      | some o => rw [z] at e2'; exact congrArg some e2'
    obtain ⟨m, _, hl'⟩ := I.loc
    obtain ⟨u, ru, l⟩ := hl' j x v en e2'' (kx.elim (fun z => .inr (.inl z)) fun z => .inr (.inr z))
    refine ⟨u, ru, .inr ⟨relabel_free fx, ?_⟩⟩
    rcases l with ⟨k, _⟩ | ⟨_, c, e, z⟩
    · rcases kx with k' | k' <;> rw [k] at k' <;> cases k'
    · obtain ⟨d, hd⟩ := lookup_some_of_mem (clo_has e scope.names [] (PySem.mem_of_lookup fx))
      have e' := clo_sub hd
      rw [e] at e'
      cases e'
      obtain ⟨o, ho, dd⟩ := z
      exact ⟨c, hd, o, hk c o ho, dd⟩
  · obtain ⟨v, o, ho, dd⟩ := I.cell x c (clo_sub e)
    exact ⟨v, o, hk c o ho, dd⟩
  · exact absurd (show p ∈ ([] : List (Addr × Obj)) from hp) (by simp)
  · show (capt own.length ix σ).length = NC.length
    rw [hN]
    unfold capt
    rw [List.length_append, List.length_append, List.length_replicate, List.length_map, len]
theorem block_end {NC : List Str} {scope : Scope} {fp : List Addr} {σ' : St} {h' : Heap} (I : Inv X pins σ H s) (hf : ∀ b ∈ fp, FpOk X pins H b) (J : Inv (cxB X NC scope s H fp) [] σ' H' s') (hs : Heap.SameBut s.heap.objs.size s'.heap h') : Inv X pins σ H' { s' with heap := h' } := by
  obtain ⟨hh, g, d, t, os⟩ := s'
  have hos : os = s.os := J.os
  subst hos
  have nC : H' s.heap.objs.size = none := J.free
  have un : Un (frs X.stack) fp H H' s.heap hh := J.base
  have out : ∀ b o, s.heap.get? b = some o → b ≠ s.heap.objs.size := fun b o e => Nat.ne_of_lt (Heap.lt_size e)
  have un' : Un (frs X.stack) fp H H' s.heap h' := ⟨fun b o e n hb hx => (hs.2 b (out b o e)).trans (un.keep b o e n hb hx), fun b o e n hb hx => let ⟨sl, q⟩ := un.slot b o e n hb hx; ⟨sl, (hs.2 b (out b o e)).trans q⟩, un.free,
    fun b o e hx => let ⟨o', q⟩ := un.there b o e hx; ⟨o', (hs.2 b (out b o e)).trans q⟩, un.tups, un.frzs, un.tbls⟩
  have hok : HOk X.prog X.w H' h' := fun b u e => by
    refine (J.hok b u e).stay (fun c v hc q => (hs.2 c ?_).trans q) (fun _ q => q) fun _ _ q => q
    rintro rfl
    rcases hc with rfl | hc
    · rw [nC] at e; cases e
    · rw [nC] at hc; cases hc
  have q := Inv.call (s := s) (h' := h') (g' := g) (d' := d) (t' := t) (ch := fp) I un' hok J.bare fun b hb => ⟨(hf b hb).2.2.2.1, (hf b hb).2.1, (hf b hb).2.2.2.2.1, (hf b hb).2.2.2.2.2⟩
  exact q
end
theorem comp_core {X : Cx} {elt tg iter : Expr} {ifs : List Expr} {scope : Scope} {pos : Pos} {NC own cs : List Str} {ix : List Nat} {g : TG} {tc : TT} {te : TE} (hc : X.calm = true) (S : CompScope X.env.scope scope) (hN : NC = own ++ cs) (hcap : Caps X scope cs ix)
    (hg : ∀ s3 H3 fp, PG (cxB X NC scope s3 H3 fp) tg g) (ht : ∀ s3 H3 fp, PTs (cxB X NC scope s3 H3 fp) ifs tc) (he : ∀ s3 H3 fp, PE (cxB X NC scope s3 H3 fp) elt te)
    {pins : List (Addr × Obj)} {σ : St} {H2 : Hp} {s2 : Shared} {it : Addr} {fp : List Addr} {tn : Nat → Heap → Prop} {J : It} (I2 : Inv X pins σ H2 s2) (T : Turn X.prog X.w X.K tg J fp it tn) (st2 : tn 0 s2.heap) (f2 : ∀ b ∈ fp, FpOk X pins H2 b) {QQ : Addr → Hp → Prop} {E : Value → Shared → Prop}
    {RR : Value → Addr → Result → Shared → Prop}
    (h2 : ∀ p, H2 p = none → CompW g tc te own.length ix σ J p H2 (QQ p))
    (fin : ∀ s3 H3 σ5 H5 s6, Inv X pins σ H3 s3 → (∀ b ∈ fp, FpOk X pins H3 b) → Inv (cxB X NC scope s3 H3 fp) [] σ5 H5 s6 → QQ s2.heap.objs.size H5 → RR (.ref s2.heap.objs.size) s3.heap.objs.size (.ok .next) s6) :
    wpAny (model X.prog X.w) X.A (newList []) (fun acc s3 => wpAny (model X.prog X.w) X.A (newFunctionEnv scope X.env.globals (clo X.env.cells scope.names []) [] X.env.qual none .none (some X.env)) (fun cenv s4 =>
      codeAny (model X.prog X.w) X.A (.compStart (.ListComp elt [⟨tg, iter, ifs, 0⟩] scope pos) 0 (.ref it) acc { cenv with scope := relabel scope X.env }) (RR acc cenv.locals) s4) E s3) E s2 := by
  have lt2 : ∀ b ∈ fp, b < s2.heap.objs.size := fun b hb => let ⟨_, e, _⟩ := T.obj _ _ st2 b hb; Heap.lt_size e
  obtain ⟨W, ⟨m0, w0⟩, turn⟩ := h2 _ I2.fresh
  refine wpAny_newObj_type ?_
  have I3 : Inv X pins σ (upd H2 s2.heap.objs.size (.lst [])) { s2 with heap := s2.heap.push { cls := .type "list", dict := none, data := .seq ([] : List Value).toArray } } := I2.lnew (t' := s2.toks) .nil (Nat.zero_le _)
  have f3 : ∀ b ∈ fp, FpOk X pins (upd H2 s2.heap.objs.size (.lst [])) b := fun b hb => ⟨by rw [upd_ne (Nat.ne_of_lt (lt2 b hb))]; exact (f2 b hb).1, (f2 b hb).2⟩
  have st3 : tn 0 (s2.heap.push { cls := .type "list", dict := none, data := .seq ([] : List Value).toArray }) := T.keep _ _ _ st2 fun b hb o e => Heap.get?_push_of_some _ e
  have lt3 : ∀ b ∈ fp, b < (s2.heap.push { cls := .type "list", dict := none, data := .seq ([] : List Value).toArray }).objs.size := fun b hb => by rw [Heap.size_push]; exact Nat.lt_succ_of_lt (lt2 b hb)
  refine wpAny_newFunctionEnv S.cell (fun _ z => nomatch z) (fun h4 hns hsb => ?_) S.kind
  dsimp only at hns hsb ⊢
  have hk4 : ∀ b o, (s2.heap.push { cls := .type "list", dict := none, data := .seq ([] : List Value).toArray }).get? b = some o → h4.get? b = some o := fun b o e =>
    hsb.extBut b o (Nat.ne_of_lt (Heap.lt_size e)) (Heap.get?_push_of_some _ e)
  have J0 := block_start (t4 := s2.toks + ([] : List (Str × Value)).length) I3 S hN hcap f3 lt3 hns hk4
  have st4 : tn 0 h4 := T.keep _ _ _ st3 fun b hb o e => hk4 b o e
  have fB : ∀ {H' : Hp}, (∀ b ∈ fp, H' b = none) → ∀ b ∈ fp, FpOk (cxB X NC scope { s2 with heap := s2.heap.push { cls := .type "list", dict := none, data := .seq ([] : List Value).toArray } } (upd H2 s2.heap.objs.size (.lst [])) fp) [] H' b := fun hn b hb => by
    refine ⟨hn b hb, Nat.ne_of_lt (lt3 b hb), fun z => ?_, .inl hb, fun x c e => (f3 b hb).2.2.2.2.1 x c (clo_sub e), fun p hp => absurd (show p ∈ ([] : List (Addr × Obj)) from hp) (by simp)⟩
    rcases List.mem_cons.mp (I3.stkSub b z) with z | z
    · exact (f3 b hb).2.1 z
    · exact (f3 b hb).2.2.1 z
  have loop : ∀ s4 : Shared, s4 = { s2 with heap := h4, toks := s2.toks + ([] : List (Str × Value)).length } →
      codeAny (model X.prog X.w) X.A (.compLoop (.ListComp elt [⟨tg, iter, ifs, 0⟩] scope pos) 0 (.ref it) (.ref s2.heap.objs.size) (compEnvC scope (clo X.env.cells scope.names []) (s2.heap.push { cls := .type "list", dict := none, data := .seq ([] : List Value).toArray }).objs.size X.env))
        (RR (.ref s2.heap.objs.size) (s2.heap.push { cls := .type "list", dict := none, data := .seq ([] : List Value).toArray }).objs.size) s4 := by
    rintro s4 rfl
    refine comp_loop (fun n s' => ∃ i ys σ' H', Inv (cxB X NC scope { s2 with heap := s2.heap.push { cls := .type "list", dict := none, data := .seq ([] : List Value).toArray } } (upd H2 s2.heap.objs.size (.lst [])) fp) [] σ' H' s' ∧ tn i s'.heap ∧ (∀ b ∈ fp, H' b = none) ∧ W i n ys σ' H') ?_ m0
      ⟨0, [], _, _, J0, st4, fun b hb => (f3 b hb).1, w0⟩
    rintro n s5 ⟨i, ys, σ5, H5, J5, st5, fr5, w5⟩
    obtain ⟨hp5, alt⟩ := turn i n ys σ5 H5 w5
    rcases alt with ⟨stop, qn⟩ | ⟨go, hz, step⟩
    · refine thn (T.done (cxB X NC scope _ _ fp) rfl rfl rfl hc i [] s5 σ5 H5 _ J5 (fB fr5) st5 stop) fun r s6 ⟨hr, J6⟩ => .inl ⟨hr, ?_⟩
      exact fin _ _ _ _ _ I3 f3 J6 qn
    · refine thn (T.item (cxB X NC scope _ _ fp) rfl rfl rfl hc i [] s5 σ5 H5 _ J5 (fB fr5) st5 go) fun r s6 ⟨u, hr, h6⟩ => .inr ⟨u, hr, ?_⟩
      refine thn h6 fun _ s7 ⟨x, H7, J7, r7, y7, st7, fr7⟩ => ?_
      have J7' := J7.pinned (fB fr7) (T.obj _ _ st7)
      obtain ⟨N, hN', q7⟩ := step x H7 y7
      refine thn (hg _ _ fp _ s7 σ5 H7 x u _ J7' r7 q7) fun _ s8 ⟨σ8, H8, J8, q8⟩ => ?_
      refine thn (ht _ _ fp _ s8 σ8 H8 _ J8 q8) fun ok s9 ⟨H9, J9, q9⟩ => ?_
      have again : ∀ {σa : St} {Ha : Hp} {sa : Shared} {ya : List V} {ma : Nat}, Inv (cxB X NC scope { s2 with heap := s2.heap.push { cls := .type "list", dict := none, data := .seq ([] : List Value).toArray } } (upd H2 s2.heap.objs.size (.lst [])) fp) ([] ++ pinsAt fp s7.heap) σa Ha sa → ma < n → W (i + 1) ma ya σa Ha →
          ∃ m, m < n ∧ ∃ i ys σ' H', Inv (cxB X NC scope { s2 with heap := s2.heap.push { cls := .type "list", dict := none, data := .seq ([] : List Value).toArray } } (upd H2 s2.heap.objs.size (.lst [])) fp) [] σ' H' sa ∧ tn i sa.heap ∧ (∀ b ∈ fp, H' b = none) ∧ W i m ys σ' H' := fun {σa Ha sa ya ma} Ja hm wa => by
        refine ⟨ma, hm, i + 1, ya, σa, Ha, Ja.unpinned, T.keep _ _ _ st7 fun b hb o e => (Ja.pin (b, o) (List.mem_append_right _ (List.mem_append_right _ (mem_pinsAt hb e)))).1, fun b hb => ?_, wa⟩
        obtain ⟨o, e, d⟩ := T.obj _ _ st7 b hb
        exact (Ja.pin (b, o) (List.mem_append_right _ (List.mem_append_right _ (mem_pinsAt hb e)))).2.1
      cases ok with
      | false =>
        obtain ⟨m', hm, w'⟩ := hN' _ _ _ (show N ys σ8 H9 from q9)
        exact .inr ⟨rfl, again J9 hm w'⟩
      | true =>
        refine .inl ⟨rfl, thn (he _ _ fp _ s9 σ8 H9 _ J9 q9) fun yv s10 ⟨y, H10, J10, r10, hp10, n10⟩ => ?_⟩
        obtain ⟨m', hm, w'⟩ := hN' _ _ _ n10
        refine thn (mt_append _ s10 σ8 H10 (.ref s2.heap.objs.size) [y] (.ref s2.heap.objs.size) [yv] (fun _ Hz => Hz = upd H10 s2.heap.objs.size (.lst (ys ++ [y]))) J10 rfl (.cons r10 .nil) ⟨_, ys, y, rfl, rfl, hp10, hz, rfl⟩) fun _ s11 ⟨_, H11, J11, _, e11⟩ => ?_
        subst e11
        exact again J11 hm w'
  exact codeAny_compStart_list (loop _ rfl) (T.self X.A 0 _ _ _ st4 (loop _ rfl))
theorem pe_comp {X : Cx} {elt tg iter : Expr} {ifs : List Expr} {scope : Scope} {pos : Pos} {NC own cs : List Str} {ix : List Nat} {wi : TI} {g : TG} {tc : TT} {te : TE} (hc : X.calm = true) (S : CompScope X.env.scope scope) (hN : NC = own ++ cs) (hcap : Caps X scope cs ix)
    (hi : PI X tg iter wi) (hg : ∀ s3 H3 fp, PG (cxB X NC scope s3 H3 fp) tg g) (ht : ∀ s3 H3 fp, PTs (cxB X NC scope s3 H3 fp) ifs tc) (he : ∀ s3 H3 fp, PE (cxB X NC scope s3 H3 fp) elt te)
    (hs : ∀ x, foldedSetIterable iter X.env x = pure x := by intro _; rfl) : PE X (.ListComp elt [⟨tg, iter, ifs, 0⟩] scope pos) (tComp wi g tc te own.length ix) := by
  intro pins s σ H Q I h
  rw [eval_ListComp]
  have has : ∀ y ∈ scope.names, y.2 = .free → ∃ c, X.env.cells.lookup y.1 = some c := fun y hy e => I.ok.has y.1 (S.free y hy e)
  refine wpAny_comprehension_free (use := none) rfl hs (clo_is has) S.kind S.own (thn (hi pins s σ H _ I h) fun v s1 h1 => thn h1 fun itv s2 h2 => ?_)
  obtain ⟨it, fp, tn, J, H2, e, I2, T, st2, f2, h2⟩ := h2
  subst e
  refine comp_core hc S hN hcap hg ht he I2 T st2 f2 (QQ := fun p => Q (.ref p)) (RR := fun acc C => compPost (model X.prog X.w) X.A X.xe none (EP X pins σ Q) acc C) h2 fun s3 H3 σ5 H5 s6 I3 f3 J6 qn => ?_
  obtain ⟨m6, hn6, _⟩ := J6.loc
  exact ⟨m6, hn6, fun h7 hs7 => ⟨.ref s2.heap.objs.size, H5, block_end I3 f3 J6 hs7, rfl, qn⟩⟩
end L2
namespace L2
open PySem PySem.Spec PyProof.Rows
theorem call_isinst {X : Cx} : CallR X (.builtin "isinstance") (fun xs H Q => ∃ x c cv t b, xs = [x, c] ∧ (∀ u, RelV c u → u = cv) ∧ TyOf X.K H x t ∧ PySem.W.kitOne X.K t cv = some b ∧ Q (.bl b) H) := by
  intro pins s σ H xs us Q I r h
  obtain ⟨x, c, cv, t, b, rfl, hc, ty, e, q⟩ := h
  obtain ⟨u, z, rfl, rx, rc⟩ := vals2 r
  cases hc z rc
  exact isinst_ok I rx ty e fun tk => ⟨.bl b, H, I.tok tk, rfl, q⟩
theorem ty_is {n : String} : ∀ u, RelV (.ty n) u → u = .type n := fun _ h => h
theorem ref_is {a : Addr} : ∀ u, RelV (.ref a) u → u = .ref a := fun _ h => h
def eqL : List V → List V → Bool
  | [], [] => true
  | x :: xs, y :: ys => eqV x y && eqL xs ys
  | _, _ => false
theorem eqL_len : ∀ {xs ys : List V}, xs.length ≠ ys.length → eqL xs ys = false
  | [], [], h => absurd rfl h
  | [], _ :: _, _ => rfl
  | _ :: _, [], _ => rfl
  | x :: xs, y :: ys, h => by
    unfold eqL
    rw [eqL_len (xs := xs) (ys := ys) fun e => h (by rw [List.length_cons, List.length_cons, e]), Bool.and_false]
theorem eqL_all : ∀ {xs ys : List V}, xs.length = ys.length → ∀ e : Nat → Bool, (∀ j x y, xs[j]? = some x → ys[j]? = some y → e j = eqV x y) → (List.range xs.length).all e = eqL xs ys
  | [], [], _, _, _ => rfl
  | [], _ :: _, h, _, _ => by simp at h
  | _ :: _, [], h, _, _ => by simp at h
  | x :: xs, y :: ys, h, e, he => by
    have ih := eqL_all (xs := xs) (ys := ys) (by simpa using h) (fun j => e (j + 1)) fun j a b ha hb => he (j + 1) a b (by simpa using ha) (by simpa using hb)
    unfold eqL
    rw [List.length_cons, List.range_succ_eq_map, List.all_cons, List.all_map, he 0 x y rfl rfl, ← ih]
    rfl
def eqAtJ (its js : List Value) (xs ys : List V) (j : Nat) : Bool := match xs[j]?, ys[j]? with
  | some x, some y => eqV x y
  | _, _ => true
theorem lists_at {X : Cx} {pins : List (Addr × Obj)} {s : Shared} {σ : St} {H : Hp} {A : Around} {xs ys : List V} {its js : List Value} (r1 : Vals xs its) (r2 : Vals ys js) (f1 : xs.all flatV = true) (f2 : ys.all flatV = true) (hl : xs.length = ys.length) :
    ∀ j (h1 : j < its.toArray.size) (h2 : j < js.toArray.size), SeqAt.EqAt A s its.toArray[j] js.toArray[j] (eqAtJ its js xs ys j) := fun j h1 h2 => by
  have l1 := r1.length
  have l2 := r2.length
  rw [List.size_toArray] at h1 h2
  have e1 : xs[j]? = some xs[j] := List.getElem?_eq_getElem (by omega)
  have e2 : ys[j]? = some ys[j] := List.getElem?_eq_getElem (by omega)
  obtain ⟨u, hu, ru⟩ := r1.get e1
  obtain ⟨v, hv, rv⟩ := r2.get e2
  have eu : its.toArray[j] = u := by rw [List.getElem_toArray]; exact (List.getElem?_eq_some_iff.mp hu).2
  have ev : js.toArray[j] = v := by rw [List.getElem_toArray]; exact (List.getElem?_eq_some_iff.mp hv).2
  rw [eu, ev]
  unfold eqAtJ
  rw [e1, e2]
  exact eqAt_V ru rv (List.all_eq_true.mp f1 _ (List.getElem_mem _)) (List.all_eq_true.mp f2 _ (List.getElem_mem _))
def rEqL (K : PySem.W.Frag) (neg : Bool) : R2 := fun x y H Q => ∃ a b xs ys, x = .ref a ∧ y = .ref b ∧ SqL K H a xs ∧ SqL K H b ys ∧ xs.all flatV = true ∧ ys.all flatV = true ∧ Q (.bl (if neg then !eqL xs ys else eqL xs ys)) H
theorem op_eqL {X : Cx} (hu : X.A.units < cLine) : OpR X (compareOp .Eq) (rEqL X.K false) := by
  intro pins s σ H x y v u Q I rx ry h
  obtain ⟨a, b, xs, ys, rfl, rfl, h1, h2, f1, f2, q⟩ := h
  cases rx
  cases ry
  obtain ⟨its, r1, p1, z1⟩ := I.list h1
  obtain ⟨js, r2, p2, z2⟩ := I.list h2
  have l1 := r1.length
  have l2 := r2.length
  by_cases hl : xs.length = ys.length
  · refine SeqAt.eq_listAt p1.isList p2.isList (by rw [List.size_toArray, List.size_toArray]; omega) hu (lists_at (X := X) (pins := pins) (σ := σ) (H := H) r1 r2 f1 f2 hl) ?_
    refine ⟨.bl (eqL xs ys), H, I, ?_, q⟩
    show Value.bool _ = Value.bool _
    rw [List.size_toArray, ← l1, eqL_all hl]
    intro j x y e1 e2
    unfold eqAtJ
    rw [e1, e2]
  · refine SeqAt.eq_list_lengthsAt p1.isList p2.isList (by simp only [List.size_toArray, bne_iff_ne, ne_eq]; omega) hu ?_
    exact ⟨.bl (eqL xs ys), H, I, by rw [eqL_len hl]; rfl, q⟩
theorem op_neL {X : Cx} (hu : X.A.units < cLine) : OpR X (compareOp .NotEq) (rEqL X.K true) := by
  intro pins s σ H x y v u Q I rx ry h
  obtain ⟨a, b, xs, ys, rfl, rfl, h1, h2, f1, f2, q⟩ := h
  cases rx
  cases ry
  obtain ⟨its, r1, p1, z1⟩ := I.list h1
  obtain ⟨js, r2, p2, z2⟩ := I.list h2
  have l1 := r1.length
  have l2 := r2.length
  by_cases hl : xs.length = ys.length
  · refine (SeqAt.RcNeAt.lists p1.isList p2.isList (by rw [List.size_toArray, List.size_toArray]; omega) hu (lists_at (X := X) (pins := pins) (σ := σ) (H := H) r1 r2 f1 f2 hl) : SeqAt.RcNeAt X.A s _ _ _) X.prog X.w _ _ ?_
    refine ⟨.bl (!eqL xs ys), H, I, ?_, q⟩
    show Value.bool _ = Value.bool _
    rw [List.size_toArray, ← l1, eqL_all hl]
    intro j x y e1 e2
    unfold eqAtJ
    rw [e1, e2]
  · refine (SeqAt.RcNeAt.lists_lengths p1.isList p2.isList (by simp only [List.size_toArray, bne_iff_ne, ne_eq]; omega) hu : SeqAt.RcNeAt X.A s _ _ _) X.prog X.w _ _ ?_
    exact ⟨.bl (!eqL xs ys), H, I, by rw [eqL_len hl]; rfl, q⟩
abbrev caps (ix : List Nat) (σ : St) : St := ix.map fun j => (σ[j]?).getD none
theorem comp_list {K : PySem.W.Frag} {a : Addr} {xs : List V} {tc : TT} {te : TE} {σ : St} {ix : List Nat} {QQ : Hp → Prop} {H1 : Hp} {p : Addr} (Pv : Nat → List V → Hp → Prop) (h0 : Pv 0 [] (upd H1 p (.lst [])))
    (hp : ∀ i ys H, i ≤ xs.length → Pv i ys H → H p = some (.lst ys) ∧ ys.length ≤ i ∧ SqL K H a xs) (hn : xs.length ≤ sizeLine)
    (hs : ∀ i x ys H, xs[i]? = some x → Pv i ys H → tc (some x :: caps ix σ) H fun b H5 => if b = true then te (some x :: caps ix σ) H5 fun y H6 => H6 p = some (.lst ys) ∧
      (some x :: caps ix σ) = (some x :: caps ix σ) ∧ Pv (i + 1) (ys ++ [y]) (upd H6 p (.lst (ys ++ [y]))) else (some x :: caps ix σ) = (some x :: caps ix σ) ∧ Pv (i + 1) ys H5)
    (hd : ∀ ys H, Pv xs.length ys H → QQ H) :
    CompW (gName 0) tc te 1 ix σ (Itl K a) p H1 QQ := by
  refine ⟨fun i m ys σ2 H2 => m = xs.length - i ∧ i ≤ xs.length ∧ (∃ o, σ2 = o :: caps ix σ) ∧ Pv i ys H2, ⟨xs.length, by simp, Nat.zero_le _, ⟨none, rfl⟩, h0⟩, ?_⟩
  rintro i m ys σ2 H2 ⟨rfl, hi, ⟨o, rfl⟩, pv⟩
  obtain ⟨hp2, hl2, hq2⟩ := hp i ys H2 hi pv
  refine ⟨hp2, ?_⟩
  by_cases hlt : i < xs.length
  · refine .inr ⟨⟨xs, xs[i], hq2, by simp [hlt]⟩, by omega, fun x H3 y => ?_⟩
    obtain ⟨e, y⟩ := y
    subst e
    exact ⟨fun ys' σ' H' => σ' = (some x :: caps ix σ) ∧ Pv (i + 1) ys' H', fun ys' σ' H' ⟨e, q⟩ => ⟨xs.length - (i + 1), by omega, rfl, hlt, ⟨_, e⟩, q⟩, hs i x ys _ (y xs hq2) pv⟩
  · have e : i = xs.length := by omega
    subst e
    exact .inl ⟨⟨xs, hq2, Nat.le_refl _⟩, hd ys H2 pv⟩
end L2
namespace L2
open PySem PySem.Spec PyProof.Rows
structure Cal (P : Program) (w : World) (K : PySem.W.Frag) (mg : Str → Option Value) (base : Heap) (k : Nat) (x : Str) (ps : List Str) (sp : Sp) : Prop where
  ex : ∃ f fd, FnOk P w K mg base CX0 k f fd ps sp ∧ Binds K fd ps [] ∧ PySem.W.keepIn K (.ref f) = true ∧ mg x = some (.ref f)
theorem pe_callC {X : Cx} {k : Nat} {x : Str} {ps : List Str} {sp : Sp} {e : Expr} {es : List Expr} {p pos : Pos} {t : TA} (C : Cal X.prog X.w X.K X.mg X.base k x ps sp) (hr : Room k X.A) (hg : Gl X x) (ha : PA X (e :: es) t)
    (hdb : (x == ("__debug__" : Str)) = false := by decide) (he : starEach (e :: es) X.env = (false, eval e X.env) :: starEach es X.env := by rfl) (hpl : (backTo pos (starEach es X.env)).any (·.1) = false := by rfl) :
    PE X (.Call (.Name x p) (e :: es) [] pos) (tCall sp [] E0 t) := by
  obtain ⟨f, fd, F, b, kp, hm⟩ := C.ex
  exact pe_call F hr hg hm kp b .nil pass0 ha hdb he hpl
structure Def (K : PySem.W.Frag) (mg : Str → Option Value) (x : Str) (st : Stmt) (ps : List Str) : Prop where
  ex : ∃ f fd, Fun K x x st f fd ∧ Binds K fd ps [] ∧ mg x = some (.ref f)
theorem Def.cal {P : Program} {w : World} {K : PySem.W.Frag} {mg : Str → Option Value} {base : Heap} {k : Nat} {x : Str} {st : Stmt} {ps : List Str} {sp : Sp} (D : Def K mg x st ps) (h : ∀ f fd, Fun K x x st f fd → FnOk P w K mg base CX0 k f fd ps sp) : Cal P w K mg base k x ps sp := by
  obtain ⟨f, fd, F, b, m⟩ := D.ex
  exact ⟨f, fd, h f fd F, b, F.kp, m⟩
def GInt (mg : Str → Option Value) (x : Str) (i : Int) : Prop := ∃ t, mg x = some (.int i t)
def GStr (mg : Str → Option Value) (x : Str) (z : Str) : Prop := ∃ t, mg x = some (.str z t)
theorem pe_gint {X : Cx} {x : Str} {i : Int} {pos : Pos} (h : GInt X.mg x i) (hg : Gl X x) (hd : (x == ("__debug__" : Str)) = false := by decide) : PE X (.Name x pos) (tC (.int i)) := by
  obtain ⟨t, e⟩ := h
  exact pe_glob hg e ⟨t, rfl⟩ hd
theorem pe_gstr {X : Cx} {x : Str} {i : Str} {pos : Pos} (h : GStr X.mg x i) (hg : Gl X x) (hd : (x == ("__debug__" : Str)) = false := by decide) : PE X (.Name x pos) (tC (.str i)) := by
  obtain ⟨t, e⟩ := h
  exact pe_glob hg e ⟨t, rfl⟩ hd
theorem pe_ty {X : Cx} {x : Str} {pos : Pos} (T : String) (hg : Gl X x) (hm : X.mg x = none) (hv : bootBuiltins x = some (.type T)) (hn : x ≠ "__name__" := by decide) (hd : (x == ("__debug__" : Str)) = false := by decide) : PE X (.Name x pos) (tC (.ty T)) :=
  pe_bltn (v := .ty T) hg hm hv rfl hn hd
theorem same_new {H : Hp} {p : Addr} (h : H p = none) (o : HO) : Same H (upd H p o) := fun b u q => by rw [upd_ne (ne_of_none q h)]; exact q
theorem le_line {n : Nat} (h : n ≤ 1000) : n ≤ sizeLine := Nat.le_of_lt (small1000 h)
theorem at_int {ns : List Int} {i : Nat} {n : Int} (h : ns[i]? = some n) : atI (ns.map V.int) (i : Int) = some (.int n) := atI_nat (by rw [List.getElem?_map, h]; rfl)
theorem at_intI {ns : List Int} {i : Int} (h0 : 0 ≤ i) (h : i < ns.length) : atI (ns.map V.int) i = some (.int (ns.getD i.toNat 0)) := by
  have e : ((i.toNat : Nat) : Int) = i := by omega
  have q := at_int (ns := ns) (i := i.toNat) (n := ns.getD i.toNat 0) (by rw [List.getElem?_eq_getElem (by omega), List.getD_eq_getElem?_getD, List.getElem?_eq_getElem (by omega)]; rfl)
  rw [e] at q
  exact q
example : bootBuiltins "int" = some (.type "int") := by rfl
end L2
namespace L2
open PySem PySem.Spec PyProof.Rows
def Ite (K : PySem.W.Frag) (a : Addr) : It :=
  ⟨fun i H => ∃ xs x, SqL K H a xs ∧ xs[i]? = some x,
   fun i H x H' => ∃ t y, x = .ref t ∧ H t = none ∧ (∀ xs, SqL K H a xs → xs[i]? = some y) ∧ H' = upd H t (.tup [.int i, y]),
   fun i H => ∃ xs, SqL K H a xs ∧ xs.length ≤ i⟩
theorem turn_enum {P : Program} {w : World} {K : PySem.W.Frag} {elts : List Expr} {k : Nat} {tp : Pos} (a e it : Addr) (hei : e ≠ it) :
    Turn P w K (.Tuple elts k tp) (Ite K a) [e, it] e (fun i h => (∃ old, IsEnum h e it i old) ∧ h.IsListIter it a i) where
  mem := by simp
  obj := fun i h st b hb => by
    obtain ⟨⟨old, he⟩, o, ho, c, d⟩ := st
    rcases List.mem_cons.mp hb with rfl | hb
    · exact ⟨_, he, fun v z => by
        have z' : Data.fields _ = Data.cell v := z
        cases z'⟩
    · have eb : b = it := by simpa using hb
      subst eb
      exact ⟨o, ho, fun v z => by rw [d] at z; cases z⟩
  keep := fun i h h' st kk => by
    obtain ⟨⟨old, he⟩, hit⟩ := st
    exact ⟨⟨old, kk e (by simp) _ he⟩, hit.at fun o x => kk it (by simp) o x⟩
  item := by
    intro X hP hw hK hc i pins s σ H E I hf st hg
    subst hP hw hK
    obtain ⟨⟨old, he⟩, hit⟩ := st
    obtain ⟨xs, x, hq, hx⟩ := hg
    obtain ⟨its, rv, p, hz⟩ := I.list hq
    obtain ⟨u, hu, ru⟩ := rv.get hx
    obtain ⟨e0, e1, e2, e3, e4, e5⟩ := hf e (by simp)
    obtain ⟨i0, i1, i2, i3, i4, i5⟩ := hf it (by simp)
    refine wpAny_pyNext_enum_item he hit p.isList (x := u) (by simpa using hu) hei fun h1 ho hit1 hT hsz hk => ⟨_, rfl, ?_⟩
    refine wpAny_letOwnedTupleGo_enum ho fun h2 he2 hs2 => ?_
    have hs2' : Heap.SameBut e h1 h2 := hs2
    have helt : e < s.heap.objs.size := Heap.lt_size he
    have hnT : H s.heap.objs.size = none := I.hok.fresh (Nat.le_refl _)
    have up : ∀ b o, b ≠ e → b ≠ it → s.heap.get? b = some o → h2.get? b = some o := fun b o h3 h4 q => (hs2'.2 b h3).trans (hk b o h3 h4 q)
    have nch : ∀ b, b ∉ [e, it] → b ≠ e ∧ b ≠ it := fun b hb => ⟨fun z => hb (by simp [z]), fun z => hb (by simp [z])⟩
    have ntr : ∀ b o, H b = some o → b ≠ e ∧ b ≠ it := fun b o q => ⟨fun z => by (rw [z, e0] at q; cases q), fun z => by (rw [z, i0] at q; cases q)⟩
    have htup : h2.get? s.heap.objs.size = some { cls := .type "tuple", data := .seq #[.int i s.toks, u] } := (hs2'.2 _ (Nat.ne_of_gt helt)).trans hT
    have I1 : Inv X pins σ (upd H s.heap.objs.size (.tup [.int i, x])) { s with heap := h2, gens := s.gens, drawn := s.drawn, toks := s.toks + 1 } := by
      refine I.step (ch := [e, it]) (fun b hb => ?_) (fun b o _ _ hb q _ => up b o (nch b hb).1 (nch b hb).2 q) (fun b o _ _ hb q _ => ⟨o.slots, up b o (nch b hb).1 (nch b hb).2 q⟩) (fun b o _ q n => by rw [upd_ne (Nat.ne_of_lt (Heap.lt_size q))]; exact n)
        (fun b o hb q => ⟨o, up b o (nch b hb).1 (nch b hb).2 q⟩) (fun b xs q => by rw [upd_ne (ne_of_none q hnT)]; exact q) (fun b o u q => by rw [upd_ne (ne_of_none q hnT)]; exact q) (fun b ps q => ⟨#[], by rw [upd_ne (ne_of_none q hnT), q]; simp⟩)
        (fun m hm => ?_) (fun b o q => ?_) I.bare
      · rcases List.mem_cons.mp hb with rfl | hb
        · exact ⟨e3, e1, e4, e5⟩
        · have eb : b = it := by simpa using hb
          subst eb
          exact ⟨i3, i1, i4, i5⟩
      · obtain ⟨o, es, ep, hoL, r⟩ := hm
        exact ⟨o, es, ep, up _ o (Ne.symm e1) (Ne.symm i1) hoL, r⟩
      · by_cases hb : b = s.heap.objs.size
        · subst hb
          rw [upd_same] at q
          cases q
          exact ⟨le_line (by show 2 ≤ 1000; decide), [.int i s.toks, u], .cons ⟨_, rfl⟩ (.cons ru .nil), _, htup, rfl, _, rfl⟩
        · rw [upd_ne hb] at q
          refine (I.hok b o q).stay (fun c v hc2 q2 => ?_) (fun c q2 => by rw [upd_ne (ne_of_none q2 hnT)]; exact q2) (fun c xs q2 => by rw [upd_ne (ne_of_none q2 hnT)]; exact q2)
          rcases hc2 with rfl | hc2
          · exact up _ v (ntr _ _ q).1 (ntr _ _ q).2 q2
          · exact up _ v (ntr _ _ hc2).1 (ntr _ _ hc2).2 q2
    refine ⟨.ref s.heap.objs.size, _, I1, rfl, ⟨_, x, rfl, hnT, fun ys hy => by rw [I.list_inj hy hq]; exact hx, rfl⟩, ⟨⟨u, ?_⟩, ?_⟩, fun b hb => ?_⟩
    · have ei : ((i + 1 : Nat) : Int) = (i : Int) + 1 := by omega
      rw [ei]
      exact he2
    · exact hit1.at fun o q => (hs2'.2 it hei.symm).trans q
    · have hbl : b < s.heap.objs.size := by
        rcases List.mem_cons.mp hb with rfl | hb
        · exact helt
        · have eb : b = it := by simpa using hb
          subst eb
          obtain ⟨o, q, _⟩ := hit
          exact Heap.lt_size q
      rw [upd_ne (Nat.ne_of_lt hbl)]
      exact (hf b hb).1
  done := by
    intro X hP hw hK hc i pins s σ H E I hf st hg
    subst hP hw hK
    obtain ⟨⟨old, he⟩, hit⟩ := st
    obtain ⟨xs, hq, hx⟩ := hg
    obtain ⟨its, rv, p, hz⟩ := I.list hq
    obtain ⟨i0, i1, i2, i3, i4, i5⟩ := hf it (by simp)
    have hl := rv.length
    exact wpAny_pyNext_enum_end (I.ok.hd hc) he hit p.isList (by simp; omega) fun h' eb => ⟨rfl, I.turned (t' := s.toks) (fun b o hb q => eb b o hb q) i0 i1 i3 i4 i5⟩
  self := fun _ _ _ _ _ st h => by
    obtain ⟨⟨old, he⟩, _⟩ := st
    exact wpAny_pyIter_enum he h
def iEnum (K : PySem.W.Frag) (ta : TA) : TI := fun σ H R => ta σ H fun vs H1 => ∃ a, vs = [.ref a] ∧ (∃ xs, SqL K H1 a xs) ∧ R (Ite K a) H1
theorem pi_enum {X : Cx} {a : Expr} {ta : TA} {p pos tp : Pos} {elts : List Expr} {k : Nat} (hg : Gl X "enumerate") (hm : X.mg "enumerate" = none) (ha : PA X [a] ta) (hs : starEach [a] X.env = [(false, eval a X.env)] := by rfl) :
    PI X (.Tuple elts k tp) (.Call (.Name "enumerate" p) [a] [] pos) (iEnum X.K ta) := by
  intro pins s σ H R I h
  refine Call_ (ld_blt I hg hm (show bootBuiltins "enumerate" = some (.type "enumerate") from rfl) (PyProof.Rows.callWith_type1 (thn (ha pos pins s σ H _ I h) fun us s1 ⟨vs, H1, I1, r1, q1⟩ => ?_) hs rfl))
  obtain ⟨a, ev, ⟨xs, hq⟩, q⟩ := q1
  subst ev
  obtain ⟨u, rfl, rx⟩ := vals1 r1
  cases rx
  obtain ⟨its, rv, pl, hz⟩ := I1.list hq
  refine call_enumerate_list pl.isList fun h' he hit hsz hk => ?_
  refine wpAny_pyIter_enum he ?_
  have I2 : Inv X pins σ H1 { s1 with heap := h' } := I1.kept (t' := s1.toks) hk
  refine ⟨_, [s1.heap.objs.size + 1, s1.heap.objs.size], _, _, H1, rfl, I2, turn_enum a _ _ (Nat.succ_ne_self _), ⟨⟨_, he⟩, hit⟩, fun b hb => ?_, q⟩
  rcases List.mem_cons.mp hb with rfl | hb
  · exact I1.fpOk (Nat.le_succ _) (I1.hok.fresh (Nat.le_succ _))
  · have eb : b = s1.heap.objs.size := by simpa using hb
    subst eb
    exact I1.fpOk (Nat.le_refl _) (I1.hok.fresh (Nat.le_refl _))
end L2
namespace L2
open PySem PySem.Spec PyProof.Rows
structure MCal (P : Program) (w : World) (K : PySem.W.Frag) (mg : Str → Option Value) (base : Heap) (k : Nat) (C : Addr) (m : Str) (ps : List Str) (sp : Sp) : Prop where
  ex : ∃ f fd, FnOk P w K mg base CX0 k f fd ps sp ∧ Binds K fd ps [] ∧ Meth K C m f
  cl : Cls K C
theorem pe_methC {X : Cx} {k : Nat} {C : Addr} {m : Str} {ps : List Str} {sp : Sp} {e o : Expr} {es : List Expr} {apos pos : Pos} {ta : TE} {t : TA} {pl : Sem Bool} (M : MCal X.prog X.w X.K X.mg X.base k C m ps sp) (hr : Room k X.A) (he : PE X o ta) (ha : PA X (e :: es) t)
    (hst : starEach (e :: es) X.env = (false, eval e X.env) :: starEach es X.env := by rfl) (hpl : (backTo pos (starEach es X.env)).any (·.1) = false := by rfl)
    (ht : eval (.Call (.Attribute o m apos) (e :: es) [] pos) X.env = (do
      let ov ← eval o X.env
      standAt apos.atName
      let (f, first) ← holding [ov] (getMethod ov m pl)
      callWith pos f first (backTo pos (starEach (e :: es) X.env)) (backToKw pos (keywordEach [] X.env))) := by rfl) :
    PE X (.Call (.Attribute o m apos) (e :: es) [] pos) (tMeth C m sp [] E0 ta t) := by
  obtain ⟨f, fd, F, b, hm⟩ := M.ex
  exact pe_meth he M.cl hm F hr b .nil pass0 ha hst hpl ht
structure KCal (P : Program) (w : World) (K : PySem.W.Frag) (mg : Str → Option Value) (base : Heap) (k : Nat) (x : Str) (C : Addr) (ps : List Str) (sp : Sp) : Prop where
  ex : ∃ f fd, Mk K C f ∧ FnOk P w K mg base CX0 k f fd ps sp ∧ Binds K fd ps [] ∧ mg x = some (.ref C)
theorem pe_makeC {X : Cx} {k : Nat} {x : Str} {C : Addr} {ps : List Str} {sp : Sp} {e : Expr} {es : List Expr} {p pos : Pos} {t : TA} (M : KCal X.prog X.w X.K X.mg X.base k x C ps sp) (hr : Room (k + 1) X.A) (hg : Gl X x) (ha : PA X (e :: es) t)
    (hdb : (x == ("__debug__" : Str)) = false := by decide) (he : starEach (e :: es) X.env = (false, eval e X.env) :: starEach es X.env := by rfl) (hpl : (backTo pos (starEach es X.env)).any (·.1) = false := by rfl) :
    PE X (.Call (.Name x p) (e :: es) [] pos) (tMake C sp [] E0 t) := by
  obtain ⟨f, fd, mk, F, b, hm⟩ := M.ex
  exact pe_make mk F hr hg hm b .nil pass0 ha hdb he hpl
end L2
namespace L2
open PySem PySem.Spec PyProof.Rows
theorem turn_lrange {P : Program} {w : World} {K : PySem.W.Frag} {tg : Expr} (it : Addr) (lo : Int) (n : Nat) : Turn P w K tg (Itr lo n) [it] it (fun i h => IsLongIter h it (lo + (i : Nat) * 1) ((n : Int) - (i : Nat)) 1) where
  mem := by simp
  obj := fun i h st b hb => by
    have e : b = it := by simpa using hb
    subst e
    exact ⟨_, st, fun v z => by
      have z' : Data.fields _ = Data.cell v := z
      cases z'⟩
  keep := fun i h h' st k => k it (by simp) _ st
  item := by
    intro X hP hw hK hc i pins s σ H E I hf st hg
    subst hP hw hK
    obtain ⟨f0, f1, f2, f3, f4, f5⟩ := hf it (by simp)
    have W := Walks.longrange (prog := X.prog) (w := X.w) (I.ok.hd hc) it lo 1 n
    refine W.item i s _ _ hg st fun v h' tk hv st' kk => ?_
    obtain ⟨t, rfl⟩ := hv
    have I1 : Inv X pins σ H { s with heap := h', toks := tk } := I.turned (fun b o hb e => kk b o (by simpa using hb) e) f0 f1 f3 f4 f5
    refine ⟨_, rfl, go_of (s := { s with heap := h', toks := tk }) (n := "longrange_iterator") st' rfl rfl (by decide) ⟨.int (lo + i), H, I1, ⟨t, ?_⟩, ⟨rfl, rfl⟩, st', fun b hb => (hf b hb).1⟩⟩
    rw [Int.mul_one]
  done := by
    intro X hP hw hK hc i pins s σ H E I hf st hg
    subst hP hw hK
    obtain ⟨f0, f1, f2, f3, f4, f5⟩ := hf it (by simp)
    exact wpAny_pyNext_long_end (I.ok.hd hc) st (by have : n ≤ i := hg; omega) fun h' eb => ⟨rfl, I.turned (t' := s.toks) (fun b o hb e => eb b o hb e) f0 f1 f3 f4 f5⟩
  self := fun _ _ _ _ _ st h => wpAny_pyIter_longiter st h
theorem lrange_it {X : Cx} {tg : Expr} {pins : List (Addr × Obj)} {σ : St} {H : Hp} {s : Shared} {R : It → Hp → Prop} {E : Value → Shared → Prop} {lo hi : Int} {t u v : Tok} {tk : Nat} (I : Inv X pins σ H s)
    (q : R (Itr lo (hi - lo).toNat) H) : wpAny (model X.prog X.w) X.A (pyIter (.ref s.heap.objs.size)) (PIE X pins σ tg R) E { s with heap := s.heap.push { cls := .type "range", data := .fields #[.int lo t, .int hi u, .int 1 v] }, toks := tk } := by
  have I1 : Inv X pins σ H { s with heap := s.heap.push { cls := .type "range", data := .fields #[.int lo t, .int hi u, .int 1 v] }, toks := tk } := I.kept fun b o e => Heap.get?_push_of_some _ e
  have e1 : lo + ((0 : Nat) : Int) * 1 = lo := by simp
  have e2 : (((hi - lo).toNat : Nat) : Int) - ((0 : Nat) : Int) = Builtin.Range.rangeSize lo hi 1 := by rw [rangeSize_one]; split <;> omega
  have fp : ∀ b ∈ [(s.heap.push { cls := .type "range", data := .fields #[.int lo t, .int hi u, .int 1 v] }).objs.size], FpOk X pins H b := fun b hb => by
    have e : b = (s.heap.push { cls := .type "range", data := .fields #[.int lo t, .int hi u, .int 1 v] }).objs.size := by simpa using hb
    subst e
    exact I1.fpOk (Nat.le_refl _) (I1.hok.fresh (Nat.le_refl _))
  cases hs : Builtin.Range.small lo hi 1 with
  | true =>
    refine wpAny_pyIter_range (IsRange.new ..) hs ?_
    refine ⟨_, _, _, _, H, rfl, I1.kept (t' := tk) fun b o e => Heap.get?_push_of_some _ e, turn_range _ lo (hi - lo).toNat, ?_, fp, q⟩
    show IsRangeIter _ _ (lo + ((0 : Nat) : Int) * 1) ((((hi - lo).toNat : Nat) : Int) - ((0 : Nat) : Int)) 1
    rw [e1, e2]
    exact Heap.get?_push_size _ rfl
  | false =>
    refine wpAny_pyIter_longrange (IsRange.new ..) hs ?_
    refine ⟨_, _, _, _, H, rfl, I1.kept (t' := tk) fun b o e => Heap.get?_push_of_some _ e, turn_lrange _ lo (hi - lo).toNat, ?_, fp, q⟩
    show IsLongIter _ _ (lo + ((0 : Nat) : Int) * 1) ((((hi - lo).toNat : Nat) : Int) - ((0 : Nat) : Int)) 1
    rw [e1, e2]
    exact Heap.get?_push_size _ rfl
def iRngL (ta : TA) : TI := fun σ H R => ta σ H fun vs H1 => ∃ i j : Int, vs = [.int i, .int j] ∧ R (Itr i (j - i).toNat) H1
theorem pi_rangeL {X : Cx} {tg : Expr} {a b : Expr} {ta : TA} {p pos : Pos} (hg : Gl X "range") (hm : X.mg "range" = none) (ha : PA X [a, b] ta) (hs : starEach [a, b] X.env = [(false, eval a X.env), (false, eval b X.env)] := by rfl) (hs2 : starEach [b] X.env = [(false, eval b X.env)] := by rfl) :
    PI X tg (.Call (.Name "range" p) [a, b] [] pos) (iRngL ta) := by
  intro pins s σ H R I h
  refine Call_ (ld_blt I hg hm boot_range (PyProof.Rows.callWith_type1 (thn (ha pos pins s σ H _ I h) fun us s1 ⟨vs, H1, I1, r1, q1⟩ => ?_) (by rw [hs, hs2]) (by rw [hs2]; rfl)))
  obtain ⟨i, j, e, q⟩ := q1
  subst e
  obtain ⟨u, z, rfl, r, r'⟩ := vals2 r1
  obtain ⟨t, rfl⟩ := r
  obtain ⟨t', rfl⟩ := r'
  exact call_range_2 (lrange_it I1 q)
end L2
namespace L2
open PySem PySem.Spec PyProof.Rows
def XOb (h : Heap) (e : Addr) (c : Value) (d : Option Addr) (ctx : Value) (fx : Addr → Prop) : Prop :=
  ∃ oe vs, h.get? e = some oe ∧ oe.cls = c ∧ oe.dict = d ∧ oe.data = .fields vs ∧ 1 < vs.size ∧ vs[2]? = some ctx ∧ fx e ∧
    (vs[1]? = some .none ∨ ∃ T oT ts, vs[1]? = some (.ref T) ∧ T ≠ e ∧ h.get? T = some oT ∧ oT.data = .fields ts ∧ ts[3]? = some .none ∧ fx T)
theorem XOb.imp {h : Heap} {e : Addr} {c : Value} {d : Option Addr} {ctx : Value} {fx fy : Addr → Prop} (x : XOb h e c d ctx fx) (f : ∀ b, fx b → fy b) : XOb h e c d ctx fy := by
  obtain ⟨oe, vs, he, hc, hdd, hd, hz, h2, fe, ht⟩ := x
  refine ⟨oe, vs, he, hc, hdd, hd, hz, h2, f _ fe, ?_⟩
  rcases ht with h1 | ⟨T, oT, ts, h1, hTe, hT, hdT, h3, fT⟩
  · exact .inl h1
  · exact .inr ⟨T, oT, ts, h1, hTe, hT, hdT, h3, f _ fT⟩
theorem XOb.there {h : Heap} {e : Addr} {c : Value} {d : Option Addr} {ctx : Value} {fx : Addr → Prop} (x : XOb h e c d ctx fx) : ∃ oe vs, h.get? e = some oe ∧ oe.cls = c ∧ oe.dict = d ∧ oe.data = .fields vs :=
  let ⟨oe, vs, he, hc, hdd, hd, _⟩ := x
  ⟨oe, vs, he, hc, hdd, hd⟩
def FxOk (X : Cx) (pins : List (Addr × Obj)) (H : Hp) (b : Addr) : Prop :=
  H b = none ∧ b ≠ X.env.locals ∧ b ∉ X.fs ∧ (b ∈ X.ex ∨ X.s₀.heap.get? b = none) ∧ (∀ x c, X.env.cells.lookup x = some c → c ≠ b) ∧ ∀ p ∈ X.pn ++ pins, p.1 ≠ b
section
variable {X : Cx} {pins : List (Addr × Obj)} {σ : St} {H H' : Hp} {s : Shared} {h' : Heap}
theorem Inv.fxOk {b : Addr} (I : Inv X pins σ H s) (hb : s.heap.get? b = none) (hn : H' b = none) : FxOk X pins H' b := by
  have no : ∀ {a : Addr} {o : Obj}, s.heap.get? a = some o → a ≠ b := fun {a o} q z => by rw [z, hb] at q; cases q
  refine ⟨hn, fun z => ?_, fun z => ?_, ?_, fun x c e => ?_, fun p hp => no (I.pin p hp).1⟩
  · obtain ⟨m, ⟨o, es, ep, ho, _⟩, _⟩ := I.loc
    exact no ho z.symm
  · obtain ⟨_, o, ho, _⟩ := I.ok.funs.mem z
    have n1 : b ∉ X.ex := fun y => I.ok.exfs b y z
    obtain ⟨o', e'⟩ := I.base.there b o ho n1
    exact no e' rfl
  · by_cases hx : b ∈ X.ex
    · exact .inl hx
    · refine .inr ?_
      cases q : X.s₀.heap.get? b with
      | none => rfl
      | some o =>
        obtain ⟨o', e'⟩ := I.base.there b o q hx
        exact absurd rfl (no e')
  · obtain ⟨v, o, ho, _⟩ := I.cell x c e
    exact no ho
theorem Inv.stepN {g' : Array GenState} {t' : Nat} {d' : Drawn} {ch : List Addr} (I : Inv X pins σ H s)
    (hch : ∀ b ∈ ch, (b ∈ X.ex ∨ X.s₀.heap.get? b = none) ∧ b ≠ X.env.locals ∧ (∀ x c, X.env.cells.lookup x = some c → c ≠ b) ∧ ∀ p ∈ X.pn ++ pins, p.1 ≠ b)
    (keep : ∀ b o, b ≠ X.env.locals → b ∉ X.fs → b ∉ ch → s.heap.get? b = some o → H b = none → h'.get? b = some o)
    (slot : ∀ b o, b ≠ X.env.locals → b ∈ X.fs → b ∉ ch → s.heap.get? b = some o → H b = none → ∃ sl, h'.get? b = some { o with slots := sl }) (free : ∀ b o, b ∉ ch → s.heap.get? b = some o → H b = none → H' b = none)
    (there : ∀ b o, b ∉ ch → s.heap.get? b = some o → ∃ o', h'.get? b = some o')
    (tups : ∀ b xs, H b = some (.tup xs) → H' b = some (.tup xs)) (frzs : ∀ b o u, H b = some (.frz o u) → H' b = some (.frz o u)) (tbls : ∀ b ps, H b = some (.tbl ps) → ∃ more, H' b = some (.tbl (ps ++ more)))
    (ns : ∀ m, s.heap.Ns X.env.locals m → h'.Ns X.env.locals m) (hok : HOk X.prog X.w H' h') (hg : AllBare g') :
    Inv X pins σ H' { s with heap := h', gens := g', drawn := d', toks := t' } := by
  have neL : ∀ b o, X.s₀.heap.get? b = some o → b ≠ X.env.locals := fun b o e => Nat.ne_of_lt (Nat.lt_of_lt_of_le (Heap.lt_size e) I.ok.above)
  have neC : ∀ b o, X.s₀.heap.get? b = some o → b ∉ X.ex → b ∉ ch := fun b o e hx hb => by
    rcases (hch b hb).1 with z | z
    · exact hx z
    · rw [e] at z; cases z
  have cellK : ∀ x c, X.env.cells.lookup x = some c → ∀ v, s.heap.IsCell c v → h'.IsCell c v := fun x c e v ⟨o, ho, hd⟩ => by
    have nch : c ∉ ch := fun z => (hch c z).2.2.1 x c e rfl
    by_cases hc : c ∈ X.fs
    · obtain ⟨sl, q⟩ := slot c o (I.cne x c e) hc nch ho (I.freeC x c e)
      exact ⟨_, q, hd⟩
    · exact ⟨o, keep c o (I.cne x c e) hc nch ho (I.freeC x c e), hd⟩
  refine ⟨I.ok, I.os, hg, ⟨fun b o e n hb hx => ?_, fun b o e n hb hx => ?_, fun b o e n hx => ?_, fun b o e hx => ?_, fun b xs e => tups b xs (I.base.tups b xs e), fun b o xs e => frzs b o xs (I.base.frzs b o xs e), fun b ps e => ?_⟩, ?_, fun x c e => ?_, ?_, fun x c e => ?_, fun p hp => ?_, hok, I.len⟩
  · exact keep b o (neL b o e) hb (neC b o e hx) (I.base.keep b o e n hb hx) (I.base.free b o e n hx)
  · obtain ⟨sl, e1⟩ := I.base.slot b o e n hb hx
    obtain ⟨sl', e2⟩ := slot b _ (neL b o e) hb (neC b o e hx) e1 (I.base.free b o e n hx)
    exact ⟨sl', e2⟩
  · obtain ⟨o', e1⟩ := I.base.there b o e hx
    exact free b o' (neC b o e hx) e1 (I.base.free b o e n hx)
  · obtain ⟨o', e1⟩ := I.base.there b o e hx
    exact there b o' (neC b o e hx) e1
  · obtain ⟨m1, e1⟩ := I.base.tbls b ps e
    obtain ⟨m2, e2⟩ := tbls b _ e1
    exact ⟨m1 ++ m2, by rw [e2, Array.append_assoc]⟩
  · obtain ⟨m, hn, hl⟩ := I.loc
    refine ⟨m, ns m hn, fun i x v e1 e2 e3 => ?_⟩
    obtain ⟨u, r, l⟩ := hl i x v e1 e2 e3
    refine ⟨u, r, ?_⟩
    rcases l with l | ⟨k, c, e, z⟩
    · exact .inl l
    · exact .inr ⟨k, c, e, cellK x c e _ z⟩
  · obtain ⟨v, z⟩ := I.cell x c e
    exact ⟨v, cellK x c e v z⟩
  · obtain ⟨m, ⟨o, _, _, ho, _⟩, _⟩ := I.loc
    exact free _ o (fun z => (hch _ z).2.1 rfl) ho I.free
  · obtain ⟨v, o, ho, hd⟩ := I.cell x c e
    exact free c o (fun z => (hch c z).2.2.1 x c e rfl) ho (I.freeC x c e)
  · obtain ⟨e, n, ne, nf, d⟩ := I.pin p hp
    have nch : p.1 ∉ ch := fun z => (hch p.1 z).2.2.2 p hp rfl
    exact ⟨keep p.1 p.2 ne nf nch e n, free p.1 p.2 nch e n, ne, nf, d⟩
theorem Inv.callN {g' : Array GenState} {t' : Nat} {d' : Drawn} {ch : List Addr} (I : Inv X pins σ H s) (u : Un (frs X.stack) ch H H' s.heap h') (hok : HOk X.prog X.w H' h') (hg : AllBare g')
    (hch : ∀ b ∈ ch, (b ∈ X.ex ∨ X.s₀.heap.get? b = none) ∧ b ≠ X.env.locals ∧ (∀ x c, X.env.cells.lookup x = some c → c ≠ b) ∧ ∀ p ∈ X.pn ++ pins, p.1 ≠ b) :
    Inv X pins σ H' { s with heap := h', gens := g', drawn := d', toks := t' } := by
  obtain ⟨m, ⟨o, es, ep, ho, r⟩, _⟩ := id I.loc
  obtain ⟨sl, hL⟩ := u.any ho I.free fun z => (hch _ z).2.1 rfl
  exact I.stepN (ch := ch) hch (fun b o hL hb hc e n => u.keep b o e n (fun z => (List.mem_cons.mp (I.stkSub b z)).elim hL hb) hc) (fun b o _ _ hc e n => u.any e n hc) (fun b o hc e n => u.free b o e n hc) (fun b o hc e => u.there b o e hc) u.tups u.frzs u.tbls (fun m' hm => by
    obtain ⟨o', es', ep', ho', r'⟩ := hm
    rw [ho] at ho'; cases ho'
    exact ⟨_, es', ep', hL, r'⟩) hok hg
theorem note_tail {M : Model} {A' : Around} {e : Addr} {oe : Obj} {vs : Array Value} {head ctx : Value} {hadNext : Bool} {E E' : Value → Shared → Prop} {K : Unit → Shared → Prop} (I : Inv X pins σ H s) (hst : X.stack = X.env :: X.outer) (hfr : X.env.frame = some X.env.locals)
    (he : s.heap.get? e = some oe) (hd : oe.data = .fields vs) (hz : 1 < vs.size) (h2 : vs[2]? = some ctx) (fe : FxOk X pins H e)
    (h : ∀ h', Inv X pins σ H { s with heap := h' } → XOb h' e oe.cls oe.dict ctx (FxOk X pins H) → K () { s with heap := h' }) :
    wpAny M X.A (do let a ← frameOf X.env; let pl ← entryPlaceOf X.env.locals hadNext; let b ← EntryCells.newEntry head a .none (rawInt X.env.locals) .none pl; setField (.ref e) 1 b)
      (fun _ s2 => wpAny M A' (setFlight (.ref e) none) K E' s2) E s := by
  have hl : s.heap.FunFrames X.base (X.env :: X.outer) := by rw [← hst]; exact I.stack
  have hfs : X.A.frames = some (X.env :: X.outer) := by rw [← hst]; exact I.ok.frames
  have een : e ∉ (X.env :: X.outer).filterMap (·.frame) := fun hb => by
    have hb' : e ∈ frs X.stack := by rw [hst]; exact hb
    rcases List.mem_cons.mp (I.stkSub e hb') with z | z
    · exact fe.2.1 z
    · exact fe.2.2.1 z
  refine wpAny_bind (wpAny_frameOf_fun hfs hl hfr fun h1 s1 => ?_)
  refine wpAny_bind (wpAny_entryPlaceOf fun pl place => ?_)
  unfold EntryCells.newEntry
  unfold newFields
  refine wpAny_bind (wpAny_newObj_type ?_ (place.sizeOk5 _ _ _ _ _))
  have he1 : h1.get? e = some oe := (s1.2.1 e een).trans he
  generalize hO : ({ cls := .type "traceback", dict := none, data := .fields ([head, .ref X.env.locals, .none, rawInt X.env.locals, .none] ++ (if pl.isEmpty then List.replicate 6 Value.none else pl)).toArray } : Obj) = O
  have dO : ∃ ts, O.data = .fields ts ∧ 3 < ts.size := by
    refine ⟨_, by rw [← hO], ?_⟩
    rw [List.size_toArray, List.length_append, List.length_cons, List.length_cons, List.length_cons, List.length_cons, List.length_cons]
    omega
  obtain ⟨ts, hts, hts3⟩ := dO
  have he2 := Heap.get?_push_of_some (h := h1) O he1
  refine wpAny_setField he2 hd hz ?_
  have hTe : h1.objs.size ≠ e := Nat.ne_of_gt (Heap.lt_size he1)
  have hd3 := Obj.data_mapFields hd (fun z => z.setIfInBounds 1 (Value.ref h1.objs.size))
  have he3 := Heap.get?_update_self (Obj.mapFields fun z => z.setIfInBounds 1 (Value.ref h1.objs.size)) he2 (Obj.isFreed_of_fields hd3)
  have hT3 : ((h1.push O).update e (Obj.mapFields fun z => z.setIfInBounds 1 (Value.ref h1.objs.size))).get? h1.objs.size = some O :=
    (Heap.get?_update_other _ _ (Ne.symm hTe)).trans (Heap.get?_push_size h1 (by rw [← hO]; rfl))
  unfold setFlight
  refine wpAny_bind (wpAny_field he3 hd3 (x := .ref h1.objs.size) (by simp [hz]) ?_)
  rw [if_pos (show (Value.ref h1.objs.size != .none) = true by simp)]
  refine wpAny_setField hT3 hts hts3 ?_
  generalize hF : ((h1.push O).update e (Obj.mapFields fun z => z.setIfInBounds 1 (Value.ref h1.objs.size))).update h1.objs.size (Obj.mapFields fun z => z.setIfInBounds 3 ((none : Option Addr).elim Value.none fun f => rawInt f)) = h4
  have keep : ∀ b o, b ≠ e → h1.get? b = some o → h4.get? b = some o := fun b o hbe hb => by
    have hbT : h1.objs.size ≠ b := Nat.ne_of_gt (Heap.lt_size hb)
    rw [← hF, Heap.get?_update_other _ _ hbT, Heap.get?_update_other _ _ (Ne.symm hbe)]
    exact Heap.get?_push_of_some _ hb
  have he4 : h4.get? e = some (Obj.mapFields (fun z => z.setIfInBounds 1 (Value.ref h1.objs.size)) oe) := by
    rw [← hF, Heap.get?_update_other _ _ hTe]
    exact he3
  have hd5 := Obj.data_mapFields hts (fun z => z.setIfInBounds 3 ((none : Option Addr).elim Value.none fun f => rawInt f))
  have hT4 : h4.get? h1.objs.size = some (Obj.mapFields (fun z => z.setIfInBounds 3 ((none : Option Addr).elim Value.none fun f => rawInt f)) O) := by
    rw [← hF]
    exact Heap.get?_update_self _ hT3 (Obj.isFreed_of_fields hd5)
  have u : Un (frs X.stack) [e] H H s.heap h4 := by
    refine ⟨fun b o q _ hb hx => keep b o (by simpa using hx) ((s1.2.1 b ?_).trans q), fun b o q _ _ hx => ?_, fun _ _ _ n _ => n, fun b o q hx => ?_, fun _ _ q => q, fun _ _ _ q => q, fun b ps q => ⟨#[], by rw [q]; simp⟩⟩
    · rw [hst] at hb
      exact hb
    · obtain ⟨sl, z⟩ := s1.2.2 b o q
      exact ⟨sl, keep b _ (by simpa using hx) z⟩
    · obtain ⟨sl, z⟩ := s1.2.2 b o q
      exact ⟨_, keep b _ (by simpa using hx) z⟩
  have hok : HOk X.prog X.w H h4 := fun b o z => (I.hok b o z).stay (fun c v hc q => by
    have hs : ∃ w, H c = some w := by
      rcases hc with r | r
      · exact ⟨o, by rw [r]; exact z⟩
      · exact ⟨_, r⟩
    obtain ⟨w, hw⟩ := hs
    refine keep c v (fun y => ?_) ((s1.2.1 c fun y => ?_).trans q)
    · rw [y, fe.1] at hw; cases hw
    · have n := I.stkFree c (by rw [hst]; exact y)
      rw [hw] at n; cases n) (fun _ q => q) fun _ _ q => q
  have I4 : Inv X pins σ H { s with heap := h4 } := I.callN (g' := s.gens) (d' := s.drawn) (t' := s.toks) (ch := [e]) u hok I.bare fun b hb => by
    have z : b = e := by simpa using hb
    subst z
    exact ⟨fe.2.2.2.1, fe.2.1, fe.2.2.2.2.1, fe.2.2.2.2.2⟩
  have gT : s.heap.get? h1.objs.size = none := Heap.get?_none_of_le (by rw [s1.1]; exact Nat.le_refl _)
  have nT : H h1.objs.size = none := I.hok.fresh (by rw [s1.1]; exact Nat.le_refl _)
  refine h h4 I4 ⟨_, _, he4, Obj.cls_mapFields _ _, ?_, hd3, by simpa using hz, ?_, fe, .inr ⟨h1.objs.size, _, _, by simp [hz], hTe, hT4, hd5, ?_, I.fxOk gT nT⟩⟩
  · obtain ⟨c0, d0, dt, sl⟩ := oe
    cases dt <;> rfl
  · rw [Array.getElem?_setIfInBounds_ne (by decide)]
    exact h2
  · rw [Array.getElem?_setIfInBounds_self_of_lt hts3]
    rfl
theorem note_land {M : Model} {A' : Around} {e : Addr} {c ctx : Value} {d : Option Addr} {E E' : Value → Shared → Prop} {K : Unit → Shared → Prop} (I : Inv X pins σ H s) (hst : X.stack = X.env :: X.outer) (hfr : X.env.frame = some X.env.locals)
    (x : XOb s.heap e c d ctx (FxOk X pins H)) (h : ∀ h', Inv X pins σ H { s with heap := h' } → XOb h' e c d ctx (FxOk X pins H) → K () { s with heap := h' }) :
    wpAny M X.A (noteFrame (.ref e) X.env) (fun _ s2 => wpAny M A' (setFlight (.ref e) none) K E' s2) E s := by
  obtain ⟨oe, vs, he, hc, hdd, hd, hz, h2, fe, ht⟩ := x
  subst hc hdd
  unfold noteFrame
  simp only [hfr]
  rcases ht with h1 | ⟨T, oT, ts, h1, hTe, hT, hdT, h3, fT⟩
  · refine wpAny_bind (wpAny_field he hd h1 ?_)
    rw [if_neg (show ¬ (Value.none != .none) = true by decide)]
    exact note_tail I hst hfr he hd hz h2 fe h
  · refine wpAny_bind (wpAny_field he hd h1 ?_)
    rw [if_pos (show (Value.ref T != .none) = true by simp)]
    refine wpAny_bind (wpAny_field hT hdT h3 ?_)
    rw [if_neg (show ¬ (Value.none == rawInt X.env.locals) = true by simp [rawInt])]
    refine wpAny_bind (wpAny_setField hT hdT (Array.getElem?_eq_some_iff.mp h3).1 ?_)
    rw [Heap.update_setField_same s.heap T oT ts 3 .none hT hdT h3]
    exact note_tail I hst hfr he hd hz h2 fe h
theorem land_again {M : Model} {A' : Around} {e : Addr} {c ctx : Value} {d : Option Addr} {E' : Value → Shared → Prop} {K : Unit → Shared → Prop} {fx : Addr → Prop} (x : XOb s.heap e c d ctx fx) (h : K () s) : wpAny M A' (setFlight (.ref e) none) K E' s := by
  obtain ⟨oe, vs, he, hc, hdd, hd, hz, h2, fe, ht⟩ := x
  unfold setFlight
  rcases ht with h1 | ⟨T, oT, ts, h1, hTe, hT, hdT, h3, fT⟩
  · refine wpAny_bind (wpAny_field he hd h1 ?_)
    rw [if_neg (show ¬ (Value.none != .none) = true by decide)]
    exact wpAny_pure h
  · refine wpAny_bind (wpAny_field he hd h1 ?_)
    rw [if_pos (show (Value.ref T != .none) = true by simp)]
    refine wpAny_setField hT hdT (Array.getElem?_eq_some_iff.mp h3).1 ?_
    show K () { s with heap := s.heap.update T (Obj.mapFields fun z => z.setIfInBounds 3 .none) }
    rw [Heap.update_setField_same s.heap T oT ts 3 .none hT hdT h3]
    exact h
end
def Wish (X : Cx) (W : St → XK) : Prop := ∀ (pins : List (Addr × Obj)) (σ : St) (H : Hp) (s : Shared) (e : Addr) (c : Value) (d : Option Addr) (ctx : Value), Inv X pins σ H s → XOb s.heap e c d ctx (FxOk X pins H) → W σ c d H → X.xe (.ref e) s
section
variable {X : Cx} {k : Nat} {f : Addr} {fd : FuncData} {ps : List Str} {sp : Sp} {x : Str} {p pos : Pos} {e : Expr} {es : List Expr} {t : TA} {W : St → XK}
end
abbrev Cx.tr (X : Cx) (pn : List (Addr × Obj)) (E : Value → Shared → Prop) : Cx := { X with pn := pn, xe := E }
abbrev Cx.sup (X : Cx) (e : Addr) : Cx := { X with A := X.A.mark (some (.ref e)), calm := false, xe := fun _ _ => False }
section
variable {X : Cx} {pins pins' pn : List (Addr × Obj)} {σ : St} {H : Hp} {s : Shared} {E : Value → Shared → Prop} {e : Addr}
theorem Cx.Ok.tr (ok : X.Ok) : (X.tr pn E).Ok := ⟨ok.mod, ok.kind, ok.glob, ok.blt, ok.above, ok.inj, ok.has, ok.cab, ok.hd, ok.frames, ok.stk, ok.exf, ok.bs, ok.bsz, ok.noex, ok.exfs, ok.funs, ok.frf⟩
theorem Cx.Ok.untr (ok : (X.tr pn E).Ok) : X.Ok := ⟨ok.mod, ok.kind, ok.glob, ok.blt, ok.above, ok.inj, ok.has, ok.cab, ok.hd, ok.frames, ok.stk, ok.exf, ok.bs, ok.bsz, ok.noex, ok.exfs, ok.funs, ok.frf⟩
theorem Inv.tr (I : Inv X pins σ H s) : Inv (X.tr (X.pn ++ pins) E) [] σ H s := ⟨I.ok.tr, I.os, I.bare, I.base, I.loc, I.cell, I.free, I.freeC, fun p hp => I.pin p (by simpa using hp), I.hok, I.len⟩
theorem Inv.untr (I : Inv (X.tr (X.pn ++ pins) E) pins' σ H s) : Inv X pins σ H s := ⟨I.ok.untr, I.os, I.bare, I.base, I.loc, I.cell, I.free, I.freeC, fun p hp => I.pin p (List.mem_append_left _ hp), I.hok, I.len⟩
theorem FxOk.untr {b : Addr} (f : FxOk (X.tr (X.pn ++ pins) E) pins' H b) : FxOk X pins H b := ⟨f.1, f.2.1, f.2.2.1, f.2.2.2.1, f.2.2.2.2.1, fun p hp => f.2.2.2.2.2 p (List.mem_append_left _ hp)⟩
theorem SP.untr {D : Ends} {f : Flow} (h : SP (X.tr (X.pn ++ pins) E) pins' D f s) : SP X pins D f s := by
  cases f with
  | next => obtain ⟨σ', H', I, q⟩ := h; exact ⟨σ', H', I.untr, q⟩
  | brk => obtain ⟨σ', H', I, q⟩ := h; exact ⟨σ', H', I.untr, q⟩
  | cont => obtain ⟨σ', H', I, q⟩ := h; exact ⟨σ', H', I.untr, q⟩
  | ret u => obtain ⟨v, σ', H', I, r, q⟩ := h; exact ⟨v, σ', H', I.untr, r, q⟩
theorem Cx.Ok.sup (ok : X.Ok) : (X.sup e).Ok := ⟨ok.mod, ok.kind, ok.glob, ok.blt, ok.above, ok.inj, ok.has, ok.cab, (fun z => nomatch z), ok.frames, ok.stk, ok.exf, ok.bs, ok.bsz, ok.noex, ok.exfs, ok.funs, ok.frf⟩
theorem Inv.sup (I : Inv X pins σ H s) : Inv (X.sup e) pins σ H s := ⟨I.ok.sup, I.os, I.bare, I.base, I.loc, I.cell, I.free, I.freeC, I.pin, I.hok, I.len⟩
theorem Inv.unsup (I : Inv (X.sup e) pins σ H s) (ok : X.Ok) : Inv X pins σ H s := ⟨ok, I.os, I.bare, I.base, I.loc, I.cell, I.free, I.freeC, I.pin, I.hok, I.len⟩
theorem SP.unsup {D : Ends} {f : Flow} (h : SP (X.sup e) pins D f s) (ok : X.Ok) : SP X pins D f s := by
  cases f with
  | next => obtain ⟨σ', H', I, q⟩ := h; exact ⟨σ', H', I.unsup ok, q⟩
  | brk => obtain ⟨σ', H', I, q⟩ := h; exact ⟨σ', H', I.unsup ok, q⟩
  | cont => obtain ⟨σ', H', I, q⟩ := h; exact ⟨σ', H', I.unsup ok, q⟩
  | ret u => obtain ⟨v, σ', H', I, r, q⟩ := h; exact ⟨v, σ', H', I.unsup ok, r, q⟩
end
def tTry (K : PySem.W.Frag) (Ch : Addr) (tb : (St → XK) → TS) (ts : TS) : TS := fun D σ H => tb (fun σ' c _ H' => ∃ C, c = .ref C ∧ PySem.W.exmOne K (.ref C) (.ref Ch) = some true ∧ ts D σ' H') D σ H
section
variable {X : Cx} {x n : Str} {Ch : Addr} {i : Nat} {body suite : List Stmt} {b₀ : Stmt} {tb : (St → XK) → TS} {ts : TS} {np hpos pos : Pos}
theorem looks_ty {M : Model} {h : Heap} {e : Addr} {c : Value} {oe : Obj} (he : h.get? e = some oe) (hc : oe.cls = c) : PySem.W.Looks M h (typeOf (.ref e)) c := hc ▸ (PySem.W.Looks.ld he).andThen .now
theorem ps_try (hst : X.stack = X.env :: X.outer) (hfr : X.env.frame = some X.env.locals) (hg : Gl X x) (hm : X.mg x = some (.ref Ch))
    (hb : ∀ pn E W, Wish (X.tr pn E) W → PassesOwn (model X.prog X.w) X.A X.env E → PSs (X.tr pn E) body (tb W)) (hs : ∀ e, PSs (X.sup e) (b₀ :: suite) ts) (hdb : (x == ("__debug__" : Str)) = false := by decide) :
    PS X (.Try body [.ExceptHandler (some (.Name x np)) none (b₀ :: suite) hpos] [] [] pos) (tTry X.K Ch tb ts) := by
  intro pins s σ H D I h
  refine wpAny_Try_except ?_
  refine wpAny_mono (hb (X.pn ++ pins) _ _ ?_ ?_ [] s σ H D I.tr h) (fun f s1 q => ?_) fun e s1 q => q
  · intro pins' σ' H' s' e c d ctx I' x' hw
    obtain ⟨C, rfl, hx, hq⟩ := hw
    have I1 : Inv X pins σ' H' s' := I'.untr
    refine note_land I1 hst hfr (x'.imp fun b fb => fb.untr) fun h2 I2 x2 => ?_
    obtain ⟨oe, vs, he, hc, _, _⟩ := x2.there
    refine wpAny_handleBy_cons (codeAny_handlers_test (ld_glob (I2.sup (e := e)) hg hm ?_ hdb)) (by intro q; cases q)
    refine (PySem.W.exm_one I2.kIn (looks_ty he hc) hx).here ?_
    refine codeAny_handlers_suite (land_again x2 ?_)
    exact wpAny_mono (hs e pins _ σ' H' D (I2.sup (e := e)) hq) (fun f s3 q => q.unsup I2.ok) fun _ _ z => False.elim z
  · exact PassesOwn.looking
  · have q' := q.untr
    cases f with
    | next => exact wpAny_execs_nil q'
    | brk => exact q'
    | cont => exact q'
    | ret u => exact q'
end
end L2
namespace L2
open PySem PySem.Spec PyProof.Rows
section
variable {X : Cx} {k : Nat} {f : Addr} {fd : FuncData} {ps : List Str} {sp : Sp} {x : Str} {p pos : Pos} {e : Expr} {es : List Expr} {t : TA}
end
end L2
namespace L2
open PySem PySem.Spec PyProof.Rows
def tx (l : List Nat) : Str := ⟨l.toArray⟩
theorem tx_codes (l : List Nat) : (tx l).cps.toList = l := rfl
theorem tx_len (l : List Nat) : (tx l).length = l.length := by simp [tx, Str.length]
theorem tx_of (x : Str) : tx x.cps.toList = x := by cases x; rfl
theorem tx_inj {l m : List Nat} (h : tx l = tx m) : l = m := by
  have e := congrArg (fun z : Str => z.cps.toList) h
  exact e
theorem tx_app (l m : List Nat) : tx l ++ tx m = tx (l ++ m) := by
  show (⟨l.toArray ++ m.toArray⟩ : Str) = ⟨(l ++ m).toArray⟩
  rw [List.append_toArray]
def figs (n : Nat) : List Nat := (Nat.toDigits 10 n).map Char.toNat
theorem str_nat (n : Nat) : ((toString (n : Int) : String) : Str) = tx (figs n) := by
  have e := PySem.W.KIN.signs_num n
  rw [← tx_of (Str.ofString (toString ((n : Nat) : Int))), e]
  rfl
theorem figs_val (n : Nat) : NumText.digitsVal (figs n) = n := PySem.W.KIN.val_back n
theorem figs_dig (n : Nat) : NumText.AllDigits (figs n) := fun c hc => by
  obtain ⟨ch, hch, e⟩ := List.mem_map.mp hc
  rw [← e]
  exact PyProof.Rows.digit_range (Nat.isDigit_of_mem_toDigits (by decide) (by decide) hch)
theorem figs_small {n : Nat} (h : n < 10) : figs n = [48 + n] := by
  unfold figs
  rw [Nat.toDigits_of_lt_base h]
  have : n = 0 ∨ n = 1 ∨ n = 2 ∨ n = 3 ∨ n = 4 ∨ n = 5 ∨ n = 6 ∨ n = 7 ∨ n = 8 ∨ n = 9 := by omega
  rcases this with rfl | rfl | rfl | rfl | rfl | rfl | rfl | rfl | rfl | rfl <;> rfl
theorem figs_more {n : Nat} (h : 10 ≤ n) : figs n = figs (n / 10) ++ figs (n % 10) := by
  have hm : n % 10 < 10 := Nat.mod_lt n (by decide)
  have t : Nat.toDigits 10 (n / 10) ++ Nat.toDigits 10 (n % 10) = Nat.toDigits 10 (10 * (n / 10) + n % 10) := Nat.toDigits_append_toDigits (by decide) (by omega) hm
  rw [Nat.div_add_mod] at t
  unfold figs
  rw [← t, List.map_append]
theorem figs_ne (n : Nat) : figs n ≠ [] := by
  by_cases h : n < 10
  · rw [figs_small h]; simp
  · rw [figs_more (by omega), figs_small (Nat.mod_lt n (by decide))]; simp
theorem figs_len {n k : Nat} (hk : 1 ≤ k) (h : n < 10 ^ k) : (figs n).length ≤ k := by
  induction k generalizing n with
  | zero => omega
  | succ k ih =>
    by_cases hn : n < 10
    · rw [figs_small hn]; simp
    · have h1 : n / 10 < 10 ^ k := by rw [Nat.pow_succ] at h; omega
      have hk1 : 1 ≤ k := by
        rcases Nat.eq_zero_or_pos k with z | z
        · rw [z] at h1; simp at h1; omega
        · exact z
      have := ih hk1 h1
      rw [figs_more (by omega), List.length_append, figs_small (Nat.mod_lt n (by decide))]
      simp
      omega
theorem figs_head (n : Nat) : (figs n).head? = some 48 → figs n = [48] := by
  induction n using Nat.strongRecOn with
  | _ n ih =>
    intro h
    by_cases hn : n < 10
    · rw [figs_small hn] at h ⊢
      simpa using h
    · exfalso
      have e := figs_more (n := n) (by omega)
      have h1 : (figs (n / 10)).head? = some 48 := by
        rw [e] at h
        cases z : figs (n / 10) with
        | nil => exact absurd z (figs_ne _)
        | cons a r => rw [z] at h; simpa using h
      have h2 := ih (n / 10) (by omega) h1
      have h3 := figs_val (n / 10)
      rw [h2] at h3
      have h4 : n / 10 = 0 := h3.symm
      omega
theorem log_small {n : Int} (h0 : 0 ≤ n) (h : n < 10 ^ 70) : n.natAbs.log2 < 1920 := by
  have h1 : n.natAbs < 2 ^ 240 := by
    have h2 : (10 : Int) ^ 70 < 2 ^ 240 := by decide
    omega
  by_cases z : n.natAbs = 0
  · rw [z]; decide
  · have := (Nat.log2_lt z).2 h1
    omega
def cutAt (c : Nat) : List Nat → List (List Nat)
  | [] => [[]]
  | x :: l => if x = c then [] :: cutAt c l else match cutAt c l with
    | [] => [[x]]
    | p :: r => (x :: p) :: r
theorem cutAt_free {c : Nat} : ∀ {l : List Nat}, c ∉ l → cutAt c l = [l]
  | [], _ => rfl
  | x :: l, h => by
    have h1 : x ≠ c := fun e => h (by rw [e]; exact List.mem_cons_self)
    unfold cutAt
    rw [if_neg h1, cutAt_free fun z => h (List.mem_cons_of_mem _ z)]
theorem cutAt_app {c : Nat} : ∀ {p : List Nat} (l : List Nat), c ∉ p → cutAt c (p ++ c :: l) = p :: cutAt c l
  | [], l, _ => by
    show cutAt c (c :: l) = _
    rw [cutAt, if_pos rfl]
  | x :: p, l, h => by
    have h1 : x ≠ c := fun e => h (by rw [e]; exact List.mem_cons_self)
    show cutAt c (x :: (p ++ c :: l)) = _
    rw [cutAt, if_neg h1, cutAt_app l fun z => h (List.mem_cons_of_mem _ z)]
theorem cut_join {c : Nat} : ∀ {ps : List Str}, ps ≠ [] → (∀ p ∈ ps, c ∉ p.cps.toList) → cutAt c (Str.join (tx [c]) ps).cps.toList = ps.map fun p => p.cps.toList
  | [], h, _ => absurd rfl h
  | [p], _, h => cutAt_free (h p List.mem_cons_self)
  | p :: q :: r, _, h => by
    have ih := cut_join (ps := q :: r) (by simp) fun z hz => h z (List.mem_cons_of_mem _ hz)
    have e : (Str.join (tx [c]) (p :: q :: r)).cps.toList = p.cps.toList ++ c :: (Str.join (tx [c]) (q :: r)).cps.toList := by
      show (p ++ tx [c] ++ Str.join (tx [c]) (q :: r)).cps.toList = _
      show (p.cps ++ (tx [c]).cps ++ (Str.join (tx [c]) (q :: r)).cps).toList = _
      simp [tx]
    rw [e, cutAt_app _ (h p List.mem_cons_self), ih]
    rfl
theorem split_cut (l : List Nat) (c : Nat) : Txt.split (tx l) (tx [c]) = (cutAt c l).map tx := by
  have h1 := StrLaws.join_split (tx l) (tx [c])
  have h2 := StrLaws.split_free (tx l) c
  have h3 : Txt.split (tx l) (tx [c]) ≠ [] := fun z => by
    have := split_pos (tx l) (tx [c])
    rw [z] at this
    simp at this
  have h4 := cut_join h3 h2
  rw [h1, tx_codes] at h4
  rw [h4, List.map_map]
  symm
  have : ∀ ps : List Str, ps.map (tx ∘ fun p => p.cps.toList) = ps := fun ps => by
    induction ps with
    | nil => rfl
    | cons p r ih => rw [List.map_cons, ih]; show tx p.cps.toList :: r = _; rw [tx_of]
  exact this _
section
variable {X : Cx}
theorem mt_zfill : MtM X "str.zfill" (fun x vs H Q => ∃ z i, x = .str z ∧ vs = [.int i] ∧ PadOk i = true ∧ Q (.str (Txt.zfill z i)) H) := by
  intro pins s σ H x vs v us Q I rx rv h
  obtain ⟨z, i, rfl, rfl, hp, q⟩ := h
  obtain ⟨t, rfl⟩ := rx
  obtain ⟨w, rfl, ru⟩ := rv.one
  obtain ⟨u, rfl⟩ := ru
  exact SC.zfill hp fun t' k => ⟨.str _, H, I.tok k, ⟨t', rfl⟩, q⟩
theorem vals_strs : ∀ (ps : List Str) (n : Nat), Vals (ps.map V.str) (strsFrom n ps)
  | [], _ => .nil
  | p :: r, n => .cons ⟨n, rfl⟩ (vals_strs r (n + 1))
theorem mt_split : MtM X "str.split" (fun x vs H Q => ∃ z y, x = .str z ∧ vs = [.str y] ∧ (y.length == 0) = false ∧ z.length + 2 ≤ sizeLine ∧ ∀ p, H p = none → Q (.ref p) (upd H p (.lst ((Txt.split z y).map V.str)))) := by
  intro pins s σ H x vs v us Q I rx rv h
  obtain ⟨z, y, rfl, rfl, hy, hz, q⟩ := h
  obtain ⟨t, rfl⟩ := rx
  obtain ⟨w, rfl, ru⟩ := rv.one
  obtain ⟨u, rfl⟩ := ru
  have hle := split_le z y
  have hq := q s.heap.objs.size I.fresh
  unfold Txt.split at hq hle
  cases h1 : (decide (z.length < y.length) || decide (Builtin.Str.strKind z < Builtin.Str.strKind y)) with
  | false =>
    rw [h1] at hq hle
    cases hf : (Builtin.Str.occurrences z y 0 z.length (z.length + 1)).isEmpty with
    | false =>
      rw [hf] at hq hle
      simp only [Bool.false_eq_true, if_false] at hq hle
      refine call_meets F.slot_str_split (typeIs_str _ _ _) F.entry_str_split (F.args_str_split_2 _ _) (meets_str_split_sep z y t u h1 hy hf (by omega) (by omega)) ?_
      exact ⟨.ref _, _, I.lnew (vals_strs _ _) (by rw [List.length_map]; omega), rfl, hq⟩
    | true =>
      rw [hf] at hq
      simp only [Bool.false_eq_true, if_false, if_true] at hq
      refine call_meets F.slot_str_split (typeIs_str _ _ _) F.entry_str_split (F.args_str_split_2 _ _) (meets_str_split_not_found z y t u h1 hy hf) ?_
      exact ⟨.ref _, _, I.lnew (t' := s.toks) (ys := [V.str z]) (.cons ⟨t, rfl⟩ .nil) (by show 1 ≤ sizeLine; exact le_line (by decide)), rfl, hq⟩
  | true =>
    rw [h1] at hq
    simp only [if_true] at hq
    refine call_meets F.slot_str_split (typeIs_str _ _ _) F.entry_str_split (F.args_str_split_2 _ _) (meets_str_split_cannot_occur z y t u h1) ?_
    exact ⟨.ref _, _, I.lnew (t' := s.toks) (ys := [V.str z]) (.cons ⟨t, rfl⟩ .nil) (by show 1 ≤ sizeLine; exact le_line (by decide)), rfl, hq⟩
theorem call_int_text : CallR X (.type "int") (fun xs H Q => ∃ z n, xs = [.str z] ∧ intText? z = some n ∧ z.length ≤ 640 ∧ Q (.int n) H) := by
  intro pins s σ H xs us Q I r h
  obtain ⟨z, n, rfl, hn, hl, q⟩ := h
  obtain ⟨u, rfl, ru⟩ := vals1 r
  obtain ⟨t, rfl⟩ := ru
  exact PySem.W.KIN.call_text hn hl ⟨.int n, H, I.tok _, ⟨_, rfl⟩, q⟩
theorem op_notIn1 : OpR X (compareOp .NotIn) (fun x y H Q => ∃ c z, x = .str (tx [c]) ∧ y = .str z ∧ Q (.bl (!decide (c ∈ z.cps.toList))) H) := by
  intro pins s σ H x y v u Q I rx ry h
  obtain ⟨c, z, rfl, rfl, q⟩ := h
  refine op_notIn_str pins s σ H _ _ v u Q I rx ry ⟨tx [c], z, rfl, rfl, ?_⟩
  rw [show (!(Builtin.Str.occurrences z (tx [c]) 0 z.length 1).isEmpty) = decide (c ∈ z.cps.toList) from StrLaws.found_one z c]
  exact q
def Its (x : Str) : It := ⟨fun i _ => i < x.cps.size, fun i H v H' => H' = H ∧ ∃ c, x.cps[i]? = some c ∧ v = .str (tx [c]), fun i _ => x.cps.size ≤ i⟩
theorem turn_strA {P : Program} {w : World} {K : PySem.W.Frag} {tg : Expr} (x : Str) (t : Tok) (it : Addr) : Turn P w K tg (Its x) [it] it (fun i h => h.IsStrIter it "str_ascii_iterator" x t i) where
  mem := by simp
  obj := fun i h st b hb => by
    have e : b = it := by simpa using hb
    subst e
    obtain ⟨o, e, c, d⟩ := st
    exact ⟨o, e, fun v z => by rw [d] at z; cases z⟩
  keep := fun i h h' st k => by
    obtain ⟨o, e, c, d⟩ := st
    exact ⟨o, k it (by simp) o e, c, d⟩
  item := by
    intro X hP hw hK hc i pins s σ H E I hf st hg
    subst hP hw hK
    obtain ⟨f0, f1, f2, f3, f4, f5⟩ := hf it (by simp)
    have hi : i < x.cps.size := hg
    refine wpAny_pyNext_ascii_item st (c := x.cps[i]) (by simp [hi]) fun h' st' sb => ?_
    have I1 : Inv X pins σ H { s with heap := h', toks := s.toks + 1 } := I.turned (fun b o hb e => (sb.2 b hb).trans e) f0 f1 f3 f4 f5
    obtain ⟨o, e, c, d⟩ := id st'
    exact ⟨_, rfl, go_of (s := { s with heap := h', toks := s.toks + 1 }) e c d (by decide) ⟨.str (tx [x.cps[i]]), H, I1, ⟨_, rfl⟩, ⟨rfl, _, by simp [hi], rfl⟩, st', fun b hb => (hf b hb).1⟩⟩
  done := by
    intro X hP hw hK hc i pins s σ H E I hf st hg
    subst hP hw hK
    obtain ⟨f0, f1, f2, f3, f4, f5⟩ := hf it (by simp)
    have hi : x.cps.size ≤ i := hg
    exact wpAny_pyNext_ascii_end (I.ok.hd hc) st (by simp; omega) fun h' eb => ⟨rfl, I.turned (t' := s.toks) (fun b o hb e => eb b o hb e) f0 f1 f3 f4 f5⟩
  self := fun _ _ _ _ _ st h => wpAny_pyIter_striter_ascii st h
theorem turn_strW {P : Program} {w : World} {K : PySem.W.Frag} {tg : Expr} (x : Str) (t : Tok) (it : Addr) : Turn P w K tg (Its x) [it] it (fun i h => h.IsStrIter it "str_iterator" x t i) where
  mem := by simp
  obj := fun i h st b hb => by
    have e : b = it := by simpa using hb
    subst e
    obtain ⟨o, e, c, d⟩ := st
    exact ⟨o, e, fun v z => by rw [d] at z; cases z⟩
  keep := fun i h h' st k => by
    obtain ⟨o, e, c, d⟩ := st
    exact ⟨o, k it (by simp) o e, c, d⟩
  item := by
    intro X hP hw hK hc i pins s σ H E I hf st hg
    subst hP hw hK
    obtain ⟨f0, f1, f2, f3, f4, f5⟩ := hf it (by simp)
    have hi : i < x.cps.size := hg
    refine wpAny_pyNext_wide_item st (c := x.cps[i]) (by simp [hi]) fun h' st' sb => ?_
    have I1 : Inv X pins σ H { s with heap := h', toks := s.toks + 1 } := I.turned (fun b o hb e => (sb.2 b hb).trans e) f0 f1 f3 f4 f5
    obtain ⟨o, e, c, d⟩ := id st'
    exact ⟨_, rfl, go_of (s := { s with heap := h', toks := s.toks + 1 }) e c d (by decide) ⟨.str (tx [x.cps[i]]), H, I1, ⟨_, rfl⟩, ⟨rfl, _, by simp [hi], rfl⟩, st', fun b hb => (hf b hb).1⟩⟩
  done := by
    intro X hP hw hK hc i pins s σ H E I hf st hg
    subst hP hw hK
    obtain ⟨f0, f1, f2, f3, f4, f5⟩ := hf it (by simp)
    have hi : x.cps.size ≤ i := hg
    exact wpAny_pyNext_wide_end (I.ok.hd hc) st (by simp; omega) fun h' eb => ⟨rfl, I.turned (t' := s.toks) (fun b o hb e => eb b o hb e) f0 f1 f3 f4 f5⟩
  self := fun _ _ _ _ _ st h => wpAny_pyIter_striter_wide st h
def iStr (tl : TE) : TI := fun σ H R => tl σ H fun x H1 => ∃ z, x = .str z ∧ R (Its z) H1
theorem pi_str {tg l : Expr} {tl : TE} (hl : PE X l tl) : PI X tg l (iStr tl) := by
  intro pins s σ H R I h
  refine thn (hl pins s σ H _ I h) fun v s1 ⟨x, H1, I1, r1, q1⟩ => ?_
  obtain ⟨z, e, q⟩ := q1
  subst e
  obtain ⟨t, rfl⟩ := r1
  have fp : ∀ b ∈ [s1.heap.objs.size], FpOk X pins H1 b := fun b hb => by
    have e : b = s1.heap.objs.size := by simpa using hb
    subst e
    exact I1.fpOk (Nat.le_refl _) (I1.hok.fresh (Nat.le_refl _))
  cases ha : z.cps.all (· < 128) with
  | true => exact wpAny_pyIter_ascii ha ⟨s1.heap.objs.size, [s1.heap.objs.size], _, _, H1, rfl, I1.kept (t' := s1.toks) fun b o e => Heap.get?_push_of_some _ e, turn_strA z t _, ⟨_, Heap.get?_push_size _ rfl, rfl, rfl⟩, fp, q⟩
  | false => exact wpAny_pyIter_wide ha ⟨s1.heap.objs.size, [s1.heap.objs.size], _, _, H1, rfl, I1.kept (t' := s1.toks) fun b o e => Heap.get?_push_of_some _ e, turn_strW z t _, ⟨_, Heap.get?_push_size _ rfl, rfl, rfl⟩, fp, q⟩
theorem for_str {l : List Nat} {g : TG} {tb : TS} {D : Ends} {σ : St} {H : Hp} (Pv : Nat → St → Hp → Prop) (h0 : Pv 0 σ H)
    (hs : ∀ i c σ H, l[i]? = some c → Pv i σ H → g (.str (tx [c])) σ H fun σ2 H2 => tb { D with nx := Pv (i + 1), ct := Pv (i + 1), bk := D.nx } σ2 H2) (hd : ∀ σ H, Pv l.length σ H → D.nx σ H) :
    ∃ W : Nat → Nat → St → Hp → Prop, (∃ m, W 0 m σ H) ∧ ∀ i m σ H, W i m σ H →
      ((Its (tx l)).stop i H ∧ D.nx σ H) ∨ ((Its (tx l)).go i H ∧ ∃ N : St → Hp → Prop, (∀ σ' H', N σ' H' → ∃ m', m' < m ∧ W (i + 1) m' σ' H') ∧ ∀ x H', (Its (tx l)).yld i H x H' → g x σ H' fun σ2 H2 => tb { D with nx := N, ct := N, bk := D.nx } σ2 H2) := by
  have hz : (tx l).cps.size = l.length := by simp [tx]
  refine ⟨fun i m σ H => m = l.length - i ∧ i ≤ l.length ∧ Pv i σ H, ⟨l.length, by simp, Nat.zero_le _, h0⟩, ?_⟩
  rintro i m σ H ⟨rfl, hi, p⟩
  by_cases hlt : i < l.length
  · refine .inr ⟨by show i < (tx l).cps.size; omega, Pv (i + 1), fun σ' H' p' => ⟨l.length - (i + 1), by omega, rfl, hlt, p'⟩, fun x H' y => ?_⟩
    obtain ⟨e, c, hc, y⟩ := y
    subst e y
    exact hs i c σ _ (by simpa [tx] using hc) p
  · have e : i = l.length := by omega
    subst e
    exact .inl ⟨by show (tx l).cps.size ≤ l.length; omega, hd σ H p⟩
def tFmt (te : TE) : TE := fun σ H Q => te σ H fun x H1 => (∃ i, x = .int i ∧ i.natAbs.log2 < 1920 ∧ Q (.str (toString i)) H1) ∨ ∃ z, x = .str z ∧ z.length ≤ sizeLine ∧ Q (.str z) H1
theorem pe_fmt {e : Expr} {te : TE} {pos : Pos} (he : PE X e te) : PE X (.FormattedValue e (-1) none pos) (tFmt te) := by
  intro pins s σ H Q I h
  refine FormattedValue_plain (thn (he pins s σ H _ I h) fun v s1 ⟨x, H1, I1, r1, q1⟩ => ?_)
  rcases q1 with ⟨i, rfl, hl, q⟩ | ⟨z, rfl, hz, q⟩
  · obtain ⟨t, rfl⟩ := r1
    exact formatField_int_small hl ⟨.str _, H1, I1.tok _, ⟨_, rfl⟩, q⟩
  · obtain ⟨t, rfl⟩ := r1
    exact formatField_str (fun t' tk => ⟨.str z, H1, I1.tok tk, ⟨t', rfl⟩, q⟩) hz
abbrev TJ := St → Hp → Str → VK → Prop
def PJ (X : Cx) (es : List Expr) (t : TJ) : Prop := ∀ (pins : List (Addr × Obj)) (s : Shared) (σ : St) (H : Hp) (out : Str) (Q : VK), Inv X pins σ H s → t σ H out Q → wpAny (model X.prog X.w) X.A (joinParts out (evalEach es X.env)) (EP X pins σ Q) X.xe s
def jNil : TJ := fun _ H out Q => out.length ≤ sizeLine ∧ Q (.str out) H
def jCons (te : TE) (t : TJ) : TJ := fun σ H out Q => te σ H fun x H1 => ∃ y, x = .str y ∧ (out ++ y).length ≤ sizeLine ∧ t σ H1 (out ++ y) Q
theorem pj_nil : PJ X [] jNil := fun _ s _ H out _ I h => joinParts_nil ⟨.str out, H, I.tok _, ⟨_, rfl⟩, h.2⟩ h.1
theorem pj_cons {e : Expr} {es : List Expr} {te : TE} {t : TJ} (he : PE X e te) (hr : PJ X es t) : PJ X (e :: es) (jCons te t) := by
  intro pins s σ H out Q I h
  show wpAny _ _ (joinParts out (eval e X.env :: evalEach es X.env)) _ _ s
  refine joinParts_cons (thn (he pins s σ H _ I h) fun v s1 ⟨x, H1, I1, r1, y, ey, hz, q⟩ => ?_)
  subst ey
  obtain ⟨t, rfl⟩ := r1
  exact ⟨hz, hr pins s1 σ H1 _ Q I1 q⟩
def tJoin (t : TJ) : TE := fun σ H Q => t σ H Str.empty Q
theorem pe_joined {a b : Expr} {es : List Expr} {t : TJ} {pos : Pos} (h : PJ X (a :: b :: es) t) : PE X (.JoinedStr (a :: b :: es) pos) (tJoin t) := fun pins s σ H Q I q => JoinedStr_many (h pins s σ H Str.empty Q I q)
def rSlS : V → Option Int → Option Int → Hp → VK → Prop := fun x lo hi H Q => ∃ z, x = .str z ∧ z.length ≤ sizeLine ∧ Q (.str (Txt.slice z lo hi)) H
theorem sl_str : SlR X rSlS := by
  intro pins s σ H x v vl vu lo hi sl Q I rx hs pl pu h
  obtain ⟨z, rfl, hz, q⟩ := h
  obtain ⟨t, rfl⟩ := rx
  refine ⟨"str", _, F.slot_str_getitem.lookup, typeIs_str _ _ _, ?_⟩
  have fin : ∀ t' k, EP X pins σ Q (.str (Txt.slice z lo hi) t') { s with toks := k } := fun t' k => ⟨.str _, H, I.tok k, ⟨t', rfl⟩, q⟩
  cases pl with
  | none =>
    cases pu with
    | none => exact wpAny_getItem_str_slice (l := none) (u := none) (st := none) hs rfl (post_val_or_str ⟨Nat.le_trans (Txt.slice_le z _ _) hz, fin⟩)
    | int j tj => exact wpAny_getItem_str_slice (l := none) (u := some (j, tj)) (st := none) hs rfl (post_val_or_str ⟨Nat.le_trans (Txt.slice_le z _ _) hz, fin⟩)
  | int i ti =>
    cases pu with
    | none => exact wpAny_getItem_str_slice (l := some (i, ti)) (u := none) (st := none) hs rfl (post_val_or_str ⟨Nat.le_trans (Txt.slice_le z _ _) hz, fin⟩)
    | int j tj => exact wpAny_getItem_str_slice (l := some (i, ti)) (u := some (j, tj)) (st := none) hs rfl (post_val_or_str ⟨Nat.le_trans (Txt.slice_le z _ _) hz, fin⟩)
end
end L2
namespace L2
open PySem PySem.Spec PyProof.Rows
section
variable {prog : Program} {w : World} {A : Around} {E : Value → Shared → Prop} {K : PySem.W.Frag} {x D : Addr} {ox : Obj} {od : Option Obj}
end
theorem pe_cls {X : Cx} {x : Str} {C : Addr} {pos : Pos} (hg : Gl X x) (hm : X.mg x = some (.ref C)) (hd : (x == ("__debug__" : Str)) = false := by decide) : PE X (.Name x pos) (tC (.ref C)) := pe_glob (v := .ref C) hg hm rfl hd
section
variable {X : Cx} {k : Nat} {f C : Addr} {fd : FuncData} {ps : List Str} {sp : Sp} {x : Str} {p pos : Pos} {e : Expr} {es : List Expr} {t : TA} {W : St → XK}
end
end L2
namespace L2
open PySem PySem.Spec PyProof.Rows
section
variable {X : Cx} {x : Str} {C f : Addr} {p pos : Pos} {e : Expr} {es : List Expr} {t : TA}
end
section
variable {prog : Program} {w : World} {A : Around} {Ex : Value → Shared → Prop} {hp : Heap} {gs : Array GenState} {dr : Drawn} {tk : Nat} {os : OsState}
variable {nm q : Str} {C N fI : Addr} {bs bm bmB : List Value} {hdct : Bool} {sn : List Str} {sub : List Value} {ab : Bool} {col : Option Bool} {dd : Option Addr} {k0 k1 k2 k3 k5 : Option Value} {B newId initId : String} {mN : Str → Option Value} {us : List Value} {oI : Obj}
end
section
variable {prog : Program} {w : World} {A : Around} {E : Value → Shared → Prop} {K : PySem.W.Frag} {x D : Addr} {ox : Obj} {od : Option Obj}
end
end L2
namespace L2
open PySem PySem.Spec PyProof.Rows
section
variable {X : Cx} {pins : List (Addr × Obj)} {σ : St} {H : Hp} {s : Shared} {e : Addr}
end
section
variable {X : Cx} {x f : Str} {C g : Addr} {p pos apos : Pos} {e o value : Expr} {es : List Expr} {t : TA} {ta tv : TE}
end
end L2
namespace L2
open PySem PySem.Spec PyProof.Rows
theorem slice_to {l : List Nat} {i : Int} (h0 : 0 ≤ i) (h1 : i ≤ l.length) : Txt.slice (tx l) none (some i) = tx (l.take i.toNat) := by
  show StrLaws.sliceText (tx l) none (some i) = _
  rw [StrLaws.sliceText_to ⟨h0, h1⟩]
  show tx ((l.drop 0).take (i - 0).toNat) = _
  rw [List.drop_zero, Int.sub_zero]
theorem slice_from {l : List Nat} {i : Int} (h0 : 0 ≤ i) (h1 : i ≤ l.length) : Txt.slice (tx l) (some i) none = tx (l.drop i.toNat) := by
  show StrLaws.sliceText (tx l) (some i) none = _
  rw [StrLaws.sliceText_from ⟨h0, h1⟩]
  show tx ((l.drop i.toNat).take ((l.length : Int) - i).toNat) = _
  rw [List.take_of_length_le (by rw [List.length_drop]; omega)]
section
variable {X : Cx}
def tRevS (te : TE) (tk : TE) : TE := fun σ H Q => te σ H fun x H1 => tk σ H1 fun k H2 => k = .int (-1) ∧ ∃ l, x = .str (tx l) ∧ l.length ≤ sizeLine ∧ Q (.str (tx l.reverse)) H2
theorem rev_made (l : List Nat) (t u : Tok) : sliceMade (tx l) t none none (some (-1, u)) = .str (tx l.reverse) := by
  unfold sliceMade slicePicked
  rw [if_neg (by simp)]
  have e : ((Builtin.Str.strSliceIndices none none (-1) (tx l).length).filterMap ((tx l).cps[·]?)) = l.reverse := by
    rw [tx_len]
    show (Builtin.Str.strSliceIndices none none (-1) l.length).filterMap (l.toArray[·]?) = _
    have e1 : Builtin.Str.strSliceIndices none none (-1) l.length = (List.range l.length).map fun k => l.length - 1 - k := PySem.W.krv_sliceRange l.length
    have h := PySem.W.krv_all l.toArray
    rw [List.size_toArray] at h
    rw [e1, PySem.W.krv_range, List.filterMap_reverse, h]
  show Made.str ⟨((Builtin.Str.strSliceIndices none none (-1) (tx l).length).filterMap ((tx l).cps[·]?)).toArray⟩ = _
  rw [e]
  rfl
theorem pe_revS {e k : Expr} {te tk : TE} {p2 pos : Pos} (he : PE X e te) (hk : PE X k tk) : PE X (.Subscript e (.Slice none none (some k) p2) pos) (tRevS te tk) := by
  intro pins s σ H Q I h
  refine Subscript_ (thn (he pins s σ H _ I h) fun v s1 ⟨x, H1, I1, r1, q1⟩ => ?_)
  refine wpAny_Slice ?_
  rw [evalPart_none]
  refine wpAny_pure (wpAny_pure ?_)
  rw [evalPart_some]
  refine thn (hk pins s1 σ H1 _ I1 q1) fun vk s2 ⟨z, H2, I2, r2, hz, l, ex, hl, q⟩ => ?_
  subst hz ex
  obtain ⟨t1, rfl⟩ := r1
  obtain ⟨t, rfl⟩ := r2
  have I4 : Inv X pins σ H2 { s2 with heap := s2.heap.push { cls := .type "slice", data := .fields #[.none, .none, .int (-1) t] } } := I2.kept (t' := s2.toks) fun b ob q => Heap.get?_push_of_some _ q
  refine tail_any (ops := [.str (tx l) t1, .ref s2.heap.objs.size]) (typeIs_str _ _ _) F.slot_str_getitem.lookup ?_ (by with_unfolding_all rfl)
  refine wpAny_getItem_str_slice (l := none) (u := none) (st := some (-1, t)) (Heap.IsSliceOf.new ..) rfl ?_
  rw [rev_made]
  refine ⟨?_, ⟨.str _, H2, I4.tok _, ⟨_, rfl⟩, q⟩⟩
  rw [tx_len, List.length_reverse]
  exact hl
theorem strs_of : ∀ {ps : List Str} {its : List Value}, Vals (ps.map V.str) its → ∃ l : List (Str × Tok), its = strValues l ∧ l.map (·.1) = ps
  | [], its, h => by cases h; exact ⟨[], rfl, rfl⟩
  | p :: r, its, h => by
    cases h with
    | cons a b =>
      obtain ⟨t, rfl⟩ := a
      obtain ⟨l, rfl, e⟩ := strs_of b
      exact ⟨(p, t) :: l, rfl, by rw [List.map_cons, e]⟩
end
end L2
namespace L2
open PySem PySem.Spec PyProof.Rows
section
variable {X : Cx} {pins : List (Addr × Obj)} {σ : St} {H : Hp} {s : Shared}
end
section
variable {X : Cx}
theorem ix_tupK {K : PySem.W.Frag} (h : X.K = K) : IxR X (rIxT K) := h ▸ ix_tup
end
end L2
namespace L2
open PySem PySem.Spec PyProof.Rows
section
variable {X : Cx} {k : Nat} {m x : Str} {ps : List Str} {sp : Sp} {e : Expr} {es : List Expr} {p apos pos : Pos} {t : TA} {W : St → XK}
def tMethD (Fam : Addr → Prop) (m : Str) (sp : Addr → Sp) (ta : TE) (t : TA) : TE := fun σ H Q => ta σ H fun x H1 => ∃ a C dx fs, x = .ref a ∧ H1 a = some (.ins C dx fs) ∧ Fam C ∧ fs.lookup m = none ∧ t σ H1 fun vs H2 => sp C (.ref a :: vs) H2 Q E0
structure MFam (P : Program) (w : World) (K : PySem.W.Frag) (mg : Str → Option Value) (base : Heap) (k : Nat) (Fam : Addr → Prop) (m : Str) (ps : List Str) (sp : Addr → Sp) : Prop where
  ex : ∀ C, Fam C → MCal P w K mg base k C m ps (sp C)
theorem pe_methD {Fam : Addr → Prop} {spC : Addr → Sp} {o : Expr} {ta : TE} {pl : Sem Bool} (M : MFam X.prog X.w X.K X.mg X.base k Fam m ps spC) (hr : Room k X.A) (he : PE X o ta) (ha : PA X (e :: es) t)
    (hst : starEach (e :: es) X.env = (false, eval e X.env) :: starEach es X.env := by rfl) (hpl : (backTo pos (starEach es X.env)).any (·.1) = false := by rfl)
    (ht : eval (.Call (.Attribute o m apos) (e :: es) [] pos) X.env = (do
      let ov ← eval o X.env
      standAt apos.atName
      let (f, first) ← holding [ov] (getMethod ov m pl)
      callWith pos f first (backTo pos (starEach (e :: es) X.env)) (backToKw pos (keywordEach [] X.env))) := by rfl) :
    PE X (.Call (.Attribute o m apos) (e :: es) [] pos) (tMethD Fam m spC ta t) := by
  intro pins s σ H Q I h
  refine PySem.W.methodCall_KW (pl := pl) (thn (he pins s σ H _ I h) fun u s1 ⟨x, H1, I1, rx, a, C, dx, fs, ex, ea, hF, l, q⟩ => ?_) ht
  subst ex
  obtain rfl : u = Value.ref a := rx
  obtain ⟨f, fd, F, b, hm⟩ := (M.ex C hF).ex
  refine getmeth_ok I1 ea (M.ex C hF).cl hm l ?_
  refine PySem.W.callWith_K (first := [.ref a]) (h₀ := X.base) I.ok.mod.kin hm.kp (thn (ha pos pins s1 σ H1 _ I1 q) fun us s2 ⟨vs, H2, I2, r, q2⟩ => ⟨I2.kIn, ?_⟩) hst hpl
  exact run_fn (us := .ref a :: us) (vs := .ref a :: vs) F hr b .nil pass0 I2 (.cons rfl r) (by rw [List.append_nil]; exact q2)
theorem pe_meth0D {Fam : Addr → Prop} {spC : Addr → Sp} {o : Expr} {ta : TE} {pl : Sem Bool} (M : MFam X.prog X.w X.K X.mg X.base k Fam m ps spC) (hr : Room k X.A) (he : PE X o ta)
    (ht : eval (.Call (.Attribute o m apos) [] [] pos) X.env = (do
      let ov ← eval o X.env
      standAt apos.atName
      let (f, first) ← holding [ov] (getMethod ov m pl)
      callWith pos f first (backTo pos (starEach [] X.env)) (backToKw pos (keywordEach [] X.env))) := by rfl) :
    PE X (.Call (.Attribute o m apos) [] [] pos) (tMethD Fam m spC ta tNil) := by
  intro pins s σ H Q I h
  refine PySem.W.methodCall_KW (pl := pl) (thn (he pins s σ H _ I h) fun u s1 ⟨x, H1, I1, rx, a, C, dx, fs, ex, ea, hF, l, q⟩ => ?_) ht
  subst ex
  obtain rfl : u = Value.ref a := rx
  obtain ⟨f, fd, F, b, hm⟩ := (M.ex C hF).ex
  refine getmeth_ok I1 ea (M.ex C hF).cl hm l ?_
  exact PySem.W.callWith_K0 (first := [.ref a]) I1.kIn hm.kp (run_fn (us := [.ref a]) (vs := [.ref a]) F hr b .nil pass0 I1 (.cons rfl .nil) q)
end
def Itk (lo c : Int) (n : Nat) : It := ⟨fun i _ => i < n, fun i H x H' => H' = H ∧ x = .int (lo + i * c), fun i _ => n ≤ i⟩
theorem turn_rangeK {P : Program} {w : World} {K : PySem.W.Frag} {tg : Expr} (it : Addr) (lo c : Int) (n : Nat) : Turn P w K tg (Itk lo c n) [it] it (fun i h => IsRangeIter h it (lo + (i : Nat) * c) ((n : Int) - (i : Nat)) c) where
  mem := by simp
  obj := fun i h st b hb => by
    have e : b = it := by simpa using hb
    subst e
    exact ⟨_, st, fun v z => by
      have z' : Data.fields _ = Data.cell v := z
      cases z'⟩
  keep := fun i h h' st k => k it (by simp) _ st
  item := by
    intro X hP hw hK hc i pins s σ H E I hf st hg
    subst hP hw hK
    obtain ⟨f0, f1, f2, f3, f4, f5⟩ := hf it (by simp)
    have W := Walks.range (prog := X.prog) (w := X.w) (I.ok.hd hc) it lo c n
    refine W.item i s _ _ hg st fun v h' tk hv st' kk => ?_
    obtain ⟨t, rfl⟩ := hv
    have I1 : Inv X pins σ H { s with heap := h', toks := tk } := I.turned (fun b o hb e => kk b o (by simpa using hb) e) f0 f1 f3 f4 f5
    exact ⟨_, rfl, go_of (s := { s with heap := h', toks := tk }) (n := "range_iterator") st' rfl rfl (by decide) ⟨.int (lo + i * c), H, I1, ⟨t, rfl⟩, ⟨rfl, rfl⟩, st', fun b hb => (hf b hb).1⟩⟩
  done := by
    intro X hP hw hK hc i pins s σ H E I hf st hg
    subst hP hw hK
    obtain ⟨f0, f1, f2, f3, f4, f5⟩ := hf it (by simp)
    exact wpAny_pyNext_range_end (I.ok.hd hc) st (by have : n ≤ i := hg; omega) fun h' eb => ⟨rfl, I.turned (t' := s.toks) (fun b o hb e => eb b o hb e) f0 f1 f3 f4 f5⟩
  self := fun _ _ _ _ _ st h => wpAny_pyIter_rangeiter st h
def sizeK (lo hi c : Int) : Nat := (Builtin.Range.rangeSize lo hi c).toNat
theorem size_nn {lo hi c : Int} (hc : 0 < c) : 0 ≤ Builtin.Range.rangeSize lo hi c := by
  unfold Builtin.Range.rangeSize
  rw [if_pos hc]
  split
  · have := Int.ediv_nonneg (a := hi - lo - 1) (b := c) (by omega) (by omega)
    omega
  · omega
def iRng3 (ta : TA) : TI := fun σ H R => ta σ H fun vs H1 => ∃ i j c : Int, vs = [.int i, .int j, .int c] ∧ Builtin.Range.small i j c = true ∧ 0 < c ∧ c < 1073741824 ∧ R (Itk i c (sizeK i j c)) H1
theorem pi_range3 {X : Cx} {tg : Expr} {a b d : Expr} {ta : TA} {p pos : Pos} (hg : Gl X "range") (hm : X.mg "range" = none) (ha : PA X [a, b, d] ta) (hs : starEach [a, b, d] X.env = [(false, eval a X.env), (false, eval b X.env), (false, eval d X.env)] := by rfl)
    (hs2 : starEach [b, d] X.env = [(false, eval b X.env), (false, eval d X.env)] := by rfl) : PI X tg (.Call (.Name "range" p) [a, b, d] [] pos) (iRng3 ta) := by
  intro pins s σ H R I h
  refine Call_ (ld_blt I hg hm boot_range (PyProof.Rows.callWith_type1 (thn (ha pos pins s σ H _ I h) fun us s1 ⟨vs, H1, I1, r1, q1⟩ => ?_) (by rw [hs, hs2]) (by rw [hs2]; rfl)))
  obtain ⟨lo, hi, c, e, sm, c0, c1, q⟩ := q1
  subst e
  cases r1 with
  | cons r rr =>
    cases rr with
    | cons r' rr =>
      cases rr with
      | cons r'' rr =>
        cases rr
        obtain ⟨t, rfl⟩ := r
        obtain ⟨u, rfl⟩ := r'
        obtain ⟨v, rfl⟩ := r''
        refine call_range_3 (by omega) ?_ (.inl (PyProof.noPylong_small (by omega)))
        have I2 : Inv X pins σ H1 { s1 with heap := s1.heap.push { cls := .type "range", data := .fields #[.int lo t, .int hi u, .int c v] }, toks := s1.toks } := I1.kept fun b o e => Heap.get?_push_of_some _ e
        have fp : ∀ b ∈ [(s1.heap.push { cls := .type "range", data := .fields #[.int lo t, .int hi u, .int c v] }).objs.size], FpOk X pins H1 b := fun b hb => by
          have e : b = (s1.heap.push { cls := .type "range", data := .fields #[.int lo t, .int hi u, .int c v] }).objs.size := by simpa using hb
          subst e
          exact I2.fpOk (Nat.le_refl _) (I2.hok.fresh (Nat.le_refl _))
        refine wpAny_pyIter_range (IsRange.new ..) sm ?_
        refine ⟨_, _, _, _, H1, rfl, I2.kept (t' := s1.toks) fun b o e => Heap.get?_push_of_some _ e, turn_rangeK _ lo c (sizeK lo hi c), ?_, fp, q⟩
        have e1 : lo + ((0 : Nat) : Int) * c = lo := by simp
        have e2 : ((sizeK lo hi c : Nat) : Int) - ((0 : Nat) : Int) = Builtin.Range.rangeSize lo hi c := by
          have := size_nn (lo := lo) (hi := hi) c0
          unfold sizeK
          omega
        show IsRangeIter _ _ (lo + ((0 : Nat) : Int) * c) (((sizeK lo hi c : Nat) : Int) - ((0 : Nat) : Int)) c
        rw [e1, e2]
        exact Heap.get?_push_size _ rfl
theorem for_rangeK {lo c : Int} {n : Nat} {g : TG} {tb : TS} {D : Ends} {σ : St} {H : Hp} (Pv : Nat → St → Hp → Prop) (h0 : Pv 0 σ H)
    (hs : ∀ i σ H, i < n → Pv i σ H → g (.int (lo + i * c)) σ H fun σ2 H2 => tb { D with nx := Pv (i + 1), ct := Pv (i + 1), bk := D.nx } σ2 H2) (hd : ∀ σ H, Pv n σ H → D.nx σ H) :
    ∃ W : Nat → Nat → St → Hp → Prop, (∃ m, W 0 m σ H) ∧ ∀ i m σ H, W i m σ H →
      ((Itk lo c n).stop i H ∧ D.nx σ H) ∨ ((Itk lo c n).go i H ∧ ∃ N : St → Hp → Prop, (∀ σ' H', N σ' H' → ∃ m', m' < m ∧ W (i + 1) m' σ' H') ∧ ∀ x H', (Itk lo c n).yld i H x H' → g x σ H' fun σ2 H2 => tb { D with nx := N, ct := N, bk := D.nx } σ2 H2) := by
  refine ⟨fun i m σ H => m = n - i ∧ i ≤ n ∧ Pv i σ H, ⟨n, by simp, Nat.zero_le _, h0⟩, ?_⟩
  rintro i m σ H ⟨rfl, hi, p⟩
  by_cases hlt : i < n
  · refine .inr ⟨hlt, Pv (i + 1), fun σ' H' p' => ⟨n - (i + 1), by omega, rfl, hlt, p'⟩, fun x H' y => ?_⟩
    obtain ⟨e, ex⟩ := y
    subst e ex
    exact hs i σ _ hlt p
  · have e : i = n := by omega
    subst e
    exact .inl ⟨Nat.le_refl _, hd σ H p⟩
end L2
namespace L2
open PySem PySem.Spec PyProof.Rows
section
variable {X : Cx}
theorem join_le {z : Str} {B : Nat} : ∀ {ps : List Str}, (∀ y ∈ ps, y.length ≤ B) → (Str.join z ps).length ≤ ps.length * (B + z.length)
  | [], _ => by show 0 ≤ _; omega
  | [x], h => by
    have := h x List.mem_cons_self
    show x.length ≤ 1 * (B + z.length)
    omega
  | x :: y :: r, h => by
    have h1 := h x List.mem_cons_self
    have ih := join_le (z := z) (B := B) (ps := y :: r) fun q hq => h q (List.mem_cons_of_mem _ hq)
    show (x ++ z ++ Str.join z (y :: r)).length ≤ _
    have e0 : (x ++ z ++ Str.join z (y :: r)).length = x.length + z.length + (Str.join z (y :: r)).length := by
      show (x.cps ++ z.cps ++ (Str.join z (y :: r)).cps).size = _
      rw [Array.size_append, Array.size_append]
      rfl
    rw [e0]
    have e : (x :: y :: r).length * (B + z.length) = (y :: r).length * (B + z.length) + (B + z.length) := by rw [List.length_cons, Nat.succ_mul]
    omega
theorem mt_joinA : MtM X "str.join" (fun x vs H Q => ∃ z p ps, x = .str z ∧ vs = [.ref p] ∧ SqL X.K H p (ps.map V.str) ∧ 1 ≤ ps.length ∧ ps.length ≤ 1000 ∧ z.length ≤ 100 ∧ (∀ y ∈ ps, y.length ≤ 1000) ∧ Q (.str (Str.join z ps)) H) := by
  intro pins s σ H x vs v us Q I rx rv h
  obtain ⟨z, p, ps, rfl, rfl, hl, h1, h2, hz, hb, q⟩ := h
  obtain ⟨t, rfl⟩ := rx
  obtain ⟨w, rfl, ru⟩ := rv.one
  cases ru
  obtain ⟨its, r, pl, _⟩ := I.list hl
  obtain ⟨l, rfl, e⟩ := strs_of r
  have z1 : ps.length * 1000 ≤ 1000 * 1000 := Nat.mul_le_mul_right _ h2
  have z2 : ps.length * z.length ≤ 1000 * 100 := Nat.mul_le_mul h2 hz
  have fit : Builtin.Str.tooLong (ps.toArray.foldl (· + ·.length + z.length) 0) = false := StrLaws.joinFits hb (by omega)
  have le : (Str.join z ps).length ≤ sizeLine := by
    refine Nat.le_trans (join_le hb) ?_
    rw [sizeLine_eq, Nat.mul_add]
    omega
  refine call_meets F.slot_str_join (typeIs_str _ _ _) F.entry_str_join (F.args_str_join_2 _ _) (meets_str_join_list z t p l (by rw [e]; exact fit)) ⟨pl.isList, ?_⟩
  have el : l.length = ps.length := by rw [← e, List.length_map]
  match l, el, e with
  | [], z, _ => simp at z; omega
  | [(y, u)], _, e =>
    have e' : ps = [y] := by rw [← e]; rfl
    subst e'
    exact ⟨.str y, H, I, ⟨u, rfl⟩, q⟩
  | a :: b :: c, _, e =>
    have em : joinMade z (a :: b :: c) = .str (Str.join z ps) := by show Made.str (Builtin.Str.glued _ _) = _; rw [StrLaws.glued_eq_join, e]
    rw [em]
    exact ⟨le, ⟨.str _, H, I.tok _, ⟨_, rfl⟩, q⟩⟩
end
end L2
namespace L2
open PySem PySem.Spec PyProof.Rows
structure Mk0 (K : PySem.W.Frag) (mg : Str → Option Value) (x : Str) (C : Addr) : Prop where
  makes : PySem.W.makesIn K C = true
  init : PySem.W.findIn K (.ref C) "__init__" = some (some (.builtin "object.__init__"))
  kp : PySem.W.keepIn K (.ref C) = true
  at_ : mg x = some (.ref C)
def tNew (C : Addr) : TE := fun _ H Q => ∀ y dx, H y = none → H dx = none → dx ≠ y → Q (.ref y) (upd (upd H dx (.own y)) y (.ins C dx []))
theorem pe_new0 {X : Cx} {x : Str} {C : Addr} {p pos : Pos} (M : Mk0 X.K X.mg x C) (hg : Gl X x) (hdb : (x == ("__debug__" : Str)) = false := by decide) : PE X (.Call (.Name x p) [] [] pos) (tNew C) := by
  intro pins s σ H Q I h
  refine wpAny_Call_Name_kw (ld_glob I hg M.at_ ?_ hdb)
  refine PySem.W.callWith_K0 I.kIn M.kp (wpAny_call (make_map0 I.kIn M.makes M.init (fun self => PySem.W.Looks.of_pure (PySem.W.oi_bind self)) ?_))
  have hq := h (s.heap.objs.size + 1) s.heap.objs.size (I.hok.fresh (Nat.le_succ _)) (I.hok.fresh (Nat.le_refl _)) (Nat.ne_of_lt (Nat.lt_succ_self _))
  have I2 := Inv.made (C := C) I
  have Y := PySem.W.makes_of (M := model X.prog X.w) I.kIn M.makes
  have ob : ((s.heap.push PySem.W.emptyDict).push (PySem.W.instObj C s.heap.objs.size)).get? (s.heap.objs.size + 1) = some (PySem.W.instObj C s.heap.objs.size) := by
    have e : (s.heap.push PySem.W.emptyDict).objs.size = s.heap.objs.size + 1 := by rw [Heap.size_push]
    rw [← e]
    exact Heap.get?_push_size _ rfl
  have t1 : PySem.W.Looks (model X.prog X.w) ((s.heap.push PySem.W.emptyDict).push (PySem.W.instObj C s.heap.objs.size)) (typeOf (.ref (s.heap.objs.size + 1))) (.ref C) := (PySem.W.Looks.ld ob).andThen .now
  have t2 : PySem.W.Looks (model X.prog X.w) ((s.heap.push PySem.W.emptyDict).push (PySem.W.instObj C s.heap.objs.size)) (isInstance (.ref (s.heap.objs.size + 1)) (.type "object")) true := t1.andThen (Y.top.keeps fun b o e => Heap.get?_push_of_some _ (Heap.get?_push_of_some _ e))
  obtain ⟨hh, g, d, t, os⟩ := s
  refine codeAny_call_builtin PySem.W.oi_plain PySem.W.entry_oi (@PySem.W.check_slot (model X.prog X.w) _ _ _ "object.__init__" "object" "__init__" (.ref (hh.objs.size + 1)) [] [] _ PySem.W.oi_kind PySem.W.oi_split t2 (PySem.W.oi_args (.ref (hh.objs.size + 1))) ?_)
  rw [PySem.W.oi_run]
  exact wpAny_pure (And.intro rfl ⟨V.ref (hh.objs.size + 1), _, I2, rfl, hq⟩)
end L2
namespace L2
open PySem PySem.Spec PyProof.Rows
end L2
namespace L2
open PySem PySem.Spec PyProof.Rows
end L2
namespace CRS
open PySem PySem.W PyProof.Rows
section
variable {lt : Nat → Nat → Bool} {V : Nat → Prop}
end
section
variable {O : KeyOrd} {key : Nat → O.α} {N : Nat}
variable {β : Type}
end
end CRS
namespace L2
open PySem PySem.Spec PyProof.Rows PySem.W
section
variable {prog : Program} {w : World} {A : Around} {E : Value → Shared → Prop} {s : Shared}
end
theorem ints_rel : ∀ {r : List Int} {us : List Value}, Vals (r.map V.int) us → IntsAre us r
  | [], _, .nil => .nil
  | a :: r, _, .cons ⟨t, e⟩ rr => by subst e; exact .cons a t (ints_rel rr)
section
variable {X : Cx}
end
section
variable {X : Cx}
end
end L2
namespace L2
open PySem PySem.Spec PyProof.Rows
section
variable {P : Program} {w : World} {K : PySem.W.Frag} {mg : Str → Option Value} {base : Heap}
end
end L2
namespace L2
open PySem PySem.Spec PyProof.Rows
theorem for_enum {K K' : PySem.W.Frag} {a : Addr} {xs : List V} {i1 i2 : Nat} {tb : TS} {D : Ends} {σ : St} {H : Hp} (Pv : Nat → St → Hp → Prop) (h0 : Pv 0 σ H) (hl : ∀ i σ H, i ≤ xs.length → Pv i σ H → SqL K H a xs)
    (hs : ∀ i x σ H t, xs[i]? = some x → Pv i σ H → H t = none → tb { D with nx := Pv (i + 1), ct := Pv (i + 1), bk := D.nx } ((σ.set i1 (some (.int i))).set i2 (some x)) (upd H t (.tup [.int i, x]))) (hd : ∀ σ H, Pv xs.length σ H → D.nx σ H) :
    ∃ W : Nat → Nat → St → Hp → Prop, (∃ m, W 0 m σ H) ∧ ∀ i m σ H, W i m σ H →
      ((Ite K a).stop i H ∧ D.nx σ H) ∨ ((Ite K a).go i H ∧ ∃ N : St → Hp → Prop, (∀ σ' H', N σ' H' → ∃ m', m' < m ∧ W (i + 1) m' σ' H') ∧ ∀ x H', (Ite K a).yld i H x H' → gTup K' 2 (gCons (gName i1) (gCons (gName i2) gNil)) x σ H' fun σ2 H2 => tb { D with nx := N, ct := N, bk := D.nx } σ2 H2) := by
  refine ⟨fun i m σ H => m = xs.length - i ∧ i ≤ xs.length ∧ Pv i σ H, ⟨xs.length, by simp, Nat.zero_le _, h0⟩, ?_⟩
  rintro i m σ H ⟨rfl, hi, p⟩
  have q := hl i σ H hi p
  by_cases hlt : i < xs.length
  · refine .inr ⟨⟨xs, xs[i], q, by simp [hlt]⟩, Pv (i + 1), fun σ' H' p' => ⟨xs.length - (i + 1), by omega, rfl, hlt, p'⟩, fun x H' y => ?_⟩
    obtain ⟨t, z, ex, ht, hz, e3⟩ := y
    subst ex e3
    exact ⟨t, _, rfl, SqT.of upd_same, rfl, _, _, rfl, _, _, rfl, rfl, hs i z σ H t (hz xs q) p ht⟩
  · obtain rfl : i = xs.length := by omega
    exact .inl ⟨⟨xs, q, Nat.le_refl _⟩, hd σ H p⟩
end L2
namespace L2
open PySem PySem.Spec PyProof.Rows
def Itz (K : PySem.W.Frag) (a b : Addr) : It :=
  ⟨fun i H => ∃ xs ys x y, SqL K H a xs ∧ SqL K H b ys ∧ xs[i]? = some x ∧ ys[i]? = some y,
   fun i H v H' => ∃ t x y, v = .ref t ∧ H t = none ∧ (∀ xs, SqL K H a xs → xs[i]? = some x) ∧ (∀ ys, SqL K H b ys → ys[i]? = some y) ∧ H' = upd H t (.tup [x, y]),
   fun i H => ∃ xs ys, SqL K H a xs ∧ SqL K H b ys ∧ (xs.length ≤ i ∨ ys.length ≤ i)⟩
structure Zp (z u o i j : Addr) : Prop where
  uz : u ≠ z
  oz : o ≠ z
  iz : i ≠ z
  jz : j ≠ z
  uo : u ≠ o
  ui : u ≠ i
  uj : u ≠ j
  oi : o ≠ i
  oj : o ≠ j
  ij : i ≠ j
def ZipSt (a b z u o i j : Addr) (k : Nat) (h : Heap) : Prop := IsZip h z u o .none ∧ IsPair h u (.ref i) (.ref j) ∧ (∃ x y, IsPair h o x y) ∧ h.IsListIter i a k ∧ h.IsListIter j b k
theorem zip_apart {a b z u o i j : Addr} {k : Nat} {h : Heap} {xs ys : Array Value} (D : Zp z u o i j) (st : ZipSt a b z u o i j k h) (ha : h.IsList a xs) (hb : h.IsList b ys) : ZipApart z u o i j a b := by
  obtain ⟨hz, hu, ⟨x, y, ho⟩, ⟨oi, ei, ci, _⟩, ⟨oj, ej, cj, _⟩⟩ := st
  have ne : ∀ {c d : Addr} {p q : Obj} {zs : Array Value}, h.IsList c zs → h.get? d = some q → q.cls ≠ .type "list" → c ≠ d := fun {c d p q zs} hl hd hn e => by
    obtain ⟨p', hp, hc, _⟩ := hl
    rw [e, hd] at hp
    cases hp
    exact hn hc
  have nz : (Value.type "zip") ≠ .type "list" := by decide +kernel
  have nt : (Value.type "tuple") ≠ .type "list" := by decide +kernel
  have ni : (Value.type "list_iterator") ≠ .type "list" := by decide +kernel
  have hci : oi.cls ≠ .type "list" := by rw [ci]; exact ni
  have hcj : oj.cls ≠ .type "list" := by rw [cj]; exact ni
  constructor <;> first
    | exact D.uz | exact D.oz | exact D.iz | exact D.jz | exact D.uo | exact D.ui | exact D.uj | exact D.oi | exact D.oj | exact D.ij
    | exact ne (p := oi) ha hz nz | exact ne (p := oi) hb hz nz | exact ne (p := oi) ha ho nt | exact ne (p := oi) hb ho nt | exact ne (p := oi) ha hu nt | exact ne (p := oi) hb hu nt
    | exact ne (p := oi) ha ei hci | exact ne (p := oi) hb ei hci | exact ne (p := oi) ha ej hcj | exact ne (p := oi) hb ej hcj
theorem turn_zip {P : Program} {w : World} {K : PySem.W.Frag} {elts : List Expr} {n : Nat} {tp : Pos} (a b z u o i j : Addr) (D : Zp z u o i j) :
    Turn P w K (.Tuple elts n tp) (Itz K a b) [z, u, o, i, j] z (ZipSt a b z u o i j) where
  mem := by simp
  obj := fun k h st c hc => by
    obtain ⟨hz, hu, ⟨x, y, ho⟩, ⟨oi, ei, ci, di⟩, ⟨oj, ej, cj, dj⟩⟩ := st
    simp only [List.mem_cons, List.not_mem_nil, or_false] at hc
    rcases hc with rfl | rfl | rfl | rfl | rfl
    · exact ⟨_, hz, fun v q => by
        have q' : Data.fields _ = Data.cell v := q
        cases q'⟩
    · exact ⟨_, hu, fun v q => by
        have q' : Data.seq _ _ = Data.cell v := q
        cases q'⟩
    · exact ⟨_, ho, fun v q => by
        have q' : Data.seq _ _ = Data.cell v := q
        cases q'⟩
    · exact ⟨oi, ei, fun v q => by rw [di] at q; cases q⟩
    · exact ⟨oj, ej, fun v q => by rw [dj] at q; cases q⟩
  keep := fun k h h' st kk => by
    obtain ⟨hz, hu, ⟨x, y, ho⟩, h1, h2⟩ := st
    exact ⟨kk z (by simp) _ hz, kk u (by simp) _ hu, ⟨x, y, kk o (by simp) _ ho⟩, h1.at fun ob e => kk i (by simp) ob e, h2.at fun ob e => kk j (by simp) ob e⟩
  item := by
    intro X hP hw hK hc k pins s σ H E I hf st hg
    subst hP hw hK
    obtain ⟨xs, ys, x, y, hq1, hq2, hx, hy⟩ := hg
    obtain ⟨its, rv, p, hz⟩ := I.list hq1
    obtain ⟨jts, rv', p', hz'⟩ := I.list hq2
    obtain ⟨v, hv, ru⟩ := rv.get hx
    obtain ⟨v', hv', ru'⟩ := rv'.get hy
    have DD := zip_apart D st p.isList p'.isList
    obtain ⟨sz, su, ⟨x0, y0, so⟩, s1, s2⟩ := id st
    have fz := hf z (by simp)
    have fu := hf u (by simp)
    have fo := hf o (by simp)
    have fi := hf i (by simp)
    have fj := hf j (by simp)
    refine wpAny_pyNext_zip_item DD sz su so s1 s2 p.isList p'.isList (x := v) (y := v') (by simpa using hv) (by simpa using hv') fun h1 a1 a2 a3 a4 a5 a6 hk => ⟨_, rfl, ?_⟩
    refine wpAny_letOwnedTupleGo_zip a1 fun h2 hz2 hs2 => ?_
    have hs2' : Heap.SameBut z h1 h2 := hs2
    have hzlt : z < s.heap.objs.size := Heap.lt_size sz
    have hnT : H s.heap.objs.size = none := I.hok.fresh (Nat.le_refl _)
    have up : ∀ c ob, c ≠ z → c ≠ o → c ≠ i → c ≠ j → s.heap.get? c = some ob → h2.get? c = some ob := fun c ob c1 c2 c3 c4 q => (hs2'.2 c c1).trans (hk c ob c1 c2 c3 c4 q)
    have nch : ∀ c, c ∉ [z, o, i, j] → c ≠ z ∧ c ≠ o ∧ c ≠ i ∧ c ≠ j := fun c hc => by
      simp only [List.mem_cons, List.not_mem_nil, or_false, not_or] at hc
      exact hc
    have ntr : ∀ c ob, H c = some ob → c ≠ z ∧ c ≠ o ∧ c ≠ i ∧ c ≠ j := fun c ob q =>
      ⟨fun e => by (rw [e, fz.1] at q; cases q), fun e => by (rw [e, fo.1] at q; cases q), fun e => by (rw [e, fi.1] at q; cases q), fun e => by (rw [e, fj.1] at q; cases q)⟩
    have up2 : ∀ c ob, c ∉ [z, o, i, j] → s.heap.get? c = some ob → h2.get? c = some ob := fun c ob hc q => up c ob (nch c hc).1 (nch c hc).2.1 (nch c hc).2.2.1 (nch c hc).2.2.2 q
    have up3 : ∀ c ob ob', H c = some ob' → s.heap.get? c = some ob → h2.get? c = some ob := fun c ob ob' hc q => up c ob (ntr c ob' hc).1 (ntr c ob' hc).2.1 (ntr c ob' hc).2.2.1 (ntr c ob' hc).2.2.2 q
    have htup : h2.get? s.heap.objs.size = some { cls := .type "tuple", data := .seq #[v, v'] } := (hs2'.2 _ (Nat.ne_of_gt hzlt)).trans a5
    have I1 : Inv X pins σ (upd H s.heap.objs.size (.tup [x, y])) { s with heap := h2, gens := s.gens, drawn := s.drawn, toks := s.toks } := by
      refine I.step (ch := [z, o, i, j]) (fun c hc => ?_) (fun c ob _ _ hc q _ => up2 c ob hc q) (fun c ob _ _ hc q _ => ⟨ob.slots, up2 c ob hc q⟩) (fun c ob _ q n => by rw [upd_ne (Nat.ne_of_lt (Heap.lt_size q))]; exact n)
        (fun c ob hc q => ⟨ob, up2 c ob hc q⟩) (fun c xs q => by rw [upd_ne (ne_of_none q hnT)]; exact q) (fun c ob u q => by rw [upd_ne (ne_of_none q hnT)]; exact q) (fun c ps q => ⟨#[], by rw [upd_ne (ne_of_none q hnT), q]; simp⟩)
        (fun m hm => ?_) (fun c ob q => ?_) I.bare
      · simp only [List.mem_cons, List.not_mem_nil, or_false] at hc
        rcases hc with rfl | rfl | rfl | rfl
        · exact ⟨fz.2.2.2.1, fz.2.1, fz.2.2.2.2.1, fz.2.2.2.2.2⟩
        · exact ⟨fo.2.2.2.1, fo.2.1, fo.2.2.2.2.1, fo.2.2.2.2.2⟩
        · exact ⟨fi.2.2.2.1, fi.2.1, fi.2.2.2.2.1, fi.2.2.2.2.2⟩
        · exact ⟨fj.2.2.2.1, fj.2.1, fj.2.2.2.2.1, fj.2.2.2.2.2⟩
      · obtain ⟨ob, es, ep, hoL, r⟩ := hm
        exact ⟨ob, es, ep, up _ ob (Ne.symm fz.2.1) (Ne.symm fo.2.1) (Ne.symm fi.2.1) (Ne.symm fj.2.1) hoL, r⟩
      · by_cases hb : c = s.heap.objs.size
        · subst hb
          rw [upd_same] at q
          cases q
          exact ⟨le_line (by show 2 ≤ 1000; decide), [v, v'], .cons ru (.cons ru' .nil), _, htup, rfl, _, rfl⟩
        · rw [upd_ne hb] at q
          refine (I.hok c ob q).stay (fun d w' hd q2 => ?_) (fun d q2 => by rw [upd_ne (ne_of_none q2 hnT)]; exact q2) (fun d zs q2 => by rw [upd_ne (ne_of_none q2 hnT)]; exact q2)
          rcases hd with rfl | hd
          · exact up3 _ w' _ q q2
          · exact up3 _ w' _ hd q2
    refine ⟨.ref s.heap.objs.size, _, I1, rfl, ⟨_, x, y, rfl, hnT, fun zs hy' => by rw [I.list_inj hy' hq1]; exact hx, fun zs hy' => by rw [I.list_inj hy' hq2]; exact hy, rfl⟩, ⟨hz2, ?_, ⟨v, v', ?_⟩, ?_, ?_⟩, fun c hc => ?_⟩
    · exact (hs2'.2 u D.uz).trans (hk u _ D.uz D.uo D.ui D.uj su)
    · exact (hs2'.2 o D.oz).trans a2
    · exact a3.at fun ob q => (hs2'.2 i D.iz).trans q
    · exact a4.at fun ob q => (hs2'.2 j D.jz).trans q
    · have hl : c < s.heap.objs.size := by
        simp only [List.mem_cons, List.not_mem_nil, or_false] at hc
        rcases hc with rfl | rfl | rfl | rfl | rfl
        · exact Heap.lt_size sz
        · exact Heap.lt_size su
        · exact Heap.lt_size so
        · obtain ⟨_, q, _⟩ := s1; exact Heap.lt_size q
        · obtain ⟨_, q, _⟩ := s2; exact Heap.lt_size q
      rw [upd_ne (Nat.ne_of_lt hl)]
      exact (hf c hc).1
  done := by
    intro X hP hw hK hc k pins s σ H E I hf st hg
    subst hP hw hK
    obtain ⟨xs, ys, hq1, hq2, hle⟩ := hg
    obtain ⟨its, rv, p, hz⟩ := I.list hq1
    obtain ⟨jts, rv', p', hz'⟩ := I.list hq2
    have DD := zip_apart D st p.isList p'.isList
    obtain ⟨sz, su, ⟨x0, y0, so⟩, s1, s2⟩ := id st
    have fz := hf z (by simp)
    have fo := hf o (by simp)
    have fi := hf i (by simp)
    have fj := hf j (by simp)
    have hl := rv.length
    have hl' := rv'.length
    refine wpAny_pyNext_zip_end (I.ok.hd hc) DD sz su so s1 s2 p.isList p'.isList ?_ fun h' hk => ⟨rfl, ?_⟩
    · rcases hle with e | e
      · exact .inl (by simp; omega)
      · exact .inr (by simp; omega)
    · have nch : ∀ c, c ∉ [z, o, i, j] → c ≠ z ∧ c ≠ o ∧ c ≠ i ∧ c ≠ j := fun c hc => by
        simp only [List.mem_cons, List.not_mem_nil, or_false, not_or] at hc
        exact hc
      have ntr : ∀ c ob, H c = some ob → c ≠ z ∧ c ≠ o ∧ c ≠ i ∧ c ≠ j := fun c ob q =>
        ⟨fun e => by (rw [e, fz.1] at q; cases q), fun e => by (rw [e, fo.1] at q; cases q), fun e => by (rw [e, fi.1] at q; cases q), fun e => by (rw [e, fj.1] at q; cases q)⟩
      have up2 : ∀ c ob, c ∉ [z, o, i, j] → s.heap.get? c = some ob → h'.get? c = some ob := fun c ob hc q => hk c ob (nch c hc).1 (nch c hc).2.1 (nch c hc).2.2.1 (nch c hc).2.2.2 q
      have up3 : ∀ c ob ob', H c = some ob' → s.heap.get? c = some ob → h'.get? c = some ob := fun c ob ob' hc q => hk c ob (ntr c ob' hc).1 (ntr c ob' hc).2.1 (ntr c ob' hc).2.2.1 (ntr c ob' hc).2.2.2 q
      refine I.step (H' := H) (ch := [z, o, i, j]) (fun c hc => ?_) (fun c ob _ _ hc q _ => up2 c ob hc q) (fun c ob _ _ hc q _ => ⟨ob.slots, up2 c ob hc q⟩) (fun c ob _ q n => n)
        (fun c ob hc q => ⟨ob, up2 c ob hc q⟩) (fun c xs q => q) (fun c ob u q => q) (fun c ps q => ⟨#[], by rw [q]; simp⟩)
        (fun m hm => ?_) (fun c ob q => ?_) I.bare
      · simp only [List.mem_cons, List.not_mem_nil, or_false] at hc
        rcases hc with rfl | rfl | rfl | rfl
        · exact ⟨fz.2.2.2.1, fz.2.1, fz.2.2.2.2.1, fz.2.2.2.2.2⟩
        · exact ⟨fo.2.2.2.1, fo.2.1, fo.2.2.2.2.1, fo.2.2.2.2.2⟩
        · exact ⟨fi.2.2.2.1, fi.2.1, fi.2.2.2.2.1, fi.2.2.2.2.2⟩
        · exact ⟨fj.2.2.2.1, fj.2.1, fj.2.2.2.2.1, fj.2.2.2.2.2⟩
      · obtain ⟨ob, es, ep, hoL, r⟩ := hm
        exact ⟨ob, es, ep, hk _ ob (Ne.symm fz.2.1) (Ne.symm fo.2.1) (Ne.symm fi.2.1) (Ne.symm fj.2.1) hoL, r⟩
      · refine (I.hok c ob q).stay (fun d w' hd q2 => ?_) (fun d q2 => q2) (fun d zs q2 => q2)
        rcases hd with rfl | hd
        · exact up3 _ w' _ q q2
        · exact up3 _ w' _ hd q2
  self := fun _ _ _ _ _ st h => wpAny_pyIter_zip st.1 h
end L2
namespace L2
open PySem PySem.Spec PyProof.Rows
end L2
namespace L2
open PySem PySem.Spec PyProof.Rows
section
variable {prog : Program} {w : World} {A : Around} {E : Value → Shared → Prop} {s : Shared}
end
section
variable {X : Cx} {pins : List (Addr × Obj)} {σ : St} {H : Hp} {s : Shared}
end
end L2
namespace L2
open PySem PySem.Spec PyProof.Rows
section
variable {P : Program} {w : World} {K : PySem.W.Frag} {mg : Str → Option Value} {base : Heap} {N ps : List Str} {qual : Str} {scope : Scope} {f : Addr} {cd : Value} {A : Around} {outer : List Env} {s0 : Shared} {H0 : Hp} {E : XK} {k : Nat} {sp : Sp} {x : Str} {st : Stmt} {fd : FuncData}
end
section
variable {X : Cx} {k : Nat} {f : Addr} {fd : FuncData} {ps : List Str} {sp : Sp} {x : Str} {p pos : Pos} {e : Expr} {es : List Expr} {t : TA} {W : St → XK}
end
section
variable {prog : Program} {w : World} {A : Around} {E : Value → Shared → Prop} {env : Env}
variable {nm q : Str} {C N : Addr} {bs bm bmB : List Value} {hdct : Bool} {sn : List Str} {sub : List Value} {ab : Bool} {col : Option Bool} {dd : Option Addr} {k0 k1 k2 k3 k5 : Option Value} {B newId initId : String}
end
section
variable {X : Cx} {x n : Str} {Ch : Addr} {i : Nat} {body suite : List Stmt} {b₀ : Stmt} {tb : (St → XK) → TS} {ts : TS} {np hpos pos : Pos} {pins : List (Addr × Obj)} {σ : St} {H : Hp} {s : Shared} {e : Addr} {oe : Obj}
end
end L2
namespace L2
open PySem PySem.Spec PyProof.Rows PySem.W
section
variable {X : Cx} {pins : List (Addr × Obj)} {σ : St} {H H' : Hp} {s : Shared}
end
section
variable {X : Cx} {pins : List (Addr × Obj)} {σ : St} {H : Hp} {s : Shared}
end
section
variable {prog : Program} {w : World} {A : Around} {E : Value → Shared → Prop} {s : Shared}
end
section
variable {X : Cx} {pins : List (Addr × Obj)} {σ : St} {H : Hp} {s : Shared}
end
end L2
namespace L2
open PySem PySem.Spec PyProof.Rows PySem.W
section
variable {X : Cx}
end
end L2
namespace CRL
open PySem L2
end CRL
namespace L2
open PySem PySem.Spec PyProof.Rows PySem.W
section
variable {P : Program} {w : World} {K : PySem.W.Frag} {mg : Str → Option Value} {base : Heap} {k : Nat} {f : Addr} {fd : FuncData} {ps : List Str} {sp sp1 sp2 : Sp}
end
section
variable {X : Cx} {k : Nat} {f C : Addr} {fd : FuncData} {ps : List Str} {sp : Sp} {x : Str} {p pos : Pos} {e : Expr} {es : List Expr} {t : TA} {W : St → XK} {dvs : List V} {ds : List Value}
end
end L2
namespace CST
open PySem
section
variable {prog : Program} {w : World} {K : Type} [DecidableEq K] (knd : KeyKind prog w K)
variable {knd}
variable {A : Around} {E : Value → Shared → Prop} {s : Shared}
end
end CST
namespace CST
open PySem
end CST
namespace CST
open PySem
section
variable {prog : Program} {w : World} {A : Around} {E : Value → Shared → Prop} {s : Shared} {I a : Addr} {i n ep slot nx : Nat} {x : Value} {o : Obj} {es : Array (Int × Value)} {t : SetTable} {Q : Option Value → Shared → Prop}
end
end CST
namespace CST
open PySem
end CST
namespace CST
open PySem
section
variable {prog : Program} {w : World} {A : Around} {E : Value → Shared → Prop} {s : Shared} {a : Addr} {o : Obj} {es : Array (Int × Value)} {ep : Nat} {t : SetTable}
end
end CST
namespace CST
open PySem
section
variable {prog : Program} {w : World} {A : Around} {E : Value → Shared → Prop} {s : Shared} {I a T : Addr} {i n ep slot : Nat} {o : Obj} {es : Array (Int × Value)} {t : SetTable} {Q : Option Value → Shared → Prop}
end
end CST
namespace CST
open PySem
section
variable {prog : Program} {w : World} {A : Around} {E : Value → Shared → Prop} {I a : Addr} {es : Array (Int × Value)} {ep : Nat} {t : SetTable}
end
end CST
namespace CST
open PySem
section
variable {prog : Program} {w : World} {A : Around} {E : Value → Shared → Prop} {s : Shared} {a : Addr} {o : Obj} {es : Array (Int × Value)} {ep : Nat} {t : SetTable}
end
end CST
namespace CST
open PySem
section
variable {prog : Program} {w : World} {A : Around} {E : Value → Shared → Prop} {s : Shared}
variable {R : Result → Shared → Prop} {I : Addr} {fp wr : List Addr} {G : Array GenState → Array GenState → Prop} {n : Nat} {P : Nat → Value → Prop} {St : Nat → Shared → Prop}
end
end CST
namespace CST
open PySem
section
variable {prog : Program} {w : World} {A : Around} {E : Value → Shared → Prop} {s : Shared}
end
end CST
namespace CST
open PySem PyProof.Rows
section
variable {prog : Program} {w : World} {A : Around} {E : Value → Shared → Prop} {s : Shared}
end
end CST
namespace L2
open PySem PySem.Spec PyProof.Rows PySem.W
theorem ints_vals : ∀ {us : List Value} {ns : List Int}, IntsAre us ns → Vals (ns.map V.int) us
  | _, _, .nil => .nil
  | _, _, .cons n t r => .cons ⟨t, rfl⟩ (ints_vals r)
section
variable {X : Cx}
def rSortI (K : PySem.W.Frag) : List V → Hp → VK → Prop := fun xs H Q => ∃ (a : Addr) (ns : List Int), xs = [.ref a] ∧ SqL K H a (ns.map V.int) ∧ ns.length < 64 ∧
  ∀ (l : Addr) (ms : List Int), H l = none → ms.Perm ns → ms.Pairwise (· ≤ ·) → Q (.ref l) (upd H l (.lst (ms.map V.int)))
theorem call_sortedI : CallR X (.builtin "sorted") (rSortI X.K) := by
  intro pins s σ H xs us Q I r h
  obtain ⟨a, ns, rfl, hq, l64, q⟩ := h
  obtain ⟨u, rfl, rx⟩ := vals1 r
  cases rx
  obtain ⟨its, rv, pl, hz⟩ := I.list hq
  have hl := rv.length
  rw [List.length_map] at hl
  refine sorted_ints pl.isList (ints_rel rv) (by omega) fun out ms h1 h2 h3 => ?_
  obtain ⟨e, he⟩ := sortedAll_at s.heap its out
  have lp : (ms.map V.int).length ≤ sizeLine := by rw [List.length_map, h2.length_eq, sizeLine_eq]; omega
  exact ⟨.ref (s.heap.objs.size + 1), _, I.laid (t' := s.toks) (fun b o q => sortedAll_old q) (Nat.le_succ _) (show ObjOk X.prog X.w _ _ _ (.lst _) from ⟨lp, out.toList, e, ints_vals h1, he⟩), rfl, q _ ms (I.hok.fresh (Nat.le_succ _)) h2 h3⟩
end
end L2
namespace L2
open PySem PySem.Spec PyProof.Rows PySem.W
section
variable {X : Cx}
end
end L2
namespace L2
open PySem PySem.Spec PyProof.Rows
def rNoE (K : PySem.W.Frag) (neg : Bool) : R2 := fun x y H Q => ∃ a b xs, x = .ref a ∧ y = .ref b ∧ SqL K H a xs ∧ SqL K H b [] ∧ Q (.bl (if neg then !xs.isEmpty else xs.isEmpty)) H
theorem op_neE {X : Cx} (hu : X.A.units < cLine) : OpR X (compareOp .NotEq) (rNoE X.K true) := by
  intro pins s σ H x y v u Q I rx ry h
  obtain ⟨a, b, xs, rfl, rfl, h1, h2, q⟩ := h
  cases rx
  cases ry
  obtain ⟨its, r1, p1, z1⟩ := I.list h1
  obtain ⟨js, r2, p2, z2⟩ := I.list h2
  cases r2
  have l1 := r1.length
  cases xs with
  | nil =>
    cases r1
    refine (SeqAt.RcNeAt.lists (e := fun _ => true) p1.isList p2.isList rfl hu (fun j hj _ => absurd hj (by simp)) : SeqAt.RcNeAt X.A s _ _ _) X.prog X.w _ _ ?_
    exact ⟨.bl false, H, I, rfl, q⟩
  | cons x xs =>
    refine (SeqAt.RcNeAt.lists_lengths p1.isList p2.isList (by rw [List.length_cons] at l1; simp only [List.size_toArray, bne_iff_ne, ne_eq, List.length_nil]; omega) hu : SeqAt.RcNeAt X.A s _ _ _) X.prog X.w _ _ ?_
    exact ⟨.bl true, H, I, rfl, q⟩
theorem size_nnD {lo hi c : Int} (hc : c < 0) : 0 ≤ Builtin.Range.rangeSize lo hi c := by
  unfold Builtin.Range.rangeSize
  rw [if_neg (by omega)]
  split
  · have := Int.ediv_nonneg (a := lo - hi - 1) (b := -c) (by omega) (by omega)
    omega
  · omega
theorem size_down {lo hi : Int} : sizeK lo hi (-1) = (lo - hi).toNat := by
  unfold sizeK Builtin.Range.rangeSize
  rw [if_neg (by decide)]
  have e : -(-1 : Int) = 1 := by decide
  rw [e, Int.ediv_one]
  split <;> omega
def iRngD (ta : TA) : TI := fun σ H R => ta σ H fun vs H1 => ∃ i j c : Int, vs = [.int i, .int j, .int c] ∧ Builtin.Range.small i j c = true ∧ c < 0 ∧ -1073741824 < c ∧ R (Itk i c (sizeK i j c)) H1
theorem pi_rangeD {X : Cx} {tg : Expr} {a b d : Expr} {ta : TA} {p pos : Pos} (hg : Gl X "range") (hm : X.mg "range" = none) (ha : PA X [a, b, d] ta) (hs : starEach [a, b, d] X.env = [(false, eval a X.env), (false, eval b X.env), (false, eval d X.env)] := by rfl)
    (hs2 : starEach [b, d] X.env = [(false, eval b X.env), (false, eval d X.env)] := by rfl) : PI X tg (.Call (.Name "range" p) [a, b, d] [] pos) (iRngD ta) := by
  intro pins s σ H R I h
  refine Call_ (ld_blt I hg hm boot_range (PyProof.Rows.callWith_type1 (thn (ha pos pins s σ H _ I h) fun us s1 ⟨vs, H1, I1, r1, q1⟩ => ?_) (by rw [hs, hs2]) (by rw [hs2]; rfl)))
  obtain ⟨lo, hi, c, e, sm, c0, c1, q⟩ := q1
  subst e
  cases r1 with
  | cons r rr =>
    cases rr with
    | cons r' rr =>
      cases rr with
      | cons r'' rr =>
        cases rr
        obtain ⟨t, rfl⟩ := r
        obtain ⟨u, rfl⟩ := r'
        obtain ⟨v, rfl⟩ := r''
        refine call_range_3 (by omega) ?_ (.inl (PyProof.noPylong_small (by omega)))
        have I2 : Inv X pins σ H1 { s1 with heap := s1.heap.push { cls := .type "range", data := .fields #[.int lo t, .int hi u, .int c v] }, toks := s1.toks } := I1.kept fun b o e => Heap.get?_push_of_some _ e
        have fp : ∀ b ∈ [(s1.heap.push { cls := .type "range", data := .fields #[.int lo t, .int hi u, .int c v] }).objs.size], FpOk X pins H1 b := fun b hb => by
          have e : b = (s1.heap.push { cls := .type "range", data := .fields #[.int lo t, .int hi u, .int c v] }).objs.size := by simpa using hb
          subst e
          exact I2.fpOk (Nat.le_refl _) (I2.hok.fresh (Nat.le_refl _))
        refine wpAny_pyIter_range (IsRange.new ..) sm ?_
        refine ⟨_, _, _, _, H1, rfl, I2.kept (t' := s1.toks) fun b o e => Heap.get?_push_of_some _ e, turn_rangeK _ lo c (sizeK lo hi c), ?_, fp, q⟩
        have e1 : lo + ((0 : Nat) : Int) * c = lo := by simp
        have e2 : ((sizeK lo hi c : Nat) : Int) - ((0 : Nat) : Int) = Builtin.Range.rangeSize lo hi c := by
          have := size_nnD (lo := lo) (hi := hi) c0
          unfold sizeK
          omega
        show IsRangeIter _ _ (lo + ((0 : Nat) : Int) * c) (((sizeK lo hi c : Nat) : Int) - ((0 : Nat) : Int)) c
        rw [e1, e2]
        exact Heap.get?_push_size _ rfl
end L2
namespace L2
open PySem PySem.Spec PyProof.Rows
inductive Co where
  | alw | cau (n : Str) | thi (n : Str) | day (a b : Int) | ovr (m : Int)
inductive Cnd where
  | at (c : Co) | no (t : Cnd) | al (ts : List Cnd) | so (ts : List Cnd)
structure A8 where
  a0 : Addr
  a1 : Addr
  a2 : Addr
  a3 : Addr
  a4 : Addr
  a5 : Addr
  a6 : Addr
  a7 : Addr
def A8.l (κ : A8) : List Addr := [κ.a0, κ.a1, κ.a2, κ.a3, κ.a4, κ.a5, κ.a6, κ.a7]
def A8.cl (κ : A8) (i : Nat) : Addr := κ.l.getD i 0
theorem A8.inj {κ : A8} (nd : κ.l.Nodup) {i j : Nat} (hi : i < 8) (hj : j < 8) (h : κ.cl i = κ.cl j) : i = j := by
  have hl : κ.l.length = 8 := rfl
  unfold A8.cl at h
  rw [List.getD_eq_getElem?_getD, List.getD_eq_getElem?_getD, List.getElem?_eq_getElem (by omega), List.getElem?_eq_getElem (by omega)] at h
  have p := List.pairwise_iff_getElem.mp nd
  rcases Nat.lt_trichotomy i j with c | c | c
  · exact absurd h (p i j (by omega) (by omega) c)
  · exact c
  · exact absurd h.symm (p j i (by omega) (by omega) c)
def kd : Cnd → Nat
  | .at .alw => 0
  | .at (.cau _) => 1
  | .at (.thi _) => 2
  | .at (.day _ _) => 3
  | .at (.ovr _) => 4
  | .no _ => 5
  | .al _ => 6
  | .so _ => 7
theorem kd_lt (t : Cnd) : kd t < 8 := by
  cases t with
  | «at» c => cases c <;> simp [kd]
  | no t => exact (by decide : 5 < 8)
  | al ts => exact (by decide : 6 < 8)
  | so ts => exact (by decide : 7 < 8)
def A8.of (κ : A8) (t : Cnd) : Addr := κ.cl (kd t)
def A8.Fam (κ : A8) (C : Addr) : Prop := C = κ.a0 ∨ C = κ.a1 ∨ C = κ.a2 ∨ C = κ.a3 ∨ C = κ.a4 ∨ C = κ.a5 ∨ C = κ.a6 ∨ C = κ.a7
theorem A8.fam (κ : A8) (t : Cnd) : κ.Fam (κ.of t) := by
  cases t with
  | «at» c =>
    cases c with
    | alw => exact .inl rfl
    | cau _ => exact .inr (.inl rfl)
    | thi _ => exact .inr (.inr (.inl rfl))
    | day _ _ => exact .inr (.inr (.inr (.inl rfl)))
    | ovr _ => exact .inr (.inr (.inr (.inr (.inl rfl))))
  | no t => exact .inr (.inr (.inr (.inr (.inr (.inl rfl)))))
  | al ts => exact .inr (.inr (.inr (.inr (.inr (.inr (.inl rfl))))))
  | so ts => exact .inr (.inr (.inr (.inr (.inr (.inr (.inr rfl))))))
section
variable {κ : A8} {t : Cnd}
theorem kd0 (nd : κ.l.Nodup) (h : κ.of t = κ.a0) : t = .at .alw := by
  have e : kd t = 0 := A8.inj nd (kd_lt t) (by decide) h
  cases t with
  | «at» c => cases c <;> first | rfl | (simp [kd] at e)
  | _ => simp [kd] at e
theorem kd1 (nd : κ.l.Nodup) (h : κ.of t = κ.a1) : ∃ n, t = .at (.cau n) := by
  have e : kd t = 1 := A8.inj nd (kd_lt t) (by decide) h
  cases t with
  | «at» c => cases c <;> first | exact ⟨_, rfl⟩ | (simp [kd] at e)
  | _ => simp [kd] at e
theorem kd2 (nd : κ.l.Nodup) (h : κ.of t = κ.a2) : ∃ n, t = .at (.thi n) := by
  have e : kd t = 2 := A8.inj nd (kd_lt t) (by decide) h
  cases t with
  | «at» c => cases c <;> first | exact ⟨_, rfl⟩ | (simp [kd] at e)
  | _ => simp [kd] at e
theorem kd3 (nd : κ.l.Nodup) (h : κ.of t = κ.a3) : ∃ a b, t = .at (.day a b) := by
  have e : kd t = 3 := A8.inj nd (kd_lt t) (by decide) h
  cases t with
  | «at» c => cases c <;> first | exact ⟨_, _, rfl⟩ | (simp [kd] at e)
  | _ => simp [kd] at e
theorem kd4 (nd : κ.l.Nodup) (h : κ.of t = κ.a4) : ∃ n, t = .at (.ovr n) := by
  have e : kd t = 4 := A8.inj nd (kd_lt t) (by decide) h
  cases t with
  | «at» c => cases c <;> first | exact ⟨_, rfl⟩ | (simp [kd] at e)
  | _ => simp [kd] at e
theorem kd5 (nd : κ.l.Nodup) (h : κ.of t = κ.a5) : ∃ u, t = .no u := by
  have e : kd t = 5 := A8.inj nd (kd_lt t) (by decide) h
  cases t with
  | «at» c => cases c <;> simp [kd] at e
  | no u => exact ⟨_, rfl⟩
  | _ => simp [kd] at e
theorem kd6 (nd : κ.l.Nodup) (h : κ.of t = κ.a6) : ∃ u, t = .al u := by
  have e : kd t = 6 := A8.inj nd (kd_lt t) (by decide) h
  cases t with
  | «at» c => cases c <;> simp [kd] at e
  | al u => exact ⟨_, rfl⟩
  | _ => simp [kd] at e
theorem kd7 (nd : κ.l.Nodup) (h : κ.of t = κ.a7) : ∃ u, t = .so u := by
  have e : kd t = 7 := A8.inj nd (kd_lt t) (by decide) h
  cases t with
  | «at» c => cases c <;> simp [kd] at e
  | so u => exact ⟨_, rfl⟩
  | _ => simp [kd] at e
end
def fldC : Co → List (Str × V)
  | .alw => []
  | .cau n => putF "name" (.str n) []
  | .thi n => putF "name" (.str n) []
  | .day a b => putF "last" (.int b) (putF "first" (.int a) [])
  | .ovr m => putF "cents" (.int m) []
mutual
def CdAt (κ : A8) (H : Hp) : V → Cnd → Prop
  | v, .at c => ∃ p dx, v = .ref p ∧ H p = some (.ins (κ.of (.at c)) dx (fldC c))
  | v, .no t => ∃ p dx w, v = .ref p ∧ H p = some (.ins κ.a5 dx (putF "part" w [])) ∧ CdAt κ H w t
  | v, .al ts => ∃ p dx l vs, v = .ref p ∧ H p = some (.ins κ.a6 dx (putF "several" (.ref l) [])) ∧ H l = some (.lst vs) ∧ CdsAt κ H vs ts
  | v, .so ts => ∃ p dx l vs, v = .ref p ∧ H p = some (.ins κ.a7 dx (putF "several" (.ref l) [])) ∧ H l = some (.lst vs) ∧ CdsAt κ H vs ts
def CdsAt (κ : A8) (H : Hp) : List V → List Cnd → Prop
  | [], [] => True
  | v :: vs, t :: ts => CdAt κ H v t ∧ CdsAt κ H vs ts
  | [], _ :: _ => False
  | _ :: _, [] => False
end
mutual
def TrAt (H : Hp) : V → Cnd → Prop
  | v, .at .alw => ∃ p, v = .ref p ∧ H p = some (.tup [.str "always"])
  | v, .at (.cau n) => ∃ p, v = .ref p ∧ H p = some (.tup [.str "cause", .str n])
  | v, .at (.thi n) => ∃ p, v = .ref p ∧ H p = some (.tup [.str "thing", .str n])
  | v, .at (.day a b) => ∃ p, v = .ref p ∧ H p = some (.tup [.str "days", .int a, .int b])
  | v, .at (.ovr m) => ∃ p, v = .ref p ∧ H p = some (.tup [.str "over", .int m])
  | v, .no t => ∃ p w, v = .ref p ∧ H p = some (.tup [.str "not", w]) ∧ TrAt H w t
  | v, .al ts => ∃ p l vs, v = .ref p ∧ H p = some (.tup [.str "all", .ref l]) ∧ H l = some (.lst vs) ∧ TrsAt H vs ts
  | v, .so ts => ∃ p l vs, v = .ref p ∧ H p = some (.tup [.str "some", .ref l]) ∧ H l = some (.lst vs) ∧ TrsAt H vs ts
def TrsAt (H : Hp) : List V → List Cnd → Prop
  | [], [] => True
  | v :: vs, t :: ts => TrAt H v t ∧ TrsAt H vs ts
  | [], _ :: _ => False
  | _ :: _, [] => False
end
mutual
def hgt : Cnd → Nat
  | .at _ => 0
  | .no t => hgt t + 1
  | .al ts => hgts ts + 1
  | .so ts => hgts ts + 1
def hgts : List Cnd → Nat
  | [] => 0
  | t :: ts => max (hgt t) (hgts ts)
end
structure LS where
  d : Int
  th : Str
  ca : Str
  ct : Int
def holdsC : Co → LS → Bool
  | .alw, _ => true
  | .cau n, x => decide (V.str x.ca = V.str n)
  | .thi n, x => decide (V.str x.th = V.str n)
  | .day a b, x => decide (a ≤ x.d) && decide (x.d ≤ b)
  | .ovr m, x => decide (m < x.ct)
mutual
def hT : Cnd → LS → Bool
  | .at c, x => holdsC c x
  | .no t, x => !hT t x
  | .al ts, x => hAll ts x
  | .so ts, x => hSom ts x
def hAll : List Cnd → LS → Bool
  | [], _ => true
  | t :: ts, x => hT t x && hAll ts x
def hSom : List Cnd → LS → Bool
  | [], _ => false
  | t :: ts, x => hT t x || hSom ts x
end
mutual
theorem CdAt.same {κ : A8} {H H' : Hp} (s : Same H H') : ∀ {v : V} (t : Cnd), CdAt κ H v t → CdAt κ H' v t
  | v, .at c, h => by
    unfold CdAt at h ⊢
    obtain ⟨p, dx, e, h⟩ := h
    exact ⟨p, dx, e, s _ _ h⟩
  | v, .no t, h => by
    unfold CdAt at h ⊢
    obtain ⟨p, dx, w, e, h, r⟩ := h
    exact ⟨p, dx, w, e, s _ _ h, CdAt.same s t r⟩
  | v, .al ts, h => by
    unfold CdAt at h ⊢
    obtain ⟨p, dx, l, vs, e, h, g, r⟩ := h
    exact ⟨p, dx, l, vs, e, s _ _ h, s _ _ g, CdsAt.same s ts r⟩
  | v, .so ts, h => by
    unfold CdAt at h ⊢
    obtain ⟨p, dx, l, vs, e, h, g, r⟩ := h
    exact ⟨p, dx, l, vs, e, s _ _ h, s _ _ g, CdsAt.same s ts r⟩
theorem CdsAt.same {κ : A8} {H H' : Hp} (s : Same H H') : ∀ {vs : List V} (ts : List Cnd), CdsAt κ H vs ts → CdsAt κ H' vs ts
  | [], [], _ => by unfold CdsAt; trivial
  | v :: vs, t :: ts, h => by
    unfold CdsAt at h ⊢
    exact ⟨CdAt.same s t h.1, CdsAt.same s ts h.2⟩
  | [], _ :: _, h => by unfold CdsAt at h; exact h.elim
  | _ :: _, [], h => by unfold CdsAt at h; exact h.elim
end
mutual
theorem TrAt.same {H H' : Hp} (s : Same H H') : ∀ {v : V} (t : Cnd), TrAt H v t → TrAt H' v t
  | v, .at .alw, h => by unfold TrAt at h ⊢; obtain ⟨p, e, h⟩ := h; exact ⟨p, e, s _ _ h⟩
  | v, .at (.cau n), h => by unfold TrAt at h ⊢; obtain ⟨p, e, h⟩ := h; exact ⟨p, e, s _ _ h⟩
  | v, .at (.thi n), h => by unfold TrAt at h ⊢; obtain ⟨p, e, h⟩ := h; exact ⟨p, e, s _ _ h⟩
  | v, .at (.day a b), h => by unfold TrAt at h ⊢; obtain ⟨p, e, h⟩ := h; exact ⟨p, e, s _ _ h⟩
  | v, .at (.ovr m), h => by unfold TrAt at h ⊢; obtain ⟨p, e, h⟩ := h; exact ⟨p, e, s _ _ h⟩
  | v, .no t, h => by
    unfold TrAt at h ⊢
    obtain ⟨p, w, e, h, r⟩ := h
    exact ⟨p, w, e, s _ _ h, TrAt.same s t r⟩
  | v, .al ts, h => by
    unfold TrAt at h ⊢
    obtain ⟨p, l, vs, e, h, g, r⟩ := h
    exact ⟨p, l, vs, e, s _ _ h, s _ _ g, TrsAt.same s ts r⟩
  | v, .so ts, h => by
    unfold TrAt at h ⊢
    obtain ⟨p, l, vs, e, h, g, r⟩ := h
    exact ⟨p, l, vs, e, s _ _ h, s _ _ g, TrsAt.same s ts r⟩
theorem TrsAt.same {H H' : Hp} (s : Same H H') : ∀ {vs : List V} (ts : List Cnd), TrsAt H vs ts → TrsAt H' vs ts
  | [], [], _ => by unfold TrsAt; trivial
  | v :: vs, t :: ts, h => by
    unfold TrsAt at h ⊢
    exact ⟨TrAt.same s t h.1, TrsAt.same s ts h.2⟩
  | [], _ :: _, h => by unfold TrsAt at h; exact h.elim
  | _ :: _, [], h => by unfold TrsAt at h; exact h.elim
end
theorem CdsAt.len {κ : A8} {H : Hp} : ∀ {vs : List V} {ts : List Cnd}, CdsAt κ H vs ts → vs.length = ts.length
  | [], [], _ => rfl
  | v :: vs, t :: ts, h => by
    unfold CdsAt at h
    rw [List.length_cons, List.length_cons, CdsAt.len h.2]
  | [], _ :: _, h => by unfold CdsAt at h; exact h.elim
  | _ :: _, [], h => by unfold CdsAt at h; exact h.elim
theorem TrsAt.len {H : Hp} : ∀ {vs : List V} {ts : List Cnd}, TrsAt H vs ts → vs.length = ts.length
  | [], [], _ => rfl
  | v :: vs, t :: ts, h => by
    unfold TrsAt at h
    rw [List.length_cons, List.length_cons, TrsAt.len h.2]
  | [], _ :: _, h => by unfold TrsAt at h; exact h.elim
  | _ :: _, [], h => by unfold TrsAt at h; exact h.elim
theorem CdsAt.get {κ : A8} {H : Hp} : ∀ {vs : List V} {ts : List Cnd} {i : Nat} {v : V}, CdsAt κ H vs ts → vs[i]? = some v → ∃ t, ts[i]? = some t ∧ CdAt κ H v t
  | [], [], _, _, _, e => by simp at e
  | v :: vs, t :: ts, 0, u, h, e => by
    unfold CdsAt at h
    simp at e
    subst e
    exact ⟨t, rfl, h.1⟩
  | v :: vs, t :: ts, i + 1, u, h, e => by
    unfold CdsAt at h
    obtain ⟨t', e', r⟩ := CdsAt.get (i := i) h.2 (by simpa using e)
    exact ⟨t', by simpa using e', r⟩
  | [], _ :: _, _, _, h, _ => by unfold CdsAt at h; exact h.elim
  | _ :: _, [], _, _, h, _ => by unfold CdsAt at h; exact h.elim
theorem TrsAt.get {H : Hp} : ∀ {vs : List V} {ts : List Cnd} {i : Nat} {v : V}, TrsAt H vs ts → vs[i]? = some v → ∃ t, ts[i]? = some t ∧ TrAt H v t
  | [], [], _, _, _, e => by simp at e
  | v :: vs, t :: ts, 0, u, h, e => by
    unfold TrsAt at h
    simp at e
    subst e
    exact ⟨t, rfl, h.1⟩
  | v :: vs, t :: ts, i + 1, u, h, e => by
    unfold TrsAt at h
    obtain ⟨t', e', r⟩ := TrsAt.get (i := i) h.2 (by simpa using e)
    exact ⟨t', by simpa using e', r⟩
  | [], _ :: _, _, _, h, _ => by unfold TrsAt at h; exact h.elim
  | _ :: _, [], _, _, h, _ => by unfold TrsAt at h; exact h.elim
theorem CdsAt.snoc {κ : A8} {H : Hp} : ∀ {vs : List V} {ts : List Cnd} {v : V} {t : Cnd}, CdsAt κ H vs ts → CdAt κ H v t → CdsAt κ H (vs ++ [v]) (ts ++ [t])
  | [], [], v, t, _, r => by
    show CdsAt κ H [v] [t]
    unfold CdsAt
    exact ⟨r, by unfold CdsAt; trivial⟩
  | v :: vs, t :: ts, v', t', h, r => by
    unfold CdsAt at h
    show CdsAt κ H (v :: (vs ++ [v'])) (t :: (ts ++ [t']))
    unfold CdsAt
    exact ⟨h.1, CdsAt.snoc h.2 r⟩
  | [], _ :: _, _, _, h, _ => by unfold CdsAt at h; exact h.elim
  | _ :: _, [], _, _, h, _ => by unfold CdsAt at h; exact h.elim
theorem hgts_le {ts : List Cnd} {t : Cnd} {m : Nat} (h : hgts ts < m) (i : Nat) (e : ts[i]? = some t) : hgt t < m := by
  induction ts generalizing i with
  | nil => simp at e
  | cons u us ih =>
    unfold hgts at h
    cases i with
    | zero => simp at e; subst e; omega
    | succ i => exact ih (by omega) i (by simpa using e)
theorem hgts_of {ts : List Cnd} {m : Nat} (h : ∀ t ∈ ts, hgt t ≤ m) : hgts ts ≤ m := by
  induction ts with
  | nil => unfold hgts; omega
  | cons u us ih =>
    unfold hgts
    have h1 := h u (List.mem_cons_self)
    have h2 := ih fun t ht => h t (List.mem_cons_of_mem _ ht)
    omega
theorem hAll_drop {ts : List Cnd} {t : Cnd} {x : LS} {i : Nat} (e : ts[i]? = some t) : hAll (ts.drop i) x = (hT t x && hAll (ts.drop (i + 1)) x) := by
  rw [List.drop_eq_getElem_cons (List.getElem?_eq_some_iff.mp e).1, (List.getElem?_eq_some_iff.mp e).2, hAll]
theorem hSom_drop {ts : List Cnd} {t : Cnd} {x : LS} {i : Nat} (e : ts[i]? = some t) : hSom (ts.drop i) x = (hT t x || hSom (ts.drop (i + 1)) x) := by
  rw [List.drop_eq_getElem_cons (List.getElem?_eq_some_iff.mp e).1, (List.getElem?_eq_some_iff.mp e).2, hSom]
theorem hAll_map (ts : List Cnd) (x : LS) : hAll ts x = (ts.map fun t => hT t x).all id := by
  induction ts with
  | nil => unfold hAll; rfl
  | cons t ts ih => rw [hAll, ih]; rfl
theorem hSom_map (ts : List Cnd) (x : LS) : hSom ts x = (ts.map fun t => hT t x).any id := by
  induction ts with
  | nil => unfold hSom; rfl
  | cons t ts ih => rw [hSom, ih]; rfl
theorem inV_false (bs : List Bool) : (!inV (.bl false) (bs.map V.bl)) = bs.all id := by
  unfold inV
  induction bs with
  | nil => rfl
  | cons b bs ih =>
    rw [List.map_cons, List.any_cons, List.all_cons, ← ih]
    cases b <;> rfl
theorem inV_true (bs : List Bool) : inV (.bl true) (bs.map V.bl) = bs.any id := by
  unfold inV
  induction bs with
  | nil => rfl
  | cons b bs ih =>
    rw [List.map_cons, List.any_cons, List.any_cons, ← ih]
    cases b <;> rfl
theorem s_fl : ¬ (("first" : Str) = "last") := by decide +kernel
theorem lc_name1 (n : Str) : (fldC (.cau n)).lookup ("name" : Str) = some (.str n) := by unfold fldC; rw [lookup_putF, if_pos rfl]
theorem lc_name2 (n : Str) : (fldC (.thi n)).lookup ("name" : Str) = some (.str n) := by unfold fldC; rw [lookup_putF, if_pos rfl]
theorem lc_last (a b : Int) : (fldC (.day a b)).lookup ("last" : Str) = some (.int b) := by unfold fldC; rw [lookup_putF, if_pos rfl]
theorem lc_first (a b : Int) : (fldC (.day a b)).lookup ("first" : Str) = some (.int a) := by unfold fldC; rw [lookup_putF, if_neg s_fl, lookup_putF, if_pos rfl]
theorem lc_cents (m : Int) : (fldC (.ovr m)).lookup ("cents" : Str) = some (.int m) := by unfold fldC; rw [lookup_putF, if_pos rfl]
theorem lc_put (f : Str) (v : V) : (putF f v []).lookup f = some v := by rw [lookup_putF, if_pos rfl]
theorem lc_pno {f g : Str} (h : ¬ g = f) (v : V) : (putF f v []).lookup g = none := by rw [lookup_putF, if_neg h]; rfl
theorem lc_no (c : Co) {m : Str} (h1 : ¬ m = "name") (h2 : ¬ m = "first") (h3 : ¬ m = "last") (h4 : ¬ m = "cents") : (fldC c).lookup m = none := by
  cases c with
  | alw => rfl
  | cau n => unfold fldC; rw [lookup_putF, if_neg h1]; rfl
  | thi n => unfold fldC; rw [lookup_putF, if_neg h1]; rfl
  | day a b => unfold fldC; rw [lookup_putF, if_neg h3, lookup_putF, if_neg h2]; rfl
  | ovr m => unfold fldC; rw [lookup_putF, if_neg h4]; rfl
theorem CdAt.obj {κ : A8} {H : Hp} {v : V} {t : Cnd} (h : CdAt κ H v t) : ∃ p dx fs, v = .ref p ∧ H p = some (.ins (κ.of t) dx fs) ∧
    fs.lookup ("holds" : Str) = none ∧ fs.lookup ("rank" : Str) = none ∧ fs.lookup ("words" : Str) = none ∧ fs.lookup ("marks" : Str) = none := by
  cases t with
  | «at» c =>
    unfold CdAt at h
    obtain ⟨p, dx, e, h⟩ := h
    exact ⟨p, dx, _, e, h, lc_no c (by decide +kernel) (by decide +kernel) (by decide +kernel) (by decide +kernel), lc_no c (by decide +kernel) (by decide +kernel) (by decide +kernel) (by decide +kernel), lc_no c (by decide +kernel) (by decide +kernel) (by decide +kernel) (by decide +kernel), lc_no c (by decide +kernel) (by decide +kernel) (by decide +kernel) (by decide +kernel)⟩
  | no t =>
    unfold CdAt at h
    obtain ⟨p, dx, w, e, h, _⟩ := h
    exact ⟨p, dx, _, e, h, lc_pno (by decide +kernel) _, lc_pno (by decide +kernel) _, lc_pno (by decide +kernel) _, lc_pno (by decide +kernel) _⟩
  | al ts =>
    unfold CdAt at h
    obtain ⟨p, dx, l, vs, e, h, _⟩ := h
    exact ⟨p, dx, _, e, h, lc_pno (by decide +kernel) _, lc_pno (by decide +kernel) _, lc_pno (by decide +kernel) _, lc_pno (by decide +kernel) _⟩
  | so ts =>
    unfold CdAt at h
    obtain ⟨p, dx, l, vs, e, h, _⟩ := h
    exact ⟨p, dx, _, e, h, lc_pno (by decide +kernel) _, lc_pno (by decide +kernel) _, lc_pno (by decide +kernel) _, lc_pno (by decide +kernel) _⟩
def Nw (H H' : Hp) : Hp := fun b => match H b with
  | none => H' b
  | some _ => none
theorem Nw.of {H H' : Hp} {b : Addr} {o : HO} (h : H b = none) (e : H' b = some o) : Nw H H' b = some o := by
  unfold Nw
  rw [h]
  exact e
theorem Nw.at {H H' : Hp} {b : Addr} {o : HO} (e : Nw H H' b = some o) : H b = none ∧ H' b = some o := by
  unfold Nw at e
  cases h : H b with
  | none => rw [h] at e; exact ⟨rfl, e⟩
  | some o' => rw [h] at e; cases e
theorem Nw.sub (H H' : Hp) : Same (Nw H H') H' := fun b o e => (Nw.at e).2
theorem Nw.later {H H1 H2 : Hp} (s : Same H H1) : Same (Nw H1 H2) (Nw H H2) := fun b o e => Nw.of (s.free (Nw.at e).1) (Nw.at e).2
theorem Nw.grow {H H1 H2 : Hp} (s : ∀ b o, H b = none → H1 b = some o → H2 b = some o) : Same (Nw H H1) (Nw H H2) := fun b o e => Nw.of (Nw.at e).1 (s b o (Nw.at e).1 (Nw.at e).2)
def LsAt (H : Hp) (t : Addr) (x : LS) : Prop := ∃ ev, ∃ n : Int, H t = some (.tup [.int n, .int x.d, .str ev, .str x.th, .str x.ca, .int x.ct])
def prec : Cnd → Int
  | .al _ => 2
  | .so _ => 1
  | _ => 3
def tagC : Cnd → Str
  | .at .alw => "always"
  | .at (.cau _) => "cause"
  | .at (.thi _) => "thing"
  | .at (.day _ _) => "days"
  | .at (.ovr _) => "over"
  | .no _ => "not"
  | .al _ => "all"
  | .so _ => "some"
mutual
def sizeT : Cnd → Int
  | .at .alw => 1
  | .at (.cau _) => 2
  | .at (.thi _) => 2
  | .at (.day _ _) => 3
  | .at (.ovr _) => 2
  | .no t => (if prec t < 3 then sizeT t + 2 else sizeT t) + 1
  | .al ts => (ts.length : Int) - 1 + sizesT 3 ts
  | .so ts => (ts.length : Int) - 1 + sizesT 2 ts
def sizesT (m : Int) : List Cnd → Int
  | [] => 0
  | t :: ts => (if prec t < m then sizeT t + 2 else sizeT t) + sizesT m ts
end
mutual
def okT (φ : Co → Prop) : Cnd → Prop
  | .at c => φ c
  | .no t => okT φ t
  | .al ts => 2 ≤ ts.length ∧ ts.length ≤ 8 ∧ okTs φ ts
  | .so ts => 2 ≤ ts.length ∧ ts.length ≤ 8 ∧ okTs φ ts
def okTs (φ : Co → Prop) : List Cnd → Prop
  | [] => True
  | t :: ts => okT φ t ∧ okTs φ ts
end
theorem okTs_of {φ : Co → Prop} {ts : List Cnd} (h : ∀ t ∈ ts, okT φ t) : okTs φ ts := by
  induction ts with
  | nil => unfold okTs; trivial
  | cons t ts ih => unfold okTs; exact ⟨h t List.mem_cons_self, ih fun u hu => h u (List.mem_cons_of_mem _ hu)⟩
theorem okTs_at {φ : Co → Prop} {ts : List Cnd} (h : okTs φ ts) : ∀ t ∈ ts, okT φ t := by
  induction ts with
  | nil => intro t ht; cases ht
  | cons t ts ih =>
    unfold okTs at h
    intro u hu
    rcases List.mem_cons.mp hu with rfl | hu
    · exact h.1
    · exact ih h.2 u hu
theorem TrAt.tag {H : Hp} {v : V} {t : Cnd} (h : TrAt H v t) : ∃ p xs, v = .ref p ∧ H p = some (.tup (.str (tagC t) :: xs)) := by
  cases t with
  | «at» c =>
    cases c <;> (unfold TrAt at h; obtain ⟨p, e, h⟩ := h; exact ⟨p, _, e, h⟩)
  | no t => unfold TrAt at h; obtain ⟨p, w, e, h, _⟩ := h; exact ⟨p, _, e, h⟩
  | al ts => unfold TrAt at h; obtain ⟨p, l, vs, e, h, _⟩ := h; exact ⟨p, _, e, h⟩
  | so ts => unfold TrAt at h; obtain ⟨p, l, vs, e, h, _⟩ := h; exact ⟨p, _, e, h⟩
inductive Each (R : V → Cnd → Prop) : List V → List Cnd → Prop
  | nil : Each R [] []
  | cons {v t vs ts} : R v t → Each R vs ts → Each R (v :: vs) (t :: ts)
section
variable {R R' : V → Cnd → Prop} {vs ws : List V} {ts us : List Cnd}
theorem Each.app (h : Each R vs ts) (g : Each R ws us) : Each R (vs ++ ws) (ts ++ us) := by
  induction h with
  | nil => exact g
  | cons r _ ih => exact .cons r ih
end
theorem Each.trs {H : Hp} {vs : List V} {ts : List Cnd} (h : Each (TrAt H) vs ts) : TrsAt H vs ts := by
  induction h with
  | nil => unfold TrsAt; trivial
  | cons r _ ih => unfold TrsAt; exact ⟨r, ih⟩
theorem tag_prec (t : Cnd) : (valV (mergeK [] [(Sum.inr "all", V.int 2), (Sum.inr "some", V.int 1)]) (Sum.inr (tagC t))).getD (V.int 3) = .int (prec t) := by
  cases t with
  | «at» c => cases c <;> rfl
  | no _ => rfl
  | al _ => rfl
  | so _ => rfl
def sizeC : Co → Int
  | .alw => 1
  | .day _ _ => 3
  | _ => 2
theorem sizeC_eq (c : Co) : sizeT (.at c) = sizeC c := by cases c <;> (unfold sizeT; rfl)
theorem cut_last (xs : List V) {k : Nat} (h1 : 1 ≤ k) (h : k ≤ xs.length) : cutV xs (some (-(k : Int))) none = xs.drop (xs.length - k) := by
  unfold cutV
  have e : HT.sIx xs.length 0 (some (-(k : Int))) = xs.length - k := by
    show (if -(k : Int) < 0 then (-(k : Int) + (xs.length : Int)).toNat else min (-(k : Int)).toNat xs.length) = _
    rw [if_pos (by omega)]
    omega
  rw [e, HT.sIx_none, List.take_of_length_le (by rw [List.length_drop]; omega)]
theorem cut_first (xs : List V) {k : Nat} (h : k ≤ xs.length) : cutV xs none (some (k : Int)) = xs.take k := by
  unfold cutV
  rw [HT.sIx_none, HT.sIx_nat, List.drop_zero, Nat.sub_zero, Nat.min_eq_left h]
theorem joinS {c : Prop} {inst : Decidable c} {t u : TS} {D : Ends} {σ : St} {H : Hp} (G : St → Hp → Prop)
    (h1 : c → ∀ N : St → Hp → Prop, (∀ σ' H', G σ' H' → N σ' H') → t { D with nx := N } σ H) (h2 : ¬ c → ∀ N : St → Hp → Prop, (∀ σ' H', G σ' H' → N σ' H') → u { D with nx := N } σ H)
    (R : ∀ σ' H', G σ' H' → D.nx σ' H') : @ite Prop c inst (t D σ H) (u D σ H) := by
  by_cases z : c
  · rw [if_pos z]; exact h1 z _ R
  · rw [if_neg z]; exact h2 z _ R
end L2
namespace L2
open PySem PySem.Spec PyProof.Rows
abbrev Mrk := Str × V
def marksC : Co → List Mrk
  | .alw => []
  | .cau n => [("cause", .str n)]
  | .thi n => [("thing", .str n)]
  | .day a b => [("day", .int a), ("day", .int (b + 1))]
  | .ovr m => [("cents", .int m)]
mutual
def marksT : Cnd → List Mrk
  | .at c => marksC c
  | .no t => marksT t
  | .al ts => marksTs ts
  | .so ts => marksTs ts
def marksTs : List Cnd → List Mrk
  | [] => []
  | t :: ts => marksT t ++ marksTs ts
end
mutual
theorem marks_size {φ : Co → Prop} : ∀ t : Cnd, okT φ t → ((marksT t).length : Int) ≤ sizeT t
  | .at c, _ => by cases c <;> (unfold marksT sizeT; simp [marksC])
  | .no t, h => by
    unfold okT at h
    have := marks_size t h
    unfold marksT
    rw [sizeT]
    split <;> omega
  | .al ts, h => by
    unfold okT at h
    have := marks_sizes 3 ts h.2.2
    unfold marksT
    rw [sizeT]
    omega
  | .so ts, h => by
    unfold okT at h
    have := marks_sizes 2 ts h.2.2
    unfold marksT
    rw [sizeT]
    omega
theorem marks_sizes {φ : Co → Prop} (m : Int) : ∀ ts : List Cnd, okTs φ ts → ((marksTs ts).length : Int) ≤ sizesT m ts
  | [], _ => by unfold marksTs sizesT; decide
  | t :: ts, h => by
    unfold okTs at h
    have h1 := marks_size t h.1
    have h2 := marks_sizes m ts h.2
    unfold marksTs
    rw [sizesT, List.length_append]
    split <;> omega
end
end L2
namespace L2
open PySem PySem.Spec PyProof.Rows
def tailL (b : Str) : List (List Str) → List Str
  | [] => []
  | w :: ws => b :: (w ++ tailL b ws)
def joinL (b : Str) : List (List Str) → List Str
  | [] => []
  | w :: ws => w ++ tailL b ws
theorem tailL_snoc (b : Str) (ws : List (List Str)) (w : List Str) : tailL b (ws ++ [w]) = tailL b ws ++ b :: w := by
  induction ws with
  | nil => show b :: (w ++ []) = b :: w; rw [List.append_nil]
  | cons v vs ih => rw [List.cons_append, tailL, ih, tailL, List.cons_append, List.append_assoc]
theorem joinL_snoc (b : Str) {ws : List (List Str)} (h : ws ≠ []) (w : List Str) : joinL b (ws ++ [w]) = joinL b ws ++ b :: w := by
  cases ws with
  | nil => exact absurd rfl h
  | cons v vs => rw [List.cons_append, joinL, tailL_snoc, joinL, List.append_assoc]
mutual
inductive Spl (wc : Co → List Str) (φ : Co → Prop) : Nat → List Str → Cnd → Nat → Prop
  | leaf {c d} : φ c → Spl wc φ 0 (wc c) (.at c) d
  | no {ws t d} : Spl wc φ 0 ws t d → Spl wc φ 0 (Str.ofString "not" :: ws) (.no t) (d + 1)
  | br {ws t d} : Spl wc φ 2 ws t d → Spl wc φ 0 (Str.ofString "(" :: (ws ++ [Str.ofString ")"])) t (d + 1)
  | row1 {ws t d} : Spl wc φ 0 ws t d → Spl wc φ 1 ws t d
  | rowN {wss ts d} : Spls wc φ 0 wss ts d → 2 ≤ ts.length → ts.length ≤ 8 → Spl wc φ 1 (joinL (Str.ofString "and") wss) (.al ts) d
  | rows1 {ws t d} : Spl wc φ 1 ws t d → Spl wc φ 2 ws t d
  | rowsN {wss ts d} : Spls wc φ 1 wss ts d → 2 ≤ ts.length → ts.length ≤ 8 → Spl wc φ 2 (joinL (Str.ofString "or") wss) (.so ts) d
inductive Spls (wc : Co → List Str) (φ : Co → Prop) : Nat → List (List Str) → List Cnd → Nat → Prop
  | nil {k d} : Spls wc φ k [] [] d
  | cons {k ws t d' wss ts d} : Spl wc φ k ws t d' → d' ≤ d → Spls wc φ k wss ts d → Spls wc φ k (ws :: wss) (t :: ts) d
end
theorem Spls.len {wc : Co → List Str} {φ : Co → Prop} {k : Nat} : ∀ {wss : List (List Str)} {ts : List Cnd} {d : Nat}, Spls wc φ k wss ts d → wss.length = ts.length
  | _, _, _, .nil => rfl
  | _, _, _, .cons _ _ h => by rw [List.length_cons, List.length_cons, Spls.len h]
theorem Spls.get {wc : Co → List Str} {φ : Co → Prop} {k : Nat} : ∀ {wss : List (List Str)} {ts : List Cnd} {d : Nat}, Spls wc φ k wss ts d → ∀ {i : Nat} {t : Cnd}, ts[i]? = some t → ∃ ws d', wss[i]? = some ws ∧ d' ≤ d ∧ Spl wc φ k ws t d'
  | _, _, _, .nil, _, _, e => by simp at e
  | _, _, _, .cons (ws := ws) (d' := d') h hd _, 0, _, e => by
    simp at e
    subst e
    exact ⟨ws, d', rfl, hd, h⟩
  | _, _, _, .cons _ _ h, i + 1, _, e => by
    obtain ⟨ws, d', e1, e2, e3⟩ := Spls.get h (i := i) (by simpa using e)
    exact ⟨ws, d', by simpa using e1, e2, e3⟩
mutual
def wordsT (wc : Co → List Str) : Cnd → List Str
  | .at c => wc c
  | .no t => Str.ofString "not" :: (if prec t < 3 then Str.ofString "(" :: (wordsT wc t ++ [Str.ofString ")"]) else wordsT wc t)
  | .al ts => joinL (Str.ofString "and") (innerT wc 3 ts)
  | .so ts => joinL (Str.ofString "or") (innerT wc 2 ts)
def innerT (wc : Co → List Str) (m : Int) : List Cnd → List (List Str)
  | [] => []
  | t :: ts => (if prec t < m then Str.ofString "(" :: (wordsT wc t ++ [Str.ofString ")"]) else wordsT wc t) :: innerT wc m ts
end
def inn (wc : Co → List Str) (m : Int) (t : Cnd) : List Str := if prec t < m then Str.ofString "(" :: (wordsT wc t ++ [Str.ofString ")"]) else wordsT wc t
theorem innerT_map (wc : Co → List Str) (m : Int) (ts : List Cnd) : innerT wc m ts = ts.map (inn wc m) := by
  induction ts with
  | nil => unfold innerT; rfl
  | cons t ts ih => rw [innerT, ih]; rfl
theorem wordsT_no (wc : Co → List Str) (t : Cnd) : wordsT wc (.no t) = Str.ofString "not" :: inn wc 3 t := by rw [wordsT]; rfl
theorem wordsT_al (wc : Co → List Str) (ts : List Cnd) : wordsT wc (.al ts) = joinL (Str.ofString "and") (ts.map (inn wc 3)) := by rw [wordsT, innerT_map]
theorem wordsT_so (wc : Co → List Str) (ts : List Cnd) : wordsT wc (.so ts) = joinL (Str.ofString "or") (ts.map (inn wc 2)) := by rw [wordsT, innerT_map]
theorem wordsT_at (wc : Co → List Str) (c : Co) : wordsT wc (.at c) = wc c := by rw [wordsT]
section
variable {wc : Co → List Str} {φ : Co → Prop}
end
theorem tailL_len (b : Str) (ws : List (List Str)) : (tailL b ws).length = ws.length + (ws.map List.length).sum := by
  induction ws with
  | nil => rfl
  | cons w ws ih => rw [tailL, List.length_cons, List.length_append, ih, List.length_cons, List.map_cons, List.sum_cons]; omega
mutual
theorem words_len {wc : Co → List Str} {φ : Co → Prop} (hw : ∀ c, φ c → ((wc c).length : Int) = sizeC c) : ∀ t : Cnd, okT φ t → ((wordsT wc t).length : Int) = sizeT t
  | .at c, h => by unfold okT at h; rw [wordsT, sizeC_eq]; exact hw c h
  | .no t, h => by
    unfold okT at h
    have := words_len hw t h
    rw [wordsT, sizeT, List.length_cons]
    split
    · rw [List.length_cons, List.length_append, List.length_singleton]; omega
    · omega
  | .al ts, h => by
    unfold okT at h
    have := inner_len hw 3 ts h.2.2
    rw [wordsT, sizeT]
    cases ts with
    | nil => exact absurd h.1 (by simp)
    | cons t ts =>
      rw [innerT] at this ⊢
      rw [joinL, List.length_append, tailL_len]
      rw [List.map_cons, List.sum_cons] at this
      have l : (innerT wc 3 ts).length = ts.length := by rw [innerT_map, List.length_map]
      rw [List.length_cons]
      omega
  | .so ts, h => by
    unfold okT at h
    have := inner_len hw 2 ts h.2.2
    rw [wordsT, sizeT]
    cases ts with
    | nil => exact absurd h.1 (by simp)
    | cons t ts =>
      rw [innerT] at this ⊢
      rw [joinL, List.length_append, tailL_len]
      rw [List.map_cons, List.sum_cons] at this
      have l : (innerT wc 2 ts).length = ts.length := by rw [innerT_map, List.length_map]
      rw [List.length_cons]
      omega
theorem inner_len {wc : Co → List Str} {φ : Co → Prop} (hw : ∀ c, φ c → ((wc c).length : Int) = sizeC c) (m : Int) : ∀ ts : List Cnd, okTs φ ts → ((((innerT wc m ts).map List.length).sum : Nat) : Int) = sizesT m ts
  | [], _ => by unfold innerT sizesT; rfl
  | t :: ts, h => by
    unfold okTs at h
    have h1 := words_len hw t h.1
    have h2 := inner_len hw m ts h.2
    rw [innerT, sizesT, List.map_cons, List.sum_cons]
    split
    · rw [List.length_cons, List.length_append, List.length_singleton]; omega
    · omega
end
theorem size_pos : ∀ {φ : Co → Prop} (t : Cnd), okT φ t → 1 ≤ sizeT t := by
  intro φ t h
  have := marks_size t h
  cases t with
  | «at» c => rw [sizeC_eq]; cases c <;> simp [sizeC]
  | no t => unfold okT at h; have := marks_size t h; rw [sizeT]; split <;> omega
  | al ts => unfold okT at h; have := marks_sizes 3 ts h.2.2; rw [sizeT]; omega
  | so ts => unfold okT at h; have := marks_sizes 2 ts h.2.2; rw [sizeT]; omega
theorem tailL_all {ψ : Str → Prop} {b : Str} (hb : ψ b) : ∀ {wss : List (List Str)}, (∀ ws ∈ wss, ∀ w ∈ ws, ψ w) → ∀ w ∈ tailL b wss, ψ w
  | [], _ => by intro w hw; cases hw
  | ws :: wss, h => by
    intro w hw
    rw [tailL] at hw
    rcases List.mem_cons.mp hw with rfl | hw
    · exact hb
    · rcases List.mem_append.mp hw with hw | hw
      · exact h ws List.mem_cons_self w hw
      · exact tailL_all hb (fun v hv => h v (List.mem_cons_of_mem _ hv)) w hw
theorem joinL_all {ψ : Str → Prop} {b : Str} (hb : ψ b) {wss : List (List Str)} (h : ∀ ws ∈ wss, ∀ w ∈ ws, ψ w) : ∀ w ∈ joinL b wss, ψ w := by
  cases wss with
  | nil => intro w hw; cases hw
  | cons ws wss =>
    intro w hw
    rw [joinL] at hw
    rcases List.mem_append.mp hw with hw | hw
    · exact h ws List.mem_cons_self w hw
    · exact tailL_all hb (fun v hv => h v (List.mem_cons_of_mem _ hv)) w hw
mutual
theorem words_all {wc : Co → List Str} {φ : Co → Prop} {ψ : Str → Prop} (hw : ∀ c, φ c → ∀ w ∈ wc c, ψ w) (k1 : ψ (Str.ofString "not")) (k2 : ψ (Str.ofString "(")) (k3 : ψ (Str.ofString ")")) (k4 : ψ (Str.ofString "and")) (k5 : ψ (Str.ofString "or")) : ∀ t : Cnd, okT φ t → ∀ w ∈ wordsT wc t, ψ w
  | .at c, h => by unfold okT at h; rw [wordsT]; exact hw c h
  | .no t, h => by
    unfold okT at h
    have r := words_all hw k1 k2 k3 k4 k5 t h
    rw [wordsT]
    intro w hw'
    rcases List.mem_cons.mp hw' with rfl | hw'
    · exact k1
    · split at hw'
      · rcases List.mem_cons.mp hw' with rfl | hw'
        · exact k2
        · rcases List.mem_append.mp hw' with hw' | hw'
          · exact r w hw'
          · rw [List.mem_singleton.mp hw']; exact k3
      · exact r w hw'
  | .al ts, h => by
    unfold okT at h
    rw [wordsT]
    exact joinL_all k4 (inner_all hw k1 k2 k3 k4 k5 3 ts h.2.2)
  | .so ts, h => by
    unfold okT at h
    rw [wordsT]
    exact joinL_all k5 (inner_all hw k1 k2 k3 k4 k5 2 ts h.2.2)
theorem inner_all {wc : Co → List Str} {φ : Co → Prop} {ψ : Str → Prop} (hw : ∀ c, φ c → ∀ w ∈ wc c, ψ w) (k1 : ψ (Str.ofString "not")) (k2 : ψ (Str.ofString "(")) (k3 : ψ (Str.ofString ")")) (k4 : ψ (Str.ofString "and")) (k5 : ψ (Str.ofString "or")) (m : Int) : ∀ ts : List Cnd, okTs φ ts → ∀ ws ∈ innerT wc m ts, ∀ w ∈ ws, ψ w
  | [], _ => by unfold innerT; intro ws hws; cases hws
  | t :: ts, h => by
    unfold okTs at h
    have r := words_all hw k1 k2 k3 k4 k5 t h.1
    have rs := inner_all hw k1 k2 k3 k4 k5 m ts h.2
    rw [innerT]
    intro ws hws w hw'
    rcases List.mem_cons.mp hws with rfl | hws
    · split at hw'
      · rcases List.mem_cons.mp hw' with rfl | hw'
        · exact k2
        · rcases List.mem_append.mp hw' with hw' | hw'
          · exact r w hw'
          · rw [List.mem_singleton.mp hw']; exact k3
      · exact r w hw'
    · exact rs ws hws w hw'
end
end L2
namespace CRL
open PySem L2
def top (i : Nat) : Stmt := PySem.Challenge.pw_coverroll_k24_conditions_read.main.body.getD i (.Pass ⟨0, 0, 0, 0⟩)
abbrev s_is_whole : Stmt := top 9
abbrev s_has_figures_alone : Stmt := top 10
abbrev s_writes_whole : Stmt := top 11
abbrev s_is_cents_part : Stmt := top 12
abbrev s_read_cents : Stmt := top 13
abbrev s_show_cents : Stmt := top 14
abbrev s_has_letters_alone : Stmt := top 23
abbrev s_is_name : Stmt := top 24
abbrev s_is_day : Stmt := top 25
abbrev s_words_within : Stmt := top 30
abbrev s_words_with : Stmt := top 31
abbrev s_Condition_holds : Stmt := inClass (top 32) 0
abbrev s_Condition_words : Stmt := inClass (top 32) 1
abbrev s_Condition_rank : Stmt := inClass (top 32) 2
abbrev s_CauseIs___init__ : Stmt := inClass (top 33) 0
abbrev s_CauseIs_holds : Stmt := inClass (top 33) 1
abbrev s_CauseIs_words : Stmt := inClass (top 33) 2
abbrev s_ThingIs___init__ : Stmt := inClass (top 34) 0
abbrev s_ThingIs_holds : Stmt := inClass (top 34) 1
abbrev s_ThingIs_words : Stmt := inClass (top 34) 2
abbrev s_DaysIn___init__ : Stmt := inClass (top 35) 0
abbrev s_DaysIn_holds : Stmt := inClass (top 35) 1
abbrev s_DaysIn_words : Stmt := inClass (top 35) 2
abbrev s_Over___init__ : Stmt := inClass (top 36) 0
abbrev s_Over_holds : Stmt := inClass (top 36) 1
abbrev s_Over_words : Stmt := inClass (top 36) 2
abbrev s_Not___init__ : Stmt := inClass (top 37) 0
abbrev s_Not_holds : Stmt := inClass (top 37) 1
abbrev s_Not_words : Stmt := inClass (top 37) 2
abbrev s_All___init__ : Stmt := inClass (top 38) 0
abbrev s_All_holds : Stmt := inClass (top 38) 1
abbrev s_All_words : Stmt := inClass (top 38) 2
abbrev s_All_rank : Stmt := inClass (top 38) 3
abbrev s_Some___init__ : Stmt := inClass (top 39) 0
abbrev s_Some_holds : Stmt := inClass (top 39) 1
abbrev s_Some_words : Stmt := inClass (top 39) 2
abbrev s_Some_rank : Stmt := inClass (top 39) 3
abbrev s_day_of : Stmt := top 45
abbrev s_Reader___init__ : Stmt := inClass (top 46) 0
abbrev s_Reader_ahead : Stmt := inClass (top 46) 1
abbrev s_Reader_step : Stmt := inClass (top 46) 2
abbrev s_Reader_read_rows : Stmt := inClass (top 46) 3
abbrev s_Reader_read_row : Stmt := inClass (top 46) 4
abbrev s_Reader_goes_on : Stmt := inClass (top 46) 5
abbrev s_Reader_read_piece : Stmt := inClass (top 46) 6
abbrev s_Reader_read_deeper : Stmt := inClass (top 46) 7
abbrev s_Reader_read_bracket : Stmt := inClass (top 46) 8
abbrev s_Reader_read_name : Stmt := inClass (top 46) 9
abbrev s_Reader_read_days : Stmt := inClass (top 46) 10
abbrev s_Reader_read_day : Stmt := inClass (top 46) 11
abbrev s_Reader_read_amount : Stmt := inClass (top 46) 12
abbrev s_read_condition : Stmt := top 47
abbrev s_show_condition : Stmt := top 48
abbrev s__law_cell : Stmt := top 50
abbrev s__law_mix : Stmt := top 51
abbrev s__law_name : Stmt := top 53
abbrev s__law_other : Stmt := top 54
abbrev s__law_pools : Stmt := top 55
abbrev s__law_leaf : Stmt := top 56
abbrev s__law_loss : Stmt := top 57
abbrev s__law_holds : Stmt := top 58
abbrev s__law_inner : Stmt := top 59
abbrev s__law_words : Stmt := top 60
abbrev s__law_words_are : Stmt := top 61
abbrev s__law_truth : Stmt := top 62
abbrev s__law_spelt : Stmt := top 63
abbrev s__law_join : Stmt := top 64
abbrev s__law_step : Stmt := top 65
abbrev s__law_text_tree : Stmt := top 66
abbrev s__law_class_is : Stmt := top 67
abbrev s_law : Stmt := top 68
structure Txt (K : PySem.W.Frag) (mg : Str → Option Value) : Prop where
  g_CAUSE : GInt mg "CAUSE" 4
  g_CENTS : GInt mg "CENTS" 5
  g_DAY : GInt mg "DAY" 1
  g_FIGURES : GStr mg "FIGURES" "0123456789"
  g_LAST_DAY : GInt mg "LAST_DAY" 1000000
  g_LETTERS : GStr mg "LETTERS" "abcdefghijklmnopqrstuvwxyz"
  g_LONGEST_NAME : GInt mg "LONGEST_NAME" 8
  g_MOST_DAY_FIGURES : GInt mg "MOST_DAY_FIGURES" 7
  g_MOST_IN_ROW : GInt mg "MOST_IN_ROW" 8
  g_MOST_OPEN : GInt mg "MOST_OPEN" 6
  g_MOST_WHOLE_FIGURES : GInt mg "MOST_WHOLE_FIGURES" 10
  g_MOST_WORDS : GInt mg "MOST_WORDS" 60
  g_RANK_OF_ALL : GInt mg "RANK_OF_ALL" 2
  g_RANK_OF_OTHERS : GInt mg "RANK_OF_OTHERS" 3
  g_RANK_OF_SOME : GInt mg "RANK_OF_SOME" 1
  g_THING : GInt mg "THING" 3
  n_bool : mg "bool" = none
  n_enumerate : mg "enumerate" = none
  n_int : mg "int" = none
  n_isinstance : mg "isinstance" = none
  n_len : mg "len" = none
  n_list : mg "list" = none
  n_max : mg "max" = none
  n_min : mg "min" = none
  n_range : mg "range" = none
  n_sorted : mg "sorted" = none
  n_str : mg "str" = none
structure Xc (K : PySem.W.Frag) (mg : Str → Option Value) (C_CoverError C_NoAmount C_NoWords C_TooDeep : Addr) : Prop where
  a_CoverError : mg "CoverError" = some (.ref C_CoverError)
  a_NoAmount : mg "NoAmount" = some (.ref C_NoAmount)
  a_NoWords : mg "NoWords" = some (.ref C_NoWords)
  a_TooDeep : mg "TooDeep" = some (.ref C_TooDeep)
structure Kl (K : PySem.W.Frag) (mg : Str → Option Value) (C_Condition C_CauseIs C_ThingIs C_DaysIn C_Over C_Not C_All C_Some C_Reader : Addr) : Prop where
  mg_Condition : mg "Condition" = some (.ref C_Condition)
  cl_Condition : Cls K C_Condition
  ty_Condition : ∀ {H : Hp} {a dx : Addr} {fs : List (Str × V)}, H a = some (.ins C_Condition dx fs) → TyOf K H (.ref a) (.ref C_Condition)
  mg_CauseIs : mg "CauseIs" = some (.ref C_CauseIs)
  cl_CauseIs : Cls K C_CauseIs
  na_CauseIs_name : NoAttr K C_CauseIs "name"
  ty_CauseIs : ∀ {H : Hp} {a dx : Addr} {fs : List (Str × V)}, H a = some (.ins C_CauseIs dx fs) → TyOf K H (.ref a) (.ref C_CauseIs)
  mg_ThingIs : mg "ThingIs" = some (.ref C_ThingIs)
  cl_ThingIs : Cls K C_ThingIs
  na_ThingIs_name : NoAttr K C_ThingIs "name"
  ty_ThingIs : ∀ {H : Hp} {a dx : Addr} {fs : List (Str × V)}, H a = some (.ins C_ThingIs dx fs) → TyOf K H (.ref a) (.ref C_ThingIs)
  mg_DaysIn : mg "DaysIn" = some (.ref C_DaysIn)
  cl_DaysIn : Cls K C_DaysIn
  na_DaysIn_first : NoAttr K C_DaysIn "first"
  na_DaysIn_last : NoAttr K C_DaysIn "last"
  ty_DaysIn : ∀ {H : Hp} {a dx : Addr} {fs : List (Str × V)}, H a = some (.ins C_DaysIn dx fs) → TyOf K H (.ref a) (.ref C_DaysIn)
  mg_Over : mg "Over" = some (.ref C_Over)
  cl_Over : Cls K C_Over
  na_Over_cents : NoAttr K C_Over "cents"
  ty_Over : ∀ {H : Hp} {a dx : Addr} {fs : List (Str × V)}, H a = some (.ins C_Over dx fs) → TyOf K H (.ref a) (.ref C_Over)
  mg_Not : mg "Not" = some (.ref C_Not)
  cl_Not : Cls K C_Not
  na_Not_part : NoAttr K C_Not "part"
  ty_Not : ∀ {H : Hp} {a dx : Addr} {fs : List (Str × V)}, H a = some (.ins C_Not dx fs) → TyOf K H (.ref a) (.ref C_Not)
  mg_All : mg "All" = some (.ref C_All)
  cl_All : Cls K C_All
  na_All_several : NoAttr K C_All "several"
  ty_All : ∀ {H : Hp} {a dx : Addr} {fs : List (Str × V)}, H a = some (.ins C_All dx fs) → TyOf K H (.ref a) (.ref C_All)
  mg_Some : mg "Some" = some (.ref C_Some)
  cl_Some : Cls K C_Some
  na_Some_several : NoAttr K C_Some "several"
  ty_Some : ∀ {H : Hp} {a dx : Addr} {fs : List (Str × V)}, H a = some (.ins C_Some dx fs) → TyOf K H (.ref a) (.ref C_Some)
  mg_Reader : mg "Reader" = some (.ref C_Reader)
  cl_Reader : Cls K C_Reader
  na_Reader_row : NoAttr K C_Reader "row"
  na_Reader_place : NoAttr K C_Reader "place"
  na_Reader_depth : NoAttr K C_Reader "depth"
  kt_Condition_Condition : PySem.W.kitOne K (.ref C_Condition) (.ref C_Condition) = some true
  kt_Condition_CauseIs : PySem.W.kitOne K (.ref C_Condition) (.ref C_CauseIs) = some false
  kt_Condition_ThingIs : PySem.W.kitOne K (.ref C_Condition) (.ref C_ThingIs) = some false
  kt_Condition_DaysIn : PySem.W.kitOne K (.ref C_Condition) (.ref C_DaysIn) = some false
  kt_Condition_Over : PySem.W.kitOne K (.ref C_Condition) (.ref C_Over) = some false
  kt_Condition_Not : PySem.W.kitOne K (.ref C_Condition) (.ref C_Not) = some false
  kt_Condition_All : PySem.W.kitOne K (.ref C_Condition) (.ref C_All) = some false
  kt_Condition_Some : PySem.W.kitOne K (.ref C_Condition) (.ref C_Some) = some false
  kt_CauseIs_Condition : PySem.W.kitOne K (.ref C_CauseIs) (.ref C_Condition) = some true
  kt_CauseIs_CauseIs : PySem.W.kitOne K (.ref C_CauseIs) (.ref C_CauseIs) = some true
  kt_CauseIs_ThingIs : PySem.W.kitOne K (.ref C_CauseIs) (.ref C_ThingIs) = some false
  kt_CauseIs_DaysIn : PySem.W.kitOne K (.ref C_CauseIs) (.ref C_DaysIn) = some false
  kt_CauseIs_Over : PySem.W.kitOne K (.ref C_CauseIs) (.ref C_Over) = some false
  kt_CauseIs_Not : PySem.W.kitOne K (.ref C_CauseIs) (.ref C_Not) = some false
  kt_CauseIs_All : PySem.W.kitOne K (.ref C_CauseIs) (.ref C_All) = some false
  kt_CauseIs_Some : PySem.W.kitOne K (.ref C_CauseIs) (.ref C_Some) = some false
  kt_ThingIs_Condition : PySem.W.kitOne K (.ref C_ThingIs) (.ref C_Condition) = some true
  kt_ThingIs_CauseIs : PySem.W.kitOne K (.ref C_ThingIs) (.ref C_CauseIs) = some false
  kt_ThingIs_ThingIs : PySem.W.kitOne K (.ref C_ThingIs) (.ref C_ThingIs) = some true
  kt_ThingIs_DaysIn : PySem.W.kitOne K (.ref C_ThingIs) (.ref C_DaysIn) = some false
  kt_ThingIs_Over : PySem.W.kitOne K (.ref C_ThingIs) (.ref C_Over) = some false
  kt_ThingIs_Not : PySem.W.kitOne K (.ref C_ThingIs) (.ref C_Not) = some false
  kt_ThingIs_All : PySem.W.kitOne K (.ref C_ThingIs) (.ref C_All) = some false
  kt_ThingIs_Some : PySem.W.kitOne K (.ref C_ThingIs) (.ref C_Some) = some false
  kt_DaysIn_Condition : PySem.W.kitOne K (.ref C_DaysIn) (.ref C_Condition) = some true
  kt_DaysIn_CauseIs : PySem.W.kitOne K (.ref C_DaysIn) (.ref C_CauseIs) = some false
  kt_DaysIn_ThingIs : PySem.W.kitOne K (.ref C_DaysIn) (.ref C_ThingIs) = some false
  kt_DaysIn_DaysIn : PySem.W.kitOne K (.ref C_DaysIn) (.ref C_DaysIn) = some true
  kt_DaysIn_Over : PySem.W.kitOne K (.ref C_DaysIn) (.ref C_Over) = some false
  kt_DaysIn_Not : PySem.W.kitOne K (.ref C_DaysIn) (.ref C_Not) = some false
  kt_DaysIn_All : PySem.W.kitOne K (.ref C_DaysIn) (.ref C_All) = some false
  kt_DaysIn_Some : PySem.W.kitOne K (.ref C_DaysIn) (.ref C_Some) = some false
  kt_Over_Condition : PySem.W.kitOne K (.ref C_Over) (.ref C_Condition) = some true
  kt_Over_CauseIs : PySem.W.kitOne K (.ref C_Over) (.ref C_CauseIs) = some false
  kt_Over_ThingIs : PySem.W.kitOne K (.ref C_Over) (.ref C_ThingIs) = some false
  kt_Over_DaysIn : PySem.W.kitOne K (.ref C_Over) (.ref C_DaysIn) = some false
  kt_Over_Over : PySem.W.kitOne K (.ref C_Over) (.ref C_Over) = some true
  kt_Over_Not : PySem.W.kitOne K (.ref C_Over) (.ref C_Not) = some false
  kt_Over_All : PySem.W.kitOne K (.ref C_Over) (.ref C_All) = some false
  kt_Over_Some : PySem.W.kitOne K (.ref C_Over) (.ref C_Some) = some false
  kt_Not_Condition : PySem.W.kitOne K (.ref C_Not) (.ref C_Condition) = some true
  kt_Not_CauseIs : PySem.W.kitOne K (.ref C_Not) (.ref C_CauseIs) = some false
  kt_Not_ThingIs : PySem.W.kitOne K (.ref C_Not) (.ref C_ThingIs) = some false
  kt_Not_DaysIn : PySem.W.kitOne K (.ref C_Not) (.ref C_DaysIn) = some false
  kt_Not_Over : PySem.W.kitOne K (.ref C_Not) (.ref C_Over) = some false
  kt_Not_Not : PySem.W.kitOne K (.ref C_Not) (.ref C_Not) = some true
  kt_Not_All : PySem.W.kitOne K (.ref C_Not) (.ref C_All) = some false
  kt_Not_Some : PySem.W.kitOne K (.ref C_Not) (.ref C_Some) = some false
  kt_All_Condition : PySem.W.kitOne K (.ref C_All) (.ref C_Condition) = some true
  kt_All_CauseIs : PySem.W.kitOne K (.ref C_All) (.ref C_CauseIs) = some false
  kt_All_ThingIs : PySem.W.kitOne K (.ref C_All) (.ref C_ThingIs) = some false
  kt_All_DaysIn : PySem.W.kitOne K (.ref C_All) (.ref C_DaysIn) = some false
  kt_All_Over : PySem.W.kitOne K (.ref C_All) (.ref C_Over) = some false
  kt_All_Not : PySem.W.kitOne K (.ref C_All) (.ref C_Not) = some false
  kt_All_All : PySem.W.kitOne K (.ref C_All) (.ref C_All) = some true
  kt_All_Some : PySem.W.kitOne K (.ref C_All) (.ref C_Some) = some false
  kt_Some_Condition : PySem.W.kitOne K (.ref C_Some) (.ref C_Condition) = some true
  kt_Some_CauseIs : PySem.W.kitOne K (.ref C_Some) (.ref C_CauseIs) = some false
  kt_Some_ThingIs : PySem.W.kitOne K (.ref C_Some) (.ref C_ThingIs) = some false
  kt_Some_DaysIn : PySem.W.kitOne K (.ref C_Some) (.ref C_DaysIn) = some false
  kt_Some_Over : PySem.W.kitOne K (.ref C_Some) (.ref C_Over) = some false
  kt_Some_Not : PySem.W.kitOne K (.ref C_Some) (.ref C_Not) = some false
  kt_Some_All : PySem.W.kitOne K (.ref C_Some) (.ref C_All) = some false
  kt_Some_Some : PySem.W.kitOne K (.ref C_Some) (.ref C_Some) = some true
  nd : ([C_Condition, C_CauseIs, C_ThingIs, C_DaysIn, C_Over, C_Not, C_All, C_Some, C_Reader] : List Addr).Nodup
theorem dT {c A B : Prop} [Decidable c] (h : c) (q : A) : if decide c = true then A else B := by rw [decide_eq_true h, if_pos rfl]; exact q
theorem dF {c A B : Prop} [Decidable c] (h : ¬ c) (q : B) : if decide c = true then A else B := by rw [decide_eq_false h, if_neg Bool.false_ne_true]; exact q
theorem nT {c A B : Prop} [Decidable c] (h : ¬ c) (q : A) : if (!decide c) = true then A else B := by rw [decide_eq_false h]; exact q
theorem nF {c A B : Prop} [Decidable c] (h : c) (q : B) : if (!decide c) = true then A else B := by rw [decide_eq_true h]; exact q
theorem bT {c : Bool} {A B : Prop} (h : c = true) (q : A) : if c = true then A else B := by rw [if_pos h]; exact q
theorem bF {c : Bool} {A B : Prop} (h : c = false) (q : B) : if c = true then A else B := by rw [if_neg (by rw [h]; exact Bool.false_ne_true)]; exact q
def wholeV : V → Bool
  | .int _ => true
  | _ => false
theorem whole_kit {K : PySem.W.Frag} {H : Hp} {x : V} {T : String} (h : TyOf K H x (.type T)) : ∃ b1 b2, PySem.W.kitOne K (.type T) (.type "int") = some b1 ∧ PySem.W.kitOne K (.type T) (.type "bool") = some b2 ∧ wholeV x = (b1 && !b2) := by
  cases h with
  | non => exact ⟨false, false, by kernel_rfl, by kernel_rfl, rfl⟩
  | bl b => exact ⟨true, true, by kernel_rfl, by kernel_rfl, rfl⟩
  | int i => exact ⟨true, false, by kernel_rfl, by kernel_rfl, rfl⟩
  | str i => exact ⟨false, false, by kernel_rfl, by kernel_rfl, rfl⟩
  | flt i => exact ⟨false, false, by kernel_rfl, by kernel_rfl, rfl⟩
  | lst e => exact ⟨false, false, by kernel_rfl, by kernel_rfl, rfl⟩
  | frz e => exact ⟨false, false, by kernel_rfl, by kernel_rfl, rfl⟩
  | tup e => exact ⟨false, false, by kernel_rfl, by kernel_rfl, rfl⟩
  | dK e => exact ⟨false, false, by kernel_rfl, by kernel_rfl, rfl⟩
  | dT e => exact ⟨false, false, by kernel_rfl, by kernel_rfl, rfl⟩
theorem kit_ll {K : PySem.W.Frag} : PySem.W.kitOne K (.type "list") (.type "list") = some true := by kernel_rfl
def spWhole (K : PySem.W.Frag) : Sp := fun vs H Q _ => ∃ x T, vs = [x] ∧ TyOf K H x (.type T) ∧ Q (.bl (wholeV x)) H
section
variable {P : Program} {w : World} {K : PySem.W.Frag} {mg : Str → Option Value} {base : Heap}
theorem sc_is_whole : FnScope ["thing"] ["thing"] (defScope s_is_whole) := ⟨rfl, rfl, rfl, by decide +kernel, rfl, by decide +kernel, by decide +kernel⟩
theorem ok_is_whole {f : Addr} {fd : FuncData} (F : Fun K "is_whole" "is_whole" s_is_whole f fd) (T : Txt K mg) : FnOk P w K mg base CX0 1 f fd ["thing"] (spWhole K) := by
  have sc := sc_is_whole
  refine F.ok sc (fun vs H Q E h => ?_) (fun cdv A outer s H vs Q E hr h => ?_)
  · obtain ⟨x, T, rfl, _⟩ := h
    rfl
  obtain ⟨x, ty, rfl, hty, q⟩ := h
  refine ⟨_, (pss_one (ps_ret (pe_and (pe_callB call_isinst rfl T.n_isinstance (show bootBuiltins _ = some (.builtin "isinstance") from rfl) (pa_cons (pv 0) (pa_cons (pe_ty "int" rfl T.n_int rfl) pa_nil))) (pe_one (pe_not (pe_callB call_isinst rfl T.n_isinstance (show bootBuiltins _ = some (.builtin "isinstance") from rfl) (pa_cons (pv 0) (pa_cons (pe_ty "bool" rfl T.n_bool rfl) pa_nil)))))))), ?_⟩
  obtain ⟨b1, b2, k1, k2, e⟩ := whole_kit hty
  rw [e] at q
  refine ⟨_, rfl, _, _, _, _, _, rfl, ty_is, hty, k1, _, rfl, ?_⟩
  cases b1 with
  | false => exact q
  | true => exact ⟨_, rfl, _, _, _, _, _, rfl, ty_is, hty, k2, _, rfl, q⟩
end
def letter (c : Nat) : Prop := 97 ≤ c ∧ c ≤ 122
instance : DecidablePred letter := fun c => by unfold letter; exact inferInstance
def AllLet (l : List Nat) : Prop := ∀ c ∈ l, letter c
instance (l : List Nat) : Decidable (AllLet l) := by unfold AllLet; exact inferInstance
def NameL (l : List Nat) : Prop := (1 ≤ l.length ∧ l.length ≤ 8) ∧ AllLet l
instance (l : List Nat) : Decidable (NameL l) := by unfold NameL; exact inferInstance
theorem let_in {c : Nat} : (c ∈ (Str.ofString "abcdefghijklmnopqrstuvwxyz").cps.toList) ↔ letter c := by
  have e : (Str.ofString "abcdefghijklmnopqrstuvwxyz").cps.toList = (List.range 26).map (97 + ·) := by decide +kernel
  rw [e, List.mem_map]
  unfold letter
  constructor
  · rintro ⟨k, hk, rfl⟩
    have := List.mem_range.mp hk
    omega
  · intro h
    exact ⟨c - 97, List.mem_range.mpr (by omega), by omega⟩
def isStrV : V → Bool
  | .str _ => true
  | _ => false
def nameV : V → Bool
  | .str z => decide (NameL z.cps.toList)
  | _ => false
def okX (x : V) : Prop := ∀ z, x = .str z → z.length ≤ 900
theorem str_kit {K : PySem.W.Frag} {H : Hp} {x : V} {T : String} (h : TyOf K H x (.type T)) : PySem.W.kitOne K (.type T) (.type "str") = some (isStrV x) := by
  cases h with
  | non => kernel_rfl
  | bl b => kernel_rfl
  | int i => kernel_rfl
  | str i => kernel_rfl
  | flt i => kernel_rfl
  | lst e => kernel_rfl
  | frz e => kernel_rfl
  | tup e => kernel_rfl
  | dK e => kernel_rfl
  | dT e => kernel_rfl
def spLet : Sp := fun vs H Q _ => ∃ l, vs = [.str (tx l)] ∧ Q (.bl (decide (AllLet l))) H
def spName (K : PySem.W.Frag) : Sp := fun vs H Q _ => ∃ x T, vs = [x] ∧ TyOf K H x (.type T) ∧ okX x ∧ Q (.bl (nameV x)) H
theorem okX_of {l : List Nat} (h : l.length ≤ 900) : okX (.str (tx l)) := fun z e => by cases e; rw [tx_len]; exact h
section
seal L2.PS L2.PSs L2.PE
variable {P : Program} {w : World} {K : PySem.W.Frag} {mg : Str → Option Value} {base : Heap}
theorem sc_has_letters_alone : FnScope ["text", "sign"] ["text"] (defScope s_has_letters_alone) := ⟨rfl, rfl, rfl, by decide +kernel, rfl, by decide +kernel, by decide +kernel⟩
theorem ok_has_letters_alone {f : Addr} {fd : FuncData} (F : Fun K "has_letters_alone" "has_letters_alone" s_has_letters_alone f fd) (T : Txt K mg) : FnOk P w K mg base CX0 1 f fd ["text"] spLet := by
  have sc := sc_has_letters_alone
  refine F.ok sc (fun vs H Q E h => ?_) (fun cdv A outer s H vs Q E hr h => ?_)
  · obtain ⟨_, rfl, _⟩ := h
    rfl
  obtain ⟨l, rfl, q⟩ := h
  refine ⟨_, (pss_cons (ps_for PassesOwn.never rfl (pi_str (pv 0)) (pg_name (i := 1) sc.nd rfl (Or.inl rfl))
        (pss_one (ps_if (pt_cmpR op_notIn1 (pv 1) (pe_gstr T.g_LETTERS rfl) rfl)
        (pss_one (ps_ret pe_bl))
        pss_nil)))
      (pss_one (ps_ret pe_bl))), ?_⟩
  refine ⟨_, rfl, _, rfl, for_str (l := l) (fun i σ H2 => ((∃ o, σ = [some (.str (tx l)), o]) ∧ H2 = H) ∧ ∀ j c, j < i → l[j]? = some c → letter c) ⟨⟨⟨none, rfl⟩, rfl⟩, fun _ _ z => absurd z (Nat.not_lt_zero _)⟩ ?_ ?_⟩
  · rintro i c σ H2 hi ⟨⟨⟨o, rfl⟩, rfl⟩, good⟩
    refine ⟨_, rfl, c, _, rfl, rfl, _, rfl, ?_⟩
    by_cases hc : letter c
    · refine nF (let_in.mpr hc) ⟨⟨⟨_, rfl⟩, rfl⟩, fun j d hj hd => ?_⟩
      by_cases e : j = i
      · subst e
        rw [hi] at hd
        cases hd
        exact hc
      · exact good j d (by omega) hd
    · refine nT (fun z => hc (let_in.mp z)) ?_
      have n : ¬ AllLet l := fun z => hc (z c (List.mem_of_getElem? hi))
      rw [decide_eq_false n] at q
      exact q
  · rintro σ H2 ⟨⟨⟨o, rfl⟩, rfl⟩, good⟩
    have all : AllLet l := fun c hc => by
      obtain ⟨j, hj, e⟩ := List.getElem_of_mem hc
      exact good j c hj (by rw [List.getElem?_eq_getElem hj, e])
    rw [decide_eq_true all] at q
    exact q
theorem sc_is_name : FnScope ["thing"] ["thing"] (defScope s_is_name) := ⟨rfl, rfl, rfl, by decide +kernel, rfl, by decide +kernel, by decide +kernel⟩
theorem ok_is_name {f : Addr} {fd : FuncData} (F : Fun K "is_name" "is_name" s_is_name f fd) (T : Txt K mg) (Chas_letters_alone : Cal P w K mg base 1 "has_letters_alone" ["text"] spLet) : FnOk P w K mg base CX0 2 f fd ["thing"] (spName K) := by
  have sc := sc_is_name
  refine F.ok sc (fun vs H Q E h => ?_) (fun cdv A outer s H vs Q E hr h => ?_)
  · obtain ⟨_, _, rfl, _⟩ := h
    rfl
  obtain ⟨x, ty, rfl, hty, ok, q⟩ := h
  refine ⟨_, (pss_cons (ps_if (pt_not (pt_val (pe_callB call_isinst rfl T.n_isinstance (show bootBuiltins _ = some (.builtin "isinstance") from rfl) (pa_cons (pv 0) (pa_cons (pe_ty "str" rfl T.n_str rfl) pa_nil)))))
        (pss_one (ps_ret pe_bl))
        pss_nil)
      (pss_one (ps_ret (pe_and (pe_chain op_le op_le pe_int (pe_callB call_len_str rfl T.n_len (show bootBuiltins _ = some (.builtin "len") from rfl) (pa_cons (pv 0) pa_nil)) (pe_gint T.g_LONGEST_NAME rfl)) (pe_one (pe_callC Chas_letters_alone (hr.mono (by decide)) rfl (pa_cons (pv 0) pa_nil))))))), ?_⟩
  refine ⟨_, rfl, _, _, _, _, _, rfl, ty_is, hty, str_kit hty, _, rfl, ?_⟩
  cases x with
  | str z =>
    have hz := ok z rfl
    have ez : tx z.cps.toList = z := tx_of z
    refine iteF ⟨_, rfl, _, rfl, le_line (by omega), ?_⟩
    have lz : (z.length : Int) = (z.cps.toList.length : Int) := by rw [← tx_len, ez]
    refine ⟨_, _, rfl, rfl, _, rfl, ?_⟩
    by_cases c1 : 1 ≤ (z.length : Int)
    · refine dT c1 ⟨_, _, rfl, rfl, _, rfl, ?_⟩
      by_cases c2 : (z.length : Int) ≤ 8
      · refine dT c2 ⟨_, rfl, z.cps.toList, by rw [ez]; rfl, ?_⟩
        have e : decide (NameL z.cps.toList) = decide (AllLet z.cps.toList) := by
          by_cases a : AllLet z.cps.toList
          · rw [decide_eq_true a, decide_eq_true (show NameL _ from ⟨⟨by omega, by omega⟩, a⟩)]
          · rw [decide_eq_false a, decide_eq_false (fun y => a y.2)]
        rw [← e]
        exact q
      · refine dF c2 ?_
        rw [show nameV (.str z) = false from decide_eq_false (fun y => c2 (by have := y.1.2; omega))] at q
        exact q
    · refine dF c1 ⟨_, rfl, iteF ?_⟩
      rw [show nameV (.str z) = false from decide_eq_false (fun y => c1 (by have := y.1.1; omega))] at q
      exact q
  | _ => exact iteT q
end
def spCellN (K : PySem.W.Frag) : Sp := fun vs H Q _ => ∃ a ns, ∃ k : Int, vs = [.ref a, .int k] ∧ SqL K H a (List.map V.int ns) ∧ 0 ≤ k ∧ k ≤ 1000 ∧ ns.length ≤ 63 ∧ ∀ v : Int, 0 ≤ v → v < 10 ^ 18 → Q (.int v) H
def spMix : Sp := fun vs H Q _ => ∃ n k : Int, vs = [.int n, .int k] ∧ 0 ≤ n ∧ n < 2 ^ 63 ∧ 0 ≤ k ∧ k ≤ 1000 ∧ ∀ v : Int, 0 ≤ v → v < 2147483629 → Q (.int v) H
def spNameOf : Sp := fun vs H Q _ => ∃ n : Int, vs = [.int n] ∧ 0 ≤ n ∧ n < 2 ^ 63 ∧ ∀ l, NameL l → Q (.str (tx l)) H
def spOtherN : Sp := fun vs H Q _ => ∃ l, ∃ n : Int, vs = [.str (tx l), .int n] ∧ NameL l ∧ 0 ≤ n ∧ ∀ m, NameL m → Q (.str (tx m)) H
theorem let_at {i : Int} (h0 : 0 ≤ i) (h : i < 26) : ∃ c, atI (Str.ofString "abcdefghijklmnopqrstuvwxyz").cps.toList i = some c ∧ letter c := by
  have e : (Str.ofString "abcdefghijklmnopqrstuvwxyz").cps.toList = (List.range 26).map (97 + ·) := by decide +kernel
  rw [e]
  obtain ⟨k, rfl⟩ := Int.eq_ofNat_of_zero_le h0
  refine ⟨97 + k, atI_nat (by rw [List.getElem?_map, List.getElem?_range (by omega)]; rfl), ?_⟩
  unfold letter
  omega
theorem vne {i j : Int} (h : i ≠ j) : ¬ V.int i = V.int j := fun z => h (V.int.inj z)
section
seal L2.PS L2.PSs L2.PE
variable {P : Program} {w : World} {K : PySem.W.Frag} {mg : Str → Option Value} {base : Heap}
theorem sc__law_cell : FnScope ["_law_script", "_law_k"] ["_law_script", "_law_k"] (defScope s__law_cell) := ⟨rfl, rfl, rfl, by decide +kernel, rfl, by decide +kernel, by decide +kernel⟩
theorem ok__law_cell {f : Addr} {fd : FuncData} (F : Fun K "_law_cell" "_law_cell" s__law_cell f fd) (T : Txt K mg) : FnOk P w K mg base CX0 1 f fd ["_law_script", "_law_k"] (spCellN K) := by
  have sc := sc__law_cell
  refine F.ok sc (fun vs H Q E h => ?_) (fun cdv A outer s H vs Q E hr h => ?_)
  · obtain ⟨_, _, _, rfl, _⟩ := h
    rfl
  obtain ⟨a, ns, k, rfl, ha, k0, k1, h63, q⟩ := h
  refine ⟨_, (pss_cons (ps_if (pt_cmpR op_lt (pv 1) (pe_callB call_len_seq rfl T.n_len (show bootBuiltins _ = some (.builtin "len") from rfl) (pa_cons (pv 0) pa_nil)) (nomark _))
        (pss_one (ps_ret (pe_op op_mod (pe_ix ix_list (pv 0) (pv 1) (fun _ _ => rfl)) (pe_op op_pow pe_int pe_int))))
        pss_nil)
      (pss_one (ps_ret (pe_op op_mod (pe_op op_add (pe_op op_add (pe_op op_mul (pe_op op_mul (pv 1) (pv 1)) pe_int) (pe_op op_mul pe_int (pe_callB call_len_seq rfl T.n_len (show bootBuiltins _ = some (.builtin "len") from rfl) (pa_cons (pv 0) pa_nil)))) pe_int) pe_int)))), ?_⟩
  refine ⟨_, rfl, _, rfl, a, _, rfl, .inl ha, _, _, rfl, rfl, _, rfl, ?_⟩
  by_cases c : k < ((List.map V.int ns).length : Int)
  · refine dT c ⟨_, rfl, _, rfl, a, _, _, _, rfl, rfl, ha, at_intI k0 (by rw [List.length_map] at c; exact c), _, _, rfl, rfl, ⟨by decide, by decide, by decide⟩, _, _, rfl, rfl, (by show (0 : Int) < 10 ^ (18 : Int).toNat; decide), ?_⟩
    exact q _ (Int.emod_nonneg _ (by decide)) (Int.emod_lt_of_pos _ (by decide))
  · refine dF c ⟨_, rfl, _, rfl, _, _, rfl, rfl, .inl ⟨by omega, by omega⟩, _, _, rfl, rfl, .inr ⟨by decide, by decide⟩, _, rfl, a, _, rfl, .inl ha, _, _, rfl, rfl, .inl ⟨by decide, by decide⟩, _, _, rfl, rfl, _, _, rfl, rfl, _, _, rfl, rfl, (by show (0 : Int) < 2147483647; decide), ?_⟩
    exact q _ (Int.emod_nonneg _ (by decide)) (Int.lt_trans (Int.emod_lt_of_pos _ (by decide)) (by decide))
theorem sc__law_mix : FnScope ["_law_number", "_law_k"] ["_law_number", "_law_k"] (defScope s__law_mix) := ⟨rfl, rfl, rfl, by decide +kernel, rfl, by decide +kernel, by decide +kernel⟩
theorem ok__law_mix {f : Addr} {fd : FuncData} (F : Fun K "_law_mix" "_law_mix" s__law_mix f fd) (T : Txt K mg) : FnOk P w K mg base CX0 1 f fd ["_law_number", "_law_k"] spMix := by
  have sc := sc__law_mix
  refine F.ok sc (fun vs H Q E h => ?_) (fun cdv A outer s H vs Q E hr h => ?_)
  · obtain ⟨_, _, rfl, _⟩ := h
    rfl
  obtain ⟨n, k, rfl, n0, n1, k0, k1, q⟩ := h
  refine ⟨_, (pss_cons (ps_set (i := 0) sc.nd rfl (Or.inl rfl) (pe_op op_mod (pe_op op_add (pe_op op_add (pe_op op_mul (pv 0) pe_int) (pe_op op_mul (pe_op op_mul (pv 1) (pv 1)) pe_int)) pe_int) pe_int))
      (pss_one (ps_ret (pe_op op_mod (pe_op op_mul (pv 0) (pv 0)) pe_int)))), ?_⟩
  refine ⟨_, rfl, _, _, rfl, rfl, .inr ⟨by decide, by decide⟩, _, rfl, _, rfl, _, _, rfl, rfl, .inl ⟨by omega, by omega⟩, _, _, rfl, rfl, .inr ⟨by decide, by decide⟩, _, _, rfl, rfl, _, _, rfl, rfl, _, _, rfl, rfl, (by show (0 : Int) < 2147483647; decide), ?_⟩
  have v0 : 0 ≤ (n * 48271 + k * k * 69621 + 4099) % 2147483647 := Int.emod_nonneg _ (by decide)
  have v1 : (n * 48271 + k * k * 69621 + 4099) % 2147483647 < 2147483647 := Int.emod_lt_of_pos _ (by decide)
  refine ⟨_, rfl, _, rfl, _, _, rfl, rfl, .inl ⟨by omega, by omega⟩, _, _, rfl, rfl, (by show (0 : Int) < 2147483629; decide), ?_⟩
  exact q _ (Int.emod_nonneg _ (by decide)) (Int.emod_lt_of_pos _ (by decide))
theorem sc__law_name : FnScope ["_law_number", "_law_letters", "_law_size", "_law_name_here", "_law_k"] ["_law_number"] (defScope s__law_name) := ⟨rfl, rfl, rfl, by decide +kernel, rfl, by decide +kernel, by decide +kernel⟩
theorem ok__law_name {f : Addr} {fd : FuncData} (F : Fun K "_law_name" "_law_name" s__law_name f fd) (T : Txt K mg) : FnOk P w K mg base CX0 1 f fd ["_law_number"] spNameOf := by
  have sc := sc__law_name
  refine F.ok sc (fun vs H Q E h => ?_) (fun cdv A outer s H vs Q E hr h => ?_)
  · obtain ⟨_, rfl, _⟩ := h
    rfl
  obtain ⟨n, rfl, n0, n1, q⟩ := h
  refine ⟨_, (pss_cons (ps_set (i := 1) sc.nd rfl (Or.inl rfl) pe_str)
      (pss_cons (ps_set (i := 2) sc.nd rfl (Or.inl rfl) (pe_op op_add pe_int (pe_op op_mod (pv 0) pe_int)))
      (pss_cons (ps_set (i := 0) sc.nd rfl (Or.inl rfl) (pe_op op_fdiv (pv 0) pe_int))
      (pss_cons (ps_set (i := 3) sc.nd rfl (Or.inl rfl) pe_str)
      (pss_cons (ps_for PassesOwn.never rfl (pi_range1 rfl T.n_range (pa_cons (pv 2) pa_nil)) (pg_name (i := 4) sc.nd rfl (Or.inl rfl))
        (pss_cons (ps_set (i := 3) sc.nd rfl (Or.inl rfl) (pe_op op_add_str (pv 3) (pe_ix ix_str (pv 1) (pe_op op_mod (pv 0) pe_int) (fun _ _ => rfl))))
      (pss_one (ps_set (i := 0) sc.nd rfl (Or.inl rfl) (pe_op op_add (pe_op op_fdiv (pv 0) pe_int) (pe_op op_mul (pe_op op_mul pe_int (pv 4)) (pv 4)))))))
      (pss_one (ps_ret (pv 3)))))))), ?_⟩
  have m0 : 0 ≤ n % 8 := Int.emod_nonneg _ (by decide)
  have m1 : n % 8 < 8 := Int.emod_lt_of_pos _ (by decide)
  refine ⟨_, rfl, _, _, rfl, rfl, (by show (0 : Int) < 8; decide), _, _, rfl, rfl, ?_⟩
  refine ⟨_, rfl, _, _, rfl, rfl, ⟨by decide, by decide⟩, ?_⟩
  have n8 : 0 ≤ n / 8 := Int.ediv_nonneg n0 (by decide)
  refine ⟨_, rfl, _, rfl, by omega, by omega, for_range (lo := 0) (n := (1 + n % 8).toNat)
    (fun i σ H2 => ∃ (m : Int) (l : List Nat) (o : Option V), σ = [some (.int m), some (.str (Str.ofString "abcdefghijklmnopqrstuvwxyz")), some (.int (1 + n % 8)), some (.str (tx l)), o] ∧ 0 ≤ m ∧ l.length = i ∧ AllLet l ∧ H2 = H)
    ⟨_, [], none, rfl, n8, rfl, fun _ z => (nomatch z), rfl⟩ ?_ ?_⟩
  · rintro i σ H2 hi ⟨m, l, o, rfl, m0', ll, al, rfl⟩
    have i8 : i < 8 := by omega
    obtain ⟨c, hc, lc⟩ := let_at (i := m % 26) (Int.emod_nonneg _ (by decide)) (Int.emod_lt_of_pos _ (by decide))
    have q26 : 0 ≤ m / 26 := Int.ediv_nonneg m0' (by decide)
    have ii : (0 + (i : Int)) = (i : Int) := by omega
    rw [ii]
    refine ⟨_, rfl, _, rfl, _, rfl, _, _, rfl, rfl, (by show (0 : Int) < 26; decide), _, _, c, rfl, rfl, (by decide +kernel), hc, _, _, rfl, rfl, ?_, ?_⟩
    · rw [tx_len, ll, sizeLine_eq]
      show i + 1 ≤ _
      omega
    refine ⟨_, rfl, _, _, rfl, rfl, ⟨by decide, by decide⟩, _, rfl, _, _, rfl, rfl, .inl ⟨by decide, by decide⟩, _, rfl, _, _, rfl, rfl, .inr ⟨by omega, by omega⟩, _, _, rfl, rfl, ?_⟩
    have sq : 0 ≤ 7 * (i : Int) * (i : Int) := Int.mul_nonneg (by omega) (by omega)
    refine ⟨m / 26 + 7 * (i : Int) * (i : Int), l ++ [c], some (.int (i : Int)), ?_, by omega, by rw [List.length_append, ll]; rfl, fun d hd => ?_, rfl⟩
    · have e : tx l ++ (⟨#[c]⟩ : Str) = tx (l ++ [c]) := tx_app l [c]
      rw [← e]
      rfl
    · rcases List.mem_append.mp hd with hd | hd
      · exact al d hd
      · rw [List.mem_singleton.mp hd]; exact lc
  · rintro σ H2 ⟨m, l, o, rfl, m0', ll, al, rfl⟩
    exact ⟨_, rfl, q l ⟨⟨by omega, by omega⟩, al⟩⟩
theorem sc__law_other : FnScope ["_law_name_here", "_law_number", "_law_letters", "_law_at", "_law_sign", "_law_way"] ["_law_name_here", "_law_number"] (defScope s__law_other) := ⟨rfl, rfl, rfl, by decide +kernel, rfl, by decide +kernel, by decide +kernel⟩
theorem ok__law_other {f : Addr} {fd : FuncData} (F : Fun K "_law_other" "_law_other" s__law_other f fd) (T : Txt K mg) : FnOk P w K mg base CX0 1 f fd ["_law_name_here", "_law_number"] spOtherN := by
  have sc := sc__law_other
  refine F.ok sc (fun vs H Q E h => ?_) (fun cdv A outer s H vs Q E hr h => ?_)
  · obtain ⟨_, _, rfl, _⟩ := h
    rfl
  obtain ⟨l, n, rfl, ⟨⟨l1, l8⟩, al⟩, n0, q⟩ := h
  refine ⟨_, (pss_cons (ps_set (i := 2) sc.nd rfl (Or.inl rfl) pe_str)
      (pss_cons (ps_set (i := 3) sc.nd rfl (Or.inl rfl) (pe_op op_mod (pe_op op_fdiv (pv 1) pe_int) (pe_callB call_len_str rfl T.n_len (show bootBuiltins _ = some (.builtin "len") from rfl) (pa_cons (pv 0) pa_nil))))
      (pss_cons (ps_set (i := 4) sc.nd rfl (Or.inl rfl) (pe_ix ix_str (pv 2) (pe_op op_mod (pe_op op_fdiv (pv 1) pe_int) pe_int) (fun _ _ => rfl)))
      (pss_cons (ps_set (i := 5) sc.nd rfl (Or.inl rfl) (pe_op op_mod (pv 1) pe_int))
      (pss_cons (ps_if (PW.pt (pw_or (pt_cmpR op_eq (pv 5) pe_int (nomark _)) (pw_or1 (pt_cmpR op_eq (pv 5) pe_int (nomark _)))))
        (pss_one (ps_ret (pe_op op_add_str (pe_op op_add_str (pe_slice sl_str (pv 0) po_none (po_some (pv 3))) (pv 4)) (pe_slice sl_str (pv 0) (po_some (pe_op op_add (pv 3) pe_int)) po_none))))
        pss_nil)
      (pss_cons (ps_if (PW.pt (pw_and (pt_cmpR op_eq (pv 5) pe_int (nomark _)) (pw_and1 (pt_cmpR op_lt (pe_callB call_len_str rfl T.n_len (show bootBuiltins _ = some (.builtin "len") from rfl) (pa_cons (pv 0) pa_nil)) pe_int (nomark _)))))
        (pss_one (ps_ret (pe_op op_add_str (pe_op op_add_str (pe_slice sl_str (pv 0) po_none (po_some (pv 3))) (pv 4)) (pe_slice sl_str (pv 0) (po_some (pv 3)) po_none))))
        pss_nil)
      (pss_cons (ps_if (PW.pt (pw_and (pt_cmpR op_eq (pv 5) pe_int (nomark _)) (pw_and1 (pt_cmpR op_gt (pe_callB call_len_str rfl T.n_len (show bootBuiltins _ = some (.builtin "len") from rfl) (pa_cons (pv 0) pa_nil)) pe_int (nomark _)))))
        (pss_one (ps_ret (pe_op op_add_str (pe_slice sl_str (pv 0) po_none (po_some (pv 3))) (pe_slice sl_str (pv 0) (po_some (pe_op op_add (pv 3) pe_int)) po_none))))
        pss_nil)
      (pss_cons (ps_if (pt_cmpR op_eq (pv 5) pe_int (nomark _))
        (pss_one (ps_ret (pe_revS (pv 0) (pe_un un_neg pe_int))))
        pss_nil)
      (pss_cons (ps_if (pt_cmpR op_eq (pv 5) pe_int (nomark _))
        (pss_one (ps_ret (pe_op op_add_str (pe_slice sl_str (pv 0) (po_some pe_int) po_none) (pe_slice sl_str (pv 0) po_none (po_some pe_int)))))
        pss_nil)
      (pss_one (ps_ret (pv 0)))))))))))), ?_⟩
  have lz : (tx l).length ≤ sizeLine := by rw [tx_len, sizeLine_eq]; omega
  have hl : ((tx l).length : Int) = (l.length : Int) := by rw [tx_len]
  have a0 : 0 ≤ n / 8 % (l.length : Int) := Int.emod_nonneg _ (by omega)
  have a1 : n / 8 % (l.length : Int) < l.length := Int.emod_lt_of_pos _ (by omega)
  obtain ⟨c, hc, lc⟩ := let_at (i := n / 64 % 26) (Int.emod_nonneg _ (by decide)) (Int.emod_lt_of_pos _ (by decide))
  refine ⟨_, rfl, _, _, rfl, rfl, ⟨by decide, by decide⟩, _, rfl, _, rfl, lz, _, _, rfl, rfl, (by rw [hl]; show (0 : Int) < l.length; omega), ?_⟩
  rw [hl]
  refine ⟨_, rfl, _, rfl, _, _, rfl, rfl, ⟨by decide, by decide⟩, _, _, rfl, rfl, (by show (0 : Int) < 26; decide), _, _, c, rfl, rfl, (by decide +kernel), hc, ?_⟩
  refine ⟨_, rfl, _, _, rfl, rfl, (by show (0 : Int) < 8; decide), ?_⟩
  have nx : (n / 8 % (l.length : Int) + 1).toNat = (n / 8 % (l.length : Int)).toNat + 1 := by omega
  have sT : Txt.slice (tx l) none (some (n / 8 % (l.length : Int))) = tx (l.take (n / 8 % (l.length : Int)).toNat) := slice_to a0 (by omega)
  have sF : Txt.slice (tx l) (some (n / 8 % (l.length : Int))) none = tx (l.drop (n / 8 % (l.length : Int)).toNat) := slice_from a0 (by omega)
  have sF1 : Txt.slice (tx l) (some (n / 8 % (l.length : Int) + 1)) none = tx (l.drop ((n / 8 % (l.length : Int)).toNat + 1)) := by rw [slice_from (by omega) (by omega), nx]
  have ec : (⟨#[c]⟩ : Str) = tx [c] := rfl
  have tl : (n / 8 % (l.length : Int)).toNat < l.length := by omega
  generalize (n / 8 % (l.length : Int)).toNat = at' at sT sF sF1 tl
  have aT : AllLet (l.take at') := fun d hd => al d (List.mem_of_mem_take hd)
  have aF : AllLet (l.drop at') := fun d hd => al d (List.mem_of_mem_drop hd)
  have aF1 : AllLet (l.drop (at' + 1)) := fun d hd => al d (List.mem_of_mem_drop hd)
  have aC : AllLet [c] := fun d hd => by rw [List.mem_singleton.mp hd]; exact lc
  have lT : (l.take at').length = at' := by rw [List.length_take]; omega
  have lF : (l.drop at').length = l.length - at' := List.length_drop
  have lF1 : (l.drop (at' + 1)).length = l.length - (at' + 1) := List.length_drop
  have sl := sizeLine_eq
  have both : ∀ {a b : List Nat}, AllLet a → AllLet b → AllLet (a ++ b) := fun ha hb d hd => (List.mem_append.mp hd).elim (ha d) (hb d)
  have fin : ∀ {a b : List Nat}, AllLet a → AllLet b → 1 ≤ a.length + b.length ∧ a.length + b.length ≤ 8 → (∃ i j, V.str (tx a) = V.str i ∧ V.str (tx b) = V.str j ∧ i.length + j.length ≤ sizeLine ∧ Q (.str (i ++ j)) H) := fun {a b} ha hb hs => by
    refine ⟨_, _, rfl, rfl, by rw [tx_len, tx_len]; omega, ?_⟩
    rw [tx_app]
    exact q _ ⟨by rw [List.length_append]; exact hs, both ha hb⟩
  have up1 : (tx (l.take at')).length + (tx [c]).length ≤ sizeLine := by rw [tx_len, tx_len, lT]; show at' + 1 ≤ _; omega
  have lTC : (l.take at' ++ [c]).length = at' + 1 := by rw [List.length_append, lT]; rfl
  have way : ∀ (k : Int), n % 8 = k → k = 0 ∨ k = 1 → True := fun _ _ _ => trivial
  have put01 : (∃ i j, V.str (tx (l.take at') ++ tx [c]) = V.str i ∧ V.str (tx (l.drop (at' + 1))) = V.str j ∧ i.length + j.length ≤ sizeLine ∧ Q (.str (i ++ j)) H) := by
    rw [tx_app]
    exact fin (both aT aC) aF1 (by rw [lTC, lF1]; omega)
  by_cases c0 : n % 8 = 0
  · refine ⟨_, rfl, rfl, _, rfl, dT (congrArg V.int c0) (iteT ⟨_, rfl, _, rfl, _, rfl, _, rfl, lz, ?_⟩)⟩
    rw [sT]
    refine ⟨_, rfl, _, _, rfl, rfl, up1, _, rfl, _, rfl, _, _, rfl, rfl, _, rfl, _, rfl, lz, ?_⟩
    rw [sF1]
    exact put01
  by_cases c1 : n % 8 = 1
  · refine ⟨_, rfl, rfl, _, rfl, dF (vne c0) ⟨_, rfl, rfl, _, rfl, dT (congrArg V.int c1) ⟨_, rfl, _, rfl, _, rfl, _, rfl, lz, ?_⟩⟩⟩
    rw [sT]
    refine ⟨_, rfl, _, _, rfl, rfl, up1, _, rfl, _, rfl, _, _, rfl, rfl, _, rfl, _, rfl, lz, ?_⟩
    rw [sF1]
    exact put01
  refine ⟨_, rfl, rfl, _, rfl, dF (vne c0) ⟨_, rfl, rfl, _, rfl, dF (vne c1) ?_⟩⟩
  have same : Q (.str (tx l)) H := q l ⟨⟨l1, l8⟩, al⟩
  have sT1 : Txt.slice (tx l) none (some 1) = tx (l.take 1) := slice_to (by decide) (by omega)
  have sD1 : Txt.slice (tx l) (some 1) none = tx (l.drop 1) := slice_from (by decide) (by omega)
  have two : n % 8 = 2 ∧ l.length < 8 ∨ ¬ (n % 8 = 2 ∧ l.length < 8) := Classical.em _
  rcases two with ⟨c2, d2⟩ | h2
  · refine ⟨_, rfl, rfl, _, rfl, dT (congrArg V.int c2) ⟨_, rfl, _, rfl, lz, _, _, rfl, rfl, _, rfl, dT (by rw [hl]; omega) ⟨_, rfl, _, rfl, _, rfl, _, rfl, lz, ?_⟩⟩⟩
    rw [sT]
    refine ⟨_, rfl, _, _, rfl, rfl, up1, _, rfl, _, rfl, _, rfl, _, rfl, lz, ?_⟩
    rw [sF]
    show ∃ i j, V.str (tx (l.take at') ++ tx [c]) = V.str i ∧ V.str (tx (l.drop at')) = V.str j ∧ i.length + j.length ≤ sizeLine ∧ Q (.str (i ++ j)) H
    rw [tx_app]
    exact fin (both aT aC) aF (by rw [lTC, lF]; omega)
  have on2 : ∀ {A B : TS} {D : Ends} {σ : St}, True := trivial
  by_cases c2 : n % 8 = 2
  · refine ⟨_, rfl, rfl, _, rfl, dT (congrArg V.int c2) ⟨_, rfl, _, rfl, lz, _, _, rfl, rfl, _, rfl, dF (by rw [hl]; omega) ?_⟩⟩
    refine ⟨_, rfl, rfl, _, rfl, dF (vne (by omega)) (iteF ?_)⟩
    refine ⟨_, rfl, rfl, _, rfl, dF (vne (by omega)) ⟨_, rfl, rfl, _, rfl, dF (vne (by omega)) ⟨_, rfl, same⟩⟩⟩
  refine ⟨_, rfl, rfl, _, rfl, dF (vne c2) (iteF ?_)⟩
  by_cases c3 : n % 8 = 3
  · by_cases d3 : 1 < l.length
    · refine ⟨_, rfl, rfl, _, rfl, dT (congrArg V.int c3) ⟨_, rfl, _, rfl, lz, _, _, rfl, rfl, _, rfl, dT (by rw [hl]; omega) ⟨_, rfl, _, rfl, _, rfl, _, rfl, lz, ?_⟩⟩⟩
      rw [sT]
      refine ⟨_, rfl, _, rfl, _, _, rfl, rfl, _, rfl, _, rfl, lz, ?_⟩
      rw [sF1]
      exact fin aT aF1 (by rw [lT, lF1]; omega)
    · refine ⟨_, rfl, rfl, _, rfl, dT (congrArg V.int c3) ⟨_, rfl, _, rfl, lz, _, _, rfl, rfl, _, rfl, dF (by rw [hl]; omega) ?_⟩⟩
      refine ⟨_, rfl, rfl, _, rfl, dF (vne (by omega)) ⟨_, rfl, rfl, _, rfl, dF (vne (by omega)) ⟨_, rfl, same⟩⟩⟩
  refine ⟨_, rfl, rfl, _, rfl, dF (vne c3) (iteF ?_)⟩
  by_cases c4 : n % 8 = 4
  · refine ⟨_, rfl, rfl, _, rfl, dT (congrArg V.int c4) ⟨_, rfl, _, rfl, rfl, l, rfl, by rw [sl]; omega, q _ ⟨by rw [List.length_reverse]; exact ⟨l1, l8⟩, fun d hd => al d (List.mem_reverse.mp hd)⟩⟩⟩
  refine ⟨_, rfl, rfl, _, rfl, dF (vne c4) ?_⟩
  by_cases c5 : n % 8 = 5
  · refine ⟨_, rfl, rfl, _, rfl, dT (congrArg V.int c5) ⟨_, rfl, _, rfl, _, rfl, lz, ?_⟩⟩
    rw [sD1]
    refine ⟨_, rfl, _, rfl, _, rfl, lz, ?_⟩
    rw [sT1]
    exact fin (fun d hd => al d (List.mem_of_mem_drop hd)) (fun d hd => al d (List.mem_of_mem_take hd)) (by rw [List.length_drop, List.length_take]; omega)
  exact ⟨_, rfl, rfl, _, rfl, dF (vne c5) ⟨_, rfl, same⟩⟩
end
def spTruth : Sp := fun vs H Q _ => ∃ a b, vs = [.bl a, .bl b] ∧ Q (.bl (a == b)) H
section
seal L2.PS L2.PSs L2.PE
variable {P : Program} {w : World} {K : PySem.W.Frag} {mg : Str → Option Value} {base : Heap}
theorem sc__law_truth : FnScope ["_law_found", "_law_due"] ["_law_found", "_law_due"] (defScope s__law_truth) := ⟨rfl, rfl, rfl, by decide +kernel, rfl, by decide +kernel, by decide +kernel⟩
theorem ok__law_truth {f : Addr} {fd : FuncData} (F : Fun K "_law_truth" "_law_truth" s__law_truth f fd) (T : Txt K mg) : FnOk P w K mg base CX0 1 f fd ["_law_found", "_law_due"] spTruth := by
  have sc := sc__law_truth
  refine F.ok sc (fun vs H Q E h => ?_) (fun cdv A outer s H vs Q E hr h => ?_)
  · obtain ⟨_, _, rfl, _⟩ := h
    rfl
  obtain ⟨a, b, rfl, q⟩ := h
  refine ⟨_, (pss_one (ps_ret (pe_and (pe_callB call_isinst rfl T.n_isinstance (show bootBuiltins _ = some (.builtin "isinstance") from rfl) (pa_cons (pv 0) (pa_cons (pe_ty "bool" rfl T.n_bool rfl) pa_nil))) (pe_one (pe_cmpR op_eq (pv 0) (pv 1) (nomark _)))))), ?_⟩
  refine ⟨_, rfl, _, _, _, _, _, rfl, ty_is, .bl _, (by kernel_rfl : PySem.W.kitOne K (.type "bool") (.type "bool") = some true), _, rfl, iteT ⟨_, rfl, _, rfl, rfl, ?_⟩⟩
  have e : decide (V.bl a = V.bl b) = (a == b) := by cases a <;> cases b <;> rfl
  rw [e]
  exact q
end
def shown (n : Nat) : List Nat := figs (n / 100) ++ [46, 48 + n / 10 % 10, 48 + n % 10]
theorem str_small {d : Nat} (h : d < 10) : ((toString (d : Int) : String) : Str) = tx [48 + d] := by rw [str_nat, figs_small h]
theorem zfill2 {r : Nat} (h : r < 100) : Txt.zfill (tx (figs r)) 2 = tx [48 + r / 10, 48 + r % 10] := by
  by_cases h10 : r < 10
  · rw [figs_small h10]
    have : r = 0 ∨ r = 1 ∨ r = 2 ∨ r = 3 ∨ r = 4 ∨ r = 5 ∨ r = 6 ∨ r = 7 ∨ r = 8 ∨ r = 9 := by omega
    rcases this with rfl | rfl | rfl | rfl | rfl | rfl | rfl | rfl | rfl | rfl <;> rfl
  · have e : figs r = [48 + r / 10, 48 + r % 10] := by
      rw [figs_more (by omega), figs_small (by omega), figs_small (Nat.mod_lt r (by decide))]
      rfl
    rw [e]
    unfold Txt.zfill
    rw [if_pos]
    rw [tx_len]
    exact Int.le_refl 2
theorem len_shown (n : Nat) : (shown n).length = (figs (n / 100)).length + 3 := by unfold shown; rw [List.length_append]; rfl
theorem point_free (n : Nat) : 46 ∉ figs n := fun h => by have := figs_dig n 46 h; omega
theorem cut_shown (n : Nat) : cutAt 46 (shown n) = [figs (n / 100), [48 + n / 10 % 10, 48 + n % 10]] := by
  unfold shown
  rw [cutAt_app _ (point_free _), cutAt_free]
  intro h
  have h1 : 46 = 48 + n / 10 % 10 ∨ 46 = 48 + n % 10 := by simpa using h
  omega
theorem val_two (a b : Nat) (ha : a < 10) (hb : b < 10) : NumText.digitsVal [48 + a, 48 + b] = 10 * a + b := by
  show (0 * 10 + (48 + a - 48)) * 10 + (48 + b - 48) = 10 * a + b
  omega
theorem figs10 {n : Nat} (h : n < 10 ^ 10) : (figs n).length ≤ 10 := figs_len (by decide) h
theorem dig_in {c : Nat} : (c ∈ (Str.ofString "0123456789").cps.toList) ↔ (48 ≤ c ∧ c ≤ 57) := by
  have e : (Str.ofString "0123456789").cps.toList = [48, 49, 50, 51, 52, 53, 54, 55, 56, 57] := by decide +kernel
  rw [e]
  simp
  omega
theorem int_of {l : List Nat} (h : NumText.AllDigits l) (h1 : l ≠ []) (h2 : l.length ≤ 640) : intText? (tx l) = some ((NumText.digitsVal l : Nat) : Int) := intText_digits (x := tx l) h h1 (by rw [tx_len]; omega)
instance (l : List Nat) : Decidable (NumText.AllDigits l) := by unfold NumText.AllDigits; exact inferInstance
def spFigs : Sp := fun vs H Q _ => ∃ l, vs = [.str (tx l)] ∧ Q (.bl (decide (NumText.AllDigits l))) H
section
variable {P : Program} {w : World} {K : PySem.W.Frag} {mg : Str → Option Value} {base : Heap}
theorem sc_has_figures_alone : FnScope ["text", "sign"] ["text"] (defScope s_has_figures_alone) := ⟨rfl, rfl, rfl, by decide +kernel, rfl, by decide +kernel, by decide +kernel⟩
theorem ok_has_figures_alone {f : Addr} {fd : FuncData} (F : Fun K "has_figures_alone" "has_figures_alone" s_has_figures_alone f fd) (T : Txt K mg) : FnOk P w K mg base CX0 1 f fd ["text"] spFigs := by
  have sc := sc_has_figures_alone
  refine F.ok sc (fun vs H Q E h => ?_) (fun cdv A outer s H vs Q E hr h => ?_)
  · obtain ⟨_, rfl, _⟩ := h
    rfl
  obtain ⟨l, rfl, q⟩ := h
  refine ⟨_, (pss_cons (ps_for PassesOwn.never rfl (pi_str (pv 0)) (pg_name (i := 1) sc.nd rfl (Or.inl rfl))
        (pss_one (ps_if (pt_cmpR op_notIn1 (pv 1) (pe_gstr T.g_FIGURES rfl) rfl)
        (pss_one (ps_ret pe_bl))
        pss_nil)))
      (pss_one (ps_ret pe_bl))), ?_⟩
  refine ⟨_, rfl, _, rfl, for_str (l := l) (fun i σ H2 => ((∃ o, σ = [some (.str (tx l)), o]) ∧ H2 = H) ∧ ∀ j c, j < i → l[j]? = some c → 48 ≤ c ∧ c ≤ 57) ⟨⟨⟨none, rfl⟩, rfl⟩, fun _ _ z => absurd z (Nat.not_lt_zero _)⟩ ?_ ?_⟩
  · rintro i c σ H2 hi ⟨⟨⟨o, rfl⟩, rfl⟩, good⟩
    refine ⟨_, rfl, c, _, rfl, rfl, _, rfl, ?_⟩
    by_cases hc : 48 ≤ c ∧ c ≤ 57
    · refine nF (dig_in.mpr hc) ⟨⟨⟨_, rfl⟩, rfl⟩, fun j d hj hd => ?_⟩
      by_cases e : j = i
      · subst e
        rw [hi] at hd
        cases hd
        exact hc
      · exact good j d (by omega) hd
    · refine nT (fun z => hc (dig_in.mp z)) ?_
      have n : ¬ NumText.AllDigits l := fun z => hc (z c (List.mem_of_getElem? hi))
      rw [decide_eq_false n] at q
      exact q
  · rintro σ H2 ⟨⟨⟨o, rfl⟩, rfl⟩, good⟩
    have all : NumText.AllDigits l := fun c hc => by
      obtain ⟨j, hj, e⟩ := List.getElem_of_mem hc
      exact good j c hj (by rw [List.getElem?_eq_getElem hj, e])
    rw [decide_eq_true all] at q
    exact q
end
def spWholePart : Sp := fun vs H Q _ => ∃ n k : Nat, vs = [.str (tx (figs n)), .int k] ∧ n < 10 ^ k ∧ 1 ≤ k ∧ k ≤ 10 ∧ Q (.bl true) H
def spCentsPart : Sp := fun vs H Q _ => ∃ a b : Nat, vs = [.str (tx [48 + a, 48 + b])] ∧ a < 10 ∧ b < 10 ∧ Q (.bl true) H
def spRead : Sp := fun vs H Q _ => ∃ n : Nat, vs = [.str (tx (shown n))] ∧ n < 10 ^ 12 ∧ ∀ H', Same H H' → Q (.int n) H'
def spShow : Sp := fun vs H Q _ => ∃ n : Nat, vs = [.int n] ∧ n < 10 ^ 60 ∧ Q (.str (tx (shown n))) H
theorem cat_shown (n : Nat) : ((toString ((n : Int) / 100) : String) : Str) ++ (Str.ofString ".") ++ ((toString ((n : Int) / 10 % 10) : String) : Str) ++ ((toString ((n : Int) % 10) : String) : Str) = tx (shown n) := by
  have e1 : (n : Int) / 100 = ((n / 100 : Nat) : Int) := by omega
  have e2 : (n : Int) / 10 % 10 = ((n / 10 % 10 : Nat) : Int) := by omega
  have e3 : (n : Int) % 10 = ((n % 10 : Nat) : Int) := by omega
  have e4 : (Str.ofString ".") = tx [46] := by decide +kernel
  rw [e1, e2, e3, e4, str_nat, str_small (Nat.mod_lt _ (by decide)), str_small (Nat.mod_lt _ (by decide)), tx_app, tx_app, tx_app]
  unfold shown
  simp
section
variable {P : Program} {w : World} {K : PySem.W.Frag} {mg : Str → Option Value} {base : Heap}
theorem sc_writes_whole : FnScope ["text", "most_figures"] ["text", "most_figures"] (defScope s_writes_whole) := ⟨rfl, rfl, rfl, by decide +kernel, rfl, by decide +kernel, by decide +kernel⟩
theorem ok_writes_whole {f : Addr} {fd : FuncData} (F : Fun K "writes_whole" "writes_whole" s_writes_whole f fd) (T : Txt K mg) (Chas_figures_alone : Cal P w K mg base 1 "has_figures_alone" ["text"] spFigs) : FnOk P w K mg base CX0 2 f fd ["text", "most_figures"] spWholePart := by
  have sc := sc_writes_whole
  refine F.ok sc (fun vs H Q E h => ?_) (fun cdv A outer s H vs Q E hr h => ?_)
  · obtain ⟨_, _, rfl, _⟩ := h
    rfl
  obtain ⟨n, k, rfl, hn, k1, k10, q⟩ := h
  refine ⟨_, (pss_cons (ps_if (PW.pt (pw_or (pt_cmpR op_lt (pe_callB call_len_str rfl T.n_len (show bootBuiltins _ = some (.builtin "len") from rfl) (pa_cons (pv 0) pa_nil)) pe_int (nomark _)) (pw_or1 (pt_cmpR op_gt (pe_callB call_len_str rfl T.n_len (show bootBuiltins _ = some (.builtin "len") from rfl) (pa_cons (pv 0) pa_nil)) (pv 1) (nomark _)))))
        (pss_one (ps_ret pe_bl))
        pss_nil)
      (pss_cons (ps_if (PW.pt (pw_and (pt_cmpR op_eq (pe_ix ix_str (pv 0) pe_int (fun _ _ => rfl)) pe_str (nomark _)) (pw_and1 (pt_cmpR op_gt (pe_callB call_len_str rfl T.n_len (show bootBuiltins _ = some (.builtin "len") from rfl) (pa_cons (pv 0) pa_nil)) pe_int (nomark _)))))
        (pss_one (ps_ret pe_bl))
        pss_nil)
      (pss_one (ps_ret (pe_callC Chas_figures_alone (hr.mono (by decide)) rfl (pa_cons (pv 0) pa_nil)))))), ?_⟩
  have hl : (tx (figs n)).length = (figs n).length := tx_len _
  have l1 : (figs n).length ≤ k := figs_len (by omega) hn
  have l0 : 1 ≤ (figs n).length := by
    cases z : figs n with
    | nil => exact absurd z (figs_ne n)
    | cons a r => simp
  have lz : (tx (figs n)).length ≤ sizeLine := by rw [hl]; exact le_line (by omega)
  refine ⟨_, rfl, _, rfl, lz, _, _, rfl, rfl, _, rfl, ?_⟩
  refine dF (by rw [hl]; omega) ?_
  refine ⟨_, rfl, _, rfl, lz, _, rfl, _, _, rfl, rfl, _, rfl, ?_⟩
  refine dF (by rw [hl]; omega) ?_
  cases z : figs n with
  | nil => exact absurd z (figs_ne n)
  | cons a r =>
    rw [z] at lz hl l1
    have ha : atI (tx (a :: r)).cps.toList 0 = some a := atI_nat (j := 0) rfl
    refine ⟨_, rfl, _, _, a, rfl, rfl, lz, ha, rfl, _, rfl, ?_⟩
    refine ite2 (fun c => ?_) (fun c => ?_)
    · have ea : a = 48 := by
        have c' : V.str (tx [a]) = V.str (Str.ofString "0") := of_decide_eq_true c
        have e0 : Str.ofString "0" = tx [48] := by decide +kernel
        rw [e0] at c'
        have := tx_inj (V.str.inj c')
        simpa using this
      have e1 := figs_head n (by rw [z, ea]; rfl)
      rw [z] at e1
      have er : r = [] := by simpa [ea] using e1
      subst er
      refine ⟨_, rfl, _, rfl, lz, _, _, rfl, rfl, _, rfl, dF (by rw [hl]; simp) ?_⟩
      refine ⟨_, rfl, [a], rfl, ?_⟩
      rw [decide_eq_true (by rw [← z]; exact figs_dig n)]
      exact q
    · refine iteF ⟨_, rfl, a :: r, rfl, ?_⟩
      rw [decide_eq_true (by rw [← z]; exact figs_dig n)]
      exact q
theorem sc_is_cents_part : FnScope ["text"] ["text"] (defScope s_is_cents_part) := ⟨rfl, rfl, rfl, by decide +kernel, rfl, by decide +kernel, by decide +kernel⟩
theorem ok_is_cents_part {f : Addr} {fd : FuncData} (F : Fun K "is_cents_part" "is_cents_part" s_is_cents_part f fd) (T : Txt K mg) (Chas_figures_alone : Cal P w K mg base 1 "has_figures_alone" ["text"] spFigs) : FnOk P w K mg base CX0 2 f fd ["text"] spCentsPart := by
  have sc := sc_is_cents_part
  refine F.ok sc (fun vs H Q E h => ?_) (fun cdv A outer s H vs Q E hr h => ?_)
  · obtain ⟨_, _, rfl, _⟩ := h
    rfl
  obtain ⟨a, b, rfl, ha, hb, q⟩ := h
  refine ⟨_, (pss_one (ps_ret (pe_and (pe_cmpR op_eq (pe_callB call_len_str rfl T.n_len (show bootBuiltins _ = some (.builtin "len") from rfl) (pa_cons (pv 0) pa_nil)) pe_int (nomark _)) (pe_one (pe_callC Chas_figures_alone (hr.mono (by decide)) rfl (pa_cons (pv 0) pa_nil)))))), ?_⟩
  refine ⟨_, rfl, _, rfl, by rw [tx_len]; exact le_line (by show 2 ≤ 1000; decide), rfl, _, rfl, dT (by rw [tx_len]; rfl) ⟨_, rfl, _, rfl, ?_⟩⟩
  rw [decide_eq_true]
  · exact q
  · intro c hc
    have h1 : c = 48 + a ∨ c = 48 + b := by simpa using hc
    omega
theorem sc_read_cents : FnScope ["text", "pieces"] ["text"] (defScope s_read_cents) := ⟨rfl, rfl, rfl, by decide +kernel, rfl, by decide +kernel, by decide +kernel⟩
theorem ok_read_cents {f : Addr} {fd : FuncData} (F : Fun K "read_cents" "read_cents" s_read_cents f fd) (T : Txt K mg) (Cwrites_whole : Cal P w K mg base 2 "writes_whole" ["text", "most_figures"] spWholePart) (Cis_cents_part : Cal P w K mg base 2 "is_cents_part" ["text"] spCentsPart) : FnOk P w K mg base CX0 3 f fd ["text"] spRead := by
  have sc := sc_read_cents
  refine F.ok sc (fun vs H Q E h => ?_) (fun cdv A outer s H vs Q E hr h => ?_)
  · obtain ⟨_, rfl, _⟩ := h
    rfl
  obtain ⟨n, rfl, hn, q⟩ := h
  refine ⟨_, (pss_cons (ps_if (pt_not (pt_val (pe_callB call_isinst rfl T.n_isinstance (show bootBuiltins _ = some (.builtin "isinstance") from rfl) (pa_cons (pv 0) (pa_cons (pe_ty "str" rfl T.n_str rfl) pa_nil)))))
        (pss_one ps_never)
        pss_nil)
      (pss_cons (ps_set (i := 1) sc.nd rfl (Or.inl rfl) (pe_bm PySem.F.plainAttrs_str PySem.F.slot_str_split PySem.F.type_str_split mt_split (pv 0) (pa_cons pe_str pa_nil)))
      (pss_cons (ps_if (PW.pt (pw_or (pt_cmpR op_ne (pe_callB call_len_seq rfl T.n_len (show bootBuiltins _ = some (.builtin "len") from rfl) (pa_cons (pv 1) pa_nil)) pe_int (nomark _)) (pw_or (pt_not (pt_val (pe_callC Cis_cents_part (hr.mono (by decide)) rfl (pa_cons (pe_ix ix_list (pv 1) pe_int (fun _ _ => rfl)) pa_nil)))) (pw_or1 (pt_not (pt_val (pe_callC Cwrites_whole (hr.mono (by decide)) rfl (pa_cons (pe_ix ix_list (pv 1) pe_int (fun _ _ => rfl)) (pa_cons (pe_gint T.g_MOST_WHOLE_FIGURES rfl) pa_nil)))))))))
        (pss_one ps_never)
        pss_nil)
      (pss_one (ps_ret (pe_op op_add (pe_op op_mul (pe_callTy call_int_text rfl T.n_int (show bootBuiltins _ = some (.type "int") from rfl) (pa_cons (pe_ix ix_list (pv 1) pe_int (fun _ _ => rfl)) pa_nil)) pe_int) (pe_callTy call_int_text rfl T.n_int (show bootBuiltins _ = some (.type "int") from rfl) (pa_cons (pe_ix ix_list (pv 1) pe_int (fun _ _ => rfl)) pa_nil)))))))), ?_⟩
  have hw : n / 100 < 10 ^ 10 := by omega
  have l1 := figs10 hw
  refine ⟨_, rfl, _, _, _, _, _, rfl, ty_is, .str _, (by kernel_rfl : PySem.W.kitOne K (.type "str") (.type "str") = some true), _, rfl, iteF ?_⟩
  refine ⟨_, rfl, rfl, _, _, rfl, rfl, rfl, ?_, fun p hp => ?_⟩
  · rw [tx_len, len_shown, sizeLine_eq]
    omega
  have ed : (Str.ofString ".") = tx [46] := by decide +kernel
  have es : Txt.split (tx (shown n)) (Str.ofString ".") = [tx (figs (n / 100)), tx [48 + n / 10 % 10, 48 + n % 10]] := by rw [ed, split_cut, cut_shown]; rfl
  rw [es]
  have s1 := same_new hp (.lst (List.map V.str [tx (figs (n / 100)), tx [48 + n / 10 % 10, 48 + n % 10]]))
  have h1 : upd H p (.lst (List.map V.str [tx (figs (n / 100)), tx [48 + n / 10 % 10, 48 + n % 10]])) p = some (.lst [V.str (tx (figs (n / 100))), V.str (tx [48 + n / 10 % 10, 48 + n % 10])]) := upd_same
  generalize upd H p (.lst (List.map V.str [tx (figs (n / 100)), tx [48 + n / 10 % 10, 48 + n % 10]])) = H1 at s1 h1
  refine ⟨_, rfl, p, _, rfl, .inl (SqL.of h1), rfl, _, rfl, nF rfl ?_⟩
  refine ⟨_, rfl, p, _, _, _, rfl, rfl, SqL.of h1, rfl, n / 10 % 10, n % 10, rfl, Nat.mod_lt _ (by decide), Nat.mod_lt _ (by decide), _, rfl, iteF ?_⟩
  refine ⟨_, rfl, p, _, _, _, rfl, rfl, SqL.of h1, rfl, n / 100, 10, rfl, hw, by decide, by decide, _, rfl, iteF ?_⟩
  refine ⟨_, rfl, p, _, _, _, rfl, rfl, SqL.of h1, rfl, _, _, rfl, int_of (figs_dig _) (figs_ne _) (by omega), by rw [tx_len]; omega, ?_⟩
  rw [figs_val]
  refine ⟨_, _, rfl, rfl, .inr ⟨by decide, by decide⟩, ?_⟩
  refine ⟨_, rfl, p, _, _, _, rfl, rfl, SqL.of h1, rfl, _, _, rfl, int_of ?_ (by simp) (by show 2 ≤ 640; decide), by rw [tx_len]; show 2 ≤ 640; decide, ?_⟩
  · intro c hc
    have h1 : c = 48 + n / 10 % 10 ∨ c = 48 + n % 10 := by simpa using hc
    omega
  rw [val_two _ _ (Nat.mod_lt _ (by decide)) (Nat.mod_lt _ (by decide))]
  refine ⟨_, _, rfl, rfl, ?_⟩
  have en : ((n / 100 : Nat) : Int) * 100 + ((10 * (n / 10 % 10) + n % 10 : Nat) : Int) = n := by omega
  show Q (.int (((n / 100 : Nat) : Int) * 100 + ((10 * (n / 10 % 10) + n % 10 : Nat) : Int))) H1
  rw [en]
  exact q _ s1
theorem sc_show_cents : FnScope ["cents", "whole", "rest"] ["cents"] (defScope s_show_cents) := ⟨rfl, rfl, rfl, by decide +kernel, rfl, by decide +kernel, by decide +kernel⟩
theorem ok_show_cents {f : Addr} {fd : FuncData} (F : Fun K "show_cents" "show_cents" s_show_cents f fd) (T : Txt K mg) : FnOk P w K mg base CX0 1 f fd ["cents"] spShow := by
  have sc := sc_show_cents
  refine F.ok sc (fun vs H Q E h => ?_) (fun cdv A outer s H vs Q E hr h => ?_)
  · obtain ⟨_, rfl, _⟩ := h
    rfl
  obtain ⟨n, rfl, hn, q⟩ := h
  refine ⟨_, (pss_cons (ps_set (i := 1) sc.nd rfl (Or.inl rfl) (pe_op op_fdiv (pv 0) pe_int))
      (pss_cons (ps_set (i := 2) sc.nd rfl (Or.inl rfl) (pe_bm PySem.F.plainAttrs_str PySem.F.slot_str_zfill PySem.F.type_str_zfill mt_zfill (pe_callTy call_str_int rfl T.n_str (show bootBuiltins _ = some (.type "str") from rfl) (pa_cons (pe_op op_mod (pv 0) pe_int) pa_nil)) (pa_cons pe_int pa_nil)))
      (pss_one (ps_ret (pe_joined (pj_cons (pe_fmt (pv 1)) (pj_cons pe_str (pj_cons (pe_fmt (pv 2)) pj_nil)))))))), ?_⟩
  have e1 : (n : Int) / 100 = ((n / 100 : Nat) : Int) := by omega
  have e2 : (n : Int) % 100 = ((n % 100 : Nat) : Int) := by omega
  refine ⟨_, rfl, _, _, rfl, rfl, ⟨by decide, by decide⟩, ?_⟩
  refine ⟨_, rfl, _, _, rfl, rfl, (by show (0 : Int) < 100; decide), _, rfl, log_small (by omega) (by omega), rfl, _, _, rfl, rfl, rfl, ?_⟩
  have lw : (figs (n / 100)).length ≤ 60 := figs_len (by decide) (by omega)
  have ez : Txt.zfill ((toString ((n : Int) % 100) : String) : Str) 2 = tx [48 + n % 100 / 10, 48 + n % 100 % 10] := by rw [e2, str_nat, zfill2 (Nat.mod_lt _ (by decide))]
  rw [ez]
  have ed : (Str.ofString ".") = tx [46] := by decide +kernel
  have ew : ((toString ((n : Int) / 100) : String) : Str) = tx (figs (n / 100)) := by rw [e1, str_nat]
  have e0 : Str.empty = tx [] := rfl
  have c1 : Str.empty ++ tx (figs (n / 100)) = tx (figs (n / 100)) := tx_app [] _
  have hl := sizeLine_eq
  have cz : [48 + n % 100 / 10, 48 + n % 100 % 10] = [48 + n / 10 % 10, 48 + n % 10] := by
    have a1 : n % 100 / 10 = n / 10 % 10 := by omega
    have a2 : n % 100 % 10 = n % 10 := by omega
    rw [a1, a2]
  rw [cz]
  refine ⟨_, rfl, .inl ⟨_, rfl, log_small (by omega) (by omega), _, rfl, ?_, _, rfl, ?_, _, rfl, .inr ⟨_, rfl, ?_, _, rfl, ?_, ?_, ?_⟩⟩⟩
  · rw [ew, c1, tx_len]; omega
  · rw [ew, ed, c1, tx_app, tx_len, List.length_append]; show _ + 1 ≤ _; omega
  · rw [tx_len]; show 2 ≤ _; omega
  · rw [ew, ed, c1, tx_app, tx_app, tx_len, List.length_append, List.length_append]; show _ + 1 + 2 ≤ _; omega
  · rw [ew, ed, c1, tx_app, tx_app, tx_len, List.length_append, List.length_append]; show _ + 1 + 2 ≤ _; omega
  · rw [ew, ed, c1, tx_app, tx_app, List.append_assoc]
    exact q
end
def spMk1 (C : Addr) (f : Str) : Sp := fun vs H Q _ => ∃ p dx v, vs = [.ref p, v] ∧ H p = some (.ins C dx []) ∧ Q .non (upd H p (.ins C dx (putF f v [])))
def spMkD (C : Addr) : Sp := fun vs H Q _ => ∃ p dx v w, vs = [.ref p, v, w] ∧ H p = some (.ins C dx []) ∧ ∀ H', (∀ b, b ≠ p → H' b = H b) → H' p = some (.ins C dx (putF "last" w (putF "first" v []))) → Q .non H'
def spMkA (C : Addr) : Sp := fun vs H Q _ => ∃ p dx a xs, vs = [.ref p, .ref a] ∧ H p = some (.ins C dx []) ∧ H a = some (.lst xs) ∧ ∀ l H', H l = none → (∀ b, b ≠ p → b ≠ l → H' b = H b) → H' p = some (.ins C dx (putF "several" (.ref l) [])) → H' l = some (.lst xs) → Q .non H'
def spHolds (κ : A8) (m : Nat) (C : Addr) : Sp := fun vs H Q _ => ∃ p t l x, vs = [.ref p, .ref l] ∧ CdAt κ H (.ref p) t ∧ κ.of t = C ∧ hgt t < m ∧ LsAt H l x ∧ Q (.bl (hT t x)) H
section
variable {P : Program} {w : World} {K : PySem.W.Frag} {mg : Str → Option Value} {base : Heap} {C_Condition C_CauseIs C_ThingIs C_DaysIn C_Over C_Not C_All C_Some C_Reader : Addr}
theorem nd8 (L : Kl K mg C_Condition C_CauseIs C_ThingIs C_DaysIn C_Over C_Not C_All C_Some C_Reader) : (A8.mk C_Condition C_CauseIs C_ThingIs C_DaysIn C_Over C_Not C_All C_Some).l.Nodup := by
  first
    | exact L.nd
    | exact List.Nodup.sublist (List.sublist_append_left (A8.mk C_Condition C_CauseIs C_ThingIs C_DaysIn C_Over C_Not C_All C_Some).l _) L.nd
theorem spHolds0 {κ : A8} {C : Addr} {vs : List V} {H : Hp} {Q : VK} {E : XK} (h : spHolds κ 0 C vs H Q E) : False := by
  obtain ⟨_, _, _, _, _, _, _, h, _⟩ := h
  exact absurd h (Nat.not_lt_zero _)
theorem sc_CauseIs___init__ : FnScope ["self", "name"] ["self", "name"] (defScope s_CauseIs___init__) := ⟨rfl, rfl, rfl, by decide +kernel, rfl, by decide +kernel, by decide +kernel⟩
theorem ok_CauseIs___init__ {f : Addr} {fd : FuncData} (F : Fun K "__init__" "CauseIs.__init__" s_CauseIs___init__ f fd) (L : Kl K mg C_Condition C_CauseIs C_ThingIs C_DaysIn C_Over C_Not C_All C_Some C_Reader) : FnOk P w K mg base CX0 1 f fd ["self", "name"] (spMk1 C_CauseIs "name") := by
  have sc := sc_CauseIs___init__
  refine F.ok sc (fun vs H Q E h => ?_) (fun cdv A outer s H vs Q E hr h => ?_)
  · obtain ⟨_, _, _, rfl, _⟩ := h
    rfl
  obtain ⟨p, dx, n, rfl, hp, q⟩ := h
  refine ⟨_, (pss_one (ps_fld (pv 0) (pv 1) rfl)), ?_⟩
  exact ⟨_, rfl, _, rfl, p, _, dx, _, rfl, hp, L.cl_CauseIs, L.na_CauseIs_name, (by show 0 < 1000; decide), q⟩
theorem sc_ThingIs___init__ : FnScope ["self", "name"] ["self", "name"] (defScope s_ThingIs___init__) := ⟨rfl, rfl, rfl, by decide +kernel, rfl, by decide +kernel, by decide +kernel⟩
theorem ok_ThingIs___init__ {f : Addr} {fd : FuncData} (F : Fun K "__init__" "ThingIs.__init__" s_ThingIs___init__ f fd) (L : Kl K mg C_Condition C_CauseIs C_ThingIs C_DaysIn C_Over C_Not C_All C_Some C_Reader) : FnOk P w K mg base CX0 1 f fd ["self", "name"] (spMk1 C_ThingIs "name") := by
  have sc := sc_ThingIs___init__
  refine F.ok sc (fun vs H Q E h => ?_) (fun cdv A outer s H vs Q E hr h => ?_)
  · obtain ⟨_, _, _, rfl, _⟩ := h
    rfl
  obtain ⟨p, dx, n, rfl, hp, q⟩ := h
  refine ⟨_, (pss_one (ps_fld (pv 0) (pv 1) rfl)), ?_⟩
  exact ⟨_, rfl, _, rfl, p, _, dx, _, rfl, hp, L.cl_ThingIs, L.na_ThingIs_name, (by show 0 < 1000; decide), q⟩
theorem sc_Over___init__ : FnScope ["self", "cents"] ["self", "cents"] (defScope s_Over___init__) := ⟨rfl, rfl, rfl, by decide +kernel, rfl, by decide +kernel, by decide +kernel⟩
theorem ok_Over___init__ {f : Addr} {fd : FuncData} (F : Fun K "__init__" "Over.__init__" s_Over___init__ f fd) (L : Kl K mg C_Condition C_CauseIs C_ThingIs C_DaysIn C_Over C_Not C_All C_Some C_Reader) : FnOk P w K mg base CX0 1 f fd ["self", "cents"] (spMk1 C_Over "cents") := by
  have sc := sc_Over___init__
  refine F.ok sc (fun vs H Q E h => ?_) (fun cdv A outer s H vs Q E hr h => ?_)
  · obtain ⟨_, _, _, rfl, _⟩ := h
    rfl
  obtain ⟨p, dx, n, rfl, hp, q⟩ := h
  refine ⟨_, (pss_one (ps_fld (pv 0) (pv 1) rfl)), ?_⟩
  exact ⟨_, rfl, _, rfl, p, _, dx, _, rfl, hp, L.cl_Over, L.na_Over_cents, (by show 0 < 1000; decide), q⟩
theorem sc_Not___init__ : FnScope ["self", "part"] ["self", "part"] (defScope s_Not___init__) := ⟨rfl, rfl, rfl, by decide +kernel, rfl, by decide +kernel, by decide +kernel⟩
theorem ok_Not___init__ {f : Addr} {fd : FuncData} (F : Fun K "__init__" "Not.__init__" s_Not___init__ f fd) (L : Kl K mg C_Condition C_CauseIs C_ThingIs C_DaysIn C_Over C_Not C_All C_Some C_Reader) : FnOk P w K mg base CX0 1 f fd ["self", "part"] (spMk1 C_Not "part") := by
  have sc := sc_Not___init__
  refine F.ok sc (fun vs H Q E h => ?_) (fun cdv A outer s H vs Q E hr h => ?_)
  · obtain ⟨_, _, _, rfl, _⟩ := h
    rfl
  obtain ⟨p, dx, n, rfl, hp, q⟩ := h
  refine ⟨_, (pss_one (ps_fld (pv 0) (pv 1) rfl)), ?_⟩
  exact ⟨_, rfl, _, rfl, p, _, dx, _, rfl, hp, L.cl_Not, L.na_Not_part, (by show 0 < 1000; decide), q⟩
theorem sc_DaysIn___init__ : FnScope ["self", "first", "last"] ["self", "first", "last"] (defScope s_DaysIn___init__) := ⟨rfl, rfl, rfl, by decide +kernel, rfl, by decide +kernel, by decide +kernel⟩
theorem ok_DaysIn___init__ {f : Addr} {fd : FuncData} (F : Fun K "__init__" "DaysIn.__init__" s_DaysIn___init__ f fd) (L : Kl K mg C_Condition C_CauseIs C_ThingIs C_DaysIn C_Over C_Not C_All C_Some C_Reader) : FnOk P w K mg base CX0 1 f fd ["self", "first", "last"] (spMkD C_DaysIn) := by
  have sc := sc_DaysIn___init__
  refine F.ok sc (fun vs H Q E h => ?_) (fun cdv A outer s H vs Q E hr h => ?_)
  · obtain ⟨_, _, _, _, rfl, _⟩ := h
    rfl
  obtain ⟨p, dx, a, b, rfl, hp, q⟩ := h
  refine ⟨_, (pss_cons (ps_fld (pv 0) (pv 1) rfl)
      (pss_one (ps_fld (pv 0) (pv 2) rfl))), ?_⟩
  refine ⟨_, rfl, _, rfl, p, _, dx, _, rfl, hp, L.cl_DaysIn, L.na_DaysIn_first, (by show 0 < 1000; decide), ?_⟩
  exact ⟨_, rfl, _, rfl, p, _, dx, _, rfl, upd_same, L.cl_DaysIn, L.na_DaysIn_last, (by show 1 < 1000; decide), q _ (fun b n => by rw [upd_ne n, upd_ne n]) upd_same⟩
theorem sc_All___init__ : FnScope ["self", "several"] ["self", "several"] (defScope s_All___init__) := ⟨rfl, rfl, rfl, by decide +kernel, rfl, by decide +kernel, by decide +kernel⟩
theorem ok_All___init__ {f : Addr} {fd : FuncData} (F : Fun K "__init__" "All.__init__" s_All___init__ f fd) (T : Txt K mg) (L : Kl K mg C_Condition C_CauseIs C_ThingIs C_DaysIn C_Over C_Not C_All C_Some C_Reader) : FnOk P w K mg base CX0 1 f fd ["self", "several"] (spMkA C_All) := by
  have sc := sc_All___init__
  refine F.ok sc (fun vs H Q E h => ?_) (fun cdv A outer s H vs Q E hr h => ?_)
  · obtain ⟨_, _, _, _, rfl, _⟩ := h
    rfl
  obtain ⟨p, dx, a, xs, rfl, hp, ha, q⟩ := h
  refine ⟨_, (pss_one (ps_fld (pv 0) (pe_callTy call_list_of rfl T.n_list (show bootBuiltins _ = some (.type "list") from rfl) (pa_cons (pv 1) pa_nil)) rfl)), ?_⟩
  refine ⟨_, rfl, a, _, rfl, .inl (SqL.of ha), fun l hl => ?_⟩
  have hpl : p ≠ l := ne_of_none hp hl
  exact ⟨_, rfl, p, _, dx, _, rfl, (by rw [upd_ne hpl]; exact hp), L.cl_All, L.na_All_several, (by show 0 < 1000; decide), q l _ hl (fun b n1 n2 => by rw [upd_ne n1, upd_ne n2]) upd_same (by rw [upd_ne hpl.symm, upd_same])⟩
theorem sc_Some___init__ : FnScope ["self", "several"] ["self", "several"] (defScope s_Some___init__) := ⟨rfl, rfl, rfl, by decide +kernel, rfl, by decide +kernel, by decide +kernel⟩
theorem ok_Some___init__ {f : Addr} {fd : FuncData} (F : Fun K "__init__" "Some.__init__" s_Some___init__ f fd) (T : Txt K mg) (L : Kl K mg C_Condition C_CauseIs C_ThingIs C_DaysIn C_Over C_Not C_All C_Some C_Reader) : FnOk P w K mg base CX0 1 f fd ["self", "several"] (spMkA C_Some) := by
  have sc := sc_Some___init__
  refine F.ok sc (fun vs H Q E h => ?_) (fun cdv A outer s H vs Q E hr h => ?_)
  · obtain ⟨_, _, _, _, rfl, _⟩ := h
    rfl
  obtain ⟨p, dx, a, xs, rfl, hp, ha, q⟩ := h
  refine ⟨_, (pss_one (ps_fld (pv 0) (pe_callTy call_list_of rfl T.n_list (show bootBuiltins _ = some (.type "list") from rfl) (pa_cons (pv 1) pa_nil)) rfl)), ?_⟩
  refine ⟨_, rfl, a, _, rfl, .inl (SqL.of ha), fun l hl => ?_⟩
  have hpl : p ≠ l := ne_of_none hp hl
  exact ⟨_, rfl, p, _, dx, _, rfl, (by rw [upd_ne hpl]; exact hp), L.cl_Some, L.na_Some_several, (by show 0 < 1000; decide), q l _ hl (fun b n1 n2 => by rw [upd_ne n1, upd_ne n2]) upd_same (by rw [upd_ne hpl.symm, upd_same])⟩
theorem sc_Condition_holds : FnScope ["self", "loss"] ["self", "loss"] (defScope s_Condition_holds) := ⟨rfl, rfl, rfl, by decide +kernel, rfl, by decide +kernel, by decide +kernel⟩
theorem ok_Condition_holds {f : Addr} {fd : FuncData} (F : Fun K "holds" "Condition.holds" s_Condition_holds f fd) (L : Kl K mg C_Condition C_CauseIs C_ThingIs C_DaysIn C_Over C_Not C_All C_Some C_Reader) {m : Nat} : FnOk P w K mg base CX0 1 f fd ["self", "loss"] (spHolds (A8.mk C_Condition C_CauseIs C_ThingIs C_DaysIn C_Over C_Not C_All C_Some) m C_Condition) := by
  have sc := sc_Condition_holds
  refine F.ok sc (fun vs H Q E h => ?_) (fun cdv A outer s H vs Q E hr h => ?_)
  · obtain ⟨_, _, _, _, rfl, _⟩ := h
    rfl
  obtain ⟨p, t, l, x, rfl, hp, hc, hg, hl, q⟩ := h
  obtain rfl := kd0 (κ := A8.mk C_Condition C_CauseIs C_ThingIs C_DaysIn C_Over C_Not C_All C_Some) (nd8 L) hc
  unfold hT at q
  exact ⟨_, (pss_one (ps_ret pe_bl)), q⟩
theorem sc_CauseIs_holds : FnScope ["self", "loss"] ["self", "loss"] (defScope s_CauseIs_holds) := ⟨rfl, rfl, rfl, by decide +kernel, rfl, by decide +kernel, by decide +kernel⟩
theorem ok_CauseIs_holds {f : Addr} {fd : FuncData} (F : Fun K "holds" "CauseIs.holds" s_CauseIs_holds f fd) (T : Txt K mg) (L : Kl K mg C_Condition C_CauseIs C_ThingIs C_DaysIn C_Over C_Not C_All C_Some C_Reader) {m : Nat} : FnOk P w K mg base CX0 1 f fd ["self", "loss"] (spHolds (A8.mk C_Condition C_CauseIs C_ThingIs C_DaysIn C_Over C_Not C_All C_Some) m C_CauseIs) := by
  have sc := sc_CauseIs_holds
  refine F.ok sc (fun vs H Q E h => ?_) (fun cdv A outer s H vs Q E hr h => ?_)
  · obtain ⟨_, _, _, _, rfl, _⟩ := h
    rfl
  obtain ⟨p, t, l, x, rfl, hp, hc, hg, ⟨ev, n, ht⟩, q⟩ := h
  obtain ⟨nm, rfl⟩ := kd1 (κ := A8.mk C_Condition C_CauseIs C_ThingIs C_DaysIn C_Over C_Not C_All C_Some) (nd8 L) hc
  unfold hT at q
  unfold CdAt at hp
  obtain ⟨_, dx, e, hp⟩ := hp
  cases e
  refine ⟨_, (pss_one (ps_ret (pe_cmpR op_eq (pe_ix ix_tup (pv 1) (pe_gint T.g_CAUSE rfl) (fun _ _ => rfl)) (pe_fld (pv 0) rfl) (nomark _)))), ?_⟩
  exact ⟨_, rfl, l, _, _, _, rfl, rfl, SqT.of ht, rfl, _, rfl, p, _, dx, _, _, rfl, hp, L.cl_CauseIs, L.na_CauseIs_name, lc_name1 nm, rfl, q⟩
theorem sc_ThingIs_holds : FnScope ["self", "loss"] ["self", "loss"] (defScope s_ThingIs_holds) := ⟨rfl, rfl, rfl, by decide +kernel, rfl, by decide +kernel, by decide +kernel⟩
theorem ok_ThingIs_holds {f : Addr} {fd : FuncData} (F : Fun K "holds" "ThingIs.holds" s_ThingIs_holds f fd) (T : Txt K mg) (L : Kl K mg C_Condition C_CauseIs C_ThingIs C_DaysIn C_Over C_Not C_All C_Some C_Reader) {m : Nat} : FnOk P w K mg base CX0 1 f fd ["self", "loss"] (spHolds (A8.mk C_Condition C_CauseIs C_ThingIs C_DaysIn C_Over C_Not C_All C_Some) m C_ThingIs) := by
  have sc := sc_ThingIs_holds
  refine F.ok sc (fun vs H Q E h => ?_) (fun cdv A outer s H vs Q E hr h => ?_)
  · obtain ⟨_, _, _, _, rfl, _⟩ := h
    rfl
  obtain ⟨p, t, l, x, rfl, hp, hc, hg, ⟨ev, n, ht⟩, q⟩ := h
  obtain ⟨nm, rfl⟩ := kd2 (κ := A8.mk C_Condition C_CauseIs C_ThingIs C_DaysIn C_Over C_Not C_All C_Some) (nd8 L) hc
  unfold hT at q
  unfold CdAt at hp
  obtain ⟨_, dx, e, hp⟩ := hp
  cases e
  refine ⟨_, (pss_one (ps_ret (pe_cmpR op_eq (pe_ix ix_tup (pv 1) (pe_gint T.g_THING rfl) (fun _ _ => rfl)) (pe_fld (pv 0) rfl) (nomark _)))), ?_⟩
  exact ⟨_, rfl, l, _, _, _, rfl, rfl, SqT.of ht, rfl, _, rfl, p, _, dx, _, _, rfl, hp, L.cl_ThingIs, L.na_ThingIs_name, lc_name2 nm, rfl, q⟩
theorem sc_DaysIn_holds : FnScope ["self", "loss"] ["self", "loss"] (defScope s_DaysIn_holds) := ⟨rfl, rfl, rfl, by decide +kernel, rfl, by decide +kernel, by decide +kernel⟩
theorem ok_DaysIn_holds {f : Addr} {fd : FuncData} (F : Fun K "holds" "DaysIn.holds" s_DaysIn_holds f fd) (T : Txt K mg) (L : Kl K mg C_Condition C_CauseIs C_ThingIs C_DaysIn C_Over C_Not C_All C_Some C_Reader) {m : Nat} : FnOk P w K mg base CX0 1 f fd ["self", "loss"] (spHolds (A8.mk C_Condition C_CauseIs C_ThingIs C_DaysIn C_Over C_Not C_All C_Some) m C_DaysIn) := by
  have sc := sc_DaysIn_holds
  refine F.ok sc (fun vs H Q E h => ?_) (fun cdv A outer s H vs Q E hr h => ?_)
  · obtain ⟨_, _, _, _, rfl, _⟩ := h
    rfl
  obtain ⟨p, t, l, x, rfl, hp, hc, hg, ⟨ev, n, ht⟩, q⟩ := h
  obtain ⟨a, b, rfl⟩ := kd3 (κ := A8.mk C_Condition C_CauseIs C_ThingIs C_DaysIn C_Over C_Not C_All C_Some) (nd8 L) hc
  unfold hT at q
  unfold CdAt at hp
  obtain ⟨_, dx, e, hp⟩ := hp
  cases e
  refine ⟨_, (pss_one (ps_ret (pe_chain op_le op_le (pe_fld (pv 0) rfl) (pe_ix ix_tup (pv 1) (pe_gint T.g_DAY rfl) (fun _ _ => rfl)) (pe_fld (pv 0) rfl)))), ?_⟩
  have q' : Q (.bl (decide (a ≤ x.d) && decide (x.d ≤ b))) H := q
  refine ⟨_, rfl, p, _, dx, _, _, rfl, hp, L.cl_DaysIn, L.na_DaysIn_first, lc_first a b, _, rfl, l, _, _, _, rfl, rfl, SqT.of ht, rfl, _, _, rfl, rfl, _, rfl, ite2 (fun e => ?_) (fun e => ?_)⟩
  · rw [e, Bool.true_and] at q'
    exact ⟨_, rfl, p, _, dx, _, _, rfl, hp, L.cl_DaysIn, L.na_DaysIn_last, lc_last a b, _, _, rfl, rfl, q'⟩
  · rw [Bool.eq_false_iff.mpr e, Bool.false_and] at q'
    exact q'
theorem sc_Over_holds : FnScope ["self", "loss"] ["self", "loss"] (defScope s_Over_holds) := ⟨rfl, rfl, rfl, by decide +kernel, rfl, by decide +kernel, by decide +kernel⟩
theorem ok_Over_holds {f : Addr} {fd : FuncData} (F : Fun K "holds" "Over.holds" s_Over_holds f fd) (T : Txt K mg) (L : Kl K mg C_Condition C_CauseIs C_ThingIs C_DaysIn C_Over C_Not C_All C_Some C_Reader) {m : Nat} : FnOk P w K mg base CX0 1 f fd ["self", "loss"] (spHolds (A8.mk C_Condition C_CauseIs C_ThingIs C_DaysIn C_Over C_Not C_All C_Some) m C_Over) := by
  have sc := sc_Over_holds
  refine F.ok sc (fun vs H Q E h => ?_) (fun cdv A outer s H vs Q E hr h => ?_)
  · obtain ⟨_, _, _, _, rfl, _⟩ := h
    rfl
  obtain ⟨p, t, l, x, rfl, hp, hc, hg, ⟨ev, n, ht⟩, q⟩ := h
  obtain ⟨c, rfl⟩ := kd4 (κ := A8.mk C_Condition C_CauseIs C_ThingIs C_DaysIn C_Over C_Not C_All C_Some) (nd8 L) hc
  unfold hT at q
  unfold CdAt at hp
  obtain ⟨_, dx, e, hp⟩ := hp
  cases e
  refine ⟨_, (pss_one (ps_ret (pe_cmpR op_gt (pe_ix ix_tup (pv 1) (pe_gint T.g_CENTS rfl) (fun _ _ => rfl)) (pe_fld (pv 0) rfl) (nomark _)))), ?_⟩
  exact ⟨_, rfl, l, _, _, _, rfl, rfl, SqT.of ht, rfl, _, rfl, p, _, dx, _, _, rfl, hp, L.cl_Over, L.na_Over_cents, lc_cents c, _, _, rfl, rfl, q⟩
theorem sc_Not_holds : FnScope ["self", "loss"] ["self", "loss"] (defScope s_Not_holds) := ⟨rfl, rfl, rfl, by decide +kernel, rfl, by decide +kernel, by decide +kernel⟩
theorem ok_Not_holds {f : Addr} {fd : FuncData} (F : Fun K "holds" "Not.holds" s_Not_holds f fd) (L : Kl K mg C_Condition C_CauseIs C_ThingIs C_DaysIn C_Over C_Not C_All C_Some C_Reader) {m : Nat} (Mholds : MFam P w K mg base m (A8.Fam (A8.mk C_Condition C_CauseIs C_ThingIs C_DaysIn C_Over C_Not C_All C_Some)) "holds" ["self", "loss"] (spHolds (A8.mk C_Condition C_CauseIs C_ThingIs C_DaysIn C_Over C_Not C_All C_Some) m)) : FnOk P w K mg base CX0 (m + 1) f fd ["self", "loss"] (spHolds (A8.mk C_Condition C_CauseIs C_ThingIs C_DaysIn C_Over C_Not C_All C_Some) (m + 1) C_Not) := by
  have sc := sc_Not_holds
  refine F.ok sc (fun vs H Q E h => ?_) (fun cdv A outer s H vs Q E hr h => ?_)
  · obtain ⟨_, _, _, _, rfl, _⟩ := h
    rfl
  obtain ⟨p, t, l, x, rfl, hp, hc, hg, hl, q⟩ := h
  obtain ⟨u, rfl⟩ := kd5 (κ := A8.mk C_Condition C_CauseIs C_ThingIs C_DaysIn C_Over C_Not C_All C_Some) (nd8 L) hc
  unfold hT at q
  unfold hgt at hg
  unfold CdAt at hp
  obtain ⟨_, dx, v, e, hp, hu⟩ := hp
  cases e
  obtain ⟨pu, du, fu, rfl, eu, n1, _⟩ := hu.obj
  refine ⟨_, (pss_one (ps_ret (pe_not (pe_methD Mholds (hr.mono (by omega)) (pe_fld (pv 0) rfl) (pa_cons (pv 1) pa_nil))))), ?_⟩
  refine ⟨_, rfl, p, _, dx, _, _, rfl, hp, L.cl_Not, L.na_Not_part, lc_put _ _, pu, _, du, fu, rfl, eu, A8.fam _ u, n1, _, rfl, pu, u, l, x, rfl, hu, rfl, by omega, hl, ?_⟩
  exact ⟨_, rfl, q⟩
theorem sc_All_holds : FnScope ["self", "loss", "part"] ["self", "loss"] (defScope s_All_holds) := ⟨rfl, rfl, rfl, by decide +kernel, rfl, by decide +kernel, by decide +kernel⟩
theorem ok_All_holds {f : Addr} {fd : FuncData} (F : Fun K "holds" "All.holds" s_All_holds f fd) (L : Kl K mg C_Condition C_CauseIs C_ThingIs C_DaysIn C_Over C_Not C_All C_Some C_Reader) {m : Nat} (Mholds : MFam P w K mg base m (A8.Fam (A8.mk C_Condition C_CauseIs C_ThingIs C_DaysIn C_Over C_Not C_All C_Some)) "holds" ["self", "loss"] (spHolds (A8.mk C_Condition C_CauseIs C_ThingIs C_DaysIn C_Over C_Not C_All C_Some) m)) : FnOk P w K mg base CX0 (m + 1) f fd ["self", "loss"] (spHolds (A8.mk C_Condition C_CauseIs C_ThingIs C_DaysIn C_Over C_Not C_All C_Some) (m + 1) C_All) := by
  have sc := sc_All_holds
  refine F.ok sc (fun vs H Q E h => ?_) (fun cdv A outer s H vs Q E hr h => ?_)
  · obtain ⟨_, _, _, _, rfl, _⟩ := h
    rfl
  obtain ⟨p, t, l, x, rfl, hp, hc, hg, hl, q⟩ := h
  obtain ⟨ts, rfl⟩ := kd6 (κ := A8.mk C_Condition C_CauseIs C_ThingIs C_DaysIn C_Over C_Not C_All C_Some) (nd8 L) hc
  unfold hT at q
  unfold hgt at hg
  unfold CdAt at hp
  obtain ⟨_, dx, a, vs, e, hp, ha, hv⟩ := hp
  cases e
  refine ⟨_, (pss_cons (ps_for PassesOwn.never rfl (pi_list (pe_fld (pv 0) rfl)) (pg_name (i := 2) sc.nd rfl (Or.inl rfl))
        (pss_one (ps_if (pt_not (pt_val (pe_methD Mholds (hr.mono (by omega)) (pv 2) (pa_cons (pv 1) pa_nil))))
        (pss_one (ps_ret pe_bl))
        pss_nil)))
      (pss_one (ps_ret pe_bl))), ?_⟩
  have hlen := hv.len
  refine ⟨_, rfl, p, _, dx, _, _, rfl, hp, L.cl_All, L.na_All_several, lc_put _ _, a, rfl, ⟨_, SqL.of ha⟩, ?_⟩
  refine for_list (K := K) (a := a) (xs := vs) (fun i σ H2 => (∃ o, σ = [some (.ref p), some (.ref l), o]) ∧ H2 = H ∧ hAll ts x = hAll (ts.drop i) x) ⟨⟨none, rfl⟩, rfl, rfl⟩ (fun i σ H2 _ ⟨_, e, _⟩ => by rw [e]; exact SqL.of ha) ?_ ?_
  · rintro i v σ H2 hi ⟨⟨o, rfl⟩, rfl, e⟩
    obtain ⟨u, eu, hu⟩ := hv.get hi
    rw [hAll_drop eu] at e
    obtain ⟨pu, du, fu, rfl, ob, n1, _⟩ := hu.obj
    refine ⟨_, rfl, pu, _, du, fu, rfl, ob, A8.fam _ u, n1, _, rfl, pu, u, l, x, rfl, hu, rfl, hgts_le (by omega) i eu, hl, ?_⟩
    cases hb : hT u x with
    | true =>
      rw [hb, Bool.true_and] at e
      exact ⟨_, rfl, iteF ⟨⟨_, rfl⟩, rfl, e⟩⟩
    | false =>
      rw [hb, Bool.false_and] at e
      rw [e] at q
      exact ⟨_, rfl, iteT q⟩
  · rintro σ H2 ⟨⟨o, rfl⟩, rfl, e⟩
    rw [hlen, List.drop_length] at e
    rw [e] at q
    unfold hAll at q
    exact q
theorem sc_Some_holds : FnScope ["self", "loss", "part"] ["self", "loss"] (defScope s_Some_holds) := ⟨rfl, rfl, rfl, by decide +kernel, rfl, by decide +kernel, by decide +kernel⟩
theorem ok_Some_holds {f : Addr} {fd : FuncData} (F : Fun K "holds" "Some.holds" s_Some_holds f fd) (L : Kl K mg C_Condition C_CauseIs C_ThingIs C_DaysIn C_Over C_Not C_All C_Some C_Reader) {m : Nat} (Mholds : MFam P w K mg base m (A8.Fam (A8.mk C_Condition C_CauseIs C_ThingIs C_DaysIn C_Over C_Not C_All C_Some)) "holds" ["self", "loss"] (spHolds (A8.mk C_Condition C_CauseIs C_ThingIs C_DaysIn C_Over C_Not C_All C_Some) m)) : FnOk P w K mg base CX0 (m + 1) f fd ["self", "loss"] (spHolds (A8.mk C_Condition C_CauseIs C_ThingIs C_DaysIn C_Over C_Not C_All C_Some) (m + 1) C_Some) := by
  have sc := sc_Some_holds
  refine F.ok sc (fun vs H Q E h => ?_) (fun cdv A outer s H vs Q E hr h => ?_)
  · obtain ⟨_, _, _, _, rfl, _⟩ := h
    rfl
  obtain ⟨p, t, l, x, rfl, hp, hc, hg, hl, q⟩ := h
  obtain ⟨ts, rfl⟩ := kd7 (κ := A8.mk C_Condition C_CauseIs C_ThingIs C_DaysIn C_Over C_Not C_All C_Some) (nd8 L) hc
  unfold hT at q
  unfold hgt at hg
  unfold CdAt at hp
  obtain ⟨_, dx, a, vs, e, hp, ha, hv⟩ := hp
  cases e
  refine ⟨_, (pss_cons (ps_for PassesOwn.never rfl (pi_list (pe_fld (pv 0) rfl)) (pg_name (i := 2) sc.nd rfl (Or.inl rfl))
        (pss_one (ps_if (pt_val (pe_methD Mholds (hr.mono (by omega)) (pv 2) (pa_cons (pv 1) pa_nil)))
        (pss_one (ps_ret pe_bl))
        pss_nil)))
      (pss_one (ps_ret pe_bl))), ?_⟩
  have hlen := hv.len
  refine ⟨_, rfl, p, _, dx, _, _, rfl, hp, L.cl_Some, L.na_Some_several, lc_put _ _, a, rfl, ⟨_, SqL.of ha⟩, ?_⟩
  refine for_list (K := K) (a := a) (xs := vs) (fun i σ H2 => (∃ o, σ = [some (.ref p), some (.ref l), o]) ∧ H2 = H ∧ hSom ts x = hSom (ts.drop i) x) ⟨⟨none, rfl⟩, rfl, rfl⟩ (fun i σ H2 _ ⟨_, e, _⟩ => by rw [e]; exact SqL.of ha) ?_ ?_
  · rintro i v σ H2 hi ⟨⟨o, rfl⟩, rfl, e⟩
    obtain ⟨u, eu, hu⟩ := hv.get hi
    rw [hSom_drop eu] at e
    obtain ⟨pu, du, fu, rfl, ob, n1, _⟩ := hu.obj
    refine ⟨_, rfl, pu, _, du, fu, rfl, ob, A8.fam _ u, n1, _, rfl, pu, u, l, x, rfl, hu, rfl, hgts_le (by omega) i eu, hl, ?_⟩
    cases hb : hT u x with
    | false =>
      rw [hb, Bool.false_or] at e
      exact ⟨_, rfl, iteF ⟨⟨_, rfl⟩, rfl, e⟩⟩
    | true =>
      rw [hb, Bool.true_or] at e
      rw [e] at q
      exact ⟨_, rfl, iteT q⟩
  · rintro σ H2 ⟨⟨o, rfl⟩, rfl, e⟩
    rw [hlen, List.drop_length] at e
    rw [e] at q
    unfold hSom at q
    exact q
end
def rankT : Cnd → Int
  | .al _ => 2
  | .so _ => 1
  | _ => 3
def spRank (κ : A8) (C : Addr) : Sp := fun vs H Q _ => ∃ (p : Addr) (t : Cnd), vs = [.ref p] ∧ κ.of t = C ∧ Q (.int (rankT t)) H
section
variable {P : Program} {w : World} {K : PySem.W.Frag} {mg : Str → Option Value} {base : Heap} {C_Condition C_CauseIs C_ThingIs C_DaysIn C_Over C_Not C_All C_Some C_Reader : Addr}
theorem sc_Condition_rank : FnScope ["self"] ["self"] (defScope s_Condition_rank) := ⟨rfl, rfl, rfl, by decide +kernel, rfl, by decide +kernel, by decide +kernel⟩
theorem ok_Condition_rank {f : Addr} {fd : FuncData} (F : Fun K "rank" "Condition.rank" s_Condition_rank f fd) (T : Txt K mg) (L : Kl K mg C_Condition C_CauseIs C_ThingIs C_DaysIn C_Over C_Not C_All C_Some C_Reader) {C : Addr} (h6 : C ≠ C_All) (h7 : C ≠ C_Some) : FnOk P w K mg base CX0 1 f fd ["self"] (spRank (A8.mk C_Condition C_CauseIs C_ThingIs C_DaysIn C_Over C_Not C_All C_Some) C) := by
  have sc := sc_Condition_rank
  refine F.ok sc (fun vs H Q E h => ?_) (fun cdv A outer s H vs Q E hr h => ?_)
  · obtain ⟨_, _, rfl, _⟩ := h
    rfl
  obtain ⟨p, t, rfl, hc, q⟩ := h
  have e : rankT t = 3 := by
    cases t with
    | al _ => exact absurd hc.symm h6
    | so _ => exact absurd hc.symm h7
    | _ => rfl
  rw [e] at q
  exact ⟨_, (pss_one (ps_ret (pe_gint T.g_RANK_OF_OTHERS rfl))), q⟩
theorem sc_All_rank : FnScope ["self"] ["self"] (defScope s_All_rank) := ⟨rfl, rfl, rfl, by decide +kernel, rfl, by decide +kernel, by decide +kernel⟩
theorem ok_All_rank {f : Addr} {fd : FuncData} (F : Fun K "rank" "All.rank" s_All_rank f fd) (T : Txt K mg) (L : Kl K mg C_Condition C_CauseIs C_ThingIs C_DaysIn C_Over C_Not C_All C_Some C_Reader) : FnOk P w K mg base CX0 1 f fd ["self"] (spRank (A8.mk C_Condition C_CauseIs C_ThingIs C_DaysIn C_Over C_Not C_All C_Some) C_All) := by
  have sc := sc_All_rank
  refine F.ok sc (fun vs H Q E h => ?_) (fun cdv A outer s H vs Q E hr h => ?_)
  · obtain ⟨_, _, rfl, _⟩ := h
    rfl
  obtain ⟨p, t, rfl, hc, q⟩ := h
  obtain ⟨u, rfl⟩ := kd6 (κ := A8.mk C_Condition C_CauseIs C_ThingIs C_DaysIn C_Over C_Not C_All C_Some) (nd8 L) hc
  exact ⟨_, (pss_one (ps_ret (pe_gint T.g_RANK_OF_ALL rfl))), q⟩
theorem sc_Some_rank : FnScope ["self"] ["self"] (defScope s_Some_rank) := ⟨rfl, rfl, rfl, by decide +kernel, rfl, by decide +kernel, by decide +kernel⟩
theorem ok_Some_rank {f : Addr} {fd : FuncData} (F : Fun K "rank" "Some.rank" s_Some_rank f fd) (T : Txt K mg) (L : Kl K mg C_Condition C_CauseIs C_ThingIs C_DaysIn C_Over C_Not C_All C_Some C_Reader) : FnOk P w K mg base CX0 1 f fd ["self"] (spRank (A8.mk C_Condition C_CauseIs C_ThingIs C_DaysIn C_Over C_Not C_All C_Some) C_Some) := by
  have sc := sc_Some_rank
  refine F.ok sc (fun vs H Q E h => ?_) (fun cdv A outer s H vs Q E hr h => ?_)
  · obtain ⟨_, _, rfl, _⟩ := h
    rfl
  obtain ⟨p, t, rfl, hc, q⟩ := h
  obtain ⟨u, rfl⟩ := kd7 (κ := A8.mk C_Condition C_CauseIs C_ThingIs C_DaysIn C_Over C_Not C_All C_Some) (nd8 L) hc
  exact ⟨_, (pss_one (ps_ret (pe_gint T.g_RANK_OF_SOME rfl))), q⟩
end
def nmOk (n : Str) : Prop := ∃ l, n = tx l ∧ NameL l
def okCo : Co → Prop
  | .alw => True
  | .cau n => nmOk n
  | .thi n => nmOk n
  | .day a b => 0 ≤ a ∧ a ≤ b ∧ b ≤ 1000000
  | .ovr m => 0 ≤ m ∧ m ≤ 999999999999
theorem atG {i : Nat} {v : V} {nx : St → Hp → Prop} {σ : St} {H : Hp} (σ' : St) (e : σ.set i (some v) = σ') (h : nx σ' H) : gName i v σ H nx := by
  unfold gName
  rw [e]
  exact h
def joinT (b : Bool) (ts : List Cnd) : Cnd := if b then .al ts else .so ts
def kindS (b : Bool) : Str := if b then "all" else "some"
def leastB (b : Bool) : Int := if b then 3 else 2
theorem seqC {i : Nat} {v : V} {t2 : TS} {D : Ends} {σ : St} {H : Hp} (σ' : St) (e : σ.set i (some v) = σ') (h : t2 D σ' H) : tSeq (tAsg (tC v) (gName i)) t2 D σ H := by
  show t2 D (σ.set i (some v)) H
  rw [e]
  exact h
theorem at0 {α : Type} (x : α) (xs : List α) : atI (x :: xs) 0 = some x := atI_nat (j := 0) rfl
theorem kind_ix (b : Bool) : atI [V.int 2, V.int 3] (if decide (V.str (kindS b) = V.str "all") = true then 1 else 0) = some (.int (leastB b)) := by
  cases b with
  | true => rw [decide_eq_true (show V.str (kindS true) = V.str "all" from rfl)]; rfl
  | false => rw [decide_eq_false (show ¬ V.str (kindS false) = V.str "all" from fun z => absurd (V.str.inj z) (by decide +kernel))]; rfl
theorem same_upd {H H' : Hp} {p : Addr} {o : HO} (h : H p = none) (s : Same H H') : Same H (upd H' p o) := fun b u e => by rw [upd_ne (ne_of_none e h)]; exact s _ _ e
theorem take_snoc {α : Type} {l : List α} {i : Nat} {x : α} (h : l[i]? = some x) : l.take (i + 1) = l.take i ++ [x] := by
  rw [List.take_add_one, h]
  rfl
theorem maxI_eq (a b : Int) : (if b > a then b else a) = max a b := by omega
theorem same_two {H : Hp} {y d : Addr} {o1 o2 : HO} (hy : H y = none) (hd : H d = none) : Same H (upd (upd H d o1) y o2) := fun b o e => by rw [upd_ne (ne_of_none e hy), upd_ne (ne_of_none e hd)]; exact e
theorem same_three {H : Hp} {y d : Addr} {o1 o2 o3 : HO} (hy : H y = none) (hd : H d = none) : Same H (upd (upd (upd H d o1) y o2) y o3) := fun b o e => by rw [upd_ne (ne_of_none e hy), upd_ne (ne_of_none e hy), upd_ne (ne_of_none e hd)]; exact e
def Off (p : Addr) (H : Hp) : Hp := fun b => if b = p then none else H b
theorem Off.at {p b : Addr} {H : Hp} {o : HO} (h : Off p H b = some o) : b ≠ p ∧ H b = some o := by
  unfold Off at h
  by_cases e : b = p
  · rw [if_pos e] at h; cases h
  · rw [if_neg e] at h; exact ⟨e, h⟩
theorem Off.of {p b : Addr} {H : Hp} {o : HO} (n : b ≠ p) (h : H b = some o) : Off p H b = some o := by
  unfold Off
  rw [if_neg n]; exact h
def wordsC : Co → List Str
  | .alw => [Str.ofString "always"]
  | .cau n => [Str.ofString "cause", n]
  | .thi n => [Str.ofString "thing", n]
  | .day a b => [Str.ofString "days", tx (figs a.toNat), tx (figs b.toNat)]
  | .ovr m => [Str.ofString "over", tx (shown m.toNat)]
theorem wordsC_len (c : Co) : ((wordsC c).length : Int) = sizeC c := by cases c <;> rfl
def spWords (κ : A8) (m : Nat) (C : Addr) : Sp := fun vs H Q _ => ∃ p t, vs = [.ref p] ∧ CdAt κ H (.ref p) t ∧ κ.of t = C ∧ hgt t < m ∧ okT okCo t ∧ (wordsT wordsC t).length ≤ 60 ∧ ∀ l H', Same H H' → H l = none → H' l = some (.lst ((wordsT wordsC t).map V.str)) → Q (.ref l) H'
def spWW (κ : A8) (m : Nat) : Sp := fun vs H Q _ => ∃ v t, ∃ h : Int, vs = [v, .int h] ∧ CdAt κ H v t ∧ hgt t < m ∧ okT okCo t ∧ (inn wordsC (h + 1) t).length ≤ 60 ∧ ∀ l H', Same H H' → H l = none → H' l = some (.lst ((inn wordsC (h + 1) t).map V.str)) → Q (.ref l) H'
def spWWs (κ : A8) (m : Nat) : Sp := fun vs H Q _ => ∃ a us ts b, ∃ h : Int, vs = [.ref a, .str b, .int h] ∧ H a = some (.lst us) ∧ CdsAt κ H us ts ∧ hgts ts < m ∧ okTs okCo ts ∧ (joinL b (ts.map (inn wordsC (h + 1)))).length ≤ 60 ∧ ∀ l H', Same H H' → H l = none → H' l = some (.lst ((joinL b (ts.map (inn wordsC (h + 1)))).map V.str)) → Q (.ref l) H'
theorem spWords0 {κ : A8} {C : Addr} {vs : List V} {H : Hp} {Q : VK} {E : XK} (h : spWords κ 0 C vs H Q E) : False := by
  obtain ⟨_, _, _, _, _, h, _⟩ := h
  exact absurd h (Nat.not_lt_zero _)
theorem tailL_take_le (b : Str) (ws : List (List Str)) (i : Nat) : (tailL b (ws.take i)).length ≤ (tailL b ws).length := by
  induction ws generalizing i with
  | nil => rw [List.take_nil]; exact Nat.le_refl _
  | cons w ws ih =>
    cases i with
    | zero => rw [List.take_zero]; exact Nat.zero_le _
    | succ i => rw [List.take_succ_cons, tailL, tailL, List.length_cons, List.length_cons, List.length_append, List.length_append]; have := ih i; omega
theorem joinL_take_le (b : Str) (ws : List (List Str)) (i : Nat) : (joinL b (ws.take i)).length ≤ (joinL b ws).length := by
  cases ws with
  | nil => rw [List.take_nil]; exact Nat.le_refl _
  | cons w ws =>
    cases i with
    | zero => rw [List.take_zero]; exact Nat.zero_le _
    | succ i => rw [List.take_succ_cons, joinL, joinL, List.length_append, List.length_append]; have := tailL_take_le b ws i; omega
theorem tailL_mem_le (b : Str) {ws : List (List Str)} {w : List Str} (h : w ∈ ws) : w.length ≤ (tailL b ws).length := by
  induction ws with
  | nil => cases h
  | cons v vs ih =>
    rw [tailL, List.length_cons, List.length_append]
    rcases List.mem_cons.mp h with rfl | h
    · omega
    · have := ih h; omega
theorem joinL_mem_le (b : Str) {ws : List (List Str)} {w : List Str} (h : w ∈ ws) : w.length ≤ (joinL b ws).length := by
  cases ws with
  | nil => cases h
  | cons v vs =>
    rw [joinL, List.length_append]
    rcases List.mem_cons.mp h with rfl | h
    · omega
    · have := tailL_mem_le b h; omega
theorem figs_small10 {n : Nat} (h : n ≤ 1000000) : n < 10 ^ 7 := by omega
section
variable {P : Program} {w : World} {K : PySem.W.Frag} {mg : Str → Option Value} {base : Heap} {C_Condition C_CauseIs C_ThingIs C_DaysIn C_Over C_Not C_All C_Some C_Reader : Addr}
theorem sc_Condition_words : FnScope ["self"] ["self"] (defScope s_Condition_words) := ⟨rfl, rfl, rfl, by decide +kernel, rfl, by decide +kernel, by decide +kernel⟩
theorem ok_Condition_words {f : Addr} {fd : FuncData} (F : Fun K "words" "Condition.words" s_Condition_words f fd) (T : Txt K mg) (L : Kl K mg C_Condition C_CauseIs C_ThingIs C_DaysIn C_Over C_Not C_All C_Some C_Reader) {m : Nat} : FnOk P w K mg base CX0 2 f fd ["self"] (spWords (A8.mk C_Condition C_CauseIs C_ThingIs C_DaysIn C_Over C_Not C_All C_Some) m C_Condition) := by
  have sc := sc_Condition_words
  refine F.ok sc (fun vs H Q E h => ?_) (fun cdv A outer s H vs Q E hr h => ?_)
  · obtain ⟨_, _, rfl, _⟩ := h
    rfl
  obtain ⟨p, t, rfl, hp, hc, hg, ok, hm, q⟩ := h
  obtain rfl := kd0 (κ := A8.mk C_Condition C_CauseIs C_ThingIs C_DaysIn C_Over C_Not C_All C_Some) (nd8 L) hc
  unfold okT at ok
  rw [wordsT_at] at q
  unfold CdAt at hp
  obtain ⟨_, dx, e, hp⟩ := hp
  cases e
  exact ⟨_, (pss_one (ps_ret (pe_lst (pa_cons pe_str pa_nil)))), by show 1 ≤ sizeLine; rw [sizeLine_eq]; decide, fun l hl => q l _ (same_new hl _) hl upd_same⟩
theorem sc_CauseIs_words : FnScope ["self"] ["self"] (defScope s_CauseIs_words) := ⟨rfl, rfl, rfl, by decide +kernel, rfl, by decide +kernel, by decide +kernel⟩
theorem ok_CauseIs_words {f : Addr} {fd : FuncData} (F : Fun K "words" "CauseIs.words" s_CauseIs_words f fd) (T : Txt K mg) (L : Kl K mg C_Condition C_CauseIs C_ThingIs C_DaysIn C_Over C_Not C_All C_Some C_Reader) {m : Nat} : FnOk P w K mg base CX0 2 f fd ["self"] (spWords (A8.mk C_Condition C_CauseIs C_ThingIs C_DaysIn C_Over C_Not C_All C_Some) m C_CauseIs) := by
  have sc := sc_CauseIs_words
  refine F.ok sc (fun vs H Q E h => ?_) (fun cdv A outer s H vs Q E hr h => ?_)
  · obtain ⟨_, _, rfl, _⟩ := h
    rfl
  obtain ⟨p, t, rfl, hp, hc, hg, ok, hm, q⟩ := h
  obtain ⟨nm, rfl⟩ := kd1 (κ := A8.mk C_Condition C_CauseIs C_ThingIs C_DaysIn C_Over C_Not C_All C_Some) (nd8 L) hc
  unfold okT at ok
  rw [wordsT_at] at q
  unfold CdAt at hp
  obtain ⟨_, dx, e, hp⟩ := hp
  cases e
  refine ⟨_, (pss_one (ps_ret (pe_lst (pa_cons pe_str (pa_cons (pe_fld (pv 0) rfl) pa_nil))))), ?_⟩
  exact ⟨_, rfl, p, _, dx, _, _, rfl, hp, L.cl_CauseIs, L.na_CauseIs_name, lc_name1 nm, by show 2 ≤ sizeLine; rw [sizeLine_eq]; decide, fun l hl => q l _ (same_new hl _) hl upd_same⟩
theorem sc_ThingIs_words : FnScope ["self"] ["self"] (defScope s_ThingIs_words) := ⟨rfl, rfl, rfl, by decide +kernel, rfl, by decide +kernel, by decide +kernel⟩
theorem ok_ThingIs_words {f : Addr} {fd : FuncData} (F : Fun K "words" "ThingIs.words" s_ThingIs_words f fd) (T : Txt K mg) (L : Kl K mg C_Condition C_CauseIs C_ThingIs C_DaysIn C_Over C_Not C_All C_Some C_Reader) {m : Nat} : FnOk P w K mg base CX0 2 f fd ["self"] (spWords (A8.mk C_Condition C_CauseIs C_ThingIs C_DaysIn C_Over C_Not C_All C_Some) m C_ThingIs) := by
  have sc := sc_ThingIs_words
  refine F.ok sc (fun vs H Q E h => ?_) (fun cdv A outer s H vs Q E hr h => ?_)
  · obtain ⟨_, _, rfl, _⟩ := h
    rfl
  obtain ⟨p, t, rfl, hp, hc, hg, ok, hm, q⟩ := h
  obtain ⟨nm, rfl⟩ := kd2 (κ := A8.mk C_Condition C_CauseIs C_ThingIs C_DaysIn C_Over C_Not C_All C_Some) (nd8 L) hc
  unfold okT at ok
  rw [wordsT_at] at q
  unfold CdAt at hp
  obtain ⟨_, dx, e, hp⟩ := hp
  cases e
  refine ⟨_, (pss_one (ps_ret (pe_lst (pa_cons pe_str (pa_cons (pe_fld (pv 0) rfl) pa_nil))))), ?_⟩
  exact ⟨_, rfl, p, _, dx, _, _, rfl, hp, L.cl_ThingIs, L.na_ThingIs_name, lc_name2 nm, by show 2 ≤ sizeLine; rw [sizeLine_eq]; decide, fun l hl => q l _ (same_new hl _) hl upd_same⟩
theorem sc_DaysIn_words : FnScope ["self"] ["self"] (defScope s_DaysIn_words) := ⟨rfl, rfl, rfl, by decide +kernel, rfl, by decide +kernel, by decide +kernel⟩
theorem ok_DaysIn_words {f : Addr} {fd : FuncData} (F : Fun K "words" "DaysIn.words" s_DaysIn_words f fd) (T : Txt K mg) (L : Kl K mg C_Condition C_CauseIs C_ThingIs C_DaysIn C_Over C_Not C_All C_Some C_Reader) {m : Nat} : FnOk P w K mg base CX0 2 f fd ["self"] (spWords (A8.mk C_Condition C_CauseIs C_ThingIs C_DaysIn C_Over C_Not C_All C_Some) m C_DaysIn) := by
  have sc := sc_DaysIn_words
  refine F.ok sc (fun vs H Q E h => ?_) (fun cdv A outer s H vs Q E hr h => ?_)
  · obtain ⟨_, _, rfl, _⟩ := h
    rfl
  obtain ⟨p, t, rfl, hp, hc, hg, ok, hm, q⟩ := h
  obtain ⟨a, b, rfl⟩ := kd3 (κ := A8.mk C_Condition C_CauseIs C_ThingIs C_DaysIn C_Over C_Not C_All C_Some) (nd8 L) hc
  unfold okT at ok
  rw [wordsT_at] at q
  unfold CdAt at hp
  obtain ⟨_, dx, e, hp⟩ := hp
  cases e
  refine ⟨_, (pss_one (ps_ret (pe_lst (pa_cons pe_str (pa_cons (pe_callTy call_str_int rfl T.n_str (show bootBuiltins _ = some (.type "str") from rfl) (pa_cons (pe_fld (pv 0) rfl) pa_nil)) (pa_cons (pe_callTy call_str_int rfl T.n_str (show bootBuiltins _ = some (.type "str") from rfl) (pa_cons (pe_fld (pv 0) rfl) pa_nil)) pa_nil)))))), ?_⟩
  obtain ⟨a0, ab, b1⟩ := ok
  have ea : ((toString a : String) : Str) = tx (figs a.toNat) := by rw [← str_nat]; congr 2; omega
  have eb : ((toString b : String) : Str) = tx (figs b.toNat) := by rw [← str_nat]; congr 2; omega
  refine ⟨_, rfl, p, _, dx, _, _, rfl, hp, L.cl_DaysIn, L.na_DaysIn_first, lc_first a b, _, rfl, log_small a0 (by omega), _, rfl, p, _, dx, _, _, rfl, hp, L.cl_DaysIn, L.na_DaysIn_last, lc_last a b, _, rfl, log_small (by omega) (by omega), by show 3 ≤ sizeLine; rw [sizeLine_eq]; decide, fun l hl => q l _ (same_new hl _) hl ?_⟩
  show upd _ _ _ _ = some (HO.lst [.str (Str.ofString "days"), .str (tx (figs a.toNat)), .str (tx (figs b.toNat))])
  rw [← ea, ← eb]
  exact upd_same
theorem sc_Over_words : FnScope ["self"] ["self"] (defScope s_Over_words) := ⟨rfl, rfl, rfl, by decide +kernel, rfl, by decide +kernel, by decide +kernel⟩
theorem ok_Over_words {f : Addr} {fd : FuncData} (F : Fun K "words" "Over.words" s_Over_words f fd) (T : Txt K mg) (L : Kl K mg C_Condition C_CauseIs C_ThingIs C_DaysIn C_Over C_Not C_All C_Some C_Reader) {m : Nat} (Cshow_cents : Cal P w K mg base 1 "show_cents" ["cents"] spShow) : FnOk P w K mg base CX0 2 f fd ["self"] (spWords (A8.mk C_Condition C_CauseIs C_ThingIs C_DaysIn C_Over C_Not C_All C_Some) m C_Over) := by
  have sc := sc_Over_words
  refine F.ok sc (fun vs H Q E h => ?_) (fun cdv A outer s H vs Q E hr h => ?_)
  · obtain ⟨_, _, rfl, _⟩ := h
    rfl
  obtain ⟨p, t, rfl, hp, hc, hg, ok, hm, q⟩ := h
  obtain ⟨c, rfl⟩ := kd4 (κ := A8.mk C_Condition C_CauseIs C_ThingIs C_DaysIn C_Over C_Not C_All C_Some) (nd8 L) hc
  unfold okT at ok
  rw [wordsT_at] at q
  unfold CdAt at hp
  obtain ⟨_, dx, e, hp⟩ := hp
  cases e
  refine ⟨_, (pss_one (ps_ret (pe_lst (pa_cons pe_str (pa_cons (pe_callC Cshow_cents (hr.mono (by decide)) rfl (pa_cons (pe_fld (pv 0) rfl) pa_nil)) pa_nil))))), ?_⟩
  obtain ⟨c0, c1⟩ := ok
  have ec : ([V.int c] ++ [] : List V) = [.int (c.toNat : Nat)] := by rw [List.append_nil]; congr 2; omega
  have cb : c.toNat < 10 ^ 60 := Nat.lt_of_lt_of_le (show c.toNat < 10 ^ 13 by omega) (Nat.pow_le_pow_right (by decide) (by decide))
  exact ⟨_, rfl, p, _, dx, _, _, rfl, hp, L.cl_Over, L.na_Over_cents, lc_cents c, c.toNat, ec, cb, by show 2 ≤ sizeLine; rw [sizeLine_eq]; decide, fun l hl => q l _ (same_new hl _) hl upd_same⟩
theorem sc_words_within : FnScope ["part", "highest_in_brackets"] ["part", "highest_in_brackets"] (defScope s_words_within) := ⟨rfl, rfl, rfl, by decide +kernel, rfl, by decide +kernel, by decide +kernel⟩
theorem ok_words_within {f : Addr} {fd : FuncData} (F : Fun K "words_within" "words_within" s_words_within f fd) {m : Nat} (Mwords : MFam P w K mg base (3 * m + 2) (A8.Fam (A8.mk C_Condition C_CauseIs C_ThingIs C_DaysIn C_Over C_Not C_All C_Some)) "words" ["self"] (spWords (A8.mk C_Condition C_CauseIs C_ThingIs C_DaysIn C_Over C_Not C_All C_Some) m)) (Mrank : MFam P w K mg base 1 (A8.Fam (A8.mk C_Condition C_CauseIs C_ThingIs C_DaysIn C_Over C_Not C_All C_Some)) "rank" ["self"] (spRank (A8.mk C_Condition C_CauseIs C_ThingIs C_DaysIn C_Over C_Not C_All C_Some))) : FnOk P w K mg base CX0 (3 * m + 2 + 1) f fd ["part", "highest_in_brackets"] (spWW (A8.mk C_Condition C_CauseIs C_ThingIs C_DaysIn C_Over C_Not C_All C_Some) m) := by
  have sc := sc_words_within
  refine F.ok sc (fun vs H Q E h => ?_) (fun cdv A outer s H vs Q E hr h => ?_)
  · obtain ⟨_, _, _, rfl, _⟩ := h
    rfl
  obtain ⟨v, t, h, rfl, cd, hg, ok, hm, q⟩ := h
  obtain ⟨pu, du, fu, rfl, ob, _, nr, nw, _⟩ := cd.obj
  have one : 1 ≤ sizeLine := by rw [sizeLine_eq]; decide
  have er : rankT t = prec t := by cases t <;> rfl
  refine ⟨_, (pss_cons (ps_if (pt_cmpR op_le (pe_meth0D Mrank (hr.mono (by omega)) (pv 0)) (pv 1) (nomark _))
        (pss_one (ps_ret (pe_op op_cat (pe_op op_cat (pe_lst (pa_cons pe_str pa_nil)) (pe_meth0D Mwords (hr.mono (by omega)) (pv 0))) (pe_lst (pa_cons pe_str pa_nil)))))
        pss_nil)
      (pss_one (ps_ret (pe_meth0D Mwords (hr.mono (by omega)) (pv 0))))), ?_⟩
  refine ⟨_, rfl, pu, _, du, fu, rfl, ob, A8.fam _ t, nr, pu, t, rfl, rfl, _, rfl, _, _, rfl, rfl, _, rfl, ite2 (fun c => ?_) (fun c => ?_)⟩
  · have c : prec t < h + 1 := by rw [← er]; have := of_decide_eq_true c; omega
    have ei : inn wordsC (h + 1) t = Str.ofString "(" :: (wordsT wordsC t ++ [Str.ofString ")"]) := if_pos c
    rw [ei] at q hm
    rw [List.length_cons, List.length_append] at hm
    have hm : (wordsT wordsC t).length + 2 ≤ 60 := by have : [Str.ofString ")"].length = 1 := rfl; omega
    refine ⟨one, fun l1 n1 => ?_⟩
    have s1 := same_new n1 (.lst [.str (Str.ofString "(")])
    refine ⟨_, rfl, pu, _, du, fu, rfl, s1 _ _ ob, A8.fam _ t, nw, pu, t, rfl, cd.same s1, rfl, hg, ok, by omega, fun l2 H2 s2 n2 h2 => ?_⟩
    refine ⟨l1, l2, _, _, rfl, rfl, s2 _ _ upd_same, h2, (by rw [List.length_map, sizeLine_eq]; show 1 + _ ≤ _; omega), fun l3 n3 => ?_⟩
    have s3 := same_new n3 (.lst ([.str (Str.ofString "(")] ++ (wordsT wordsC t).map V.str))
    refine ⟨one, fun l4 n4 => ?_⟩
    have s4 := same_new n4 (.lst [.str (Str.ofString ")")])
    refine ⟨l3, l4, _, _, rfl, rfl, s4 _ _ upd_same, upd_same, (by rw [List.length_append, List.length_map, sizeLine_eq]; show 1 + _ + 1 ≤ _; omega), fun l5 n5 => ?_⟩
    have S4 := s1.trans (s2.trans (s3.trans s4))
    refine q l5 _ (S4.trans (same_new n5 _)) (S4.free n5) ?_
    rw [List.map_cons, List.map_append]
    exact upd_same
  · have c : ¬ prec t < h + 1 := fun z => c (decide_eq_true (by rw [er]; omega))
    have ei : inn wordsC (h + 1) t = wordsT wordsC t := if_neg c
    rw [ei] at q hm
    exact ⟨_, rfl, pu, _, du, fu, rfl, ob, A8.fam _ t, nw, pu, t, rfl, cd, rfl, hg, ok, hm, fun l2 H2 s2 n2 h2 => q l2 H2 s2 n2 h2⟩
theorem sc_words_with : FnScope ["several", "between", "highest_in_brackets", "told", "k", "part"] ["several", "between", "highest_in_brackets"] (defScope s_words_with) := ⟨rfl, rfl, rfl, by decide +kernel, rfl, by decide +kernel, by decide +kernel⟩
theorem ok_words_with {f : Addr} {fd : FuncData} (F : Fun K "words_with" "words_with" s_words_with f fd) (T : Txt K mg) {m : Nat} (Cwords_within : Cal P w K mg base (3 * m + 2 + 1) "words_within" ["part", "highest_in_brackets"] (spWW (A8.mk C_Condition C_CauseIs C_ThingIs C_DaysIn C_Over C_Not C_All C_Some) m)) : FnOk P w K mg base CX0 (3 * m + 2 + 1 + 1) f fd ["several", "between", "highest_in_brackets"] (spWWs (A8.mk C_Condition C_CauseIs C_ThingIs C_DaysIn C_Over C_Not C_All C_Some) m) := by
  have sc := sc_words_with
  refine F.ok sc (fun vs H Q E h => ?_) (fun cdv A outer s H vs Q E hr h => ?_)
  · obtain ⟨_, _, _, _, _, rfl, _⟩ := h
    rfl
  obtain ⟨a, us, ts, b, h, rfl, ha, cds, hg, oks, hm, q⟩ := h
  have hlen := cds.len
  refine ⟨_, (pss_cons (ps_set (i := 3) sc.nd rfl (Or.inl rfl) (pe_lst pa_nil))
      (pss_cons (ps_for PassesOwn.never rfl (pi_enum rfl T.n_enumerate (pa_cons (pv 0) pa_nil)) (pg_tup (n := 2) rfl (pgs_cons (pg_name (i := 4) sc.nd rfl (Or.inl rfl)) (pgs_cons (pg_name (i := 5) sc.nd rfl (Or.inl rfl)) pgs_nil)))
        (pss_cons (ps_if (pt_cmpR op_gt (pv 4) pe_int (nomark _))
        (pss_one (ps_expr (pe_bm PySem.F.plainAttrs_list PySem.F.slot_list_append PySem.F.type_list_append mt_append (pv 3) (pa_cons (pv 1) pa_nil))))
        pss_nil)
      (pss_one (ps_expr (pe_bm PySem.F.plainAttrs_list PySem.F.slot_list_extend PySem.F.type_list_extend mt_extend (pv 3) (pa_cons (pe_callC Cwords_within (hr.mono (by omega)) rfl (pa_cons (pv 5) (pa_cons (pv 2) pa_nil))) pa_nil))))))
      (pss_one (ps_ret (pv 3))))), ?_⟩
  refine ⟨Nat.zero_le _, fun pt npt => ?_⟩
  have s0 := same_new npt (.lst [])
  refine atG [some (.ref a), some (.str b), some (.int h), some (.ref pt), none, none] rfl ?_
  refine ⟨_, rfl, a, rfl, ⟨_, SqL.of (s0 _ _ ha)⟩, for_enum (K := K) (a := a) (xs := us) (fun i σ H2 => (∃ o1 o2, σ = [some (.ref a), some (.str b), some (.int h), some (.ref pt), o1, o2]) ∧ Same H H2 ∧ H2 pt = some (.lst ((joinL b ((ts.take i).map (inn wordsC (h + 1)))).map V.str))) ⟨⟨none, none, rfl⟩, s0, upd_same⟩ (fun i σ H2 _ ⟨_, e, _⟩ => SqL.of (e _ _ ha)) ?_ ?_⟩
  · rintro i v σ H2 tt hi ⟨⟨o1, o2, rfl⟩, s2, h2⟩ ntt
    obtain ⟨u, eu, hu⟩ := cds.get hi
    have s3 := same_new ntt (.tup [.int (i : Int), v])
    have hp3 := s3 _ _ h2
    have S3 := s2.trans s3
    have npt3 : ∀ {x : Addr}, upd H2 tt (.tup [.int (i : Int), v]) x = none → x ≠ pt := fun {x} z e => by rw [e, hp3] at z; cases z
    have up := List.mem_of_getElem? eu
    have le1 : (inn wordsC (h + 1) u).length ≤ 60 := Nat.le_trans (joinL_mem_le b (List.mem_map.mpr ⟨u, up, rfl⟩)) hm
    have le2 : (joinL b ((ts.take i).map (inn wordsC (h + 1)))).length ≤ 60 := by rw [List.map_take]; exact Nat.le_trans (joinL_take_le b _ i) hm
    have sn : joinL b ((ts.take (i + 1)).map (inn wordsC (h + 1))) = (if i = 0 then [] else joinL b ((ts.take i).map (inn wordsC (h + 1))) ++ [b]) ++ inn wordsC (h + 1) u := by
      rw [take_snoc eu, List.map_append]
      by_cases c : i = 0
      · subst c
        rw [if_pos rfl, List.take_zero]
        show inn wordsC (h + 1) u ++ [] = _
        rw [List.append_nil]; rfl
      · rw [if_neg c]
        show joinL b (_ ++ [inn wordsC (h + 1) u]) = _
        rw [joinL_snoc]
        · rw [List.append_assoc]; rfl
        · intro z
          have e := congrArg List.length z
          rw [List.length_map, List.length_take, List.length_nil] at e
          have := (List.getElem?_eq_some_iff.mp eu).1
          omega
    refine ⟨_, rfl, _, _, rfl, rfl, _, rfl, ?_⟩
    refine joinS (fun σ' H' => σ' = [some (.ref a), some (.str b), some (.int h), some (.ref pt), some (.int (i : Int)), some v] ∧ Same H H' ∧ H' pt = some (.lst ((if i = 0 then [] else joinL b ((ts.take i).map (inn wordsC (h + 1))) ++ [b]).map V.str))) (fun c N R => ?_) (fun c N R => ?_) ?_
    · have c : (0 : Int) < (i : Int) := of_decide_eq_true c
      refine ⟨_, rfl, .inl ⟨rfl, _, SqL.of hp3⟩, _, rfl, pt, _, _, rfl, rfl, hp3, by rw [List.length_map, sizeLine_eq]; omega, R _ _ ⟨rfl, same_upd npt S3, ?_⟩⟩
      rw [if_neg (by omega), List.map_append]
      exact upd_same
    · have c : ¬ (0 : Int) < (i : Int) := fun z => c (decide_eq_true z)
      have i0 : i = 0 := by omega
      refine R _ _ ⟨rfl, S3, ?_⟩
      rw [if_pos i0, hp3, i0, List.take_zero]
      rfl
    rintro _ H4 ⟨rfl, s4, h4⟩
    refine ⟨_, rfl, .inl ⟨rfl, _, SqL.of h4⟩, _, rfl, _, rfl, v, u, h, rfl, hu.same s4, hgts_le hg i eu, okTs_at oks u up, le1, fun l H5 s5 nl h5 => ?_⟩
    refine ⟨pt, l, _, _, rfl, rfl, s5 _ _ h4, h5, ?_, ⟨_, _, rfl⟩, same_upd npt (s4.trans s5), ?_⟩
    · rw [List.length_map, List.length_map, sizeLine_eq]
      have : (if i = 0 then [] else joinL b ((ts.take i).map (inn wordsC (h + 1))) ++ [b]).length ≤ 61 := by
        split
        · simp
        · rw [List.length_append]; show _ + 1 ≤ _; omega
      omega
    · rw [sn, List.map_append]
      exact upd_same
  · rintro σ H2 ⟨⟨o1, o2, rfl⟩, s2, h2⟩
    rw [hlen, List.take_length] at h2
    exact ⟨_, rfl, q pt H2 s2 npt h2⟩
theorem sc_Not_words : FnScope ["self"] ["self"] (defScope s_Not_words) := ⟨rfl, rfl, rfl, by decide +kernel, rfl, by decide +kernel, by decide +kernel⟩
theorem ok_Not_words {f : Addr} {fd : FuncData} (F : Fun K "words" "Not.words" s_Not_words f fd) (T : Txt K mg) (L : Kl K mg C_Condition C_CauseIs C_ThingIs C_DaysIn C_Over C_Not C_All C_Some C_Reader) {m : Nat} (Cwords_within : Cal P w K mg base (3 * m + 2 + 1) "words_within" ["part", "highest_in_brackets"] (spWW (A8.mk C_Condition C_CauseIs C_ThingIs C_DaysIn C_Over C_Not C_All C_Some) m)) : FnOk P w K mg base CX0 (3 * m + 2 + 1 + 1) f fd ["self"] (spWords (A8.mk C_Condition C_CauseIs C_ThingIs C_DaysIn C_Over C_Not C_All C_Some) (m + 1) C_Not) := by
  have sc := sc_Not_words
  refine F.ok sc (fun vs H Q E h => ?_) (fun cdv A outer s H vs Q E hr h => ?_)
  · obtain ⟨_, _, rfl, _⟩ := h
    rfl
  obtain ⟨p, t, rfl, hp, hc, hg, ok, hm, q⟩ := h
  obtain ⟨u, rfl⟩ := kd5 (κ := A8.mk C_Condition C_CauseIs C_ThingIs C_DaysIn C_Over C_Not C_All C_Some) (nd8 L) hc
  unfold hgt at hg
  unfold okT at ok
  rw [wordsT_no] at q hm
  unfold CdAt at hp
  obtain ⟨_, dx, v, e, hp, hu⟩ := hp
  cases e
  rw [List.length_cons] at hm
  have one : 1 ≤ sizeLine := by rw [sizeLine_eq]; decide
  refine ⟨_, (pss_one (ps_ret (pe_op op_cat (pe_lst (pa_cons pe_str pa_nil)) (pe_callC Cwords_within (hr.mono (by omega)) rfl (pa_cons (pe_fld (pv 0) rfl) (pa_cons (pe_gint T.g_RANK_OF_ALL rfl) pa_nil)))))), ?_⟩
  refine ⟨one, fun l1 n1 => ?_⟩
  have s1 := same_new n1 (.lst [.str (Str.ofString "not")])
  refine ⟨_, rfl, p, _, dx, _, _, rfl, s1 _ _ hp, L.cl_Not, L.na_Not_part, lc_put _ _, v, u, 2, rfl, hu.same s1, by omega, ok, by show (inn wordsC 3 u).length ≤ 60; omega, fun l2 H2 s2 n2 h2 => ?_⟩
  refine ⟨l1, l2, _, _, rfl, rfl, s2 _ _ upd_same, h2, (by rw [List.length_map, sizeLine_eq]; show 1 + (inn wordsC 3 u).length ≤ _; omega), fun l3 n3 => ?_⟩
  refine q l3 _ (s1.trans (s2.trans (same_new n3 _))) ((s1.trans s2).free n3) ?_
  rw [List.map_cons]
  exact upd_same
theorem sc_All_words : FnScope ["self"] ["self"] (defScope s_All_words) := ⟨rfl, rfl, rfl, by decide +kernel, rfl, by decide +kernel, by decide +kernel⟩
theorem ok_All_words {f : Addr} {fd : FuncData} (F : Fun K "words" "All.words" s_All_words f fd) (T : Txt K mg) (L : Kl K mg C_Condition C_CauseIs C_ThingIs C_DaysIn C_Over C_Not C_All C_Some C_Reader) {m : Nat} (Cwords_with : Cal P w K mg base (3 * m + 2 + 1 + 1) "words_with" ["several", "between", "highest_in_brackets"] (spWWs (A8.mk C_Condition C_CauseIs C_ThingIs C_DaysIn C_Over C_Not C_All C_Some) m)) : FnOk P w K mg base CX0 (3 * m + 2 + 1 + 1 + 1) f fd ["self"] (spWords (A8.mk C_Condition C_CauseIs C_ThingIs C_DaysIn C_Over C_Not C_All C_Some) (m + 1) C_All) := by
  have sc := sc_All_words
  refine F.ok sc (fun vs H Q E h => ?_) (fun cdv A outer s H vs Q E hr h => ?_)
  · obtain ⟨_, _, rfl, _⟩ := h
    rfl
  obtain ⟨p, t, rfl, hp, hc, hg, ok, hm, q⟩ := h
  obtain ⟨ts, rfl⟩ := kd6 (κ := A8.mk C_Condition C_CauseIs C_ThingIs C_DaysIn C_Over C_Not C_All C_Some) (nd8 L) hc
  unfold hgt at hg
  unfold okT at ok
  rw [wordsT_al] at q hm
  unfold CdAt at hp
  obtain ⟨_, dx, a, us, e, hp, ha, hv⟩ := hp
  cases e
  refine ⟨_, (pss_one (ps_ret (pe_callC Cwords_with (hr.mono (by omega)) rfl (pa_cons (pe_fld (pv 0) rfl) (pa_cons pe_str (pa_cons (pe_gint T.g_RANK_OF_ALL rfl) pa_nil)))))), ?_⟩
  exact ⟨_, rfl, p, _, dx, _, _, rfl, hp, L.cl_All, L.na_All_several, lc_put _ _, a, us, ts, Str.ofString "and", 2, rfl, ha, hv, by omega, ok.2.2, hm, fun l H' s' nl h' => q l H' s' nl h'⟩
theorem sc_Some_words : FnScope ["self"] ["self"] (defScope s_Some_words) := ⟨rfl, rfl, rfl, by decide +kernel, rfl, by decide +kernel, by decide +kernel⟩
theorem ok_Some_words {f : Addr} {fd : FuncData} (F : Fun K "words" "Some.words" s_Some_words f fd) (T : Txt K mg) (L : Kl K mg C_Condition C_CauseIs C_ThingIs C_DaysIn C_Over C_Not C_All C_Some C_Reader) {m : Nat} (Cwords_with : Cal P w K mg base (3 * m + 2 + 1 + 1) "words_with" ["several", "between", "highest_in_brackets"] (spWWs (A8.mk C_Condition C_CauseIs C_ThingIs C_DaysIn C_Over C_Not C_All C_Some) m)) : FnOk P w K mg base CX0 (3 * m + 2 + 1 + 1 + 1) f fd ["self"] (spWords (A8.mk C_Condition C_CauseIs C_ThingIs C_DaysIn C_Over C_Not C_All C_Some) (m + 1) C_Some) := by
  have sc := sc_Some_words
  refine F.ok sc (fun vs H Q E h => ?_) (fun cdv A outer s H vs Q E hr h => ?_)
  · obtain ⟨_, _, rfl, _⟩ := h
    rfl
  obtain ⟨p, t, rfl, hp, hc, hg, ok, hm, q⟩ := h
  obtain ⟨ts, rfl⟩ := kd7 (κ := A8.mk C_Condition C_CauseIs C_ThingIs C_DaysIn C_Over C_Not C_All C_Some) (nd8 L) hc
  unfold hgt at hg
  unfold okT at ok
  rw [wordsT_so] at q hm
  unfold CdAt at hp
  obtain ⟨_, dx, a, us, e, hp, ha, hv⟩ := hp
  cases e
  refine ⟨_, (pss_one (ps_ret (pe_callC Cwords_with (hr.mono (by omega)) rfl (pa_cons (pe_fld (pv 0) rfl) (pa_cons pe_str (pa_cons (pe_gint T.g_RANK_OF_SOME rfl) pa_nil)))))), ?_⟩
  exact ⟨_, rfl, p, _, dx, _, _, rfl, hp, L.cl_Some, L.na_Some_several, lc_put _ _, a, us, ts, Str.ofString "or", 1, rfl, ha, hv, by omega, ok.2.2, hm, fun l H' s' nl h' => q l H' s' nl h'⟩
end
def PoolsAt (H : Hp) (pl : Addr) : Prop := ∃ a b c, ∃ ns : List Str, ∃ ds cs : List Int, H pl = some (.tup [.ref a, .ref b, .ref c]) ∧ (H a = some (.lst (ns.map V.str)) ∧ ns.length = 5 ∧ ∀ n ∈ ns, nmOk n) ∧
  (H b = some (.lst (ds.map V.int)) ∧ ds.length = 4 ∧ ∀ d ∈ ds, 0 ≤ d ∧ d ≤ 1000000) ∧ H c = some (.lst (cs.map V.int)) ∧ cs.length = 4 ∧ ∀ d ∈ cs, 0 ≤ d ∧ d ≤ 999999999999
theorem PoolsAt.same {H H' : Hp} {pl : Addr} (h : PoolsAt H pl) (s : Same H H') : PoolsAt H' pl := by
  obtain ⟨a, b, c, ns, ds, cs, h0, ⟨h1, n1⟩, ⟨h2, n2⟩, h3, n3⟩ := h
  exact ⟨a, b, c, ns, ds, cs, s _ _ h0, ⟨s _ _ h1, n1⟩, ⟨s _ _ h2, n2⟩, s _ _ h3, n3⟩
def spPools (K : PySem.W.Frag) : Sp := fun vs H Q _ => ∃ a ns, vs = [.ref a] ∧ SqL K H a (List.map V.int ns) ∧ ns.length ≤ 63 ∧ ∀ p H', Same H H' → PoolsAt H' p → Q (.ref p) H'
def spLeaf : Sp := fun vs H Q _ => ∃ (n : Int) (pl : Addr), vs = [.int n, .ref pl] ∧ PoolsAt H pl ∧ ∀ v c H', Same H H' → TrAt H' v (.at c) → okCo c → Q v H'
def spLossL (K : PySem.W.Frag) : Sp := fun vs H Q _ => ∃ a ns pl, ∃ k : Int, vs = [.ref a, .int k, .ref pl] ∧ SqL K H a (List.map V.int ns) ∧ ns.length ≤ 63 ∧ 0 ≤ k ∧ k ≤ 800 ∧ PoolsAt H pl ∧ ∀ l x H', Same H H' → LsAt H' l x → (0 ≤ x.d ∧ x.d ≤ 1000000) ∧ 1 ≤ x.ct ∧ x.ct ≤ 999999999999 → Q (.ref l) H'
theorem odd_at {i : Int} (h0 : 0 ≤ i) (h : i < 8) : ∃ z, atI ([.str "and", .str "or", .str "not", .str "cause", .str "thing", .str "days", .str "over", .str "always"] : List V) i = some (.str z) ∧ nmOk z := by
  have c : i = 0 ∨ i = 1 ∨ i = 2 ∨ i = 3 ∨ i = 4 ∨ i = 5 ∨ i = 6 ∨ i = 7 := by omega
  rcases c with rfl | rfl | rfl | rfl | rfl | rfl | rfl | rfl
  · exact ⟨_, rfl, _, (tx_of _).symm, by decide +kernel⟩
  · exact ⟨_, rfl, _, (tx_of _).symm, by decide +kernel⟩
  · exact ⟨_, rfl, _, (tx_of _).symm, by decide +kernel⟩
  · exact ⟨_, rfl, _, (tx_of _).symm, by decide +kernel⟩
  · exact ⟨_, rfl, _, (tx_of _).symm, by decide +kernel⟩
  · exact ⟨_, rfl, _, (tx_of _).symm, by decide +kernel⟩
  · exact ⟨_, rfl, _, (tx_of _).symm, by decide +kernel⟩
  · exact ⟨_, rfl, _, (tx_of _).symm, by decide +kernel⟩
theorem at_mapI {α : Type} {f : α → V} {xs : List α} {i : Int} (h0 : 0 ≤ i) (h : i < xs.length) : ∃ x, x ∈ xs ∧ atI (xs.map f) i = some (f x) := by
  obtain ⟨k, rfl⟩ := Int.eq_ofNat_of_zero_le h0
  have hk : k < xs.length := by omega
  exact ⟨xs[k], List.getElem_mem hk, atI_nat (by rw [List.getElem?_map, List.getElem?_eq_getElem hk]; rfl)⟩
theorem e6 : (10 : Int) ^ (6 : Int).toNat = 1000000 := by decide +kernel
theorem e12 : (10 : Int) ^ (12 : Int).toNat = 1000000000000 := by decide +kernel
theorem e9 : (10 : Int) ^ (9 : Int).toNat = 1000000000 := by decide +kernel
theorem md {a b : Int} (h : 0 < b) : 0 ≤ a % b ∧ a % b ≤ b - 1 := ⟨Int.emod_nonneg _ (by omega), by have := Int.emod_lt_of_pos a h; omega⟩
theorem hideI {i : Nat} {v : Int} {nx : St → Hp → Prop} {σ : St} {H : Hp} (lo hi : Int) (h0 : lo ≤ v ∧ v ≤ hi) (h : ∀ x : Int, lo ≤ x → x ≤ hi → gName i (.int x) σ H nx) : gName i (.int v) σ H nx := h v h0.1 h0.2
section
seal L2.PS L2.PSs L2.PE L2.PA
variable {P : Program} {w : World} {K : PySem.W.Frag} {mg : Str → Option Value} {base : Heap}
theorem sc__law_pools : FnScope ["_law_script", "_law_names", "_law_k", "_law_odd", "_law_day", "_law_far", "_law_days", "_law_cents", "_law_sums"] ["_law_script"] (defScope s__law_pools) := ⟨rfl, rfl, rfl, by decide +kernel, rfl, by decide +kernel, by decide +kernel⟩
theorem ok__law_pools {f : Addr} {fd : FuncData} (F : Fun K "_law_pools" "_law_pools" s__law_pools f fd) (T : Txt K mg) (C_law_cell : Cal P w K mg base 1 "_law_cell" ["_law_script", "_law_k"] (spCellN K)) (C_law_mix : Cal P w K mg base 1 "_law_mix" ["_law_number", "_law_k"] spMix) (C_law_name : Cal P w K mg base 1 "_law_name" ["_law_number"] spNameOf) (C_law_other : Cal P w K mg base 1 "_law_other" ["_law_name_here", "_law_number"] spOtherN) : FnOk P w K mg base CX0 2 f fd ["_law_script"] (spPools K) := by
  have sc := sc__law_pools
  refine F.ok sc (fun vs H Q E h => ?_) (fun cdv A outer s H vs Q E hr h => ?_)
  · obtain ⟨_, _, rfl, _⟩ := h
    rfl
  obtain ⟨a, ns, rfl, ha, h63, q⟩ := h
  refine ⟨_, (pss_cons (ps_set (i := 1) sc.nd rfl (Or.inl rfl) (pe_lst (pa_cons (pe_callC C_law_name (hr.mono (by decide)) rfl (pa_cons (pe_callC C_law_cell (hr.mono (by decide)) rfl (pa_cons (pv 0) (pa_cons pe_int pa_nil))) pa_nil)) pa_nil)))
      (pss_cons (ps_for PassesOwn.never rfl (pi_range1 rfl T.n_range (pa_cons pe_int pa_nil)) (pg_name (i := 2) sc.nd rfl (Or.inl rfl))
        (pss_one (ps_expr (pe_bm PySem.F.plainAttrs_list PySem.F.slot_list_append PySem.F.type_list_append mt_append (pv 1) (pa_cons (pe_callC C_law_other (hr.mono (by decide)) rfl (pa_cons (pe_ix ix_list (pv 1) (pv 2) (fun _ _ => rfl)) (pa_cons (pe_callC C_law_mix (hr.mono (by decide)) rfl (pa_cons (pe_callC C_law_cell (hr.mono (by decide)) rfl (pa_cons (pv 0) (pa_cons pe_int pa_nil))) (pa_cons (pv 2) pa_nil))) pa_nil))) pa_nil)))))
      (pss_cons (ps_set (i := 3) sc.nd rfl (Or.inl rfl) (pe_lst (pa_cons pe_str (pa_cons pe_str (pa_cons pe_str (pa_cons pe_str (pa_cons pe_str (pa_cons pe_str (pa_cons pe_str (pa_cons pe_str pa_nil))))))))))
      (pss_cons (ps_expr (pe_bm PySem.F.plainAttrs_list PySem.F.slot_list_append PySem.F.type_list_append mt_append (pv 1) (pa_cons (pe_ix ix_list (pv 3) (pe_op op_mod (pe_callC C_law_cell (hr.mono (by decide)) rfl (pa_cons (pv 0) (pa_cons pe_int pa_nil))) pe_int) (fun _ _ => rfl)) pa_nil)))
      (pss_cons (ps_set (i := 4) sc.nd rfl (Or.inl rfl) (pe_op op_mod (pe_callC C_law_cell (hr.mono (by decide)) rfl (pa_cons (pv 0) (pa_cons pe_int pa_nil))) (pe_op op_add (pe_op op_pow pe_int pe_int) pe_int)))
      (pss_cons (ps_set (i := 5) sc.nd rfl (Or.inl rfl) (pe_callC C_law_mix (hr.mono (by decide)) rfl (pa_cons (pe_callC C_law_cell (hr.mono (by decide)) rfl (pa_cons (pv 0) (pa_cons pe_int pa_nil))) (pa_cons pe_int pa_nil))))
      (pss_cons (ps_set (i := 6) sc.nd rfl (Or.inl rfl) (pe_callB call_sortedI rfl T.n_sorted (show bootBuiltins _ = some (.builtin "sorted") from rfl) (pa_cons (pe_lst (pa_cons (pv 4) (pa_cons (pe_callB (call_min2 rfl) rfl T.n_min (show bootBuiltins _ = some (.builtin "min") from rfl) (pa_cons (pe_op op_pow pe_int pe_int) (pa_cons (pe_op op_add (pv 4) pe_int) pa_nil))) (pa_cons (pe_op op_add pe_int (pe_op op_mul pe_int (pe_op op_mod (pv 5) pe_int))) (pa_cons (pe_op op_mod (pv 5) (pe_op op_add (pe_op op_pow pe_int pe_int) pe_int)) pa_nil))))) pa_nil)))
      (pss_cons (ps_set (i := 7) sc.nd rfl (Or.inl rfl) (pe_op op_mod (pe_callC C_law_cell (hr.mono (by decide)) rfl (pa_cons (pv 0) (pa_cons pe_int pa_nil))) (pe_op op_pow pe_int pe_int)))
      (pss_cons (ps_set (i := 8) sc.nd rfl (Or.inl rfl) (pe_lst (pa_cons (pv 7) (pa_cons (pe_callB (call_min2 rfl) rfl T.n_min (show bootBuiltins _ = some (.builtin "min") from rfl) (pa_cons (pe_op op_sub (pe_op op_pow pe_int pe_int) pe_int) (pa_cons (pe_op op_add (pv 7) pe_int) pa_nil))) (pa_cons (pe_op op_mod (pv 5) pe_int) (pa_cons (pe_op op_mod (pe_op op_mul (pv 5) pe_int) (pe_op op_pow pe_int pe_int)) pa_nil))))))
      (pss_one (ps_ret (pe_tup (pa_cons (pv 1) (pa_cons (pv 6) (pa_cons (pv 8) pa_nil))))))))))))))), ?_⟩
  have p6 : (0 : Int) < (10 : Int) ^ (6 : Int).toNat + 1 := by rw [e6]; decide
  have p12 : (0 : Int) < (10 : Int) ^ (12 : Int).toNat := by rw [e12]; decide
  have one : 1 ≤ sizeLine := by rw [sizeLine_eq]; decide
  have eight : 8 ≤ sizeLine := by rw [sizeLine_eq]; decide
  have four : 4 ≤ sizeLine := by rw [sizeLine_eq]; decide
  have three : 3 ≤ sizeLine := by rw [sizeLine_eq]; decide
  refine ⟨_, rfl, a, ns, 0, rfl, ha, by decide, by decide, h63, fun c0 c00 c01 => ⟨c0, rfl, c00, by omega, fun l0 hl0 => ⟨one, fun p hp => ?_⟩⟩⟩
  refine atG [some (.ref a), some (.ref p), none, none, none, none, none, none, none] rfl ?_
  refine ⟨3, rfl, by decide, by decide, ?_⟩
  refine for_range (lo := 0) (n := 3) (fun i σ H2 => (∃ o2, σ = [some (.ref a), some (.ref p), o2, none, none, none, none, none, none]) ∧ Same H H2 ∧ ∃ nl : List (List Nat), H2 p = some (.lst (nl.map fun l => V.str (tx l))) ∧ nl.length = i + 1 ∧ ∀ l ∈ nl, NameL l) ⟨⟨none, rfl⟩, same_new hp _, [l0], upd_same, rfl, fun l h => by rw [List.mem_singleton.mp h]; exact hl0⟩ ?_ ?_
  · rintro i σ H2 hi ⟨⟨o2, rfl⟩, s2, nl, h2, n2, a2⟩
    obtain ⟨l, hl, el⟩ := at_mapI (f := fun l => V.str (tx l)) (xs := nl) (i := 0 + (i : Int)) (by omega) (by omega)
    refine ⟨_, rfl, .inl ⟨rfl, _, SqL.of h2⟩, _, rfl, _, rfl, p, _, _, _, rfl, rfl, SqL.of h2, el, ?_⟩
    refine ⟨_, rfl, a, ns, 1, rfl, s2.seq ha, by decide, by decide, h63, fun c1 c10 c11 => ⟨_, rfl, c1, _, rfl, c10, by omega, by omega, by omega, fun m m0 m1 => ⟨l, m, rfl, a2 l hl, m0, fun l' hl' => ?_⟩⟩⟩
    refine ⟨p, _, _, rfl, rfl, h2, by rw [List.length_map, n2, sizeLine_eq]; omega, ⟨_, rfl⟩, same_upd hp s2, nl ++ [l'], ?_, by rw [List.length_append, n2]; rfl, fun z hz => ?_⟩
    · rw [List.map_append]; exact upd_same
    · rcases List.mem_append.mp hz with h | h
      · exact a2 z h
      · rw [List.mem_singleton.mp h]; exact hl'
  · rintro σ H2 ⟨⟨o2, rfl⟩, s2, nl, h2, n2, a2⟩
    refine ⟨eight, fun po hpo => ?_⟩
    have s3 := same_new hpo (.lst [.str "and", .str "or", .str "not", .str "cause", .str "thing", .str "days", .str "over", .str "always"])
    refine atG [some (.ref a), some (.ref p), o2, some (.ref po), none, none, none, none, none] rfl ?_
    have h3 : upd H2 po (.lst [.str "and", .str "or", .str "not", .str "cause", .str "thing", .str "days", .str "over", .str "always"]) p = some (.lst (nl.map fun l => V.str (tx l))) := s3 _ _ h2
    have s23 := s2.trans s3
    refine ⟨_, rfl, .inl ⟨rfl, _, SqL.of h3⟩, _, rfl, _, rfl, a, ns, 0, rfl, s23.seq ha, by decide, by decide, h63, fun c2 c20 c21 => ?_⟩
    obtain ⟨z, ez, lz, rfl, hz⟩ := odd_at (md (a := c2) (b := 8) (by decide)).1 (by have := (md (a := c2) (b := 8) (by decide)).2; omega)
    refine ⟨_, _, rfl, rfl, (by show (0 : Int) < 8; decide), po, _, _, _, rfl, rfl, SqL.of upd_same, ez, p, _, _, rfl, rfl, h3, by rw [List.length_map, n2, sizeLine_eq]; decide, ?_⟩
    have s4 : Same H (upd (upd H2 po (.lst [.str "and", .str "or", .str "not", .str "cause", .str "thing", .str "days", .str "over", .str "always"])) p (.lst ((nl.map fun l => V.str (tx l)) ++ [.str (tx lz)]))) := same_upd hp s23
    have h4 : upd (upd H2 po (.lst [.str "and", .str "or", .str "not", .str "cause", .str "thing", .str "days", .str "over", .str "always"])) p (.lst ((nl.map fun l => V.str (tx l)) ++ [.str (tx lz)])) p = some (.lst (((nl ++ [lz]).map tx).map V.str)) := by
      rw [List.map_append, List.map_append, List.map_map]; exact upd_same
    generalize upd (upd H2 po (.lst [.str "and", .str "or", .str "not", .str "cause", .str "thing", .str "days", .str "over", .str "always"])) p (.lst ((nl.map fun l => V.str (tx l)) ++ [.str (tx lz)])) = H4 at s4 h4
    have n5 : ((nl ++ [lz]).map tx).length = 5 := by rw [List.length_map, List.length_append, n2]; rfl
    have a5 : ∀ n ∈ (nl ++ [lz]).map tx, nmOk n := fun n hn => by
      obtain ⟨l, hl, rfl⟩ := List.mem_map.mp hn
      rcases List.mem_append.mp hl with h | h
      · exact ⟨l, rfl, a2 l h⟩
      · rw [List.mem_singleton.mp h]; exact ⟨lz, rfl, hz⟩
    generalize (nl ++ [lz]).map tx = names at h4 n5 a5
    refine ⟨_, rfl, a, ns, 2, rfl, s4.seq ha, by decide, by decide, h63, fun c3 c30 c31 => ⟨_, _, rfl, rfl, ⟨by decide, by decide, by decide⟩, _, _, rfl, rfl, _, _, rfl, rfl, p6, ?_⟩⟩
    refine hideI 0 1000000 (by rw [e6]; exact md (by decide)) fun day d0 d1 => ?_
    refine atG [some (.ref a), some (.ref p), o2, some (.ref po), some (.int day), none, none, none, none] rfl ?_
    refine ⟨_, rfl, a, ns, 1, rfl, s4.seq ha, by decide, by decide, h63, fun c4 c40 c41 => ⟨c4, 5, rfl, c40, by omega, by decide, by decide, fun far f0 f1 => ?_⟩⟩
    refine atG [some (.ref a), some (.ref p), o2, some (.ref po), some (.int day), some (.int far), none, none, none] rfl ?_
    refine ⟨_, rfl, _, _, rfl, rfl, ⟨by decide, by decide, by decide⟩, _, rfl, _, _, rfl, rfl, _, _, rfl, _, rfl, _, _, rfl, rfl, (by show (0 : Int) < 2700; decide), _, _, rfl, rfl, .inl ⟨by decide, by decide⟩, _, _, rfl, rfl, _, rfl, _, _, rfl, rfl, ⟨by decide, by decide, by decide⟩, _, _, rfl, rfl, _, _, rfl, rfl, p6, four, fun l hl => ?_⟩
    refine ⟨l, [day, (if day + 1 < (10 : Int) ^ (6 : Int).toNat then day + 1 else (10 : Int) ^ (6 : Int).toNat), 364 + 365 * (far % 2700), far % ((10 : Int) ^ (6 : Int).toNat + 1)], rfl, SqL.of upd_same, (by show 4 < 64; decide), fun l2 ms hl2 pm _ => ?_⟩
    have b6 : ∀ d ∈ ms, 0 ≤ d ∧ d ≤ 1000000 := fun d hd => by
      have := pm.mem_iff.mp hd
      rw [e6] at this
      have m1 := md (a := far) (b := 2700) (by decide)
      have m2 := md (a := far) (b := 1000000 + 1) (by decide)
      simp only [List.mem_cons, List.not_mem_nil, or_false] at this
      rcases this with rfl | rfl | rfl | rfl
      · omega
      · split <;> omega
      · omega
      · omega
    have l6 : ms.length = 4 := pm.length_eq
    have s5 := (same_new hl (.lst (List.map V.int [day, (if day + 1 < (10 : Int) ^ (6 : Int).toNat then day + 1 else (10 : Int) ^ (6 : Int).toNat), 364 + 365 * (far % 2700), far % ((10 : Int) ^ (6 : Int).toNat + 1)]))).trans (same_new hl2 (.lst (ms.map V.int)))
    have h5 : upd (upd H4 l (.lst (List.map V.int [day, (if day + 1 < (10 : Int) ^ (6 : Int).toNat then day + 1 else (10 : Int) ^ (6 : Int).toNat), 364 + 365 * (far % 2700), far % ((10 : Int) ^ (6 : Int).toNat + 1)]))) l2 (.lst (ms.map V.int)) l2 = some (.lst (ms.map V.int)) := upd_same
    refine atG [some (.ref a), some (.ref p), o2, some (.ref po), some (.int day), some (.int far), some (.ref l2), none, none] rfl ?_
    have s45 := s4.trans s5
    have h45 := s5 _ _ h4
    refine ⟨_, rfl, a, ns, 3, rfl, s45.seq ha, by decide, by decide, h63, fun c5 c50 c51 => ⟨_, _, rfl, rfl, ⟨by decide, by decide, by decide⟩, _, _, rfl, rfl, p12, ?_⟩⟩
    refine hideI 0 999999999999 (by rw [e12]; exact md (by decide)) fun cents k0 k1 => ?_
    refine atG [some (.ref a), some (.ref p), o2, some (.ref po), some (.int day), some (.int far), some (.ref l2), some (.int cents), none] rfl ?_
    refine ⟨_, rfl, _, _, rfl, rfl, ⟨by decide, by decide, by decide⟩, _, _, rfl, rfl, _, rfl, _, _, rfl, rfl, _, _, rfl, _, rfl, _, _, rfl, rfl, (by show (0 : Int) < 100; decide), _, rfl, _, _, rfl, rfl, .inr ⟨by decide, by decide⟩, _, _, rfl, rfl, ⟨by decide, by decide, by decide⟩, _, _, rfl, rfl, p12, four, fun l3 hl3 => ?_⟩
    have s6 := same_new hl3 (.lst (List.map V.int [cents, (if cents + 1 < (10 : Int) ^ (12 : Int).toNat - 1 then cents + 1 else (10 : Int) ^ (12 : Int).toNat - 1), far % 100, far * 463 % (10 : Int) ^ (12 : Int).toNat]))
    refine ⟨_, rfl, _, rfl, _, rfl, three, fun t ht => ?_⟩
    have s7 := same_new ht (.tup [.ref p, .ref l2, .ref l3])
    refine q t _ (s45.trans (s6.trans s7)) ⟨p, l2, l3, names, ms, [cents, (if cents + 1 < (10 : Int) ^ (12 : Int).toNat - 1 then cents + 1 else (10 : Int) ^ (12 : Int).toNat - 1), far % 100, far * 463 % (10 : Int) ^ (12 : Int).toNat], upd_same, ⟨s7 _ _ (s6 _ _ h45), n5, a5⟩, ⟨s7 _ _ (s6 _ _ h5), l6, b6⟩, s7 _ _ upd_same, rfl, fun d hd => ?_⟩
    rw [e12] at hd
    have m1 := md (a := far) (b := 100) (by decide)
    have m2 := md (a := far * 463) (b := 1000000000000) (by decide)
    simp only [List.mem_cons, List.not_mem_nil, or_false] at hd
    rcases hd with rfl | rfl | rfl | rfl
    · omega
    · split <;> omega
    · omega
    · omega
theorem sc__law_leaf : FnScope ["_law_number", "_law_pools_here", "_law_way", "_law_at", "_law_one", "_law_two"] ["_law_number", "_law_pools_here"] (defScope s__law_leaf) := ⟨rfl, rfl, rfl, by decide +kernel, rfl, by decide +kernel, by decide +kernel⟩
theorem ok__law_leaf {f : Addr} {fd : FuncData} (F : Fun K "_law_leaf" "_law_leaf" s__law_leaf f fd) (T : Txt K mg) : FnOk P w K mg base CX0 1 f fd ["_law_number", "_law_pools_here"] spLeaf := by
  have sc := sc__law_leaf
  refine F.ok sc (fun vs H Q E h => ?_) (fun cdv A outer s H vs Q E hr h => ?_)
  · obtain ⟨_, _, rfl, _⟩ := h
    rfl
  obtain ⟨n, pl, rfl, ⟨a, b, c, ns, ds, cs, h0, ⟨h1, n1, g1⟩, ⟨h2, n2, g2⟩, h3, n3, g3⟩, q⟩ := h
  refine ⟨_, (pss_cons (ps_set (i := 2) sc.nd rfl (Or.inl rfl) (pe_op op_mod (pv 0) pe_int))
      (pss_cons (ps_set (i := 3) sc.nd rfl (Or.inl rfl) (pe_op op_mod (pe_op op_fdiv (pv 0) pe_int) pe_int))
      (pss_cons (ps_if (pt_cmpR op_eq (pv 2) pe_int (nomark _))
        (pss_one (ps_ret (pe_tup (pa_cons pe_str pa_nil))))
        pss_nil)
      (pss_cons (ps_if (pt_cmpR op_lt (pv 2) pe_int (nomark _))
        (pss_one (ps_ret (pe_tup (pa_cons (pe_ix ix_list (pe_lst (pa_cons pe_str (pa_cons pe_str pa_nil))) (pe_op op_sub (pv 2) pe_int) (fun _ _ => rfl)) (pa_cons (pe_ix ix_list (pe_ix ix_tup (pv 1) pe_int (fun _ _ => rfl)) (pe_op op_mod (pv 3) pe_int) (fun _ _ => rfl)) pa_nil)))))
        pss_nil)
      (pss_cons (ps_if (pt_cmpR op_lt (pv 2) pe_int (nomark _))
        (pss_cons (ps_set (i := 4) sc.nd rfl (Or.inl rfl) (pe_ix ix_list (pe_ix ix_tup (pv 1) pe_int (fun _ _ => rfl)) (pe_op op_mod (pv 3) pe_int) (fun _ _ => rfl)))
      (pss_cons (ps_set (i := 5) sc.nd rfl (Or.inl rfl) (pe_ix ix_list (pe_ix ix_tup (pv 1) pe_int (fun _ _ => rfl)) (pe_op op_mod (pe_op op_fdiv (pv 3) pe_int) pe_int) (fun _ _ => rfl)))
      (pss_one (ps_ret (pe_tup (pa_cons pe_str (pa_cons (pe_callB (call_min2 rfl) rfl T.n_min (show bootBuiltins _ = some (.builtin "min") from rfl) (pa_cons (pv 4) (pa_cons (pv 5) pa_nil))) (pa_cons (pe_callB (call_max2 rfl) rfl T.n_max (show bootBuiltins _ = some (.builtin "max") from rfl) (pa_cons (pv 4) (pa_cons (pv 5) pa_nil))) pa_nil))))))))
        pss_nil)
      (pss_one (ps_ret (pe_tup (pa_cons pe_str (pa_cons (pe_ix ix_list (pe_ix ix_tup (pv 1) pe_int (fun _ _ => rfl)) (pe_op op_mod (pv 3) pe_int) (fun _ _ => rfl)) pa_nil)))))))))), ?_⟩
  have one : 1 ≤ sizeLine := by rw [sizeLine_eq]; decide
  have two : 2 ≤ sizeLine := by rw [sizeLine_eq]; decide
  have three : 3 ≤ sizeLine := by rw [sizeLine_eq]; decide
  refine ⟨_, rfl, _, _, rfl, rfl, (by show (0 : Int) < 7; decide), ?_⟩
  refine hideI 0 6 (md (by decide)) fun way w0 w6 => ?_
  refine atG [some (.int n), some (.ref pl), some (.int way), none, none, none] rfl ?_
  refine ⟨_, rfl, _, _, rfl, rfl, ⟨by decide, by decide⟩, _, _, rfl, rfl, (by show (0 : Int) < 20; decide), ?_⟩
  refine hideI 0 19 (md (by decide)) fun at' a0 a19 => ?_
  refine atG [some (.int n), some (.ref pl), some (.int way), some (.int at'), none, none] rfl ?_
  refine ⟨_, rfl, rfl, _, rfl, ite2 (fun e => ?_) (fun e => ?_)⟩
  · refine ⟨one, fun t ht => q _ .alw _ (same_new ht _) ?_ trivial⟩
    unfold TrAt
    exact ⟨t, rfl, upd_same⟩
  have e0 : way ≠ 0 := fun z => e (decide_eq_true (by rw [z]))
  refine ⟨_, rfl, _, _, rfl, rfl, _, rfl, ite2 (fun e => ?_) (fun e => ?_)⟩
  · have e3 : way < 3 := of_decide_eq_true e
    obtain ⟨z, hz, ez⟩ := at_mapI (f := V.str) (xs := ns) (i := at' % 5) (md (by decide)).1 (by have := (md (a := at') (b := 5) (by decide)).2; omega)
    refine ⟨two, fun l hl => ?_⟩
    have s1 := same_new hl (.lst [.str "cause", .str "thing"])
    have w12 : way = 1 ∨ way = 2 := by omega
    rcases w12 with rfl | rfl
    · refine ⟨_, rfl, _, _, rfl, rfl, l, _, _, _, rfl, rfl, SqL.of upd_same, rfl, _, rfl, pl, _, _, _, rfl, rfl, SqT.of (s1 _ _ h0), rfl, _, rfl, _, _, rfl, rfl, (by show (0 : Int) < 5; decide), a, _, _, _, rfl, rfl, SqL.of (s1 _ _ h1), ez, two, fun t ht => q _ (.cau z) _ (s1.trans (same_new ht _)) ?_ (g1 z hz)⟩
      unfold TrAt
      exact ⟨t, rfl, upd_same⟩
    · refine ⟨_, rfl, _, _, rfl, rfl, l, _, _, _, rfl, rfl, SqL.of upd_same, rfl, _, rfl, pl, _, _, _, rfl, rfl, SqT.of (s1 _ _ h0), rfl, _, rfl, _, _, rfl, rfl, (by show (0 : Int) < 5; decide), a, _, _, _, rfl, rfl, SqL.of (s1 _ _ h1), ez, two, fun t ht => q _ (.thi z) _ (s1.trans (same_new ht _)) ?_ (g1 z hz)⟩
      unfold TrAt
      exact ⟨t, rfl, upd_same⟩
  refine ⟨_, rfl, _, _, rfl, rfl, _, rfl, ite2 (fun e => ?_) (fun e => ?_)⟩
  · obtain ⟨x, hx, ex⟩ := at_mapI (f := V.int) (xs := ds) (i := at' % 4) (md (by decide)).1 (by have := (md (a := at') (b := 4) (by decide)).2; omega)
    obtain ⟨y, hy, ey⟩ := at_mapI (f := V.int) (xs := ds) (i := at' / 4 % 4) (md (by decide)).1 (by have := (md (a := at' / 4) (b := 4) (by decide)).2; omega)
    have gx := g2 x hx
    have gy := g2 y hy
    refine ⟨_, rfl, pl, _, _, _, rfl, rfl, SqT.of h0, rfl, _, rfl, _, _, rfl, rfl, (by show (0 : Int) < 4; decide), b, _, _, _, rfl, rfl, SqL.of h2, ex, ?_⟩
    refine atG [some (.int n), some (.ref pl), some (.int way), some (.int at'), some (.int x), none] rfl ?_
    refine ⟨_, rfl, pl, _, _, _, rfl, rfl, SqT.of h0, rfl, _, rfl, _, _, rfl, rfl, ⟨by decide, by decide⟩, _, _, rfl, rfl, (by show (0 : Int) < 4; decide), b, _, _, _, rfl, rfl, SqL.of h2, ey, ?_⟩
    refine atG [some (.int n), some (.ref pl), some (.int way), some (.int at'), some (.int x), some (.int y)] rfl ?_
    refine ⟨_, rfl, _, rfl, _, _, rfl, _, rfl, _, rfl, _, _, rfl, three, fun t ht => q _ (.day (if y < x then y else x) (if y > x then y else x)) _ (same_new ht _) ?_ ?_⟩
    · unfold TrAt
      exact ⟨t, rfl, upd_same⟩
    · show 0 ≤ (if y < x then y else x) ∧ (if y < x then y else x) ≤ (if y > x then y else x) ∧ (if y > x then y else x) ≤ 1000000
      refine ⟨?_, ?_, ?_⟩ <;> (repeat' split) <;> omega
  · obtain ⟨x, hx, ex⟩ := at_mapI (f := V.int) (xs := cs) (i := at' % 4) (md (by decide)).1 (by have := (md (a := at') (b := 4) (by decide)).2; omega)
    refine ⟨_, rfl, pl, _, _, _, rfl, rfl, SqT.of h0, rfl, _, rfl, _, _, rfl, rfl, (by show (0 : Int) < 4; decide), c, _, _, _, rfl, rfl, SqL.of h3, ex, two, fun t ht => q _ (.ovr x) _ (same_new ht _) ?_ (g3 x hx)⟩
    unfold TrAt
    exact ⟨t, rfl, upd_same⟩
end
theorem seqI {c : TT} {t t2 u : TS} {D : Ends} {σ : St} {H : Hp} (G : St → Hp → Prop) (h : ∀ N : St → Hp → Prop, (∀ σ' H', G σ' H' → N σ' H') → tIfS c t t2 { D with nx := N } σ H) (R : ∀ σ' H', G σ' H' → u D σ' H') : tSeq (tIfS c t t2) u D σ H := h _ R
theorem seqIn {rt : VK} {bk ct : St → Hp → Prop} {c : TT} {t t2 u : TS} {D : Ends} {σ : St} {H : Hp} (G : St → Hp → Prop) (h : ∀ N : St → Hp → Prop, (∀ σ' H', G σ' H' → N σ' H') → tIfS c t t2 { D with nx := N } σ H) (R : ∀ σ' H', G σ' H' → u D σ' H') : (Ends.mk (tSeq (tIfS c t t2) u D) rt bk ct).nx σ H := h _ R
theorem kind_at {i : Int} (h0 : 0 ≤ i) (h : i ≤ 1) : ∃ b, atI ([.str "all", .str "some"] : List V) i = some (.str (kindS b)) := by
  have c : i = 0 ∨ i = 1 := by omega
  rcases c with rfl | rfl
  · exact ⟨true, rfl⟩
  · exact ⟨false, rfl⟩
theorem kind_at' {i : Int} (h0 : 0 ≤ i) (h : i ≤ 1) : ∃ b, atI ([.str "some", .str "all"] : List V) i = some (.str (kindS b)) := by
  have c : i = 0 ∨ i = 1 := by omega
  rcases c with rfl | rfl
  · exact ⟨false, rfl⟩
  · exact ⟨true, rfl⟩
section
seal L2.PS L2.PSs L2.PE L2.PA
variable {P : Program} {w : World} {K : PySem.W.Frag} {mg : Str → Option Value} {base : Heap}
theorem sc__law_loss : FnScope ["_law_script", "_law_k", "_law_pools_here", "_law_number", "_law_names", "_law_day", "_law_cents", "_law_thing", "_law_cause", "_law_event"] ["_law_script", "_law_k", "_law_pools_here"] (defScope s__law_loss) := ⟨rfl, rfl, rfl, by decide +kernel, rfl, by decide +kernel, by decide +kernel⟩
theorem ok__law_loss {f : Addr} {fd : FuncData} (F : Fun K "_law_loss" "_law_loss" s__law_loss f fd) (T : Txt K mg) (C_law_cell : Cal P w K mg base 1 "_law_cell" ["_law_script", "_law_k"] (spCellN K)) (C_law_mix : Cal P w K mg base 1 "_law_mix" ["_law_number", "_law_k"] spMix) (C_law_name : Cal P w K mg base 1 "_law_name" ["_law_number"] spNameOf) : FnOk P w K mg base CX0 2 f fd ["_law_script", "_law_k", "_law_pools_here"] (spLossL K) := by
  have sc := sc__law_loss
  refine F.ok sc (fun vs H Q E h => ?_) (fun cdv A outer s H vs Q E hr h => ?_)
  · obtain ⟨_, _, _, _, rfl, _⟩ := h
    rfl
  obtain ⟨a, ns, pl, k, rfl, ha, h63, k0, k1, ⟨pa, pb, pc, nm, ds, cs, h0, ⟨h1, n1, g1⟩, ⟨h2, n2, g2⟩, h3, n3, g3⟩, q⟩ := h
  refine ⟨_, (pss_cons (ps_set (i := 3) sc.nd rfl (Or.inl rfl) (pe_callC C_law_mix (hr.mono (by decide)) rfl (pa_cons (pe_callC C_law_cell (hr.mono (by decide)) rfl (pa_cons (pv 0) (pa_cons (pv 1) pa_nil))) (pa_cons (pe_op op_add (pv 1) pe_int) pa_nil))))
      (pss_cons (ps_set (i := 4) sc.nd rfl (Or.inl rfl) (pe_op op_cat (pe_ix ix_tup (pv 2) pe_int (fun _ _ => rfl)) (pe_lst (pa_cons (pe_callC C_law_name (hr.mono (by decide)) rfl (pa_cons (pv 3) pa_nil)) pa_nil))))
      (pss_cons (ps_set (i := 5) sc.nd rfl (Or.inl rfl) (pe_op op_sub (pe_op op_add (pe_ix ix_list (pe_ix ix_tup (pv 2) pe_int (fun _ _ => rfl)) (pe_op op_mod (pv 3) pe_int) (fun _ _ => rfl)) (pe_op op_mod (pe_op op_fdiv (pv 3) pe_int) pe_int)) pe_int))
      (pss_cons (ps_set (i := 6) sc.nd rfl (Or.inl rfl) (pe_op op_sub (pe_op op_add (pe_ix ix_list (pe_ix ix_tup (pv 2) pe_int (fun _ _ => rfl)) (pe_op op_mod (pe_op op_fdiv (pv 3) pe_int) pe_int) (fun _ _ => rfl)) (pe_op op_mod (pe_op op_fdiv (pv 3) pe_int) pe_int)) pe_int))
      (pss_cons (ps_if (pt_cmpR op_eq (pe_op op_mod (pe_op op_fdiv (pv 3) pe_int) pe_int) pe_int (nomark _))
        (pss_cons (ps_set (i := 5) sc.nd rfl (Or.inl rfl) (pe_op op_mod (pe_op op_fdiv (pv 3) pe_int) (pe_op op_add (pe_op op_pow pe_int pe_int) pe_int)))
      (pss_one (ps_set (i := 6) sc.nd rfl (Or.inl rfl) (pe_op op_mod (pe_op op_mul (pv 3) pe_int) (pe_op op_pow pe_int pe_int)))))
        pss_nil)
      (pss_cons (ps_set (i := 7) sc.nd rfl (Or.inl rfl) (pe_ix ix_list (pv 4) (pe_op op_mod (pe_op op_fdiv (pv 3) pe_int) pe_int) (fun _ _ => rfl)))
      (pss_cons (ps_set (i := 8) sc.nd rfl (Or.inl rfl) (pe_ix ix_list (pv 4) (pe_op op_mod (pe_op op_fdiv (pv 3) pe_int) pe_int) (fun _ _ => rfl)))
      (pss_cons (ps_set (i := 9) sc.nd rfl (Or.inl rfl) (pe_ix ix_list (pe_lst (pa_cons (pv 8) (pa_cons (pe_op op_add_str (pe_op op_add_str (pv 7) pe_str) (pv 8)) (pa_cons pe_str pa_nil)))) (pe_op op_mod (pe_op op_fdiv (pv 3) pe_int) pe_int) (fun _ _ => rfl)))
      (pss_cons (ps_set (i := 5) sc.nd rfl (Or.inl rfl) (pe_callB (call_max2 rfl) rfl T.n_max (show bootBuiltins _ = some (.builtin "max") from rfl) (pa_cons pe_int (pa_cons (pe_callB (call_min2 rfl) rfl T.n_min (show bootBuiltins _ = some (.builtin "min") from rfl) (pa_cons (pe_op op_pow pe_int pe_int) (pa_cons (pv 5) pa_nil))) pa_nil))))
      (pss_one (ps_ret (pe_tup (pa_cons (pe_op op_mod (pv 3) (pe_op op_add (pe_op op_pow pe_int pe_int) pe_int)) (pa_cons (pv 5) (pa_cons (pv 9) (pa_cons (pv 7) (pa_cons (pv 8) (pa_cons (pe_callB (call_max2 rfl) rfl T.n_max (show bootBuiltins _ = some (.builtin "max") from rfl) (pa_cons pe_int (pa_cons (pe_callB (call_min2 rfl) rfl T.n_min (show bootBuiltins _ = some (.builtin "min") from rfl) (pa_cons (pe_op op_sub (pe_op op_pow pe_int pe_int) pe_int) (pa_cons (pv 6) pa_nil))) pa_nil))) pa_nil)))))))))))))))))), ?_⟩
  have one : 1 ≤ sizeLine := by rw [sizeLine_eq]; decide
  have three : 3 ≤ sizeLine := by rw [sizeLine_eq]; decide
  have six : 6 ≤ sizeLine := by rw [sizeLine_eq]; decide
  have p6 : (0 : Int) < (10 : Int) ^ (6 : Int).toNat + 1 := by rw [e6]; decide
  have p9 : (0 : Int) < (10 : Int) ^ (9 : Int).toNat + 1 := by rw [e9]; decide
  have p12 : (0 : Int) < (10 : Int) ^ (12 : Int).toNat := by rw [e12]; decide
  refine ⟨_, rfl, _, rfl, a, ns, k, rfl, ha, k0, by omega, h63, fun c c0 c1 => ⟨_, rfl, _, _, rfl, rfl, c, _, rfl, c0, by omega, by omega, by omega, fun n z0 z1 => ?_⟩⟩
  refine atG [some (.ref a), some (.int k), some (.ref pl), some (.int n), none, none, none, none, none, none] rfl ?_
  refine ⟨_, rfl, pl, _, _, _, rfl, rfl, SqT.of h0, rfl, _, rfl, n, rfl, z0, by omega, fun l hl => ⟨one, fun p1 hp1 => ?_⟩⟩
  have s1 := same_new hp1 (.lst [.str (tx l)])
  refine ⟨pa, p1, _, _, rfl, rfl, s1 _ _ h1, upd_same, (by rw [List.length_map, n1, sizeLine_eq]; show 5 + 1 ≤ _; decide), fun p2 hp2 => ?_⟩
  have s2 := same_new hp2 (.lst (nm.map V.str ++ [.str (tx l)]))
  have hn : upd (upd H p1 (.lst [.str (tx l)])) p2 (.lst (nm.map V.str ++ [.str (tx l)])) p2 = some (.lst ((nm ++ [tx l]).map V.str)) := by rw [List.map_append]; exact upd_same
  have S := s1.trans s2
  refine atG [some (.ref a), some (.int k), some (.ref pl), some (.int n), some (.ref p2), none, none, none, none, none] rfl ?_
  generalize upd (upd H p1 (.lst [.str (tx l)])) p2 (.lst (nm.map V.str ++ [.str (tx l)])) = H2 at S hn
  have n6 : (nm ++ [tx l]).length = 6 := by rw [List.length_append, n1]; rfl
  have a6 : ∀ z ∈ nm ++ [tx l], z.length ≤ 8 := fun z hz => by
    have g : nmOk z := by
      rcases List.mem_append.mp hz with h | h
      · exact g1 z h
      · rw [List.mem_singleton.mp h]; exact ⟨l, rfl, hl⟩
    obtain ⟨l', rfl, hl'⟩ := g
    rw [tx_len]
    exact hl'.1.2
  generalize nm ++ [tx l] = nm6 at hn n6 a6
  obtain ⟨d, hd, ed⟩ := at_mapI (f := V.int) (xs := ds) (i := n % 4) (md (by decide)).1 (by have := (md (a := n) (b := 4) (by decide)).2; omega)
  refine ⟨_, rfl, pl, _, _, _, rfl, rfl, SqT.of (S _ _ h0), rfl, _, rfl, _, _, rfl, rfl, (by show (0 : Int) < 4; decide), pb, _, _, _, rfl, rfl, SqL.of (S _ _ h2), ed, _, rfl, _, _, rfl, rfl, ⟨by decide, by decide⟩, _, _, rfl, rfl, (by show (0 : Int) < 3; decide), _, _, rfl, rfl, _, _, rfl, rfl, ?_⟩
  refine atG [some (.ref a), some (.int k), some (.ref pl), some (.int n), some (.ref p2), some (.int (d + n / 4 % 3 - 1)), none, none, none, none] rfl ?_
  obtain ⟨e, he, ee⟩ := at_mapI (f := V.int) (xs := cs) (i := n / 12 % 4) (md (by decide)).1 (by have := (md (a := n / 12) (b := 4) (by decide)).2; omega)
  refine ⟨_, rfl, pl, _, _, _, rfl, rfl, SqT.of (S _ _ h0), rfl, _, rfl, _, _, rfl, rfl, ⟨by decide, by decide⟩, _, _, rfl, rfl, (by show (0 : Int) < 4; decide), pc, _, _, _, rfl, rfl, SqL.of (S _ _ h3), ee, _, rfl, _, _, rfl, rfl, ⟨by decide, by decide⟩, _, _, rfl, rfl, (by show (0 : Int) < 3; decide), _, _, rfl, rfl, _, _, rfl, rfl, ?_⟩
  refine atG [some (.ref a), some (.int k), some (.ref pl), some (.int n), some (.ref p2), some (.int (d + n / 4 % 3 - 1)), some (.int (e + n / 48 % 3 - 1)), none, none, none] rfl ?_
  refine ⟨_, rfl, _, _, rfl, rfl, ⟨by decide, by decide⟩, _, _, rfl, rfl, (by show (0 : Int) < 4; decide), rfl, _, rfl, ?_⟩
  refine joinS (fun σ H' => (∃ x y : Int, σ = [some (.ref a), some (.int k), some (.ref pl), some (.int n), some (.ref p2), some (.int x), some (.int y), none, none, none]) ∧ H' = H2) (fun _ N R => ?_) (fun _ N R => R _ _ ⟨⟨_, _, rfl⟩, rfl⟩) ?_
  · refine ⟨_, rfl, _, _, rfl, rfl, ⟨by decide, by decide⟩, _, _, rfl, rfl, ⟨by decide, by decide, by decide⟩, _, _, rfl, rfl, _, _, rfl, rfl, p6, ?_⟩
    exact ⟨_, rfl, _, _, rfl, rfl, .inr ⟨by decide, by decide⟩, _, _, rfl, rfl, ⟨by decide, by decide, by decide⟩, _, _, rfl, rfl, p12, R _ _ ⟨⟨_, _, rfl⟩, rfl⟩⟩
  rintro σ H' ⟨⟨x, y, rfl⟩, rfl⟩
  obtain ⟨th, hth, eth⟩ := at_mapI (f := V.str) (xs := nm6) (i := n / 577 % 6) (md (by decide)).1 (by have := (md (a := n / 577) (b := 6) (by decide)).2; omega)
  obtain ⟨ca, hca, eca⟩ := at_mapI (f := V.str) (xs := nm6) (i := n / 3463 % 6) (md (by decide)).1 (by have := (md (a := n / 3463) (b := 6) (by decide)).2; omega)
  refine ⟨_, rfl, _, rfl, _, _, rfl, rfl, ⟨by decide, by decide⟩, _, _, rfl, rfl, (by show (0 : Int) < 6; decide), p2, _, _, _, rfl, rfl, SqL.of hn, eth, ?_⟩
  refine atG [some (.ref a), some (.int k), some (.ref pl), some (.int n), some (.ref p2), some (.int x), some (.int y), some (.str th), none, none] rfl ?_
  refine ⟨_, rfl, _, rfl, _, _, rfl, rfl, ⟨by decide, by decide⟩, _, _, rfl, rfl, (by show (0 : Int) < 6; decide), p2, _, _, _, rfl, rfl, SqL.of hn, eca, ?_⟩
  refine atG [some (.ref a), some (.int k), some (.ref pl), some (.int n), some (.ref p2), some (.int x), some (.int y), some (.str th), some (.str ca), none] rfl ?_
  have lt := a6 th hth
  have lc := a6 ca hca
  have ap : ∀ x y : Str, (x ++ y).length = x.length + y.length := fun x y => by rw [← tx_of x, ← tx_of y, tx_app, tx_len, tx_len, tx_len, List.length_append]
  have ld : (Str.ofString ".").length = 1 := by decide +kernel
  refine ⟨_, rfl, _, rfl, _, _, rfl, rfl, (by rw [sizeLine_eq, ld]; omega), _, rfl, _, _, rfl, rfl, (by rw [ap, sizeLine_eq, ld]; omega), three, fun p3 hp3 => ?_⟩
  obtain ⟨ev, hev, eev⟩ := at_mapI (f := V.str) (xs := [ca, th ++ Str.ofString "." ++ ca, Str.ofString "a.b.c.d"]) (i := n / 20771 % 3) (md (by decide)).1 (by have := (md (a := n / 20771) (b := 3) (by decide)).2; show _ < (3 : Int); omega)
  have s3 := same_new hp3 (.lst (List.map V.str [ca, th ++ Str.ofString "." ++ ca, Str.ofString "a.b.c.d"]))
  refine ⟨_, rfl, _, _, rfl, rfl, ⟨by decide, by decide⟩, _, _, rfl, rfl, (by show (0 : Int) < 3; decide), p3, _, _, _, rfl, rfl, SqL.of upd_same, eev, ?_⟩
  refine atG [some (.ref a), some (.int k), some (.ref pl), some (.int n), some (.ref p2), some (.int x), some (.int y), some (.str th), some (.str ca), some (.str ev)] rfl ?_
  refine ⟨_, _, rfl, rfl, ⟨by decide, by decide, by decide⟩, _, rfl, _, _, rfl, _, _, rfl, ?_⟩
  have bd : 0 ≤ (if (if x < (10 : Int) ^ (6 : Int).toNat then x else (10 : Int) ^ (6 : Int).toNat) > 0 then (if x < (10 : Int) ^ (6 : Int).toNat then x else (10 : Int) ^ (6 : Int).toNat) else 0) ∧ (if (if x < (10 : Int) ^ (6 : Int).toNat then x else (10 : Int) ^ (6 : Int).toNat) > 0 then (if x < (10 : Int) ^ (6 : Int).toNat then x else (10 : Int) ^ (6 : Int).toNat) else 0) ≤ 1000000 := by
    rw [e6]
    (repeat' split) <;> omega
  generalize (if (if x < (10 : Int) ^ (6 : Int).toNat then x else (10 : Int) ^ (6 : Int).toNat) > 0 then (if x < (10 : Int) ^ (6 : Int).toNat then x else (10 : Int) ^ (6 : Int).toNat) else 0) = dd at bd
  refine atG [some (.ref a), some (.int k), some (.ref pl), some (.int n), some (.ref p2), some (.int dd), some (.int y), some (.str th), some (.str ca), some (.str ev)] rfl ?_
  refine ⟨_, rfl, _, _, rfl, rfl, ⟨by decide, by decide, by decide⟩, _, _, rfl, rfl, _, _, rfl, rfl, p9, _, rfl, _, rfl, _, rfl, _, rfl, _, _, rfl, rfl, ⟨by decide, by decide, by decide⟩, _, _, rfl, rfl, _, rfl, _, _, rfl, _, _, rfl, six, fun t ht => ?_⟩
  refine q t ⟨dd, th, ca, _⟩ _ (S.trans (s3.trans (same_new ht _))) ⟨_, _, upd_same⟩ ⟨bd, ?_⟩
  show 1 ≤ (if (if y < (10 : Int) ^ (12 : Int).toNat - 1 then y else (10 : Int) ^ (12 : Int).toNat - 1) > 1 then (if y < (10 : Int) ^ (12 : Int).toNat - 1 then y else (10 : Int) ^ (12 : Int).toNat - 1) else 1) ∧ (if (if y < (10 : Int) ^ (12 : Int).toNat - 1 then y else (10 : Int) ^ (12 : Int).toNat - 1) > 1 then (if y < (10 : Int) ^ (12 : Int).toNat - 1 then y else (10 : Int) ^ (12 : Int).toNat - 1) else 1) ≤ 999999999999
  rw [e12]
  (repeat' split) <;> omega
end
def spLH (m : Nat) : Sp := fun vs H Q _ => ∃ v t l x, vs = [v, .ref l] ∧ TrAt H v t ∧ hgt t < m ∧ okT okCo t ∧ LsAt H l x ∧ ∀ H', Same H H' → Q (.bl (hT t x)) H'
section
seal L2.PS L2.PSs L2.PE L2.PA
variable {P : Program} {w : World} {K : PySem.W.Frag} {mg : Str → Option Value} {base : Heap}
theorem sc__law_holds : FnScope ["_law_tree", "_law_loss_here", "_law_kind"] ["_law_tree", "_law_loss_here"] (defScope s__law_holds) := ⟨rfl, rfl, rfl, by decide +kernel, rfl, by decide +kernel, by decide +kernel⟩
theorem ok__law_holds {f : Addr} {fd : FuncData} (F : Fun K "_law_holds" "_law_holds" s__law_holds f fd) {m : Nat} (C_law_holds : Cal P w K mg base m "_law_holds" ["_law_tree", "_law_loss_here"] (spLH m)) : FnOk P w K mg base CX0 (m + 1) f fd ["_law_tree", "_law_loss_here"] (spLH (m + 1)) := by
  have sc := sc__law_holds
  refine F.ok sc (fun vs H Q E h => ?_) (fun cdv A outer s H vs Q E hr h => ?_)
  · obtain ⟨_, _, _, _, rfl, _⟩ := h
    rfl
  obtain ⟨v, t, l, x, rfl, tr, hg, ok, ⟨evt, nn, hl⟩, q⟩ := h
  refine ⟨_, (pss_cons (ps_set (i := 2) sc.nd rfl (Or.inl rfl) (pe_ix ix_tup (pv 0) pe_int (fun _ _ => rfl)))
      (pss_cons (ps_if (pt_cmpR op_eq (pv 2) pe_str (nomark _))
        (pss_one (ps_ret (pe_cmpR op_eq (pe_ix ix_tup (pv 1) pe_int (fun _ _ => rfl)) (pe_ix ix_tup (pv 0) pe_int (fun _ _ => rfl)) (nomark _))))
        pss_nil)
      (pss_cons (ps_if (pt_cmpR op_eq (pv 2) pe_str (nomark _))
        (pss_one (ps_ret (pe_cmpR op_eq (pe_ix ix_tup (pv 1) pe_int (fun _ _ => rfl)) (pe_ix ix_tup (pv 0) pe_int (fun _ _ => rfl)) (nomark _))))
        pss_nil)
      (pss_cons (ps_if (pt_cmpR op_eq (pv 2) pe_str (nomark _))
        (pss_one (ps_ret (pe_and (pe_cmpR op_le (pe_ix ix_tup (pv 0) pe_int (fun _ _ => rfl)) (pe_ix ix_tup (pv 1) pe_int (fun _ _ => rfl)) (nomark _)) (pe_one (pe_cmpR op_le (pe_ix ix_tup (pv 1) pe_int (fun _ _ => rfl)) (pe_ix ix_tup (pv 0) pe_int (fun _ _ => rfl)) (nomark _))))))
        pss_nil)
      (pss_cons (ps_if (pt_cmpR op_eq (pv 2) pe_str (nomark _))
        (pss_one (ps_ret (pe_cmpR op_gt (pe_ix ix_tup (pv 1) pe_int (fun _ _ => rfl)) (pe_ix ix_tup (pv 0) pe_int (fun _ _ => rfl)) (nomark _))))
        pss_nil)
      (pss_cons (ps_if (pt_cmpR op_eq (pv 2) pe_str (nomark _))
        (pss_one (ps_ret (pe_not (pe_callC C_law_holds (hr.mono (by omega)) rfl (pa_cons (pe_ix ix_tup (pv 0) pe_int (fun _ _ => rfl)) (pa_cons (pv 1) pa_nil))))))
        pss_nil)
      (pss_cons (ps_if (pt_cmpR op_eq (pv 2) pe_str (nomark _))
        (pss_one (ps_ret (pe_cmpR op_notIn_seq pe_bl (pe_comp (NC := ["_law_part", "_law_loss_here"]) (own := ["_law_part"]) (cs := ["_law_loss_here"]) (ix := [1]) rfl (CompScope.of rfl) rfl ⟨⟨rfl, .inl rfl, rfl⟩, trivial⟩ (pi_list (pe_ix ix_tup (pv 0) pe_int (fun _ _ => rfl))) (fun _ _ _ => (pg_name (i := 0) (show (["_law_part", "_law_loss_here"] : List Str).Nodup from by decide +kernel) rfl (Or.inl rfl))) (fun _ _ _ => pts_nil) (fun _ _ _ => (pe_callC C_law_holds (hr.mono (by omega)) rfl (pa_cons (pv 0) (pa_cons (pv 1) pa_nil))))) rfl)))
        pss_nil)
      (pss_cons (ps_if (pt_cmpR op_eq (pv 2) pe_str (nomark _))
        (pss_one (ps_ret (pe_cmpR op_in_seq pe_bl (pe_comp (NC := ["_law_part", "_law_loss_here"]) (own := ["_law_part"]) (cs := ["_law_loss_here"]) (ix := [1]) rfl (CompScope.of rfl) rfl ⟨⟨rfl, .inl rfl, rfl⟩, trivial⟩ (pi_list (pe_ix ix_tup (pv 0) pe_int (fun _ _ => rfl))) (fun _ _ _ => (pg_name (i := 0) (show (["_law_part", "_law_loss_here"] : List Str).Nodup from by decide +kernel) rfl (Or.inl rfl))) (fun _ _ _ => pts_nil) (fun _ _ _ => (pe_callC C_law_holds (hr.mono (by omega)) rfl (pa_cons (pv 0) (pa_cons (pv 1) pa_nil))))) rfl)))
        pss_nil)
      (pss_one (ps_ret pe_bl)))))))))), ?_⟩
  have sne : ∀ {y z : Str}, y ≠ z → ¬ V.str y = V.str z := fun h e => h (V.str.inj e)
  cases t with
  | «at» c =>
    cases c with
    | alw =>
      unfold TrAt at tr
      obtain ⟨p, rfl, hp⟩ := tr
      refine ⟨_, rfl, p, _, _, _, rfl, rfl, SqT.of hp, rfl, ?_⟩
      have q' := q H (Same.refl _)
      unfold hT at q'
      refine ⟨_, rfl, rfl, _, rfl, dF (sne (by decide +kernel)) ?_⟩
      refine ⟨_, rfl, rfl, _, rfl, dF (sne (by decide +kernel)) ?_⟩
      refine ⟨_, rfl, rfl, _, rfl, dF (sne (by decide +kernel)) ?_⟩
      refine ⟨_, rfl, rfl, _, rfl, dF (sne (by decide +kernel)) ?_⟩
      refine ⟨_, rfl, rfl, _, rfl, dF (sne (by decide +kernel)) ?_⟩
      refine ⟨_, rfl, rfl, _, rfl, dF (sne (by decide +kernel)) ?_⟩
      exact ⟨_, rfl, rfl, _, rfl, dF (sne (by decide +kernel)) q'⟩
    | cau n =>
      unfold TrAt at tr
      obtain ⟨p, rfl, hp⟩ := tr
      refine ⟨_, rfl, p, _, _, _, rfl, rfl, SqT.of hp, rfl, ?_⟩
      have q' := q H (Same.refl _)
      unfold hT at q'
      exact ⟨_, rfl, rfl, _, rfl, dT rfl ⟨_, rfl, l, _, _, _, rfl, rfl, SqT.of hl, rfl, _, rfl, p, _, _, _, rfl, rfl, SqT.of hp, rfl, rfl, q'⟩⟩
    | thi n =>
      unfold TrAt at tr
      obtain ⟨p, rfl, hp⟩ := tr
      refine ⟨_, rfl, p, _, _, _, rfl, rfl, SqT.of hp, rfl, ?_⟩
      have q' := q H (Same.refl _)
      unfold hT at q'
      refine ⟨_, rfl, rfl, _, rfl, dF (sne (by decide +kernel)) ?_⟩
      exact ⟨_, rfl, rfl, _, rfl, dT rfl ⟨_, rfl, l, _, _, _, rfl, rfl, SqT.of hl, rfl, _, rfl, p, _, _, _, rfl, rfl, SqT.of hp, rfl, rfl, q'⟩⟩
    | day a b =>
      unfold TrAt at tr
      obtain ⟨p, rfl, hp⟩ := tr
      refine ⟨_, rfl, p, _, _, _, rfl, rfl, SqT.of hp, rfl, ?_⟩
      have q' : Q (.bl (decide (a ≤ x.d) && decide (x.d ≤ b))) H := by have q' := q H (Same.refl _); unfold hT at q'; exact q'
      refine ⟨_, rfl, rfl, _, rfl, dF (sne (by decide +kernel)) ?_⟩
      refine ⟨_, rfl, rfl, _, rfl, dF (sne (by decide +kernel)) ?_⟩
      refine ⟨_, rfl, rfl, _, rfl, dT rfl ⟨_, rfl, p, _, _, _, rfl, rfl, SqT.of hp, rfl, _, rfl, l, _, _, _, rfl, rfl, SqT.of hl, rfl, _, _, rfl, rfl, _, rfl, ite2 (fun e => ?_) (fun e => ?_)⟩⟩
      · have e : decide (a ≤ x.d) = true := e
        rw [e, Bool.true_and] at q'
        exact ⟨_, rfl, l, _, _, _, rfl, rfl, SqT.of hl, rfl, _, rfl, p, _, _, _, rfl, rfl, SqT.of hp, rfl, _, _, rfl, rfl, q'⟩
      · have e : decide (a ≤ x.d) = false := Bool.eq_false_iff.mpr e
        rw [e, Bool.false_and] at q'
        exact q'
    | ovr c =>
      unfold TrAt at tr
      obtain ⟨p, rfl, hp⟩ := tr
      refine ⟨_, rfl, p, _, _, _, rfl, rfl, SqT.of hp, rfl, ?_⟩
      have q' := q H (Same.refl _)
      unfold hT at q'
      refine ⟨_, rfl, rfl, _, rfl, dF (sne (by decide +kernel)) ?_⟩
      refine ⟨_, rfl, rfl, _, rfl, dF (sne (by decide +kernel)) ?_⟩
      refine ⟨_, rfl, rfl, _, rfl, dF (sne (by decide +kernel)) ?_⟩
      exact ⟨_, rfl, rfl, _, rfl, dT rfl ⟨_, rfl, l, _, _, _, rfl, rfl, SqT.of hl, rfl, _, rfl, p, _, _, _, rfl, rfl, SqT.of hp, rfl, _, _, rfl, rfl, q'⟩⟩
  | no t =>
    unfold TrAt at tr
    obtain ⟨p, wt, rfl, hp, tr⟩ := tr
    refine ⟨_, rfl, p, _, _, _, rfl, rfl, SqT.of hp, rfl, ?_⟩
    unfold hgt at hg
    refine ⟨_, rfl, rfl, _, rfl, dF (sne (by decide +kernel)) ?_⟩
    refine ⟨_, rfl, rfl, _, rfl, dF (sne (by decide +kernel)) ?_⟩
    refine ⟨_, rfl, rfl, _, rfl, dF (sne (by decide +kernel)) ?_⟩
    refine ⟨_, rfl, rfl, _, rfl, dF (sne (by decide +kernel)) ?_⟩
    refine ⟨_, rfl, rfl, _, rfl, dT rfl ⟨_, rfl, p, _, _, _, rfl, rfl, SqT.of hp, rfl, _, rfl, wt, t, l, x, rfl, tr, by omega, by unfold okT at ok; exact ok, ⟨evt, nn, hl⟩, fun H' s' => ⟨_, rfl, ?_⟩⟩⟩
    have q' := q H' s'
    unfold hT at q'
    exact q'
  | al ts =>
    unfold TrAt at tr
    obtain ⟨p, a, vs, rfl, hp, ha, trs⟩ := tr
    refine ⟨_, rfl, p, _, _, _, rfl, rfl, SqT.of hp, rfl, ?_⟩
    unfold hgt at hg
    have hlen := trs.len
    unfold okT at ok
    obtain ⟨_, ts8, oks⟩ := ok
    refine ⟨_, rfl, rfl, _, rfl, dF (sne (by decide +kernel)) ?_⟩
    refine ⟨_, rfl, rfl, _, rfl, dF (sne (by decide +kernel)) ?_⟩
    refine ⟨_, rfl, rfl, _, rfl, dF (sne (by decide +kernel)) ?_⟩
    refine ⟨_, rfl, rfl, _, rfl, dF (sne (by decide +kernel)) ?_⟩
    refine ⟨_, rfl, rfl, _, rfl, dF (sne (by decide +kernel)) ?_⟩
    refine ⟨_, rfl, rfl, _, rfl, dT rfl ⟨_, rfl, p, _, _, _, rfl, rfl, SqT.of hp, rfl, a, rfl, ⟨_, SqL.of ha⟩, fun pc hpc => ?_⟩⟩
    refine comp_list (K := K) (a := a) (xs := vs) (fun i ys H3 => H3 pc = some (.lst ys) ∧ ys = ((ts.take i).map fun t => V.bl (hT t x)) ∧ Same H H3) ⟨upd_same, by rw [List.take_zero]; rfl, same_new hpc _⟩ (fun i ys H3 _ ⟨h1, h2, h3⟩ => ⟨h1, by rw [h2, List.length_map, List.length_take]; omega, SqL.of (h3 _ _ ha)⟩) (by rw [sizeLine_eq]; omega) ?_ ?_
    · rintro i v ys H3 hi ⟨h1, h2, h3⟩
      obtain ⟨t, et, tr⟩ := trs.get hi
      refine ⟨_, rfl, _, rfl, v, t, l, x, rfl, tr.same h3, hgts_le (by omega) i et, okTs_at oks t (List.mem_of_getElem? et), ⟨evt, nn, h3 _ _ hl⟩, fun H6 s6 => ⟨s6 _ _ h1, rfl, upd_same, ?_, same_upd hpc (h3.trans s6)⟩⟩
      rw [take_snoc et, List.map_append, ← h2]
      rfl
    · rintro ys H3 ⟨h1, h2, h3⟩
      rw [hlen, List.take_length] at h2
      subst h2
      refine ⟨pc, _, rfl, .inl (SqL.of h1), rfl, ?_, ?_⟩
      · rw [List.all_map]
        exact List.all_eq_true.mpr fun _ _ => rfl
      have q' := q H3 h3
      unfold hT at q'
      rw [hAll_map, ← inV_false, List.map_map] at q'
      exact q'
  | so ts =>
    unfold TrAt at tr
    obtain ⟨p, a, vs, rfl, hp, ha, trs⟩ := tr
    refine ⟨_, rfl, p, _, _, _, rfl, rfl, SqT.of hp, rfl, ?_⟩
    unfold hgt at hg
    have hlen := trs.len
    unfold okT at ok
    obtain ⟨_, ts8, oks⟩ := ok
    refine ⟨_, rfl, rfl, _, rfl, dF (sne (by decide +kernel)) ?_⟩
    refine ⟨_, rfl, rfl, _, rfl, dF (sne (by decide +kernel)) ?_⟩
    refine ⟨_, rfl, rfl, _, rfl, dF (sne (by decide +kernel)) ?_⟩
    refine ⟨_, rfl, rfl, _, rfl, dF (sne (by decide +kernel)) ?_⟩
    refine ⟨_, rfl, rfl, _, rfl, dF (sne (by decide +kernel)) ?_⟩
    refine ⟨_, rfl, rfl, _, rfl, dF (sne (by decide +kernel)) ?_⟩
    refine ⟨_, rfl, rfl, _, rfl, dT rfl ⟨_, rfl, p, _, _, _, rfl, rfl, SqT.of hp, rfl, a, rfl, ⟨_, SqL.of ha⟩, fun pc hpc => ?_⟩⟩
    refine comp_list (K := K) (a := a) (xs := vs) (fun i ys H3 => H3 pc = some (.lst ys) ∧ ys = ((ts.take i).map fun t => V.bl (hT t x)) ∧ Same H H3) ⟨upd_same, by rw [List.take_zero]; rfl, same_new hpc _⟩ (fun i ys H3 _ ⟨h1, h2, h3⟩ => ⟨h1, by rw [h2, List.length_map, List.length_take]; omega, SqL.of (h3 _ _ ha)⟩) (by rw [sizeLine_eq]; omega) ?_ ?_
    · rintro i v ys H3 hi ⟨h1, h2, h3⟩
      obtain ⟨t, et, tr⟩ := trs.get hi
      refine ⟨_, rfl, _, rfl, v, t, l, x, rfl, tr.same h3, hgts_le (by omega) i et, okTs_at oks t (List.mem_of_getElem? et), ⟨evt, nn, h3 _ _ hl⟩, fun H6 s6 => ⟨s6 _ _ h1, rfl, upd_same, ?_, same_upd hpc (h3.trans s6)⟩⟩
      rw [take_snoc et, List.map_append, ← h2]
      rfl
    · rintro ys H3 ⟨h1, h2, h3⟩
      rw [hlen, List.take_length] at h2
      subst h2
      refine ⟨pc, _, rfl, .inl (SqL.of h1), rfl, ?_, ?_⟩
      · rw [List.all_map]
        exact List.all_eq_true.mpr fun _ _ => rfl
      have q' := q H3 h3
      unfold hT at q'
      rw [hSom_map, ← inV_true, List.map_map] at q'
      exact q'
end
theorem pe_meth0C {X : Cx} {k : Nat} {C : Addr} {m : Str} {ps : List Str} {sp : Sp} {o : Expr} {apos pos : Pos} {ta : TE} {pl : Sem Bool} (M : MCal X.prog X.w X.K X.mg X.base k C m ps sp) (hr : Room k X.A) (he : PE X o ta)
    (ht : eval (.Call (.Attribute o m apos) [] [] pos) X.env = (do
      let ov ← eval o X.env
      standAt apos.atName
      let (f, first) ← holding [ov] (getMethod ov m pl)
      callWith pos f first (backTo pos (starEach [] X.env)) (backToKw pos (keywordEach [] X.env))) := by rfl) :
    PE X (.Call (.Attribute o m apos) [] [] pos) (tMeth C m sp [] E0 ta tNil) := by
  obtain ⟨f, fd, F, b, hm⟩ := M.ex
  exact pe_meth0 he M.cl hm F hr b .nil pass0 ht
def fldR (rw : Addr) (pl dp : Int) : List (Str × V) := [(Str.ofString "row", .ref rw), (Str.ofString "place", .int pl), (Str.ofString "depth", .int dp)]
theorem lr_row (rw : Addr) (pl dp : Int) : (fldR rw pl dp).lookup (Str.ofString "row") = some (.ref rw) := rfl
theorem lr_place (rw : Addr) (pl dp : Int) : (fldR rw pl dp).lookup (Str.ofString "place") = some (.int pl) := rfl
theorem lr_depth (rw : Addr) (pl dp : Int) : (fldR rw pl dp).lookup (Str.ofString "depth") = some (.int dp) := rfl
def RdAt (C : Addr) (H : Hp) (r rw : Addr) (pl : Nat) (dp : Int) (row : List Str) : Prop := (∃ dx, H r = some (.ins C dx (fldR rw pl dp))) ∧ H rw = some (.lst (row.map V.str)) ∧ pl ≤ row.length ∧ row.length ≤ 60
def Kb (r : Addr) (H H' : Hp) : Prop := ∀ b o, H b = some o → b ≠ r → H' b = some o
theorem Kb.trans {r : Addr} {H H1 H2 : Hp} (a : Kb r H H1) (b : Kb r H1 H2) : Kb r H H2 := fun c o e n => b c o (a c o e n) n
theorem Kb.of {r : Addr} {H H' : Hp} (s : Same H H') : Kb r H H' := fun b o e _ => s b o e
theorem Kb.nw {r : Addr} {H H1 H2 : Hp} {o : HO} (h : H r = some o) (k : Kb r H1 H2) : Same (Nw H H1) (Nw H H2) := Nw.grow fun b o' e0 e => k b o' e fun z => by rw [z, h] at e0; cases e0
theorem Kb.later {r : Addr} {H H1 H2 : Hp} {o1 : HO} (k : Kb r H H1) (h1 : H1 r = some o1) : Same (Nw H1 H2) (Nw H H2) := fun b o e => by
  obtain ⟨e0, e⟩ := Nw.at e
  refine Nw.of ?_ e
  cases z : H b with
  | none => rfl
  | some o' =>
    by_cases c : b = r
    · rw [c, h1] at e0; cases e0
    · rw [k b o' z c] at e0; cases e0
theorem Kb.free {r : Addr} {H H1 : Hp} {o1 : HO} (k : Kb r H H1) (h1 : H1 r = some o1) {b : Addr} (e : H1 b = none) : H b = none := by
  cases z : H b with
  | none => rfl
  | some o' =>
    by_cases c : b = r
    · rw [c, h1] at e; cases e
    · rw [k b o' z c] at e; cases e
theorem drop_head {row xs : List Str} {pl : Nat} (h : row.drop pl = xs) : row[pl]? = xs.head? := by rw [← h, List.head?_drop]
theorem drop_more {row xs ys : List Str} {pl : Nat} (h : row.drop pl = xs ++ ys) : row.drop (pl + xs.length) = ys := by
  rw [← List.drop_drop, h, List.drop_left]
theorem drop_le {row : List Str} {x : Str} {xs : List Str} {pl : Nat} (h : row.drop pl = x :: xs) : pl + 1 ≤ row.length := by
  have := congrArg List.length h
  rw [List.length_drop, List.length_cons] at this
  omega
def aheadS (row : List Str) (pl : Nat) : Str := (row[pl]?).getD (Str.ofString "")
def spAhead (C : Addr) : Sp := fun vs H Q _ => ∃ r rw pl dp row, vs = [.ref r] ∧ RdAt C H r rw pl dp row ∧ Q (.str (aheadS row pl)) H
def spStep1 (C : Addr) : Sp := fun vs H Q _ => ∃ r rw pl dp row, vs = [.ref r] ∧ RdAt C H r rw pl dp row ∧ pl + 1 ≤ row.length ∧ ∀ H', Kb r H H' → RdAt C H' r rw (pl + 1) dp row → Q .non H'
def spGo (C : Addr) : Sp := fun vs H Q _ => ∃ r rw pl dp row b, ∃ n : Int, vs = [.ref r, .str b, .int n] ∧ RdAt C H r rw pl dp row ∧ ((aheadS row pl ≠ b ∧ Q (.bl false) H) ∨ (row[pl]? = some b ∧ n ≠ 8 ∧ ∀ H', Kb r H H' → RdAt C H' r rw (pl + 1) dp row → Q (.bl true) H'))
def spRdName (C : Addr) : Sp := fun vs H Q _ => ∃ r rw pl dp row nm, vs = [.ref r] ∧ RdAt C H r rw pl dp row ∧ row[pl]? = some nm ∧ nmOk nm ∧ ∀ H', Kb r H H' → RdAt C H' r rw (pl + 1) dp row → Q (.str nm) H'
def spDayOf : Sp := fun vs H Q _ => ∃ n : Nat, vs = [.str (tx (figs n))] ∧ n ≤ 1000000 ∧ Q (.int n) H
def spIsDay : Sp := fun vs H Q _ => ∃ n : Int, vs = [.int n] ∧ 0 ≤ n ∧ n ≤ 1000000 ∧ Q (.bl true) H
def spRdDay (C : Addr) : Sp := fun vs H Q _ => ∃ r rw pl dp row, ∃ n : Nat, ∃ le : Int, vs = [.ref r, .int le] ∧ RdAt C H r rw pl dp row ∧ row[pl]? = some (tx (figs n)) ∧ n ≤ 1000000 ∧ le ≤ n ∧ ∀ H', Kb r H H' → RdAt C H' r rw (pl + 1) dp row → Q (.int n) H'
def spRdDays (κ : A8) (C : Addr) : Sp := fun vs H Q _ => ∃ r rw pl dp row, ∃ n m : Nat, vs = [.ref r] ∧ RdAt C H r rw pl dp row ∧ row[pl]? = some (tx (figs n)) ∧ row[pl + 1]? = some (tx (figs m)) ∧ n ≤ m ∧ m ≤ 1000000 ∧ ∀ u H', Kb r H H' → RdAt C H' r rw (pl + 2) dp row → CdAt κ (Nw H H') u (.at (.day n m)) → Q u H'
def spRdAmt (C : Addr) : Sp := fun vs H Q _ => ∃ r rw pl dp row, ∃ n : Nat, vs = [.ref r] ∧ RdAt C H r rw pl dp row ∧ row[pl]? = some (tx (shown n)) ∧ n < 10 ^ 12 ∧ ∀ H', Kb r H H' → RdAt C H' r rw (pl + 1) dp row → Q (.int n) H'
def spRP (κ : A8) (C : Addr) (m : Nat) : Sp := fun vs H Q _ => ∃ r rw pl, ∃ dp : Nat, ∃ row ws post t d, vs = [.ref r] ∧ RdAt C H r rw pl dp row ∧ row.drop pl = ws ++ post ∧ Spl wordsC okCo 0 ws t d ∧ d ≤ m ∧ dp + d ≤ 6 ∧ ∀ u H', Kb r H H' → RdAt C H' r rw (pl + ws.length) dp row → CdAt κ (Nw H H') u t → Q u H'
def spRR (κ : A8) (C : Addr) (m : Nat) : Sp := fun vs H Q _ => ∃ r rw pl, ∃ dp : Nat, ∃ row ws post t d, vs = [.ref r] ∧ RdAt C H r rw pl dp row ∧ row.drop pl = ws ++ post ∧ Spl wordsC okCo 1 ws t d ∧ d ≤ m ∧ dp + d ≤ 6 ∧ post.head? ≠ some (Str.ofString "and") ∧ ∀ u H', Kb r H H' → RdAt C H' r rw (pl + ws.length) dp row → CdAt κ (Nw H H') u t → Q u H'
def spRRs (κ : A8) (C : Addr) (m : Nat) : Sp := fun vs H Q _ => ∃ r rw pl, ∃ dp : Nat, ∃ row ws post t d, vs = [.ref r] ∧ RdAt C H r rw pl dp row ∧ row.drop pl = ws ++ post ∧ Spl wordsC okCo 2 ws t d ∧ d ≤ m ∧ dp + d ≤ 6 ∧ post.head? ≠ some (Str.ofString "and") ∧ post.head? ≠ some (Str.ofString "or") ∧ ∀ u H', Kb r H H' → RdAt C H' r rw (pl + ws.length) dp row → CdAt κ (Nw H H') u t → Q u H'
def spRB (κ : A8) (C : Addr) (m : Nat) : Sp := fun vs H Q _ => ∃ r rw pl, ∃ dp : Nat, ∃ row ws post t d, vs = [.ref r] ∧ RdAt C H r rw pl dp row ∧ row.drop pl = ws ++ Str.ofString ")" :: post ∧ Spl wordsC okCo 2 ws t d ∧ d ≤ m ∧ dp + d ≤ 6 ∧ ∀ u H', Kb r H H' → RdAt C H' r rw (pl + ws.length + 1) dp row → CdAt κ (Nw H H') u t → Q u H'
def spRD (κ : A8) (C : Addr) (m : Nat) : Sp := fun vs H Q _ => ∃ r rw pl, ∃ dp : Nat, ∃ row ws post t d wd, vs = [.ref r, .str wd] ∧ RdAt C H r rw pl dp row ∧ row.drop pl = wd :: ws ++ post ∧ d < m ∧ dp + d + 1 ≤ 6 ∧
  ((wd = Str.ofString "not" ∧ ∃ t', t = .no t' ∧ Spl wordsC okCo 0 ws t' d) ∨ (wd = Str.ofString "(" ∧ ∃ ws', ws = ws' ++ [Str.ofString ")"] ∧ Spl wordsC okCo 2 ws' t d)) ∧ ∀ u H', Kb r H H' → RdAt C H' r rw (pl + 1 + ws.length) dp row → CdAt κ (Nw H H') u t → Q u H'
theorem ahead_at {row : List Str} {pl : Nat} {x : Str} (h : row[pl]? = some x) : aheadS row pl = x := by unfold aheadS; rw [h]; rfl
theorem ahead_ne {row post : List Str} {pl : Nat} {b : Str} (h : row.drop pl = post) (n : post.head? ≠ some b) (hb : b ≠ Str.ofString "") : aheadS row pl ≠ b := by
  unfold aheadS
  rw [drop_head h]
  cases e : post.head? with
  | none => exact fun z => hb z.symm
  | some x => exact fun z => n (by rw [e]; exact congrArg some z)
theorem RdAt.step {C : Addr} {H : Hp} {r rw : Addr} {pl : Nat} {dp q : Int} {row : List Str} {dx : Addr} {p : Nat} (h : RdAt C H r rw pl dp row) (hp : p ≤ row.length) : RdAt C (upd H r (.ins C dx (fldR rw p q))) r rw p q row := by
  obtain ⟨⟨dx', h1⟩, h2, _, h4⟩ := h
  exact ⟨⟨dx, upd_same⟩, by rw [upd_ne (ne_of h2 h1 (by intro z; cases z))]; exact h2, hp, h4⟩
theorem Kb.upd {r : Addr} {H : Hp} {o : HO} : Kb r H (L2.upd H r o) := fun b o' e n => by rw [upd_ne n]; exact e
section
seal L2.PS L2.PSs L2.PE L2.PA
variable {P : Program} {w : World} {K : PySem.W.Frag} {mg : Str → Option Value} {base : Heap} {C_Condition C_CauseIs C_ThingIs C_DaysIn C_Over C_Not C_All C_Some C_Reader : Addr}
theorem sc_Reader_ahead : FnScope ["self"] ["self"] (defScope s_Reader_ahead) := ⟨rfl, rfl, rfl, by decide +kernel, rfl, by decide +kernel, by decide +kernel⟩
theorem ok_Reader_ahead {f : Addr} {fd : FuncData} (F : Fun K "ahead" "Reader.ahead" s_Reader_ahead f fd) (T : Txt K mg) (L : Kl K mg C_Condition C_CauseIs C_ThingIs C_DaysIn C_Over C_Not C_All C_Some C_Reader) : FnOk P w K mg base CX0 1 f fd ["self"] (spAhead C_Reader) := by
  have sc := sc_Reader_ahead
  refine F.ok sc (fun vs H Q E h => ?_) (fun cdv A outer s H vs Q E hr h => ?_)
  · obtain ⟨_, _, _, _, _, rfl, _⟩ := h
    rfl
  obtain ⟨r, rw, pl, dp, row, rfl, rd, q⟩ := h
  refine ⟨_, (pss_cons (ps_if (pt_cmpR op_eq (pe_fld (pv 0) rfl) (pe_callB call_len_seq rfl T.n_len (show bootBuiltins _ = some (.builtin "len") from rfl) (pa_cons (pe_fld (pv 0) rfl) pa_nil)) (nomark _))
        (pss_one (ps_ret pe_str))
        pss_nil)
      (pss_one (ps_ret (pe_ix ix_list (pe_fld (pv 0) rfl) (pe_fld (pv 0) rfl) (fun _ _ => rfl))))), ?_⟩
  obtain ⟨⟨dx, hr'⟩, hw, hpl, h60⟩ := rd
  have hl : (row.map V.str).length = row.length := List.length_map _
  refine ⟨_, rfl, r, _, dx, _, _, rfl, hr', L.cl_Reader, L.na_Reader_place, lr_place _ _ _, _, rfl, r, _, dx, _, _, rfl, hr', L.cl_Reader, L.na_Reader_row, lr_row _ _ _, rw, _, rfl, .inl (SqL.of hw), rfl, _, rfl, ite2 (fun c => ?_) (fun c => ?_)⟩
  · have c : (pl : Int) = ((row.map V.str).length : Int) := V.int.inj (of_decide_eq_true c)
    have e : row[pl]? = none := List.getElem?_eq_none (by omega)
    unfold aheadS at q
    rw [e] at q
    exact q
  · have c : ¬ (pl : Int) = ((row.map V.str).length : Int) := fun z => c (decide_eq_true (by rw [z]))
    have lt : pl < row.length := by omega
    have e : row[pl]? = some row[pl] := List.getElem?_eq_getElem lt
    unfold aheadS at q
    rw [e] at q
    exact ⟨_, rfl, r, _, dx, _, _, rfl, hr', L.cl_Reader, L.na_Reader_row, lr_row _ _ _, _, rfl, r, _, dx, _, _, rfl, hr', L.cl_Reader, L.na_Reader_place, lr_place _ _ _, rw, _, _, _, rfl, rfl, SqL.of hw, atI_nat (by rw [List.getElem?_map, e]; rfl), q⟩
theorem sc_Reader_step : FnScope ["self"] ["self"] (defScope s_Reader_step) := ⟨rfl, rfl, rfl, by decide +kernel, rfl, by decide +kernel, by decide +kernel⟩
theorem ok_Reader_step {f : Addr} {fd : FuncData} (F : Fun K "step" "Reader.step" s_Reader_step f fd) (T : Txt K mg) (L : Kl K mg C_Condition C_CauseIs C_ThingIs C_DaysIn C_Over C_Not C_All C_Some C_Reader) : FnOk P w K mg base CX0 1 f fd ["self"] (spStep1 C_Reader) := by
  have sc := sc_Reader_step
  refine F.ok sc (fun vs H Q E h => ?_) (fun cdv A outer s H vs Q E hr h => ?_)
  · obtain ⟨_, _, _, _, _, rfl, _⟩ := h
    rfl
  obtain ⟨r, rw, pl, dp, row, rfl, rd, lt, q⟩ := h
  refine ⟨_, (pss_one (ps_fld (pv 0) (pe_op op_add (pe_fld (pv 0) rfl) pe_int) rfl)), ?_⟩
  have rd' := rd
  obtain ⟨⟨dx, hr'⟩, hw, hpl, h60⟩ := rd
  refine ⟨_, rfl, r, _, dx, _, _, rfl, hr', L.cl_Reader, L.na_Reader_place, lr_place _ _ _, _, _, rfl, rfl, _, rfl, r, _, dx, _, rfl, hr', L.cl_Reader, L.na_Reader_place, (by show 3 < 1000; decide), ?_⟩
  exact q _ Kb.upd (RdAt.step (p := pl + 1) rd' lt)
theorem sc_Reader_goes_on : FnScope ["self", "between", "so_far"] ["self", "between", "so_far"] (defScope s_Reader_goes_on) := ⟨rfl, rfl, rfl, by decide +kernel, rfl, by decide +kernel, by decide +kernel⟩
theorem ok_Reader_goes_on {f : Addr} {fd : FuncData} (F : Fun K "goes_on" "Reader.goes_on" s_Reader_goes_on f fd) (T : Txt K mg) (L : Kl K mg C_Condition C_CauseIs C_ThingIs C_DaysIn C_Over C_Not C_All C_Some C_Reader) (Mahead : MCal P w K mg base 1 C_Reader "ahead" ["self"] (spAhead C_Reader)) (Mstep : MCal P w K mg base 1 C_Reader "step" ["self"] (spStep1 C_Reader)) : FnOk P w K mg base CX0 2 f fd ["self", "between", "so_far"] (spGo C_Reader) := by
  have sc := sc_Reader_goes_on
  refine F.ok sc (fun vs H Q E h => ?_) (fun cdv A outer s H vs Q E hr h => ?_)
  · obtain ⟨_, _, _, _, _, _, _, rfl, _⟩ := h
    rfl
  obtain ⟨r, rw, pl, dp, row, b, n, rfl, rd, alt⟩ := h
  refine ⟨_, (pss_cons (ps_if (pt_cmpR op_ne (pe_meth0C Mahead (hr.mono (by omega)) (pv 0)) (pv 1) (nomark _))
        (pss_one (ps_ret pe_bl))
        pss_nil)
      (pss_cons (ps_expr (pe_meth0C Mstep (hr.mono (by omega)) (pv 0)))
      (pss_cons (ps_if (pt_cmpR op_eq (pv 2) (pe_gint T.g_MOST_IN_ROW rfl) (nomark _))
        (pss_one ps_never)
        pss_nil)
      (pss_one (ps_ret pe_bl))))), ?_⟩
  have rd' := rd
  obtain ⟨⟨dx, hr'⟩, hw, hpl, h60⟩ := rd
  refine ⟨_, rfl, r, dx, _, rfl, hr', rfl, r, rw, pl, dp, row, rfl, rd', _, rfl, rfl, _, rfl, ?_⟩
  rcases alt with ⟨ne, q⟩ | ⟨e, n8, q⟩
  · exact nT (fun z => ne (V.str.inj z)) q
  · refine nF (by rw [ahead_at e]) ?_
    have lt : pl + 1 ≤ row.length := (List.getElem?_eq_some_iff.mp e).1
    refine ⟨_, rfl, r, dx, _, rfl, hr', rfl, r, rw, pl, dp, row, rfl, rd', lt, fun H' k' rd2 => ?_⟩
    exact ⟨_, rfl, rfl, _, rfl, dF (fun z => n8 (V.int.inj z)) (q H' k' rd2)⟩
theorem sc_Reader_read_name : FnScope ["self", "name"] ["self"] (defScope s_Reader_read_name) := ⟨rfl, rfl, rfl, by decide +kernel, rfl, by decide +kernel, by decide +kernel⟩
theorem ok_Reader_read_name {f : Addr} {fd : FuncData} (F : Fun K "read_name" "Reader.read_name" s_Reader_read_name f fd) (T : Txt K mg) (L : Kl K mg C_Condition C_CauseIs C_ThingIs C_DaysIn C_Over C_Not C_All C_Some C_Reader) (Mahead : MCal P w K mg base 1 C_Reader "ahead" ["self"] (spAhead C_Reader)) (Mstep : MCal P w K mg base 1 C_Reader "step" ["self"] (spStep1 C_Reader)) (Cis_name : Cal P w K mg base 2 "is_name" ["thing"] (spName K)) : FnOk P w K mg base CX0 3 f fd ["self"] (spRdName C_Reader) := by
  have sc := sc_Reader_read_name
  refine F.ok sc (fun vs H Q E h => ?_) (fun cdv A outer s H vs Q E hr h => ?_)
  · obtain ⟨_, _, _, _, _, _, rfl, _⟩ := h
    rfl
  obtain ⟨r, rw, pl, dp, row, nm, rfl, rd, e, ⟨l, rfl, hn⟩, q⟩ := h
  refine ⟨_, (pss_cons (ps_set (i := 1) sc.nd rfl (Or.inl rfl) (pe_meth0C Mahead (hr.mono (by omega)) (pv 0)))
      (pss_cons (ps_if (pt_not (pt_val (pe_callC Cis_name (hr.mono (by omega)) rfl (pa_cons (pv 1) pa_nil))))
        (pss_one ps_never)
        pss_nil)
      (pss_cons (ps_expr (pe_meth0C Mstep (hr.mono (by omega)) (pv 0)))
      (pss_one (ps_ret (pv 1)))))), ?_⟩
  have rd' := rd
  obtain ⟨⟨dx, hr'⟩, hw, hpl, h60⟩ := rd
  have lt : pl + 1 ≤ row.length := (List.getElem?_eq_some_iff.mp e).1
  have nv : nameV (.str (tx l)) = true := decide_eq_true hn
  refine ⟨_, rfl, r, dx, _, rfl, hr', rfl, r, rw, pl, dp, row, rfl, rd', ?_⟩
  rw [ahead_at e]
  refine atG [some (.ref r), some (.str (tx l))] rfl ?_
  refine ⟨_, rfl, _, _, rfl, .str _, okX_of (by have := hn.1.2; omega), _, rfl, bF (by rw [nv]; rfl) ?_⟩
  exact ⟨_, rfl, r, dx, _, rfl, hr', rfl, r, rw, pl, dp, row, rfl, rd', lt, fun H' k' rd2 => ⟨_, rfl, q H' k' rd2⟩⟩
theorem sc_is_day : FnScope ["thing"] ["thing"] (defScope s_is_day) := ⟨rfl, rfl, rfl, by decide +kernel, rfl, by decide +kernel, by decide +kernel⟩
theorem ok_is_day {f : Addr} {fd : FuncData} (F : Fun K "is_day" "is_day" s_is_day f fd) (T : Txt K mg) (Cis_whole : Cal P w K mg base 1 "is_whole" ["thing"] (spWhole K)) : FnOk P w K mg base CX0 2 f fd ["thing"] spIsDay := by
  have sc := sc_is_day
  refine F.ok sc (fun vs H Q E h => ?_) (fun cdv A outer s H vs Q E hr h => ?_)
  · obtain ⟨_, rfl, _⟩ := h
    rfl
  obtain ⟨n, rfl, n0, n1, q⟩ := h
  refine ⟨_, (pss_one (ps_ret (pe_and (pe_callC Cis_whole (hr.mono (by decide)) rfl (pa_cons (pv 0) pa_nil)) (pe_one (pe_chain op_le op_le pe_int (pv 0) (pe_gint T.g_LAST_DAY rfl)))))), ?_⟩
  refine ⟨_, rfl, _, _, rfl, .int _, _, rfl, iteT ⟨_, rfl, _, _, rfl, rfl, _, rfl, dT n0 ⟨_, _, rfl, rfl, ?_⟩⟩⟩
  show Q (.bl (decide (n ≤ 1000000))) H
  rw [decide_eq_true n1]
  exact q
theorem sc_day_of : FnScope ["word", "day"] ["word"] (defScope s_day_of) := ⟨rfl, rfl, rfl, by decide +kernel, rfl, by decide +kernel, by decide +kernel⟩
theorem ok_day_of {f : Addr} {fd : FuncData} (F : Fun K "day_of" "day_of" s_day_of f fd) (T : Txt K mg) (Cwrites_whole : Cal P w K mg base 2 "writes_whole" ["text", "most_figures"] spWholePart) (Cis_day : Cal P w K mg base 2 "is_day" ["thing"] spIsDay) : FnOk P w K mg base CX0 3 f fd ["word"] spDayOf := by
  have sc := sc_day_of
  refine F.ok sc (fun vs H Q E h => ?_) (fun cdv A outer s H vs Q E hr h => ?_)
  · obtain ⟨_, rfl, _⟩ := h
    rfl
  obtain ⟨n, rfl, n1, q⟩ := h
  refine ⟨_, (pss_cons (ps_if (pt_not (pt_val (pe_callC Cwrites_whole (hr.mono (by decide)) rfl (pa_cons (pv 0) (pa_cons (pe_gint T.g_MOST_DAY_FIGURES rfl) pa_nil)))))
        (pss_one (ps_ret pe_non))
        pss_nil)
      (pss_cons (ps_set (i := 1) sc.nd rfl (Or.inl rfl) (pe_callTy call_int_text rfl T.n_int (show bootBuiltins _ = some (.type "int") from rfl) (pa_cons (pv 0) pa_nil)))
      (pss_one (ps_ret (pe_ifExp (pt_val (pe_callC Cis_day (hr.mono (by decide)) rfl (pa_cons (pv 1) pa_nil))) (pv 1) pe_non))))), ?_⟩
  have l7 : (figs n).length ≤ 7 := figs_len (by decide) (figs_small10 n1)
  refine ⟨_, rfl, n, 7, rfl, figs_small10 n1, by decide, by decide, _, rfl, iteF ?_⟩
  refine ⟨_, rfl, _, _, rfl, int_of (figs_dig _) (figs_ne _) (by omega), by rw [tx_len]; omega, ?_⟩
  rw [figs_val]
  refine atG [some (.str (tx (figs n))), some (.int (n : Int))] rfl ?_
  exact ⟨_, rfl, _, rfl, by omega, by omega, _, rfl, iteT ⟨_, rfl, q⟩⟩
theorem sc_Reader_read_day : FnScope ["self", "least", "day"] ["self", "least"] (defScope s_Reader_read_day) := ⟨rfl, rfl, rfl, by decide +kernel, rfl, by decide +kernel, by decide +kernel⟩
theorem ok_Reader_read_day {f : Addr} {fd : FuncData} (F : Fun K "read_day" "Reader.read_day" s_Reader_read_day f fd) (T : Txt K mg) (L : Kl K mg C_Condition C_CauseIs C_ThingIs C_DaysIn C_Over C_Not C_All C_Some C_Reader) (Mahead : MCal P w K mg base 1 C_Reader "ahead" ["self"] (spAhead C_Reader)) (Mstep : MCal P w K mg base 1 C_Reader "step" ["self"] (spStep1 C_Reader)) (Cday_of : Cal P w K mg base 3 "day_of" ["word"] spDayOf) : FnOk P w K mg base CX0 4 f fd ["self", "least"] (spRdDay C_Reader) := by
  have sc := sc_Reader_read_day
  refine F.ok sc (fun vs H Q E h => ?_) (fun cdv A outer s H vs Q E hr h => ?_)
  · obtain ⟨_, _, _, _, _, _, _, rfl, _⟩ := h
    rfl
  obtain ⟨r, rw, pl, dp, row, n, le, rfl, rd, e, n1, len, q⟩ := h
  refine ⟨_, (pss_cons (ps_set (i := 2) sc.nd rfl (Or.inl rfl) (pe_callC Cday_of (hr.mono (by omega)) rfl (pa_cons (pe_meth0C Mahead (hr.mono (by omega)) (pv 0)) pa_nil)))
      (pss_cons (ps_if (PW.pt (pw_or (pt_cmpR op_isN (pv 2) pe_non (nomark _)) (pw_or1 (pt_cmpR op_lt (pv 2) (pv 1) (nomark _)))))
        (pss_one ps_never)
        pss_nil)
      (pss_cons (ps_expr (pe_meth0C Mstep (hr.mono (by omega)) (pv 0)))
      (pss_one (ps_ret (pv 2)))))), ?_⟩
  have rd' := rd
  obtain ⟨⟨dx, hr'⟩, hw, hpl, h60⟩ := rd
  have lt : pl + 1 ≤ row.length := (List.getElem?_eq_some_iff.mp e).1
  refine ⟨_, rfl, r, dx, _, rfl, hr', rfl, r, rw, pl, dp, row, rfl, rd', ?_⟩
  rw [ahead_at e]
  refine ⟨n, rfl, n1, ?_⟩
  refine atG [some (.ref r), some (.int le), some (.int (n : Int))] rfl ?_
  refine ⟨_, rfl, rfl, _, rfl, dF (by intro z; cases z) ⟨_, rfl, _, rfl, _, _, rfl, rfl, _, rfl, dF (by omega) ?_⟩⟩
  exact ⟨_, rfl, r, dx, _, rfl, hr', rfl, r, rw, pl, dp, row, rfl, rd', lt, fun H' k' rd2 => ⟨_, rfl, q H' k' rd2⟩⟩
theorem sc_Reader_read_days : FnScope ["self", "first"] ["self"] (defScope s_Reader_read_days) := ⟨rfl, rfl, rfl, by decide +kernel, rfl, by decide +kernel, by decide +kernel⟩
theorem ok_Reader_read_days {f : Addr} {fd : FuncData} (F : Fun K "read_days" "Reader.read_days" s_Reader_read_days f fd) (T : Txt K mg) (L : Kl K mg C_Condition C_CauseIs C_ThingIs C_DaysIn C_Over C_Not C_All C_Some C_Reader) (Mread_day : MCal P w K mg base 4 C_Reader "read_day" ["self", "least"] (spRdDay C_Reader)) (KDaysIn : KCal P w K mg base 1 "DaysIn" C_DaysIn ["self", "first", "last"] (spMkD C_DaysIn)) : FnOk P w K mg base CX0 5 f fd ["self"] (spRdDays (A8.mk C_Condition C_CauseIs C_ThingIs C_DaysIn C_Over C_Not C_All C_Some) C_Reader) := by
  have sc := sc_Reader_read_days
  refine F.ok sc (fun vs H Q E h => ?_) (fun cdv A outer s H vs Q E hr h => ?_)
  · obtain ⟨_, _, _, _, _, _, _, rfl, _⟩ := h
    rfl
  obtain ⟨r, rw, pl, dp, row, n, m, rfl, rd, e1, e2, nm, m1, q⟩ := h
  refine ⟨_, (pss_cons (ps_set (i := 1) sc.nd rfl (Or.inl rfl) (pe_methC Mread_day (hr.mono (by omega)) (pv 0) (pa_cons pe_int pa_nil)))
      (pss_one (ps_ret (pe_makeC KDaysIn (hr.mono (by omega)) rfl (pa_cons (pv 1) (pa_cons (pe_methC Mread_day (hr.mono (by omega)) (pv 0) (pa_cons (pv 1) pa_nil)) pa_nil)))))), ?_⟩
  have rd' := rd
  obtain ⟨⟨dx, hr'⟩, hw, hpl, h60⟩ := rd
  refine ⟨_, rfl, r, dx, _, rfl, hr', rfl, r, rw, pl, dp, row, n, 0, rfl, rd', e1, by omega, by omega, fun H1 k1 rd1 => ?_⟩
  refine atG [some (.ref r), some (.int (n : Int))] rfl ?_
  have rd1' := rd1
  obtain ⟨⟨dx1, hr1⟩, hw1, hpl1, _⟩ := rd1
  refine ⟨_, rfl, _, rfl, r, dx1, _, rfl, hr1, rfl, _, rfl, r, rw, pl + 1, dp, row, m, _, rfl, rd1', e2, m1, by omega, fun H2 k2 rd2 y dy ny nd ne => ?_⟩
  refine ⟨y, dy, _, _, rfl, upd_same, fun H3 kp hy => ⟨rfl, ?_⟩⟩
  have s3 : Same H2 H3 := fun b o z => by
    have n1 := ne_of_none z ny
    rw [kp b n1, upd_ne n1, upd_ne (ne_of_none z nd)]; exact z
  have k3 := k1.trans (k2.trans (Kb.of s3))
  obtain ⟨⟨dx2, hr2⟩, hw2, hpl2, _⟩ := rd2
  refine q _ _ k3 ⟨⟨dx2, s3 _ _ hr2⟩, s3 _ _ hw2, hpl2, h60⟩ ?_
  unfold CdAt
  exact ⟨y, dy, rfl, Nw.of ((k1.trans k2).free hr2 ny) hy⟩
theorem sc_Reader_read_amount : FnScope ["self", "cents"] ["self"] (defScope s_Reader_read_amount) := ⟨rfl, rfl, rfl, by decide +kernel, rfl, by decide +kernel, by decide +kernel⟩
theorem ok_Reader_read_amount {C_CoverError C_NoAmount C_NoWords C_TooDeep : Addr} {f : Addr} {fd : FuncData} (F : Fun K "read_amount" "Reader.read_amount" s_Reader_read_amount f fd) (T : Txt K mg) (L : Kl K mg C_Condition C_CauseIs C_ThingIs C_DaysIn C_Over C_Not C_All C_Some C_Reader) (Mahead : MCal P w K mg base 1 C_Reader "ahead" ["self"] (spAhead C_Reader)) (Mstep : MCal P w K mg base 1 C_Reader "step" ["self"] (spStep1 C_Reader)) (Z : Xc K mg C_CoverError C_NoAmount C_NoWords C_TooDeep) (Cread_cents : Cal P w K mg base 3 "read_cents" ["text"] spRead) : FnOk P w K mg base CX0 4 f fd ["self"] (spRdAmt C_Reader) := by
  have sc := sc_Reader_read_amount
  refine F.ok sc (fun vs H Q E h => ?_) (fun cdv A outer s H vs Q E hr h => ?_)
  · obtain ⟨_, _, _, _, _, _, rfl, _⟩ := h
    rfl
  obtain ⟨r, rw, pl, dp, row, n, rfl, rd, e, n1, q⟩ := h
  refine ⟨_, (pss_cons (ps_try rfl rfl rfl Z.a_NoAmount (fun pn E W hW hp =>
        (pss_one (ps_set (i := 1) sc.nd rfl (Or.inl rfl) (pe_callC Cread_cents (hr.mono (by omega)) rfl (pa_cons (pe_meth0C Mahead (hr.mono (by omega)) (pv 0)) pa_nil))))) (fun e =>
        (pss_one ps_never)))
      (pss_cons (ps_expr (pe_meth0C Mstep (hr.mono (by omega)) (pv 0)))
      (pss_one (ps_ret (pv 1))))), ?_⟩
  have rd' := rd
  obtain ⟨⟨dx, hr'⟩, hw, hpl, h60⟩ := rd
  have lt : pl + 1 ≤ row.length := (List.getElem?_eq_some_iff.mp e).1
  refine ⟨_, rfl, r, dx, _, rfl, hr', rfl, r, rw, pl, dp, row, rfl, rd', ?_⟩
  rw [ahead_at e]
  refine ⟨n, rfl, n1, fun H1 s1 => ?_⟩
  refine atG [some (.ref r), some (.int (n : Int))] rfl ?_
  refine ⟨_, rfl, r, dx, _, rfl, s1 _ _ hr', rfl, r, rw, pl, dp, row, rfl, ⟨⟨dx, s1 _ _ hr'⟩, s1 _ _ hw, hpl, h60⟩, lt, fun H' k' rd2 => ⟨_, rfl, q H' ((Kb.of s1).trans k') rd2⟩⟩
theorem sc_Reader_read_bracket : FnScope ["self", "condition"] ["self"] (defScope s_Reader_read_bracket) := ⟨rfl, rfl, rfl, by decide +kernel, rfl, by decide +kernel, by decide +kernel⟩
theorem ok_Reader_read_bracket {f : Addr} {fd : FuncData} (F : Fun K "read_bracket" "Reader.read_bracket" s_Reader_read_bracket f fd) (T : Txt K mg) (L : Kl K mg C_Condition C_CauseIs C_ThingIs C_DaysIn C_Over C_Not C_All C_Some C_Reader) {m : Nat} (Mahead : MCal P w K mg base 1 C_Reader "ahead" ["self"] (spAhead C_Reader)) (Mstep : MCal P w K mg base 1 C_Reader "step" ["self"] (spStep1 C_Reader)) (Mread_rows : MCal P w K mg base (5 * m + 8) C_Reader "read_rows" ["self"] (spRRs (A8.mk C_Condition C_CauseIs C_ThingIs C_DaysIn C_Over C_Not C_All C_Some) C_Reader m)) : FnOk P w K mg base CX0 (5 * m + 9) f fd ["self"] (spRB (A8.mk C_Condition C_CauseIs C_ThingIs C_DaysIn C_Over C_Not C_All C_Some) C_Reader m) := by
  have sc := sc_Reader_read_bracket
  refine F.ok sc (fun vs H Q E h => ?_) (fun cdv A outer s H vs Q E hr h => ?_)
  · obtain ⟨_, _, _, _, _, _, _, _, _, rfl, _⟩ := h
    rfl
  obtain ⟨r, rw, pl, dp, row, ws, post, t, d, rfl, rd, dr, sp, dm, d6, q⟩ := h
  refine ⟨_, (pss_cons (ps_set (i := 1) sc.nd rfl (Or.inl rfl) (pe_meth0C Mread_rows (hr.mono (by omega)) (pv 0)))
      (pss_cons (ps_if (pt_cmpR op_ne (pe_meth0C Mahead (hr.mono (by omega)) (pv 0)) pe_str (nomark _))
        (pss_one ps_never)
        pss_nil)
      (pss_cons (ps_expr (pe_meth0C Mstep (hr.mono (by omega)) (pv 0)))
      (pss_one (ps_ret (pv 1)))))), ?_⟩
  have rd' := rd
  obtain ⟨⟨dx, hr'⟩, hw, hpl, h60⟩ := rd
  refine ⟨_, rfl, r, dx, _, rfl, hr', rfl, r, rw, pl, dp, row, ws, Str.ofString ")" :: post, t, d, rfl, rd', dr, sp, dm, d6, (by intro z; exact absurd (Option.some.inj z) (by decide +kernel)), (by intro z; exact absurd (Option.some.inj z) (by decide +kernel)), fun u H1 k1 rd1 cd => ?_⟩
  refine atG [some (.ref r), some u] rfl ?_
  have dr1 := drop_more dr
  have e1 : row[pl + ws.length]? = some (Str.ofString ")") := drop_head dr1
  have rd1' := rd1
  obtain ⟨⟨dx1, hr1⟩, hw1, hpl1, _⟩ := rd1
  refine ⟨_, rfl, r, dx1, _, rfl, hr1, rfl, r, rw, _, dp, row, rfl, rd1', rfl, _, rfl, nF (by rw [ahead_at e1]) ?_⟩
  refine ⟨_, rfl, r, dx1, _, rfl, hr1, rfl, r, rw, _, dp, row, rfl, rd1', drop_le dr1, fun H2 k2 rd2 => ?_⟩
  exact ⟨_, rfl, q u H2 (k1.trans k2) rd2 (cd.same (k2.nw hr'))⟩
theorem sc_Reader_read_deeper : FnScope ["self", "word", "condition"] ["self", "word"] (defScope s_Reader_read_deeper) := ⟨rfl, rfl, rfl, by decide +kernel, rfl, by decide +kernel, by decide +kernel⟩
theorem ok_Reader_read_deeper {f : Addr} {fd : FuncData} (F : Fun K "read_deeper" "Reader.read_deeper" s_Reader_read_deeper f fd) (T : Txt K mg) (L : Kl K mg C_Condition C_CauseIs C_ThingIs C_DaysIn C_Over C_Not C_All C_Some C_Reader) {m : Nat} (Mstep : MCal P w K mg base 1 C_Reader "step" ["self"] (spStep1 C_Reader)) (Mread_piece : MCal P w K mg base (5 * m + 6) C_Reader "read_piece" ["self"] (spRP (A8.mk C_Condition C_CauseIs C_ThingIs C_DaysIn C_Over C_Not C_All C_Some) C_Reader m)) (Mread_bracket : MCal P w K mg base (5 * m + 9) C_Reader "read_bracket" ["self"] (spRB (A8.mk C_Condition C_CauseIs C_ThingIs C_DaysIn C_Over C_Not C_All C_Some) C_Reader m)) (KNot : KCal P w K mg base 1 "Not" C_Not ["self", "part"] (spMk1 C_Not "part")) : FnOk P w K mg base CX0 (5 * m + 10) f fd ["self", "word"] (spRD (A8.mk C_Condition C_CauseIs C_ThingIs C_DaysIn C_Over C_Not C_All C_Some) C_Reader (m + 1)) := by
  have sc := sc_Reader_read_deeper
  refine F.ok sc (fun vs H Q E h => ?_) (fun cdv A outer s H vs Q E hr h => ?_)
  · obtain ⟨_, _, _, _, _, _, _, _, _, _, rfl, _⟩ := h
    rfl
  obtain ⟨r, rw, pl, dp, row, ws, post, t, d, wd, rfl, rd, dr, dm, d6, alt, q⟩ := h
  refine ⟨_, (pss_cons (ps_if (pt_cmpR op_eq (pe_fld (pv 0) rfl) (pe_gint T.g_MOST_OPEN rfl) (nomark _))
        (pss_one ps_never)
        pss_nil)
      (pss_cons (ps_fld (pv 0) (pe_op op_add (pe_fld (pv 0) rfl) pe_int) rfl)
      (pss_cons (ps_expr (pe_meth0C Mstep (hr.mono (by omega)) (pv 0)))
      (pss_cons (ps_set (i := 2) sc.nd rfl (Or.inl rfl) (pe_ifExp (pt_cmpR op_eq (pv 1) pe_str (nomark _)) (pe_makeC KNot (hr.mono (by omega)) rfl (pa_cons (pe_meth0C Mread_piece (hr.mono (by omega)) (pv 0)) pa_nil)) (pe_meth0C Mread_bracket (hr.mono (by omega)) (pv 0))))
      (pss_cons (ps_fld (pv 0) (pe_op op_sub (pe_fld (pv 0) rfl) pe_int) rfl)
      (pss_one (ps_ret (pv 2)))))))), ?_⟩
  have rd' := rd
  obtain ⟨⟨dx, hr'⟩, hw, hpl, h60⟩ := rd
  refine ⟨_, rfl, r, _, dx, _, _, rfl, hr', L.cl_Reader, L.na_Reader_depth, lr_depth _ _ _, rfl, _, rfl, dF (fun z => by have := V.int.inj z; omega) ?_⟩
  refine ⟨_, rfl, r, _, dx, _, _, rfl, hr', L.cl_Reader, L.na_Reader_depth, lr_depth _ _ _, _, _, rfl, rfl, _, rfl, r, _, dx, _, rfl, hr', L.cl_Reader, L.na_Reader_depth, (by show 3 < 1000; decide), ?_⟩
  have rd1 : RdAt C_Reader (upd H r (.ins C_Reader dx (fldR rw pl ((dp : Int) + 1)))) r rw pl ((dp : Int) + 1) row := RdAt.step (p := pl) rd' hpl
  have k1 : Kb r H (upd H r (.ins C_Reader dx (fldR rw pl ((dp : Int) + 1)))) := Kb.upd
  have lt := drop_le dr
  refine ⟨_, rfl, r, dx, _, rfl, upd_same, rfl, r, rw, pl, _, row, rfl, rd1, lt, fun H2 k2 rd2 => ?_⟩
  have k12 := k1.trans k2
  have dr2 : row.drop (pl + 1) = ws ++ post := by
    rw [← List.drop_drop, dr]; rfl
  have rd2' : RdAt C_Reader H2 r rw (pl + 1) ((dp + 1 : Nat) : Int) row := rd2
  have rd2'' := rd2'
  obtain ⟨⟨dx2, hr2⟩, hw2, hpl2, _⟩ := rd2''
  rcases alt with ⟨rfl, t', rfl, sp⟩ | ⟨rfl, ws', rfl, sp⟩
  · refine ⟨_, rfl, rfl, _, rfl, dT rfl ⟨_, rfl, r, dx2, _, rfl, hr2, rfl, r, rw, pl + 1, dp + 1, row, ws, post, t', d, rfl, rd2', dr2, sp, by omega, by omega, fun u H3 k3 rd3 cd y dy ny nd ne => ⟨y, dy, u, rfl, upd_same, rfl, ?_⟩⟩⟩
    have s4 : Same H3 (upd (upd (upd H3 dy (.own y)) y (.ins C_Not dy [])) y (.ins C_Not dy (putF "part" u []))) := same_three ny nd
    have hy : upd (upd (upd H3 dy (.own y)) y (.ins C_Not dy [])) y (.ins C_Not dy (putF "part" u [])) y = some (.ins C_Not dy (putF "part" u [])) := upd_same
    generalize upd (upd (upd H3 dy (.own y)) y (.ins C_Not dy [])) y (.ins C_Not dy (putF "part" u [])) = H4 at s4 hy
    refine atG [some (.ref r), some (.str (Str.ofString "not")), some (.ref y)] rfl ?_
    obtain ⟨⟨dx3, hr3⟩, hw3, hpl3, _⟩ := rd3
    have hr4 := s4 _ _ hr3
    have rd4 : RdAt C_Reader H4 r rw (pl + 1 + ws.length) ((dp + 1 : Nat) : Int) row := ⟨⟨dx3, hr4⟩, s4 _ _ hw3, hpl3, h60⟩
    refine ⟨_, rfl, r, _, dx3, _, _, rfl, hr4, L.cl_Reader, L.na_Reader_depth, lr_depth _ _ _, _, _, rfl, rfl, _, rfl, r, _, dx3, _, rfl, hr4, L.cl_Reader, L.na_Reader_depth, (by show 3 < 1000; decide), _, rfl, ?_⟩
    have ed : (((dp + 1 : Nat) : Int) - 1) = (dp : Int) := by omega
    have k4 : Kb r H (upd H4 r (.ins C_Reader dx3 (fldR rw ((pl + 1 + ws.length : Nat) : Int) (((dp + 1 : Nat) : Int) - 1)))) := k12.trans (k3.trans ((Kb.of s4).trans Kb.upd))
    have rd5 : RdAt C_Reader (upd H4 r (.ins C_Reader dx3 (fldR rw ((pl + 1 + ws.length : Nat) : Int) (((dp + 1 : Nat) : Int) - 1)))) r rw (pl + 1 + ws.length) (dp : Int) row := by
      have := RdAt.step (p := pl + 1 + ws.length) (q := (((dp + 1 : Nat) : Int) - 1)) (dx := dx3) rd4 hpl3
      rw [ed] at this ⊢
      exact this
    refine q _ _ k4 rd5 ?_
    unfold CdAt
    have nyr : y ≠ r := fun z => by rw [z, hr3] at ny; cases ny
    refine ⟨y, dy, u, rfl, Nw.of ((k12.trans k3).free hr3 ny) (by rw [upd_ne nyr]; exact hy), cd.same fun b o e => ?_⟩
    have e1 := k12.later hr2 (H2 := H3) b o e
    exact ((Kb.of s4).trans Kb.upd).nw hr' b o e1
  · have dr3 : row.drop (pl + 1) = ws' ++ Str.ofString ")" :: post := by rw [dr2, List.append_assoc]; rfl
    refine ⟨_, rfl, rfl, _, rfl, dF (fun z => absurd (V.str.inj z) (by decide +kernel)) ⟨_, rfl, r, dx2, _, rfl, hr2, rfl, r, rw, pl + 1, dp + 1, row, ws', post, t, d, rfl, rd2', dr3, sp, by omega, by omega, fun u H3 k3 rd3 cd => ?_⟩⟩
    refine atG [some (.ref r), some (.str (Str.ofString "(")), some u] rfl ?_
    have el : pl + 1 + (ws' ++ [Str.ofString ")"]).length = pl + 1 + ws'.length + 1 := by rw [List.length_append]; rfl
    rw [el] at q
    have rd3' := rd3
    obtain ⟨⟨dx3, hr3⟩, hw3, hpl3, _⟩ := rd3
    refine ⟨_, rfl, r, _, dx3, _, _, rfl, hr3, L.cl_Reader, L.na_Reader_depth, lr_depth _ _ _, _, _, rfl, rfl, _, rfl, r, _, dx3, _, rfl, hr3, L.cl_Reader, L.na_Reader_depth, (by show 3 < 1000; decide), _, rfl, ?_⟩
    have ed : (((dp + 1 : Nat) : Int) - 1) = (dp : Int) := by omega
    have rd5 : RdAt C_Reader (upd H3 r (.ins C_Reader dx3 (fldR rw ((pl + 1 + ws'.length + 1 : Nat) : Int) (((dp + 1 : Nat) : Int) - 1)))) r rw (pl + 1 + ws'.length + 1) (dp : Int) row := by
      have := RdAt.step (p := pl + 1 + ws'.length + 1) (q := (((dp + 1 : Nat) : Int) - 1)) (dx := dx3) rd3' hpl3
      rw [ed] at this ⊢
      exact this
    refine q _ _ (k12.trans (k3.trans Kb.upd)) rd5 (cd.same fun b o e => ?_)
    have e1 := k12.later hr2 (H2 := H3) b o e
    exact (Kb.upd).nw hr' b o e1
theorem sc_Reader_read_piece : FnScope ["self", "word"] ["self"] (defScope s_Reader_read_piece) := ⟨rfl, rfl, rfl, by decide +kernel, rfl, by decide +kernel, by decide +kernel⟩
theorem ok_Reader_read_piece {f : Addr} {fd : FuncData} (F : Fun K "read_piece" "Reader.read_piece" s_Reader_read_piece f fd) (T : Txt K mg) (L : Kl K mg C_Condition C_CauseIs C_ThingIs C_DaysIn C_Over C_Not C_All C_Some C_Reader) {m : Nat} (Mahead : MCal P w K mg base 1 C_Reader "ahead" ["self"] (spAhead C_Reader)) (Mstep : MCal P w K mg base 1 C_Reader "step" ["self"] (spStep1 C_Reader)) (Mread_deeper : MCal P w K mg base (5 * m + 5) C_Reader "read_deeper" ["self", "word"] (spRD (A8.mk C_Condition C_CauseIs C_ThingIs C_DaysIn C_Over C_Not C_All C_Some) C_Reader m)) (Mread_name : MCal P w K mg base 3 C_Reader "read_name" ["self"] (spRdName C_Reader)) (Mread_days : MCal P w K mg base 5 C_Reader "read_days" ["self"] (spRdDays (A8.mk C_Condition C_CauseIs C_ThingIs C_DaysIn C_Over C_Not C_All C_Some) C_Reader)) (Mread_amount : MCal P w K mg base 4 C_Reader "read_amount" ["self"] (spRdAmt C_Reader)) (NCondition : Mk0 K mg "Condition" C_Condition) (KCauseIs : KCal P w K mg base 1 "CauseIs" C_CauseIs ["self", "name"] (spMk1 C_CauseIs "name")) (KThingIs : KCal P w K mg base 1 "ThingIs" C_ThingIs ["self", "name"] (spMk1 C_ThingIs "name")) (KOver : KCal P w K mg base 1 "Over" C_Over ["self", "cents"] (spMk1 C_Over "cents")) : FnOk P w K mg base CX0 (5 * m + 6) f fd ["self"] (spRP (A8.mk C_Condition C_CauseIs C_ThingIs C_DaysIn C_Over C_Not C_All C_Some) C_Reader m) := by
  have sc := sc_Reader_read_piece
  refine F.ok sc (fun vs H Q E h => ?_) (fun cdv A outer s H vs Q E hr h => ?_)
  · obtain ⟨_, _, _, _, _, _, _, _, _, rfl, _⟩ := h
    rfl
  obtain ⟨r, rw, pl, dp, row, ws, post, t, d, rfl, rd, dr, sp, dm, d6, q⟩ := h
  refine ⟨_, (pss_cons (ps_set (i := 1) sc.nd rfl (Or.inl rfl) (pe_meth0C Mahead (hr.mono (by omega)) (pv 0)))
      (pss_cons (ps_if (PW.pt (pw_or (pt_cmpR op_eq (pv 1) pe_str (nomark _)) (pw_or1 (pt_cmpR op_eq (pv 1) pe_str (nomark _)))))
        (pss_one (ps_ret (pe_methC Mread_deeper (hr.mono (by omega)) (pv 0) (pa_cons (pv 1) pa_nil))))
        pss_nil)
      (pss_cons (ps_if (pt_cmpR op_notIn_seq (pv 1) (pe_tup (pa_cons pe_str (pa_cons pe_str (pa_cons pe_str (pa_cons pe_str (pa_cons pe_str pa_nil)))))) rfl)
        (pss_one ps_never)
        pss_nil)
      (pss_cons (ps_expr (pe_meth0C Mstep (hr.mono (by omega)) (pv 0)))
      (pss_cons (ps_if (pt_cmpR op_eq (pv 1) pe_str (nomark _))
        (pss_one (ps_ret (pe_makeC KCauseIs (hr.mono (by omega)) rfl (pa_cons (pe_meth0C Mread_name (hr.mono (by omega)) (pv 0)) pa_nil))))
        pss_nil)
      (pss_cons (ps_if (pt_cmpR op_eq (pv 1) pe_str (nomark _))
        (pss_one (ps_ret (pe_makeC KThingIs (hr.mono (by omega)) rfl (pa_cons (pe_meth0C Mread_name (hr.mono (by omega)) (pv 0)) pa_nil))))
        pss_nil)
      (pss_cons (ps_if (pt_cmpR op_eq (pv 1) pe_str (nomark _))
        (pss_one (ps_ret (pe_meth0C Mread_days (hr.mono (by omega)) (pv 0))))
        pss_nil)
      (pss_cons (ps_if (pt_cmpR op_eq (pv 1) pe_str (nomark _))
        (pss_one (ps_ret (pe_makeC KOver (hr.mono (by omega)) rfl (pa_cons (pe_meth0C Mread_amount (hr.mono (by omega)) (pv 0)) pa_nil))))
        pss_nil)
      (pss_one (ps_ret (pe_new0 NCondition rfl))))))))))), ?_⟩
  have rd' := rd
  obtain ⟨⟨dx, hr'⟩, hw, hpl, h60⟩ := rd
  have sne : ∀ {y z : Str}, y ≠ z → ¬ V.str y = V.str z := fun h e => h (V.str.inj e)
  have five : 5 ≤ sizeLine := by rw [sizeLine_eq]; decide
  refine ⟨_, rfl, r, dx, _, rfl, hr', rfl, r, rw, pl, dp, row, rfl, rd', ?_⟩
  cases sp with
  | no sp =>
    rename_i ws t d
    have e0 : row[pl]? = some (Str.ofString "not") := drop_head dr
    rw [ahead_at e0]
    refine atG [some (.ref r), some (.str (Str.ofString "not"))] rfl ?_
    refine ⟨_, rfl, rfl, _, rfl, dT rfl (iteT ⟨_, rfl, r, dx, _, rfl, hr', rfl, _, rfl, r, rw, pl, dp, row, ws, post, .no t, d, _, rfl, rd', dr, by omega, by omega, .inl ⟨rfl, t, rfl, sp⟩, fun u H' k' rd2 cd => q u H' k' ?_ cd⟩)⟩
    rw [List.length_cons, show pl + (ws.length + 1) = pl + 1 + ws.length by omega]
    exact rd2
  | br sp =>
    rename_i ws d
    have e0 : row[pl]? = some (Str.ofString "(") := drop_head dr
    rw [ahead_at e0]
    refine atG [some (.ref r), some (.str (Str.ofString "("))] rfl ?_
    refine ⟨_, rfl, rfl, _, rfl, dF (sne (by decide +kernel)) ⟨_, rfl, rfl, _, rfl, dT rfl ⟨_, rfl, r, dx, _, rfl, hr', rfl, _, rfl, r, rw, pl, dp, row, ws ++ [Str.ofString ")"], post, t, d, _, rfl, rd', dr, by omega, by omega, .inr ⟨rfl, ws, rfl, sp⟩, fun u H' k' rd2 cd => q u H' k' ?_ cd⟩⟩⟩
    rw [List.length_cons, show pl + ((ws ++ [Str.ofString ")"]).length + 1) = pl + 1 + (ws ++ [Str.ofString ")"]).length by omega]
    exact rd2
  | leaf ok =>
    rename_i c
    cases c with
    | alw =>
      have e0 : row[pl]? = some (Str.ofString "always") := drop_head dr
      have lt : pl + 1 ≤ row.length := drop_le dr
      rw [ahead_at e0]
      refine atG [some (.ref r), some (.str (Str.ofString "always"))] rfl ?_
      refine ⟨_, rfl, rfl, _, rfl, dF (sne (by decide +kernel)) ⟨_, rfl, rfl, _, rfl, dF (sne (by decide +kernel)) ?_⟩⟩
      refine ⟨_, rfl, five, fun tt ntt => ⟨tt, _, rfl, .inr (SqT.of upd_same), rfl, rfl, _, rfl, bF (by decide +kernel) ?_⟩⟩
      have s0 := same_new ntt (.tup [.str (Str.ofString "always"), .str (Str.ofString "cause"), .str (Str.ofString "thing"), .str (Str.ofString "days"), .str (Str.ofString "over")])
      have rd0 : RdAt C_Reader (upd H tt (.tup [.str (Str.ofString "always"), .str (Str.ofString "cause"), .str (Str.ofString "thing"), .str (Str.ofString "days"), .str (Str.ofString "over")])) r rw pl dp row := ⟨⟨dx, s0 _ _ hr'⟩, s0 _ _ hw, hpl, h60⟩
      refine ⟨_, rfl, r, dx, _, rfl, s0 _ _ hr', rfl, r, rw, pl, _, row, rfl, rd0, lt, fun H1 k01 rd1 => ?_⟩
      have k1 := (Kb.of s0).trans k01
      have rd1' := rd1
      obtain ⟨⟨dx1, hr1⟩, hw1, hpl1, _⟩ := rd1
      refine ⟨_, rfl, rfl, _, rfl, dF (sne (by decide +kernel)) ?_⟩
      refine ⟨_, rfl, rfl, _, rfl, dF (sne (by decide +kernel)) ?_⟩
      refine ⟨_, rfl, rfl, _, rfl, dF (sne (by decide +kernel)) ?_⟩
      refine ⟨_, rfl, rfl, _, rfl, dF (sne (by decide +kernel)) ?_⟩
      intro y dy ny nd ne
      have s2 : Same H1 (upd (upd H1 dy (.own y)) y (.ins C_Condition dy [])) := same_two ny nd
      refine q _ _ (k1.trans (Kb.of s2)) ⟨⟨dx1, s2 _ _ hr1⟩, s2 _ _ hw1, hpl1, h60⟩ ?_
      unfold CdAt
      exact ⟨y, dy, rfl, Nw.of (k1.free hr1 ny) upd_same⟩
    | cau nm =>
      have e0 : row[pl]? = some (Str.ofString "cause") := drop_head dr
      have lt : pl + 1 ≤ row.length := drop_le dr
      rw [ahead_at e0]
      refine atG [some (.ref r), some (.str (Str.ofString "cause"))] rfl ?_
      refine ⟨_, rfl, rfl, _, rfl, dF (sne (by decide +kernel)) ⟨_, rfl, rfl, _, rfl, dF (sne (by decide +kernel)) ?_⟩⟩
      refine ⟨_, rfl, five, fun tt ntt => ⟨tt, _, rfl, .inr (SqT.of upd_same), rfl, rfl, _, rfl, bF (by decide +kernel) ?_⟩⟩
      have s0 := same_new ntt (.tup [.str (Str.ofString "always"), .str (Str.ofString "cause"), .str (Str.ofString "thing"), .str (Str.ofString "days"), .str (Str.ofString "over")])
      have rd0 : RdAt C_Reader (upd H tt (.tup [.str (Str.ofString "always"), .str (Str.ofString "cause"), .str (Str.ofString "thing"), .str (Str.ofString "days"), .str (Str.ofString "over")])) r rw pl dp row := ⟨⟨dx, s0 _ _ hr'⟩, s0 _ _ hw, hpl, h60⟩
      refine ⟨_, rfl, r, dx, _, rfl, s0 _ _ hr', rfl, r, rw, pl, _, row, rfl, rd0, lt, fun H1 k01 rd1 => ?_⟩
      have k1 := (Kb.of s0).trans k01
      have rd1' := rd1
      obtain ⟨⟨dx1, hr1⟩, hw1, hpl1, _⟩ := rd1
      have e1 : row[pl + 1]? = some nm := drop_head (xs := nm :: post) (by rw [← List.drop_drop, dr]; rfl)
      refine ⟨_, rfl, rfl, _, rfl, dT rfl ⟨_, rfl, r, dx1, _, rfl, hr1, rfl, r, rw, pl + 1, dp, row, nm, rfl, rd1', e1, ok, fun H2 k2 rd2 y dy ny nd ne => ⟨y, dy, _, rfl, upd_same, rfl, ?_⟩⟩⟩
      obtain ⟨⟨dx2, hr2⟩, hw2, hpl2, _⟩ := rd2
      have s3 : Same H2 (upd (upd (upd H2 dy (.own y)) y (.ins C_CauseIs dy [])) y (.ins C_CauseIs dy (putF "name" (.str nm) []))) := same_three ny nd
      refine q _ _ (k1.trans (k2.trans (Kb.of s3))) ⟨⟨dx2, s3 _ _ hr2⟩, s3 _ _ hw2, hpl2, h60⟩ ?_
      unfold CdAt
      exact ⟨y, dy, rfl, Nw.of ((k1.trans k2).free hr2 ny) upd_same⟩
    | thi nm =>
      have e0 : row[pl]? = some (Str.ofString "thing") := drop_head dr
      have lt : pl + 1 ≤ row.length := drop_le dr
      rw [ahead_at e0]
      refine atG [some (.ref r), some (.str (Str.ofString "thing"))] rfl ?_
      refine ⟨_, rfl, rfl, _, rfl, dF (sne (by decide +kernel)) ⟨_, rfl, rfl, _, rfl, dF (sne (by decide +kernel)) ?_⟩⟩
      refine ⟨_, rfl, five, fun tt ntt => ⟨tt, _, rfl, .inr (SqT.of upd_same), rfl, rfl, _, rfl, bF (by decide +kernel) ?_⟩⟩
      have s0 := same_new ntt (.tup [.str (Str.ofString "always"), .str (Str.ofString "cause"), .str (Str.ofString "thing"), .str (Str.ofString "days"), .str (Str.ofString "over")])
      have rd0 : RdAt C_Reader (upd H tt (.tup [.str (Str.ofString "always"), .str (Str.ofString "cause"), .str (Str.ofString "thing"), .str (Str.ofString "days"), .str (Str.ofString "over")])) r rw pl dp row := ⟨⟨dx, s0 _ _ hr'⟩, s0 _ _ hw, hpl, h60⟩
      refine ⟨_, rfl, r, dx, _, rfl, s0 _ _ hr', rfl, r, rw, pl, _, row, rfl, rd0, lt, fun H1 k01 rd1 => ?_⟩
      have k1 := (Kb.of s0).trans k01
      have rd1' := rd1
      obtain ⟨⟨dx1, hr1⟩, hw1, hpl1, _⟩ := rd1
      refine ⟨_, rfl, rfl, _, rfl, dF (sne (by decide +kernel)) ?_⟩
      have e1 : row[pl + 1]? = some nm := drop_head (xs := nm :: post) (by rw [← List.drop_drop, dr]; rfl)
      refine ⟨_, rfl, rfl, _, rfl, dT rfl ⟨_, rfl, r, dx1, _, rfl, hr1, rfl, r, rw, pl + 1, dp, row, nm, rfl, rd1', e1, ok, fun H2 k2 rd2 y dy ny nd ne => ⟨y, dy, _, rfl, upd_same, rfl, ?_⟩⟩⟩
      obtain ⟨⟨dx2, hr2⟩, hw2, hpl2, _⟩ := rd2
      have s3 : Same H2 (upd (upd (upd H2 dy (.own y)) y (.ins C_ThingIs dy [])) y (.ins C_ThingIs dy (putF "name" (.str nm) []))) := same_three ny nd
      refine q _ _ (k1.trans (k2.trans (Kb.of s3))) ⟨⟨dx2, s3 _ _ hr2⟩, s3 _ _ hw2, hpl2, h60⟩ ?_
      unfold CdAt
      exact ⟨y, dy, rfl, Nw.of ((k1.trans k2).free hr2 ny) upd_same⟩
    | day a b =>
      have e0 : row[pl]? = some (Str.ofString "days") := drop_head dr
      have lt : pl + 1 ≤ row.length := drop_le dr
      rw [ahead_at e0]
      refine atG [some (.ref r), some (.str (Str.ofString "days"))] rfl ?_
      refine ⟨_, rfl, rfl, _, rfl, dF (sne (by decide +kernel)) ⟨_, rfl, rfl, _, rfl, dF (sne (by decide +kernel)) ?_⟩⟩
      refine ⟨_, rfl, five, fun tt ntt => ⟨tt, _, rfl, .inr (SqT.of upd_same), rfl, rfl, _, rfl, bF (by decide +kernel) ?_⟩⟩
      have s0 := same_new ntt (.tup [.str (Str.ofString "always"), .str (Str.ofString "cause"), .str (Str.ofString "thing"), .str (Str.ofString "days"), .str (Str.ofString "over")])
      have rd0 : RdAt C_Reader (upd H tt (.tup [.str (Str.ofString "always"), .str (Str.ofString "cause"), .str (Str.ofString "thing"), .str (Str.ofString "days"), .str (Str.ofString "over")])) r rw pl dp row := ⟨⟨dx, s0 _ _ hr'⟩, s0 _ _ hw, hpl, h60⟩
      refine ⟨_, rfl, r, dx, _, rfl, s0 _ _ hr', rfl, r, rw, pl, _, row, rfl, rd0, lt, fun H1 k01 rd1 => ?_⟩
      have k1 := (Kb.of s0).trans k01
      have rd1' := rd1
      obtain ⟨⟨dx1, hr1⟩, hw1, hpl1, _⟩ := rd1
      refine ⟨_, rfl, rfl, _, rfl, dF (sne (by decide +kernel)) ?_⟩
      refine ⟨_, rfl, rfl, _, rfl, dF (sne (by decide +kernel)) ?_⟩
      obtain ⟨a0, ab, b1⟩ := ok
      have e1 : row[pl + 1]? = some (tx (figs a.toNat)) := drop_head (xs := tx (figs a.toNat) :: tx (figs b.toNat) :: post) (by rw [← List.drop_drop, dr]; rfl)
      have e2 : row[pl + 1 + 1]? = some (tx (figs b.toNat)) := drop_head (xs := tx (figs b.toNat) :: post) (by rw [← List.drop_drop, ← List.drop_drop, dr]; rfl)
      refine ⟨_, rfl, rfl, _, rfl, dT rfl ⟨_, rfl, r, dx1, _, rfl, hr1, rfl, r, rw, pl + 1, dp, row, a.toNat, b.toNat, rfl, rd1', e1, e2, by omega, by omega, fun u H2 k2 rd2 cd => ?_⟩⟩
      rw [show ((a.toNat : Nat) : Int) = a by omega, show ((b.toNat : Nat) : Int) = b by omega] at cd
      exact q u H2 (k1.trans k2) rd2 (cd.same (k1.later hr1))
    | ovr c =>
      have e0 : row[pl]? = some (Str.ofString "over") := drop_head dr
      have lt : pl + 1 ≤ row.length := drop_le dr
      rw [ahead_at e0]
      refine atG [some (.ref r), some (.str (Str.ofString "over"))] rfl ?_
      refine ⟨_, rfl, rfl, _, rfl, dF (sne (by decide +kernel)) ⟨_, rfl, rfl, _, rfl, dF (sne (by decide +kernel)) ?_⟩⟩
      refine ⟨_, rfl, five, fun tt ntt => ⟨tt, _, rfl, .inr (SqT.of upd_same), rfl, rfl, _, rfl, bF (by decide +kernel) ?_⟩⟩
      have s0 := same_new ntt (.tup [.str (Str.ofString "always"), .str (Str.ofString "cause"), .str (Str.ofString "thing"), .str (Str.ofString "days"), .str (Str.ofString "over")])
      have rd0 : RdAt C_Reader (upd H tt (.tup [.str (Str.ofString "always"), .str (Str.ofString "cause"), .str (Str.ofString "thing"), .str (Str.ofString "days"), .str (Str.ofString "over")])) r rw pl dp row := ⟨⟨dx, s0 _ _ hr'⟩, s0 _ _ hw, hpl, h60⟩
      refine ⟨_, rfl, r, dx, _, rfl, s0 _ _ hr', rfl, r, rw, pl, _, row, rfl, rd0, lt, fun H1 k01 rd1 => ?_⟩
      have k1 := (Kb.of s0).trans k01
      have rd1' := rd1
      obtain ⟨⟨dx1, hr1⟩, hw1, hpl1, _⟩ := rd1
      refine ⟨_, rfl, rfl, _, rfl, dF (sne (by decide +kernel)) ?_⟩
      refine ⟨_, rfl, rfl, _, rfl, dF (sne (by decide +kernel)) ?_⟩
      refine ⟨_, rfl, rfl, _, rfl, dF (sne (by decide +kernel)) ?_⟩
      obtain ⟨c0, c1⟩ := ok
      have e1 : row[pl + 1]? = some (tx (shown c.toNat)) := drop_head (xs := tx (shown c.toNat) :: post) (by rw [← List.drop_drop, dr]; rfl)
      refine ⟨_, rfl, rfl, _, rfl, dT rfl ⟨_, rfl, r, dx1, _, rfl, hr1, rfl, r, rw, pl + 1, dp, row, c.toNat, rfl, rd1', e1, by omega, fun H2 k2 rd2 y dy ny nd ne => ⟨y, dy, _, rfl, upd_same, rfl, ?_⟩⟩⟩
      rw [show ((c.toNat : Nat) : Int) = c by omega]
      obtain ⟨⟨dx2, hr2⟩, hw2, hpl2, _⟩ := rd2
      have s3 : Same H2 (upd (upd (upd H2 dy (.own y)) y (.ins C_Over dy [])) y (.ins C_Over dy (putF "cents" (.int c) []))) := same_three ny nd
      refine q _ _ (k1.trans (k2.trans (Kb.of s3))) ⟨⟨dx2, s3 _ _ hr2⟩, s3 _ _ hw2, hpl2, h60⟩ ?_
      unfold CdAt
      exact ⟨y, dy, rfl, Nw.of ((k1.trans k2).free hr2 ny) upd_same⟩
theorem sc_Reader_read_row : FnScope ["self", "pieces"] ["self"] (defScope s_Reader_read_row) := ⟨rfl, rfl, rfl, by decide +kernel, rfl, by decide +kernel, by decide +kernel⟩
theorem ok_Reader_read_row {f : Addr} {fd : FuncData} (F : Fun K "read_row" "Reader.read_row" s_Reader_read_row f fd) (T : Txt K mg) (L : Kl K mg C_Condition C_CauseIs C_ThingIs C_DaysIn C_Over C_Not C_All C_Some C_Reader) {m : Nat} (Mgoes_on : MCal P w K mg base 2 C_Reader "goes_on" ["self", "between", "so_far"] (spGo C_Reader)) (Mread_piece : MCal P w K mg base (5 * m + 6) C_Reader "read_piece" ["self"] (spRP (A8.mk C_Condition C_CauseIs C_ThingIs C_DaysIn C_Over C_Not C_All C_Some) C_Reader m)) (KAll : KCal P w K mg base 1 "All" C_All ["self", "several"] (spMkA C_All)) : FnOk P w K mg base CX0 (5 * m + 7) f fd ["self"] (spRR (A8.mk C_Condition C_CauseIs C_ThingIs C_DaysIn C_Over C_Not C_All C_Some) C_Reader m) := by
  have sc := sc_Reader_read_row
  refine F.ok sc (fun vs H Q E h => ?_) (fun cdv A outer s H vs Q E hr h => ?_)
  · obtain ⟨_, _, _, _, _, _, _, _, _, rfl, _⟩ := h
    rfl
  obtain ⟨r, rw, pl, dp, row, ws, post, t, d, rfl, rd, dr, sp, dm, d6, hq, q⟩ := h
  refine ⟨_, (pss_cons (ps_set (i := 1) sc.nd rfl (Or.inl rfl) (pe_lst (pa_cons (pe_meth0C Mread_piece (hr.mono (by omega)) (pv 0)) pa_nil)))
      (pss_cons (ps_while PassesOwn.never (pt_val (pe_methC Mgoes_on (hr.mono (by omega)) (pv 0) (pa_cons pe_str (pa_cons (pe_callB call_len_seq rfl T.n_len (show bootBuiltins _ = some (.builtin "len") from rfl) (pa_cons (pv 1) pa_nil)) pa_nil))))
        (pss_one (ps_expr (pe_bm PySem.F.plainAttrs_list PySem.F.slot_list_append PySem.F.type_list_append mt_append (pv 1) (pa_cons (pe_meth0C Mread_piece (hr.mono (by omega)) (pv 0)) pa_nil)))))
      (pss_one (ps_ret (pe_ifExp (pt_cmpR op_eq (pe_callB call_len_seq rfl T.n_len (show bootBuiltins _ = some (.builtin "len") from rfl) (pa_cons (pv 1) pa_nil)) pe_int (nomark _)) (pe_ix ix_list (pv 1) pe_int (fun _ _ => rfl)) (pe_makeC KAll (hr.mono (by omega)) rfl (pa_cons (pv 1) pa_nil))))))), ?_⟩
  have rd' := rd
  obtain ⟨⟨dx, hr'⟩, hw, hpl, h60⟩ := rd
  have one : 1 ≤ sizeLine := by rw [sizeLine_eq]; decide
  obtain ⟨wss, ts, spl, ew, l1, l8, et⟩ : ∃ wss ts, Spls wordsC okCo 0 wss ts d ∧ ws = joinL (Str.ofString "and") wss ∧ 1 ≤ ts.length ∧ ts.length ≤ 8 ∧ ((ts.length = 1 ∧ ts[0]? = some t) ∨ (2 ≤ ts.length ∧ t = .al ts)) := by
    cases sp with
    | row1 h => exact ⟨[ws], [t], .cons h (Nat.le_refl _) .nil, (List.append_nil _).symm, Nat.le_refl _, (by show 1 ≤ 8; decide), .inl ⟨rfl, rfl⟩⟩
    | rowN h h2 h8 => exact ⟨_, _, h, rfl, by omega, h8, .inr ⟨h2, rfl⟩⟩
  subst ew
  have lw := spl.len
  have at0' : ts[0]? = some (ts[0]'(by omega)) := List.getElem?_eq_getElem _
  obtain ⟨w0, d0, ew0, hd0, sp0⟩ := spl.get at0'
  generalize ts[0]'(by omega) = t0 at at0' sp0
  have ws0 : ∃ rest, wss = w0 :: rest := by
    cases wss with
    | nil => simp at ew0
    | cons v vs => exact ⟨vs, by simp at ew0; rw [ew0]⟩
  obtain ⟨rest, rfl⟩ := ws0
  have ts0 : ∃ trest, ts = t0 :: trest := by
    cases ts with
    | nil => simp at at0'
    | cons v vs => exact ⟨vs, by simp at at0'; rw [at0']⟩
  obtain ⟨trest, rfl⟩ := ts0
  rw [joinL, List.append_assoc] at dr
  have hdp : ∀ (xs : List (List Str)), (tailL (Str.ofString "and") xs ++ post).head? ≠ some (Str.ofString "and") ∨ 0 = 0 := fun xs => by
    exact .inr rfl
  refine ⟨_, rfl, r, dx, _, rfl, hr', rfl, r, rw, pl, dp, row, w0, tailL (Str.ofString "and") rest ++ post, t0, d0, rfl, rd', dr, sp0, by omega, by omega, fun u0 H1 k1 rd1 cd1 => ⟨one, fun pc npc => ?_⟩⟩
  obtain ⟨⟨dx1, hr1⟩, hw1, hpl1, _⟩ := rd1
  have s2 := same_new npc (.lst [u0])
  refine atG [some (.ref r), some (.ref pc)] rfl ?_
  have pcH : H pc = none := k1.free hr1 npc
  have npr : pc ≠ r := fun z => by rw [z, hr'] at pcH; cases pcH
  let W : Nat → St → Hp → Prop := fun m σ H2 => ∃ i ys, m = rest.length - i ∧ i ≤ rest.length ∧ σ = [some (.ref r), some (.ref pc)] ∧ Kb r H H2 ∧ RdAt C_Reader H2 r rw (pl + (w0 ++ tailL (Str.ofString "and") (rest.take i)).length) dp row ∧
    row.drop (pl + (w0 ++ tailL (Str.ofString "and") (rest.take i)).length) = tailL (Str.ofString "and") (rest.drop i) ++ post ∧ H2 pc = some (.lst ys) ∧ ys.length = i + 1 ∧ CdsAt (A8.mk C_Condition C_CauseIs C_ThingIs C_DaysIn C_Over C_Not C_All C_Some) (Off pc (Nw H H2)) ys (t0 :: trest.take i)
  have lt : rest.length = trest.length := by rw [List.length_cons, List.length_cons] at lw; omega
  refine ⟨W, ⟨_, 0, [u0], rfl, Nat.zero_le _, rfl, k1.trans (Kb.of s2), ?_, ?_, upd_same, rfl, ?_⟩, ?_⟩
  · rw [List.take_zero]
    show RdAt C_Reader _ r rw (pl + (w0 ++ []).length) dp row
    rw [List.append_nil]
    exact ⟨⟨dx1, s2 _ _ hr1⟩, s2 _ _ hw1, hpl1, h60⟩
  · rw [List.take_zero, List.drop_zero]
    show row.drop (pl + (w0 ++ []).length) = _
    rw [List.append_nil]
    exact drop_more dr
  · rw [List.take_zero]
    unfold CdsAt
    refine ⟨cd1.same fun b o e => ?_, by unfold CdsAt; trivial⟩
    obtain ⟨e0, e⟩ := Nw.at e
    have n : b ≠ pc := ne_of_none e npc
    exact Off.of n (Nw.of e0 (s2 _ _ e))
  rintro m' σ H2 ⟨i, ys, rfl, il, rfl, k2, rd2, dr2, hpc, ly, cds⟩
  have rd2' := rd2
  obtain ⟨⟨dx2, hr2⟩, hw2, hpl2, _⟩ := rd2
  have lys : ((ys.length : Nat) : Int) = (i : Int) + 1 := by omega
  refine ⟨_, rfl, r, dx2, _, rfl, hr2, rfl, _, rfl, pc, _, rfl, .inl (SqL.of hpc), r, rw, _, dp, row, _, _, rfl, rd2', ?_⟩
  by_cases c : i < rest.length
  · -- one more
    have ew : rest.drop i = rest[i] :: rest.drop (i + 1) := List.drop_eq_getElem_cons c
    have eti : trest[i]? = some (trest[i]'(by omega)) := List.getElem?_eq_getElem _
    have ewi : rest[i]? = some rest[i] := List.getElem?_eq_getElem c
    obtain ⟨wi, di, ewi', hdi, spi⟩ := spl.get (i := i + 1) (t := trest[i]'(by omega)) (by simpa using eti)
    have ewi'' : rest[i] = wi := by
      have : rest[i]? = some wi := by simpa using ewi'
      rw [ewi] at this
      exact Option.some.inj this
    generalize trest[i]'(by omega) = ti at eti spi
    rw [ewi''] at ew ewi
    rw [ew, tailL, List.cons_append] at dr2
    have e0 : row[pl + (w0 ++ tailL (Str.ofString "and") (rest.take i)).length]? = some (Str.ofString "and") := drop_head dr2
    refine .inr ⟨e0, by rw [List.length_cons] at l8; omega, fun H3 k3 rd3 => ⟨_, rfl, ?_⟩⟩
    refine iteT ⟨fun σ' H' => W (rest.length - (i + 1)) σ' H', fun σ' H' h => ⟨_, by omega, h⟩, ?_⟩
    have k23 := k2.trans k3
    have hpc3 := k3 _ _ hpc npr
    have rd3' := rd3
    obtain ⟨⟨dx3, hr3⟩, hw3, hpl3, _⟩ := rd3
    have dr3 : row.drop (pl + (w0 ++ tailL (Str.ofString "and") (rest.take i)).length + 1) = wi ++ (tailL (Str.ofString "and") (rest.drop (i + 1)) ++ post) := by
      rw [← List.drop_drop, dr2, List.append_assoc]; rfl
    refine ⟨_, rfl, .inl ⟨rfl, _, SqL.of hpc3⟩, _, rfl, r, dx3, _, rfl, hr3, rfl, r, rw, _, dp, row, wi, tailL (Str.ofString "and") (rest.drop (i + 1)) ++ post, ti, di, rfl, rd3', dr3, spi, by omega, by omega, fun u H4 k4 rd4 cd4 => ?_⟩
    have hpc4 := k4 _ _ hpc3 npr
    obtain ⟨⟨dx4, hr4⟩, hw4, hpl4, _⟩ := rd4
    refine ⟨pc, _, _, rfl, rfl, hpc4, by rw [sizeLine_eq, ly]; rw [List.length_cons] at l8; omega, i + 1, ys ++ [u], rfl, c, rfl, ?_, ?_, ?_, upd_same, by rw [List.length_append, ly]; rfl, ?_⟩
    · exact fun b o e n => by
        rw [upd_ne (ne_of_none e pcH)]
        exact (k23.trans k4) b o e n
    · have en : pl + (w0 ++ tailL (Str.ofString "and") (rest.take (i + 1))).length = pl + (w0 ++ tailL (Str.ofString "and") (rest.take i)).length + 1 + wi.length := by
        rw [take_snoc ewi, tailL_snoc, List.length_append, List.length_append, List.length_append, List.length_cons]; omega
      rw [en]
      have nrw : rw ≠ pc := ne_of_none hw pcH
      exact ⟨⟨dx4, by rw [upd_ne npr.symm]; exact hr4⟩, by rw [upd_ne nrw]; exact hw4, hpl4, h60⟩
    · have en : pl + (w0 ++ tailL (Str.ofString "and") (rest.take (i + 1))).length = pl + (w0 ++ tailL (Str.ofString "and") (rest.take i)).length + 1 + wi.length := by
        rw [take_snoc ewi, tailL_snoc, List.length_append, List.length_append, List.length_append, List.length_cons]; omega
      rw [en]
      exact drop_more dr3
    · rw [take_snoc eti, ← List.cons_append]
      refine CdsAt.snoc (cds.same fun b o e => ?_) (cd4.same fun b o e => ?_)
      · obtain ⟨n, e⟩ := Off.at e
        obtain ⟨e0', e⟩ := Nw.at e
        refine Off.of n (Nw.of e0' ?_)
        rw [upd_ne n]
        have nr : b ≠ r := fun z => by rw [z, hr'] at e0'; cases e0'
        exact (k3.trans k4) b o e nr
      · have e1 := k23.later hr3 (H2 := H4) b o e
        obtain ⟨e0', e2⟩ := Nw.at e1
        have n : b ≠ pc := fun z => by
          obtain ⟨e3, _⟩ := Nw.at e
          rw [z, hpc3] at e3; cases e3
        exact Off.of n (Nw.of e0' (by rw [upd_ne n]; exact e2))
  · -- the end
    have ei : i = rest.length := by omega
    subst ei
    rw [List.drop_length, List.take_length] at *
    refine .inl ⟨ahead_ne dr2 hq (by decide +kernel), _, rfl, iteF ?_⟩
    rw [show trest.take rest.length = trest by rw [lt, List.take_length]] at cds
    have ew : joinL (Str.ofString "and") (w0 :: rest) = w0 ++ tailL (Str.ofString "and") rest := rfl
    rw [ew] at q
    have cds2 : CdsAt (A8.mk C_Condition C_CauseIs C_ThingIs C_DaysIn C_Over C_Not C_All C_Some) (Nw H H2) ys (t0 :: trest) := cds.same fun b o e => (Off.at e).2
    rcases et with ⟨n1, et⟩ | ⟨n2, rfl⟩
    · have y1 : ys.length = 1 := by rw [List.length_cons] at n1; omega
      refine ⟨_, rfl, pc, _, rfl, .inl (SqL.of hpc), rfl, _, rfl, dT (by rw [y1]; rfl) ?_⟩
      have ey : ys[0]? = some (ys[0]'(by omega)) := List.getElem?_eq_getElem _
      obtain ⟨t', et', cdt⟩ := cds2.get ey
      rw [et] at et'
      cases et'
      exact ⟨_, rfl, pc, _, _, _, rfl, rfl, SqL.of hpc, atI_nat (j := 0) ey, q _ _ k2 rd2' cdt⟩
    · have y2 : ys.length ≠ 1 := by rw [List.length_cons] at n2; omega
      refine ⟨_, rfl, pc, _, rfl, .inl (SqL.of hpc), rfl, _, rfl, dF (fun z => y2 (by have := V.int.inj z; omega)) ⟨_, rfl, fun y dy ny nd ne => ?_⟩⟩
      have s3 : Same H2 (upd (upd H2 dy (.own y)) y (.ins C_All dy [])) := same_two ny nd
      refine ⟨y, dy, pc, ys, rfl, upd_same, s3 _ _ hpc, fun l H4 nl kp hy hl => ⟨rfl, ?_⟩⟩
      have k4 : Same H2 H4 := fun b o e => by rw [kp b (ne_of_none e ny) (ne_of_none (s3 _ _ e) nl)]; exact s3 _ _ e
      refine q _ _ (k2.trans (Kb.of k4)) ⟨⟨dx2, k4 _ _ hr2⟩, k4 _ _ hw2, hpl2, h60⟩ ?_
      unfold CdAt
      exact ⟨y, dy, l, ys, rfl, Nw.of (k2.free hr2 ny) hy, Nw.of (k2.free hr2 (s3.free nl)) hl, cds2.same (Nw.grow fun b o _ e => k4 _ _ e)⟩
theorem sc_Reader_read_rows : FnScope ["self", "rows"] ["self"] (defScope s_Reader_read_rows) := ⟨rfl, rfl, rfl, by decide +kernel, rfl, by decide +kernel, by decide +kernel⟩
theorem ok_Reader_read_rows {f : Addr} {fd : FuncData} (F : Fun K "read_rows" "Reader.read_rows" s_Reader_read_rows f fd) (T : Txt K mg) (L : Kl K mg C_Condition C_CauseIs C_ThingIs C_DaysIn C_Over C_Not C_All C_Some C_Reader) {m : Nat} (Mgoes_on : MCal P w K mg base 2 C_Reader "goes_on" ["self", "between", "so_far"] (spGo C_Reader)) (Mread_row : MCal P w K mg base (5 * m + 7) C_Reader "read_row" ["self"] (spRR (A8.mk C_Condition C_CauseIs C_ThingIs C_DaysIn C_Over C_Not C_All C_Some) C_Reader m)) (KSome : KCal P w K mg base 1 "Some" C_Some ["self", "several"] (spMkA C_Some)) : FnOk P w K mg base CX0 (5 * m + 8) f fd ["self"] (spRRs (A8.mk C_Condition C_CauseIs C_ThingIs C_DaysIn C_Over C_Not C_All C_Some) C_Reader m) := by
  have sc := sc_Reader_read_rows
  refine F.ok sc (fun vs H Q E h => ?_) (fun cdv A outer s H vs Q E hr h => ?_)
  · obtain ⟨_, _, _, _, _, _, _, _, _, rfl, _⟩ := h
    rfl
  obtain ⟨r, rw, pl, dp, row, ws, post, t, d, rfl, rd, dr, sp, dm, d6, ha, hq, q⟩ := h
  refine ⟨_, (pss_cons (ps_set (i := 1) sc.nd rfl (Or.inl rfl) (pe_lst (pa_cons (pe_meth0C Mread_row (hr.mono (by omega)) (pv 0)) pa_nil)))
      (pss_cons (ps_while PassesOwn.never (pt_val (pe_methC Mgoes_on (hr.mono (by omega)) (pv 0) (pa_cons pe_str (pa_cons (pe_callB call_len_seq rfl T.n_len (show bootBuiltins _ = some (.builtin "len") from rfl) (pa_cons (pv 1) pa_nil)) pa_nil))))
        (pss_one (ps_expr (pe_bm PySem.F.plainAttrs_list PySem.F.slot_list_append PySem.F.type_list_append mt_append (pv 1) (pa_cons (pe_meth0C Mread_row (hr.mono (by omega)) (pv 0)) pa_nil)))))
      (pss_one (ps_ret (pe_ifExp (pt_cmpR op_eq (pe_callB call_len_seq rfl T.n_len (show bootBuiltins _ = some (.builtin "len") from rfl) (pa_cons (pv 1) pa_nil)) pe_int (nomark _)) (pe_ix ix_list (pv 1) pe_int (fun _ _ => rfl)) (pe_makeC KSome (hr.mono (by omega)) rfl (pa_cons (pv 1) pa_nil))))))), ?_⟩
  have rd' := rd
  obtain ⟨⟨dx, hr'⟩, hw, hpl, h60⟩ := rd
  have one : 1 ≤ sizeLine := by rw [sizeLine_eq]; decide
  obtain ⟨wss, ts, spl, ew, l1, l8, et⟩ : ∃ wss ts, Spls wordsC okCo 1 wss ts d ∧ ws = joinL (Str.ofString "or") wss ∧ 1 ≤ ts.length ∧ ts.length ≤ 8 ∧ ((ts.length = 1 ∧ ts[0]? = some t) ∨ (2 ≤ ts.length ∧ t = .so ts)) := by
    cases sp with
    | rows1 h => exact ⟨[ws], [t], .cons h (Nat.le_refl _) .nil, (List.append_nil _).symm, Nat.le_refl _, (by show 1 ≤ 8; decide), .inl ⟨rfl, rfl⟩⟩
    | rowsN h h2 h8 => exact ⟨_, _, h, rfl, by omega, h8, .inr ⟨h2, rfl⟩⟩
  subst ew
  have lw := spl.len
  have at0' : ts[0]? = some (ts[0]'(by omega)) := List.getElem?_eq_getElem _
  obtain ⟨w0, d0, ew0, hd0, sp0⟩ := spl.get at0'
  generalize ts[0]'(by omega) = t0 at at0' sp0
  have ws0 : ∃ rest, wss = w0 :: rest := by
    cases wss with
    | nil => simp at ew0
    | cons v vs => exact ⟨vs, by simp at ew0; rw [ew0]⟩
  obtain ⟨rest, rfl⟩ := ws0
  have ts0 : ∃ trest, ts = t0 :: trest := by
    cases ts with
    | nil => simp at at0'
    | cons v vs => exact ⟨vs, by simp at at0'; rw [at0']⟩
  obtain ⟨trest, rfl⟩ := ts0
  rw [joinL, List.append_assoc] at dr
  have hdp : ∀ (xs : List (List Str)), (tailL (Str.ofString "or") xs ++ post).head? ≠ some (Str.ofString "and") ∨ 1 = 0 := fun xs => by
    cases xs with
    | nil => exact .inl ha
    | cons x xs => exact .inl (fun z => absurd (Option.some.inj z) (by decide +kernel))
  refine ⟨_, rfl, r, dx, _, rfl, hr', rfl, r, rw, pl, dp, row, w0, tailL (Str.ofString "or") rest ++ post, t0, d0, rfl, rd', dr, sp0, by omega, by omega, (by rcases hdp rest with h | h; exact h; exact absurd h (by decide)), fun u0 H1 k1 rd1 cd1 => ⟨one, fun pc npc => ?_⟩⟩
  obtain ⟨⟨dx1, hr1⟩, hw1, hpl1, _⟩ := rd1
  have s2 := same_new npc (.lst [u0])
  refine atG [some (.ref r), some (.ref pc)] rfl ?_
  have pcH : H pc = none := k1.free hr1 npc
  have npr : pc ≠ r := fun z => by rw [z, hr'] at pcH; cases pcH
  let W : Nat → St → Hp → Prop := fun m σ H2 => ∃ i ys, m = rest.length - i ∧ i ≤ rest.length ∧ σ = [some (.ref r), some (.ref pc)] ∧ Kb r H H2 ∧ RdAt C_Reader H2 r rw (pl + (w0 ++ tailL (Str.ofString "or") (rest.take i)).length) dp row ∧
    row.drop (pl + (w0 ++ tailL (Str.ofString "or") (rest.take i)).length) = tailL (Str.ofString "or") (rest.drop i) ++ post ∧ H2 pc = some (.lst ys) ∧ ys.length = i + 1 ∧ CdsAt (A8.mk C_Condition C_CauseIs C_ThingIs C_DaysIn C_Over C_Not C_All C_Some) (Off pc (Nw H H2)) ys (t0 :: trest.take i)
  have lt : rest.length = trest.length := by rw [List.length_cons, List.length_cons] at lw; omega
  refine ⟨W, ⟨_, 0, [u0], rfl, Nat.zero_le _, rfl, k1.trans (Kb.of s2), ?_, ?_, upd_same, rfl, ?_⟩, ?_⟩
  · rw [List.take_zero]
    show RdAt C_Reader _ r rw (pl + (w0 ++ []).length) dp row
    rw [List.append_nil]
    exact ⟨⟨dx1, s2 _ _ hr1⟩, s2 _ _ hw1, hpl1, h60⟩
  · rw [List.take_zero, List.drop_zero]
    show row.drop (pl + (w0 ++ []).length) = _
    rw [List.append_nil]
    exact drop_more dr
  · rw [List.take_zero]
    unfold CdsAt
    refine ⟨cd1.same fun b o e => ?_, by unfold CdsAt; trivial⟩
    obtain ⟨e0, e⟩ := Nw.at e
    have n : b ≠ pc := ne_of_none e npc
    exact Off.of n (Nw.of e0 (s2 _ _ e))
  rintro m' σ H2 ⟨i, ys, rfl, il, rfl, k2, rd2, dr2, hpc, ly, cds⟩
  have rd2' := rd2
  obtain ⟨⟨dx2, hr2⟩, hw2, hpl2, _⟩ := rd2
  have lys : ((ys.length : Nat) : Int) = (i : Int) + 1 := by omega
  refine ⟨_, rfl, r, dx2, _, rfl, hr2, rfl, _, rfl, pc, _, rfl, .inl (SqL.of hpc), r, rw, _, dp, row, _, _, rfl, rd2', ?_⟩
  by_cases c : i < rest.length
  · -- one more
    have ew : rest.drop i = rest[i] :: rest.drop (i + 1) := List.drop_eq_getElem_cons c
    have eti : trest[i]? = some (trest[i]'(by omega)) := List.getElem?_eq_getElem _
    have ewi : rest[i]? = some rest[i] := List.getElem?_eq_getElem c
    obtain ⟨wi, di, ewi', hdi, spi⟩ := spl.get (i := i + 1) (t := trest[i]'(by omega)) (by simpa using eti)
    have ewi'' : rest[i] = wi := by
      have : rest[i]? = some wi := by simpa using ewi'
      rw [ewi] at this
      exact Option.some.inj this
    generalize trest[i]'(by omega) = ti at eti spi
    rw [ewi''] at ew ewi
    rw [ew, tailL, List.cons_append] at dr2
    have e0 : row[pl + (w0 ++ tailL (Str.ofString "or") (rest.take i)).length]? = some (Str.ofString "or") := drop_head dr2
    refine .inr ⟨e0, by rw [List.length_cons] at l8; omega, fun H3 k3 rd3 => ⟨_, rfl, ?_⟩⟩
    refine iteT ⟨fun σ' H' => W (rest.length - (i + 1)) σ' H', fun σ' H' h => ⟨_, by omega, h⟩, ?_⟩
    have k23 := k2.trans k3
    have hpc3 := k3 _ _ hpc npr
    have rd3' := rd3
    obtain ⟨⟨dx3, hr3⟩, hw3, hpl3, _⟩ := rd3
    have dr3 : row.drop (pl + (w0 ++ tailL (Str.ofString "or") (rest.take i)).length + 1) = wi ++ (tailL (Str.ofString "or") (rest.drop (i + 1)) ++ post) := by
      rw [← List.drop_drop, dr2, List.append_assoc]; rfl
    refine ⟨_, rfl, .inl ⟨rfl, _, SqL.of hpc3⟩, _, rfl, r, dx3, _, rfl, hr3, rfl, r, rw, _, dp, row, wi, tailL (Str.ofString "or") (rest.drop (i + 1)) ++ post, ti, di, rfl, rd3', dr3, spi, by omega, by omega, (by rcases hdp (rest.drop (i + 1)) with h | h; exact h; exact absurd h (by decide)), fun u H4 k4 rd4 cd4 => ?_⟩
    have hpc4 := k4 _ _ hpc3 npr
    obtain ⟨⟨dx4, hr4⟩, hw4, hpl4, _⟩ := rd4
    refine ⟨pc, _, _, rfl, rfl, hpc4, by rw [sizeLine_eq, ly]; rw [List.length_cons] at l8; omega, i + 1, ys ++ [u], rfl, c, rfl, ?_, ?_, ?_, upd_same, by rw [List.length_append, ly]; rfl, ?_⟩
    · exact fun b o e n => by
        rw [upd_ne (ne_of_none e pcH)]
        exact (k23.trans k4) b o e n
    · have en : pl + (w0 ++ tailL (Str.ofString "or") (rest.take (i + 1))).length = pl + (w0 ++ tailL (Str.ofString "or") (rest.take i)).length + 1 + wi.length := by
        rw [take_snoc ewi, tailL_snoc, List.length_append, List.length_append, List.length_append, List.length_cons]; omega
      rw [en]
      have nrw : rw ≠ pc := ne_of_none hw pcH
      exact ⟨⟨dx4, by rw [upd_ne npr.symm]; exact hr4⟩, by rw [upd_ne nrw]; exact hw4, hpl4, h60⟩
    · have en : pl + (w0 ++ tailL (Str.ofString "or") (rest.take (i + 1))).length = pl + (w0 ++ tailL (Str.ofString "or") (rest.take i)).length + 1 + wi.length := by
        rw [take_snoc ewi, tailL_snoc, List.length_append, List.length_append, List.length_append, List.length_cons]; omega
      rw [en]
      exact drop_more dr3
    · rw [take_snoc eti, ← List.cons_append]
      refine CdsAt.snoc (cds.same fun b o e => ?_) (cd4.same fun b o e => ?_)
      · obtain ⟨n, e⟩ := Off.at e
        obtain ⟨e0', e⟩ := Nw.at e
        refine Off.of n (Nw.of e0' ?_)
        rw [upd_ne n]
        have nr : b ≠ r := fun z => by rw [z, hr'] at e0'; cases e0'
        exact (k3.trans k4) b o e nr
      · have e1 := k23.later hr3 (H2 := H4) b o e
        obtain ⟨e0', e2⟩ := Nw.at e1
        have n : b ≠ pc := fun z => by
          obtain ⟨e3, _⟩ := Nw.at e
          rw [z, hpc3] at e3; cases e3
        exact Off.of n (Nw.of e0' (by rw [upd_ne n]; exact e2))
  · -- the end
    have ei : i = rest.length := by omega
    subst ei
    rw [List.drop_length, List.take_length] at *
    refine .inl ⟨ahead_ne dr2 hq (by decide +kernel), _, rfl, iteF ?_⟩
    rw [show trest.take rest.length = trest by rw [lt, List.take_length]] at cds
    have ew : joinL (Str.ofString "or") (w0 :: rest) = w0 ++ tailL (Str.ofString "or") rest := rfl
    rw [ew] at q
    have cds2 : CdsAt (A8.mk C_Condition C_CauseIs C_ThingIs C_DaysIn C_Over C_Not C_All C_Some) (Nw H H2) ys (t0 :: trest) := cds.same fun b o e => (Off.at e).2
    rcases et with ⟨n1, et⟩ | ⟨n2, rfl⟩
    · have y1 : ys.length = 1 := by rw [List.length_cons] at n1; omega
      refine ⟨_, rfl, pc, _, rfl, .inl (SqL.of hpc), rfl, _, rfl, dT (by rw [y1]; rfl) ?_⟩
      have ey : ys[0]? = some (ys[0]'(by omega)) := List.getElem?_eq_getElem _
      obtain ⟨t', et', cdt⟩ := cds2.get ey
      rw [et] at et'
      cases et'
      exact ⟨_, rfl, pc, _, _, _, rfl, rfl, SqL.of hpc, atI_nat (j := 0) ey, q _ _ k2 rd2' cdt⟩
    · have y2 : ys.length ≠ 1 := by rw [List.length_cons] at n2; omega
      refine ⟨_, rfl, pc, _, rfl, .inl (SqL.of hpc), rfl, _, rfl, dF (fun z => y2 (by have := V.int.inj z; omega)) ⟨_, rfl, fun y dy ny nd ne => ?_⟩⟩
      have s3 : Same H2 (upd (upd H2 dy (.own y)) y (.ins C_Some dy [])) := same_two ny nd
      refine ⟨y, dy, pc, ys, rfl, upd_same, s3 _ _ hpc, fun l H4 nl kp hy hl => ⟨rfl, ?_⟩⟩
      have k4 : Same H2 H4 := fun b o e => by rw [kp b (ne_of_none e ny) (ne_of_none (s3 _ _ e) nl)]; exact s3 _ _ e
      refine q _ _ (k2.trans (Kb.of k4)) ⟨⟨dx2, k4 _ _ hr2⟩, k4 _ _ hw2, hpl2, h60⟩ ?_
      unfold CdAt
      exact ⟨y, dy, l, ys, rfl, Nw.of (k2.free hr2 ny) hy, Nw.of (k2.free hr2 (s3.free nl)) hl, cds2.same (Nw.grow fun b o _ e => k4 _ _ e)⟩
end
def okW (w : Str) : Prop := 32 ∉ w.cps.toList ∧ w.length ≤ 100
theorem okW_C (c : Co) (h : okCo c) : ∀ w ∈ wordsC c, okW w := by
  intro w hw
  have nm : ∀ {n : Str}, nmOk n → okW n := fun {n} ⟨l, e, hl⟩ => by
    subst e
    exact ⟨fun z => by have := hl.2 32 z; unfold letter at this; omega, by rw [tx_len]; have := hl.1.2; omega⟩
  have fg : ∀ {n : Nat}, n ≤ 1000000 → okW (tx (figs n)) := fun {n} hn => ⟨fun z => by have := figs_dig n 32 z; omega, by rw [tx_len]; have : (figs n).length ≤ 7 := figs_len (by decide) (figs_small10 hn); omega⟩
  cases c with
  | alw => simp [wordsC] at hw; subst hw; exact ⟨by decide +kernel, by decide +kernel⟩
  | cau n =>
    simp [wordsC] at hw
    rcases hw with rfl | rfl
    · exact ⟨by decide +kernel, by decide +kernel⟩
    · exact nm h
  | thi n =>
    simp [wordsC] at hw
    rcases hw with rfl | rfl
    · exact ⟨by decide +kernel, by decide +kernel⟩
    · exact nm h
  | day a b =>
    simp [wordsC] at hw
    obtain ⟨a0, ab, b1⟩ := h
    rcases hw with rfl | rfl | rfl
    · exact ⟨by decide +kernel, by decide +kernel⟩
    · exact fg (by omega)
    · exact fg (by omega)
  | ovr m =>
    simp [wordsC] at hw
    obtain ⟨m0, m1⟩ := h
    rcases hw with rfl | rfl
    · exact ⟨by decide +kernel, by decide +kernel⟩
    · refine ⟨fun z => ?_, ?_⟩
      · have z : 32 ∈ shown m.toNat := z
        unfold shown at z
        rcases List.mem_append.mp z with z | z
        · have := figs_dig _ 32 z; omega
        · simp at z; omega
      · rw [tx_len, len_shown]
        have : (figs (m.toNat / 100)).length ≤ 10 := figs_len (by decide) (by omega)
        omega
theorem okW_T {t : Cnd} (h : okT okCo t) : ∀ w ∈ wordsT wordsC t, okW w := words_all okW_C ⟨by decide +kernel, by decide +kernel⟩ ⟨by decide +kernel, by decide +kernel⟩ ⟨by decide +kernel, by decide +kernel⟩ ⟨by decide +kernel, by decide +kernel⟩ ⟨by decide +kernel, by decide +kernel⟩ t h
theorem join_cut : ∀ {ws : List Str}, ws ≠ [] → (∀ w ∈ ws, 32 ∉ w.cps.toList) → cutAt 32 (Str.join (Str.ofString " ") ws).cps.toList = ws.map fun w => w.cps.toList
  | [], h, _ => absurd rfl h
  | [w], _, h => by
    show cutAt 32 w.cps.toList = [w.cps.toList]
    exact cutAt_free (h w List.mem_cons_self)
  | w :: v :: ws, _, h => by
    have ih := join_cut (ws := v :: ws) (by simp) fun x hx => h x (List.mem_cons_of_mem _ hx)
    have e : (Str.join (Str.ofString " ") (w :: v :: ws)).cps.toList = w.cps.toList ++ 32 :: (Str.join (Str.ofString " ") (v :: ws)).cps.toList := by
      show (w.cps ++ (Str.ofString " ").cps ++ (Str.join (Str.ofString " ") (v :: ws)).cps).toList = _
      have eb : (Str.ofString " ").cps.toList = [32] := by decide +kernel
      rw [Array.toList_append, Array.toList_append, eb, List.append_assoc]
      rfl
    rw [e, cutAt_app _ (h w List.mem_cons_self), ih]
    rfl
theorem split_join {ws : List Str} (h0 : ws ≠ []) (h : ∀ w ∈ ws, okW w) : Txt.split (Str.join (Str.ofString " ") ws) (Str.ofString " ") = ws := by
  have eb : Str.ofString " " = tx [32] := by decide +kernel
  have e := split_cut (Str.join (Str.ofString " ") ws).cps.toList 32
  rw [tx_of, ← eb, join_cut h0 fun w hw => (h w hw).1, List.map_map] at e
  rw [e]
  have : (tx ∘ fun w : Str => w.cps.toList) = id := by funext w; exact tx_of w
  rw [this, List.map_id]
def spLW (m : Nat) : Sp := fun vs H Q _ => ∃ v t, vs = [v] ∧ TrAt H v t ∧ hgt t < m ∧ okT okCo t ∧ (wordsT wordsC t).length ≤ 60 ∧ ∀ l H', Same H H' → H' l = some (.lst ((wordsT wordsC t).map V.str)) → Q (.ref l) H'
def spLI (m : Nat) : Sp := fun vs H Q _ => ∃ v t, ∃ k : Int, vs = [v, .int k] ∧ TrAt H v t ∧ hgt t < m ∧ okT okCo t ∧ (inn wordsC k t).length ≤ 60 ∧ ∀ l H', Same H H' → H' l = some (.lst ((inn wordsC k t).map V.str)) → Q (.ref l) H'
def spWA : Sp := fun vs H Q _ => ∃ a b xs, vs = [.ref a, .ref b] ∧ H a = some (.lst (List.map V.str xs)) ∧ H b = some (.lst (List.map V.str xs)) ∧ xs.length ≤ 100 ∧ Q (.bl true) H
def spShC (κ : A8) : Sp := fun vs H Q _ => ∃ u t, vs = [u] ∧ CdAt κ H u t ∧ hgt t < 66 ∧ okT okCo t ∧ (wordsT wordsC t).length ≤ 60 ∧ ∀ H', Same H H' → Q (.str (Str.join (Str.ofString " ") (wordsT wordsC t))) H'
def spRInit (C : Addr) : Sp := fun vs H Q _ => ∃ p dx rw, vs = [.ref p, .ref rw] ∧ H p = some (.ins C dx []) ∧ ∀ H', (∀ b, b ≠ p → H' b = H b) → H' p = some (.ins C dx (fldR rw 0 0)) → Q .non H'
def spRC (κ : A8) : Sp := fun vs H Q _ => ∃ ws t d, vs = [.str (Str.join (Str.ofString " ") ws)] ∧ ws ≠ [] ∧ (∀ w ∈ ws, okW w) ∧ ws.length ≤ 60 ∧ Spl wordsC okCo 2 ws t d ∧ d ≤ 6 ∧ ∀ u H', Same H H' → CdAt κ (Nw H H') u t → Q u H'
theorem words_ne {t : Cnd} (h : okT okCo t) : 1 ≤ (wordsT wordsC t).length := by
  have h1 := words_len (wc := wordsC) (fun c _ => wordsC_len c) t h
  have h2 := size_pos t h
  omega
theorem inn_ne {t : Cnd} (h : okT okCo t) (m : Int) : 1 ≤ (inn wordsC m t).length := by
  have := words_ne h
  unfold inn
  split
  · rw [List.length_cons]; omega
  · exact this
theorem kit_ss {K : PySem.W.Frag} : PySem.W.kitOne K (.type "str") (.type "str") = some true := by kernel_rfl
theorem between_at (b : Bool) : valV (mergeK [] [(Sum.inr "all", V.str (Str.ofString "and")), (Sum.inr "some", V.str (Str.ofString "or"))]) (Sum.inr (kindS b)) = some (.str (if b then Str.ofString "and" else Str.ofString "or")) := by
  cases b <;> rfl
section
seal L2.PS L2.PSs L2.PE L2.PA
variable {P : Program} {w : World} {K : PySem.W.Frag} {mg : Str → Option Value} {base : Heap} {C_Condition C_CauseIs C_ThingIs C_DaysIn C_Over C_Not C_All C_Some C_Reader : Addr}
theorem sc__law_inner : FnScope ["_law_tree", "_law_least"] ["_law_tree", "_law_least"] (defScope s__law_inner) := ⟨rfl, rfl, rfl, by decide +kernel, rfl, by decide +kernel, by decide +kernel⟩
theorem ok__law_inner {f : Addr} {fd : FuncData} (F : Fun K "_law_inner" "_law_inner" s__law_inner f fd) {m : Nat} (C_law_words : Cal P w K mg base (2 * m + 1) "_law_words" ["_law_tree"] (spLW m)) : FnOk P w K mg base CX0 (2 * m + 1 + 1) f fd ["_law_tree", "_law_least"] (spLI m) := by
  have sc := sc__law_inner
  refine F.ok sc (fun vs H Q E h => ?_) (fun cdv A outer s H vs Q E hr h => ?_)
  · obtain ⟨_, _, _, rfl, _⟩ := h
    rfl
  obtain ⟨v, t, k, rfl, tr, hg, ok, hm, q⟩ := h
  have hu2 := hu_of hr
  obtain ⟨p, xs, rfl, hp⟩ := tr.tag
  have one : 1 ≤ sizeLine := by rw [sizeLine_eq]; decide
  refine ⟨_, (pss_cons (ps_if (pt_cmpR op_lt (pe_dget2 hu2 (pe_disp (pps_cons pe_str pe_int (pps_cons pe_str pe_int pps_nil)) rfl rfl (by simp) (by decide)) (pe_ix ix_tup (pv 0) pe_int (fun _ _ => rfl)) pe_int ⟨rfl, rfl, rfl, rfl⟩) (pv 1) (nomark _))
        (pss_one (ps_ret (pe_op op_cat (pe_op op_cat (pe_lst (pa_cons pe_str pa_nil)) (pe_callC C_law_words (hr.mono (by omega)) rfl (pa_cons (pv 0) pa_nil))) (pe_lst (pa_cons pe_str pa_nil)))))
        pss_nil)
      (pss_one (ps_ret (pe_callC C_law_words (hr.mono (by omega)) rfl (pa_cons (pv 0) pa_nil))))), ?_⟩
  refine fun d hd => ?_
  refine ⟨upd_same, [(Sum.inr "all", V.int 2), (Sum.inr "some", V.int 1)], rfl, by decide, d, rfl, .inl ⟨_, .inl upd_same⟩, ?_⟩
  have s2 : Same H (upd (upd H d (.dK [])) d (.dK (mergeK [] [(Sum.inr "all", V.int 2), (Sum.inr "some", V.int 1)]))) := fun b o e => by
    have n := ne_of_none e hd
    rw [upd_ne n, upd_ne n]; exact e
  refine ⟨_, rfl, p, _, _, _, rfl, rfl, SqT.of (s2 _ _ hp), at0 _ _, _, DGet.k (k := Sum.inr (tagC t)) upd_same, ?_⟩
  rw [tag_prec t]
  refine ⟨_, rfl, _, _, rfl, rfl, _, rfl, ite2 (fun c => ?_) (fun c => ?_)⟩
  · have c : prec t < k := of_decide_eq_true c
    have ei : inn wordsC k t = Str.ofString "(" :: (wordsT wordsC t ++ [Str.ofString ")"]) := if_pos c
    rw [ei] at q hm
    rw [List.length_cons, List.length_append] at hm
    have hm : (wordsT wordsC t).length + 2 ≤ 60 := by have : [Str.ofString ")"].length = 1 := rfl; omega
    refine ⟨one, fun l1 n1 => ?_⟩
    have s3 := s2.trans (same_new n1 (.lst [.str (Str.ofString "(")]))
    refine ⟨_, rfl, .ref p, t, rfl, tr.same s3, hg, ok, by omega, fun l2 H2 s4 h2 => ?_⟩
    refine ⟨l1, l2, _, _, rfl, rfl, s4 _ _ upd_same, h2, (by rw [List.length_map, sizeLine_eq]; show 1 + _ ≤ _; omega), fun l3 n3 => ?_⟩
    have s5 := same_new n3 (.lst ([.str (Str.ofString "(")] ++ (wordsT wordsC t).map V.str))
    refine ⟨one, fun l4 n4 => ?_⟩
    have s6 := same_new n4 (.lst [.str (Str.ofString ")")])
    refine ⟨l3, l4, _, _, rfl, rfl, s6 _ _ upd_same, upd_same, (by rw [List.length_append, List.length_map, sizeLine_eq]; show 1 + _ + 1 ≤ _; omega), fun l5 n5 => ?_⟩
    refine q l5 _ (s3.trans (s4.trans (s5.trans (s6.trans (same_new n5 _))))) ?_
    rw [List.map_cons, List.map_append]
    exact upd_same
  · have c : ¬ prec t < k := fun z => c (decide_eq_true z)
    have ei : inn wordsC k t = wordsT wordsC t := if_neg c
    rw [ei] at q hm
    exact ⟨_, rfl, .ref p, t, rfl, tr.same s2, hg, ok, hm, fun l2 H2 s4 h2 => q l2 H2 (s2.trans s4) h2⟩
theorem sc__law_words : FnScope ["_law_tree", "_law_kind", "_law_found", "_law_part"] ["_law_tree"] (defScope s__law_words) := ⟨rfl, rfl, rfl, by decide +kernel, rfl, by decide +kernel, by decide +kernel⟩
theorem ok__law_words {f : Addr} {fd : FuncData} (F : Fun K "_law_words" "_law_words" s__law_words f fd) (T : Txt K mg) {m : Nat} (C_law_inner : Cal P w K mg base (2 * m + 1 + 1) "_law_inner" ["_law_tree", "_law_least"] (spLI m)) : FnOk P w K mg base CX0 (2 * m + 1 + 1 + 1) f fd ["_law_tree"] (spLW (m + 1)) := by
  have sc := sc__law_words
  refine F.ok sc (fun vs H Q E h => ?_) (fun cdv A outer s H vs Q E hr h => ?_)
  · obtain ⟨_, _, rfl, _⟩ := h
    rfl
  obtain ⟨v, t, rfl, tr, hg, ok, hm, q⟩ := h
  have hu2 := hu_of hr
  have hu0 := hr.units0
  refine ⟨_, (pss_cons (ps_set (i := 1) sc.nd rfl (Or.inl rfl) (pe_ix ix_tup (pv 0) pe_int (fun _ _ => rfl)))
      (pss_cons (ps_if (pt_cmpR op_eq (pv 1) pe_str (nomark _))
        (pss_one (ps_ret (pe_lst (pa_cons pe_str pa_nil))))
        pss_nil)
      (pss_cons (ps_if (PW.pt (pw_or (pt_cmpR op_eq (pv 1) pe_str (nomark _)) (pw_or1 (pt_cmpR op_eq (pv 1) pe_str (nomark _)))))
        (pss_one (ps_ret (pe_lst (pa_cons (pv 1) (pa_cons (pe_ix ix_tup (pv 0) pe_int (fun _ _ => rfl)) pa_nil)))))
        pss_nil)
      (pss_cons (ps_if (pt_cmpR op_eq (pv 1) pe_str (nomark _))
        (pss_one (ps_ret (pe_lst (pa_cons pe_str (pa_cons (pe_callTy call_str_int rfl T.n_str (show bootBuiltins _ = some (.type "str") from rfl) (pa_cons (pe_ix ix_tup (pv 0) pe_int (fun _ _ => rfl)) pa_nil)) (pa_cons (pe_callTy call_str_int rfl T.n_str (show bootBuiltins _ = some (.type "str") from rfl) (pa_cons (pe_ix ix_tup (pv 0) pe_int (fun _ _ => rfl)) pa_nil)) pa_nil))))))
        pss_nil)
      (pss_cons (ps_if (pt_cmpR op_eq (pv 1) pe_str (nomark _))
        (pss_one (ps_ret (pe_lst (pa_cons pe_str (pa_cons (pe_op op_add_str (pe_op op_add_str (pe_op op_add_str (pe_callTy call_str_int rfl T.n_str (show bootBuiltins _ = some (.type "str") from rfl) (pa_cons (pe_op op_fdiv (pe_ix ix_tup (pv 0) pe_int (fun _ _ => rfl)) pe_int) pa_nil)) pe_str) (pe_callTy call_str_int rfl T.n_str (show bootBuiltins _ = some (.type "str") from rfl) (pa_cons (pe_op op_mod (pe_op op_fdiv (pe_ix ix_tup (pv 0) pe_int (fun _ _ => rfl)) pe_int) pe_int) pa_nil))) (pe_callTy call_str_int rfl T.n_str (show bootBuiltins _ = some (.type "str") from rfl) (pa_cons (pe_op op_mod (pe_ix ix_tup (pv 0) pe_int (fun _ _ => rfl)) pe_int) pa_nil))) pa_nil)))))
        pss_nil)
      (pss_cons (ps_if (pt_cmpR op_eq (pv 1) pe_str (nomark _))
        (pss_one (ps_ret (pe_op op_cat (pe_lst (pa_cons pe_str pa_nil)) (pe_callC C_law_inner (hr.mono (by omega)) rfl (pa_cons (pe_ix ix_tup (pv 0) pe_int (fun _ _ => rfl)) (pa_cons pe_int pa_nil))))))
        pss_nil)
      (pss_cons (ps_set (i := 2) sc.nd rfl (Or.inl rfl) (pe_lst pa_nil))
      (pss_cons (ps_for PassesOwn.never rfl (pi_list (pe_ix ix_tup (pv 0) pe_int (fun _ _ => rfl))) (pg_name (i := 3) sc.nd rfl (Or.inl rfl))
        (pss_cons (ps_if (pt_cmpR (op_neE hu0) (pv 2) (pe_lst pa_nil) (nomark _))
        (pss_one (ps_set (i := 2) sc.nd rfl (Or.inl rfl) (pe_op op_cat (pv 2) (pe_lst (pa_cons (pe_dget hu2 (pe_disp (pps_cons pe_str pe_str (pps_cons pe_str pe_str pps_nil)) rfl rfl (by simp) (by decide)) (pv 1) (fun _ _ => rfl)) pa_nil)))))
        pss_nil)
      (pss_one (ps_set (i := 2) sc.nd rfl (Or.inl rfl) (pe_op op_cat (pv 2) (pe_callC C_law_inner (hr.mono (by omega)) rfl (pa_cons (pv 3) (pa_cons (pe_ix ix_list (pe_lst (pa_cons pe_int (pa_cons pe_int pa_nil))) (pe_callTy call_int1 rfl T.n_int (show bootBuiltins _ = some (.type "int") from rfl) (pa_cons (pe_cmpR op_eq (pv 1) pe_str (nomark _)) pa_nil)) (fun _ _ => rfl)) pa_nil))))))))
      (pss_one (ps_ret (pv 2))))))))))), ?_⟩
  have sne : ∀ {y z : Str}, y ≠ z → ¬ V.str y = V.str z := fun h e => h (V.str.inj e)
  have one : 1 ≤ sizeLine := by rw [sizeLine_eq]; decide
  have two : 2 ≤ sizeLine := by rw [sizeLine_eq]; decide
  have three : 3 ≤ sizeLine := by rw [sizeLine_eq]; decide
  cases t with
  | «at» c =>
    rw [wordsT_at] at q
    unfold okT at ok
    cases c with
    | alw =>
      unfold TrAt at tr
      obtain ⟨p, rfl, hp⟩ := tr
      refine ⟨_, rfl, p, _, _, _, rfl, rfl, SqT.of hp, rfl, ?_⟩
      exact ⟨_, rfl, rfl, _, rfl, dT rfl ⟨one, fun l hl => q l _ (same_new hl _) upd_same⟩⟩
    | cau n =>
      unfold TrAt at tr
      obtain ⟨p, rfl, hp⟩ := tr
      refine ⟨_, rfl, p, _, _, _, rfl, rfl, SqT.of hp, rfl, ?_⟩
      refine ⟨_, rfl, rfl, _, rfl, dF (sne (by decide +kernel)) ?_⟩
      exact ⟨_, rfl, rfl, _, rfl, dT rfl (iteT ⟨_, rfl, _, rfl, p, _, _, _, rfl, rfl, SqT.of hp, rfl, two, fun l hl => q l _ (same_new hl _) upd_same⟩)⟩
    | thi n =>
      unfold TrAt at tr
      obtain ⟨p, rfl, hp⟩ := tr
      refine ⟨_, rfl, p, _, _, _, rfl, rfl, SqT.of hp, rfl, ?_⟩
      refine ⟨_, rfl, rfl, _, rfl, dF (sne (by decide +kernel)) ?_⟩
      exact ⟨_, rfl, rfl, _, rfl, dF (sne (by decide +kernel)) ⟨_, rfl, rfl, _, rfl, dT rfl ⟨_, rfl, _, rfl, p, _, _, _, rfl, rfl, SqT.of hp, rfl, two, fun l hl => q l _ (same_new hl _) upd_same⟩⟩⟩
    | day a b =>
      unfold TrAt at tr
      obtain ⟨p, rfl, hp⟩ := tr
      refine ⟨_, rfl, p, _, _, _, rfl, rfl, SqT.of hp, rfl, ?_⟩
      refine ⟨_, rfl, rfl, _, rfl, dF (sne (by decide +kernel)) ?_⟩
      refine ⟨_, rfl, rfl, _, rfl, dF (sne (by decide +kernel)) ⟨_, rfl, rfl, _, rfl, dF (sne (by decide +kernel)) ?_⟩⟩
      obtain ⟨a0, ab, b1⟩ := ok
      have ea : ((toString a : String) : Str) = tx (figs a.toNat) := by rw [← str_nat]; congr 2; omega
      have eb : ((toString b : String) : Str) = tx (figs b.toNat) := by rw [← str_nat]; congr 2; omega
      refine ⟨_, rfl, rfl, _, rfl, dT rfl ⟨_, rfl, p, _, _, _, rfl, rfl, SqT.of hp, rfl, _, rfl, log_small a0 (by omega), _, rfl, p, _, _, _, rfl, rfl, SqT.of hp, rfl, _, rfl, log_small (by omega) (by omega), three, fun l hl => q l _ (same_new hl _) ?_⟩⟩
      show upd _ _ _ _ = some (HO.lst [.str (Str.ofString "days"), .str (tx (figs a.toNat)), .str (tx (figs b.toNat))])
      rw [← ea, ← eb]
      exact upd_same
    | ovr c =>
      unfold TrAt at tr
      obtain ⟨p, rfl, hp⟩ := tr
      refine ⟨_, rfl, p, _, _, _, rfl, rfl, SqT.of hp, rfl, ?_⟩
      refine ⟨_, rfl, rfl, _, rfl, dF (sne (by decide +kernel)) ?_⟩
      refine ⟨_, rfl, rfl, _, rfl, dF (sne (by decide +kernel)) ⟨_, rfl, rfl, _, rfl, dF (sne (by decide +kernel)) ?_⟩⟩
      refine ⟨_, rfl, rfl, _, rfl, dF (sne (by decide +kernel)) ?_⟩
      obtain ⟨c0, c1⟩ := ok
      obtain ⟨n, rfl⟩ := Int.eq_ofNat_of_zero_le c0
      have e1 : (n : Int) / 100 = ((n / 100 : Nat) : Int) := by omega
      have e2 : (n : Int) / 10 % 10 = ((n / 10 % 10 : Nat) : Int) := by omega
      have e3 : (n : Int) % 10 = ((n % 10 : Nat) : Int) := by omega
      have ed : (Str.ofString ".") = tx [46] := by decide +kernel
      have ew : ((toString ((n : Int) / 100) : String) : Str) = tx (figs (n / 100)) := by rw [e1, str_nat]
      have ex : ((toString ((n : Int) / 10 % 10) : String) : Str) = tx [48 + n / 10 % 10] := by rw [e2, str_small (Nat.mod_lt _ (by decide))]
      have ey : ((toString ((n : Int) % 10) : String) : Str) = tx [48 + n % 10] := by rw [e3, str_small (Nat.mod_lt _ (by decide))]
      have lw : (figs (n / 100)).length ≤ 60 := figs_len (by decide) (by omega)
      have hl := sizeLine_eq
      refine ⟨_, rfl, rfl, _, rfl, dT rfl ⟨_, rfl, p, _, _, _, rfl, rfl, SqT.of hp, rfl, _, _, rfl, rfl, ⟨by decide, by decide⟩, _, rfl, log_small (by omega) (by omega), _, _, rfl, rfl, ?_, ?_⟩⟩
      · rw [ew, ed, tx_len, tx_len]; show _ + 1 ≤ _; omega
      refine ⟨_, rfl, p, _, _, _, rfl, rfl, SqT.of hp, rfl, _, _, rfl, rfl, ⟨by decide, by decide⟩, _, _, rfl, rfl, (by show (0 : Int) < 10; decide), _, rfl, log_small (by omega) (by omega), _, _, rfl, rfl, ?_, ?_⟩
      · rw [ew, ed, ex, tx_app, tx_len, tx_len, List.length_append]; show _ + 1 + 1 ≤ _; omega
      refine ⟨_, rfl, p, _, _, _, rfl, rfl, SqT.of hp, rfl, _, _, rfl, rfl, (by show (0 : Int) < 10; decide), _, rfl, log_small (by omega) (by omega), _, _, rfl, rfl, ?_, ?_⟩
      · rw [ew, ed, ex, ey, tx_app, tx_app, tx_len, tx_len, List.length_append, List.length_append]; show _ + 1 + 1 + 1 ≤ _; omega
      refine ⟨two, fun l hl' => q l _ (same_new hl' _) ?_⟩
      show upd _ _ _ _ = some (HO.lst [.str (Str.ofString "over"), .str (tx (shown ((n : Int)).toNat))])
      rw [Int.toNat_natCast, ← cat_shown n]
      exact upd_same
  | no t =>
    unfold TrAt at tr
    obtain ⟨p, wt, rfl, hp, tr⟩ := tr
    refine ⟨_, rfl, p, _, _, _, rfl, rfl, SqT.of hp, rfl, ?_⟩
    unfold hgt at hg
    unfold okT at ok
    rw [wordsT_no] at q hm
    rw [List.length_cons] at hm
    refine ⟨_, rfl, rfl, _, rfl, dF (sne (by decide +kernel)) ?_⟩
    refine ⟨_, rfl, rfl, _, rfl, dF (sne (by decide +kernel)) ⟨_, rfl, rfl, _, rfl, dF (sne (by decide +kernel)) ?_⟩⟩
    refine ⟨_, rfl, rfl, _, rfl, dF (sne (by decide +kernel)) ?_⟩
    refine ⟨_, rfl, rfl, _, rfl, dF (sne (by decide +kernel)) ?_⟩
    refine ⟨_, rfl, rfl, _, rfl, dT rfl ⟨one, fun l1 n1 => ?_⟩⟩
    have s1 := same_new n1 (.lst [.str (Str.ofString "not")])
    refine ⟨_, rfl, p, _, _, _, rfl, rfl, SqT.of (s1 _ _ hp), rfl, wt, t, 3, rfl, tr.same s1, by omega, ok, by omega, fun l2 H2 s2 h2 => ?_⟩
    refine ⟨l1, l2, _, _, rfl, rfl, s2 _ _ upd_same, h2, (by rw [List.length_map, sizeLine_eq]; show 1 + _ ≤ _; omega), fun l3 n3 => ?_⟩
    refine q l3 _ (s1.trans (s2.trans (same_new n3 _))) ?_
    rw [List.map_cons]
    exact upd_same
  | al ts =>
    unfold TrAt at tr
    obtain ⟨p, a, vs, rfl, hp, ha, trs⟩ := tr
    refine ⟨_, rfl, p, _, _, _, rfl, rfl, SqT.of hp, rfl, ?_⟩
    unfold hgt at hg
    unfold okT at ok
    obtain ⟨_, ts8, oks⟩ := ok
    rw [wordsT_al] at q hm
    have hlen := trs.len
    refine ⟨_, rfl, rfl, _, rfl, dF (sne (by decide +kernel)) ?_⟩
    refine ⟨_, rfl, rfl, _, rfl, dF (sne (by decide +kernel)) ⟨_, rfl, rfl, _, rfl, dF (sne (by decide +kernel)) ?_⟩⟩
    refine ⟨_, rfl, rfl, _, rfl, dF (sne (by decide +kernel)) ?_⟩
    refine ⟨_, rfl, rfl, _, rfl, dF (sne (by decide +kernel)) ?_⟩
    refine ⟨_, rfl, rfl, _, rfl, dF (sne (by decide +kernel)) ?_⟩
    refine ⟨Nat.zero_le _, fun l0 n0 => ?_⟩
    have s0 := same_new n0 (.lst [])
    refine atG [some (.ref p), some (.str (kindS true)), some (.ref l0), none] rfl ?_
    refine ⟨_, rfl, p, _, _, _, rfl, rfl, SqT.of (s0 _ _ hp), rfl, a, rfl, ⟨_, SqL.of (s0 _ _ ha)⟩, ?_⟩
    refine for_list (K := K) (a := a) (xs := vs) (fun i σ H2 => ∃ l o, σ = [some (.ref p), some (.str (kindS true)), some (.ref l), o] ∧ Same H H2 ∧ H2 l = some (.lst ((joinL (Str.ofString "and") ((ts.take i).map (inn wordsC (leastB true)))).map V.str))) ⟨l0, none, rfl, s0, upd_same⟩ (fun i σ H2 _ ⟨_, _, _, e, _⟩ => SqL.of (e _ _ ha)) ?_ ?_
    · rintro i v σ H2 hi ⟨l, o, rfl, s2, h2⟩
      obtain ⟨u, eu, tr⟩ := trs.get hi
      have up := List.mem_of_getElem? eu
      have okU := okTs_at oks u up
      have le1 : (inn wordsC (leastB true) u).length ≤ 60 := Nat.le_trans (joinL_mem_le _ (List.mem_map.mpr ⟨u, up, rfl⟩)) hm
      have le2 : (joinL (Str.ofString "and") ((ts.take i).map (inn wordsC (leastB true)))).length ≤ 60 := by rw [List.map_take]; exact Nat.le_trans (joinL_take_le _ _ i) hm
      have il := (List.getElem?_eq_some_iff.mp eu).1
      have emp : (((joinL (Str.ofString "and") ((ts.take i).map (inn wordsC (leastB true)))).map V.str).isEmpty = true ↔ i = 0) := by
        constructor
        · intro z
          cases i with
          | zero => rfl
          | succ i =>
            have e0 : ts[0]? = some (ts[0]'(by omega)) := List.getElem?_eq_getElem _
            have ok0 := okTs_at oks _ (List.mem_of_getElem? e0)
            have := inn_ne ok0 (leastB true)
            have l1 := joinL_mem_le (Str.ofString "and") (ws := (ts.take (i + 1)).map (inn wordsC (leastB true))) (w := inn wordsC (leastB true) (ts[0]'(by omega))) (List.mem_map.mpr ⟨_, by rw [List.mem_take_iff_getElem]; exact ⟨0, by omega, rfl⟩, rfl⟩)
            rw [List.isEmpty_iff, List.map_eq_nil_iff] at z
            rw [z, List.length_nil] at l1
            omega
        · intro z
          rw [z, List.take_zero]
          rfl
      have sn : joinL (Str.ofString "and") ((ts.take (i + 1)).map (inn wordsC (leastB true))) = (if i = 0 then [] else joinL (Str.ofString "and") ((ts.take i).map (inn wordsC (leastB true))) ++ [Str.ofString "and"]) ++ inn wordsC (leastB true) u := by
        rw [take_snoc eu, List.map_append]
        by_cases c : i = 0
        · subst c
          rw [if_pos rfl, List.take_zero]
          show inn wordsC (leastB true) u ++ [] = _
          rw [List.append_nil]; rfl
        · rw [if_neg c]
          show joinL _ (_ ++ [inn wordsC (leastB true) u]) = _
          rw [joinL_snoc]
          · rw [List.append_assoc]; rfl
          · intro z
            have e := congrArg List.length z
            rw [List.length_map, List.length_take, List.length_nil] at e
            omega
      refine seqI (fun σ' H' => ∃ l', σ' = [some (.ref p), some (.str (kindS true)), some (.ref l'), some v] ∧ Same H H' ∧ H' l' = some (.lst ((if i = 0 then [] else joinL (Str.ofString "and") ((ts.take i).map (inn wordsC (leastB true))) ++ [Str.ofString "and"]).map V.str))) (fun N R => ?_) ?_
      · refine ⟨_, rfl, Nat.zero_le _, fun le nle => ⟨l, le, _, rfl, rfl, SqL.of (same_new nle _ _ _ h2), SqL.of upd_same, _, rfl, ?_⟩⟩
        have s3 := s2.trans (same_new nle (.lst []))
        have h3 := same_new nle (.lst []) _ _ h2
        by_cases c : i = 0
        · refine bF (by show (!_) = false; rw [emp.mpr c]; rfl) (R _ _ ⟨l, rfl, s3, ?_⟩)
          rw [h3, if_pos c, c, List.take_zero]
          rfl
        · refine bT (by
            show (!_) = true
            cases z : ((joinL (Str.ofString "and") ((ts.take i).map (inn wordsC (leastB true)))).map V.str).isEmpty with
            | false => rfl
            | true => exact absurd (emp.mp z) c) ?_
          refine ⟨_, rfl, fun d hd => ⟨upd_same, [(Sum.inr "all", V.str (Str.ofString "and")), (Sum.inr "some", V.str (Str.ofString "or"))], rfl, by decide, _, rfl, d, .str (Str.ofString "and"), rfl, ?_, one, fun l4 n4 => ?_⟩⟩
          · have g := DGet.k (H := upd (upd (upd H2 le (.lst [])) d (.dK [])) d (.dK (mergeK [] [(Sum.inr "all", V.str (Str.ofString "and")), (Sum.inr "some", V.str (Str.ofString "or"))]))) (a := d) (k := Sum.inr (kindS true)) upd_same
            rw [between_at] at g
            exact g
          have s4 : Same H (upd (upd (upd H2 le (.lst [])) d (.dK [])) d (.dK (mergeK [] [(Sum.inr "all", V.str (Str.ofString "and")), (Sum.inr "some", V.str (Str.ofString "or"))]))) := fun b o e => by
            have e3 := s3 _ _ e
            have n := ne_of_none e3 hd
            rw [upd_ne n, upd_ne n]; exact e3
          have h4 : upd (upd (upd H2 le (.lst [])) d (.dK [])) d (.dK (mergeK [] [(Sum.inr "all", V.str (Str.ofString "and")), (Sum.inr "some", V.str (Str.ofString "or"))])) l = some (.lst ((joinL (Str.ofString "and") ((ts.take i).map (inn wordsC (leastB true)))).map V.str)) := by
            have n := ne_of_none h3 hd
            rw [upd_ne n, upd_ne n]; exact h3
          have s5 := same_new n4 (.lst [.str (Str.ofString "and")])
          refine ⟨l, l4, _, _, rfl, rfl, s5 _ _ h4, upd_same, (by rw [List.length_map, sizeLine_eq]; show _ + 1 ≤ _; omega), fun l5 n5 => R _ _ ⟨l5, rfl, s4.trans (s5.trans (same_new n5 _)), ?_⟩⟩
          rw [if_neg c, List.map_append]
          exact upd_same
      rintro _ H3 ⟨l', rfl, s3, h3⟩
      refine ⟨_, rfl, _, rfl, two, fun l6 n6 => ?_⟩
      have s6 := same_new n6 (.lst [.int 2, .int 3])
      refine ⟨_, rfl, rfl, .inr ⟨_, rfl, l6, _, _, _, rfl, rfl, SqL.of upd_same, kind_ix true, v, u, leastB true, rfl, tr.same (s3.trans s6), hgts_le (by omega) i eu, okU, le1, fun l7 H7 s7 h7 => ?_⟩⟩
      refine ⟨l', l7, _, _, rfl, rfl, s7 _ _ (s6 _ _ h3), h7, ?_, fun l8 n8 => ⟨l8, some v, rfl, s3.trans (s6.trans (s7.trans (same_new n8 _))), ?_⟩⟩
      · rw [List.length_map, List.length_map, sizeLine_eq]
        have : (if i = 0 then [] else joinL (Str.ofString "and") ((ts.take i).map (inn wordsC (leastB true))) ++ [Str.ofString "and"]).length ≤ 61 := by
          split
          · simp
          · rw [List.length_append]; show _ + 1 ≤ _; omega
        omega
      · rw [sn, List.map_append]
        exact upd_same
    · rintro σ H2 ⟨l, o, rfl, s2, h2⟩
      rw [hlen, List.take_length] at h2
      exact ⟨_, rfl, q l H2 s2 h2⟩
  | so ts =>
    unfold TrAt at tr
    obtain ⟨p, a, vs, rfl, hp, ha, trs⟩ := tr
    refine ⟨_, rfl, p, _, _, _, rfl, rfl, SqT.of hp, rfl, ?_⟩
    unfold hgt at hg
    unfold okT at ok
    obtain ⟨_, ts8, oks⟩ := ok
    rw [wordsT_so] at q hm
    have hlen := trs.len
    refine ⟨_, rfl, rfl, _, rfl, dF (sne (by decide +kernel)) ?_⟩
    refine ⟨_, rfl, rfl, _, rfl, dF (sne (by decide +kernel)) ⟨_, rfl, rfl, _, rfl, dF (sne (by decide +kernel)) ?_⟩⟩
    refine ⟨_, rfl, rfl, _, rfl, dF (sne (by decide +kernel)) ?_⟩
    refine ⟨_, rfl, rfl, _, rfl, dF (sne (by decide +kernel)) ?_⟩
    refine ⟨_, rfl, rfl, _, rfl, dF (sne (by decide +kernel)) ?_⟩
    refine ⟨Nat.zero_le _, fun l0 n0 => ?_⟩
    have s0 := same_new n0 (.lst [])
    refine atG [some (.ref p), some (.str (kindS false)), some (.ref l0), none] rfl ?_
    refine ⟨_, rfl, p, _, _, _, rfl, rfl, SqT.of (s0 _ _ hp), rfl, a, rfl, ⟨_, SqL.of (s0 _ _ ha)⟩, ?_⟩
    refine for_list (K := K) (a := a) (xs := vs) (fun i σ H2 => ∃ l o, σ = [some (.ref p), some (.str (kindS false)), some (.ref l), o] ∧ Same H H2 ∧ H2 l = some (.lst ((joinL (Str.ofString "or") ((ts.take i).map (inn wordsC (leastB false)))).map V.str))) ⟨l0, none, rfl, s0, upd_same⟩ (fun i σ H2 _ ⟨_, _, _, e, _⟩ => SqL.of (e _ _ ha)) ?_ ?_
    · rintro i v σ H2 hi ⟨l, o, rfl, s2, h2⟩
      obtain ⟨u, eu, tr⟩ := trs.get hi
      have up := List.mem_of_getElem? eu
      have okU := okTs_at oks u up
      have le1 : (inn wordsC (leastB false) u).length ≤ 60 := Nat.le_trans (joinL_mem_le _ (List.mem_map.mpr ⟨u, up, rfl⟩)) hm
      have le2 : (joinL (Str.ofString "or") ((ts.take i).map (inn wordsC (leastB false)))).length ≤ 60 := by rw [List.map_take]; exact Nat.le_trans (joinL_take_le _ _ i) hm
      have il := (List.getElem?_eq_some_iff.mp eu).1
      have emp : (((joinL (Str.ofString "or") ((ts.take i).map (inn wordsC (leastB false)))).map V.str).isEmpty = true ↔ i = 0) := by
        constructor
        · intro z
          cases i with
          | zero => rfl
          | succ i =>
            have e0 : ts[0]? = some (ts[0]'(by omega)) := List.getElem?_eq_getElem _
            have ok0 := okTs_at oks _ (List.mem_of_getElem? e0)
            have := inn_ne ok0 (leastB false)
            have l1 := joinL_mem_le (Str.ofString "or") (ws := (ts.take (i + 1)).map (inn wordsC (leastB false))) (w := inn wordsC (leastB false) (ts[0]'(by omega))) (List.mem_map.mpr ⟨_, by rw [List.mem_take_iff_getElem]; exact ⟨0, by omega, rfl⟩, rfl⟩)
            rw [List.isEmpty_iff, List.map_eq_nil_iff] at z
            rw [z, List.length_nil] at l1
            omega
        · intro z
          rw [z, List.take_zero]
          rfl
      have sn : joinL (Str.ofString "or") ((ts.take (i + 1)).map (inn wordsC (leastB false))) = (if i = 0 then [] else joinL (Str.ofString "or") ((ts.take i).map (inn wordsC (leastB false))) ++ [Str.ofString "or"]) ++ inn wordsC (leastB false) u := by
        rw [take_snoc eu, List.map_append]
        by_cases c : i = 0
        · subst c
          rw [if_pos rfl, List.take_zero]
          show inn wordsC (leastB false) u ++ [] = _
          rw [List.append_nil]; rfl
        · rw [if_neg c]
          show joinL _ (_ ++ [inn wordsC (leastB false) u]) = _
          rw [joinL_snoc]
          · rw [List.append_assoc]; rfl
          · intro z
            have e := congrArg List.length z
            rw [List.length_map, List.length_take, List.length_nil] at e
            omega
      refine seqI (fun σ' H' => ∃ l', σ' = [some (.ref p), some (.str (kindS false)), some (.ref l'), some v] ∧ Same H H' ∧ H' l' = some (.lst ((if i = 0 then [] else joinL (Str.ofString "or") ((ts.take i).map (inn wordsC (leastB false))) ++ [Str.ofString "or"]).map V.str))) (fun N R => ?_) ?_
      · refine ⟨_, rfl, Nat.zero_le _, fun le nle => ⟨l, le, _, rfl, rfl, SqL.of (same_new nle _ _ _ h2), SqL.of upd_same, _, rfl, ?_⟩⟩
        have s3 := s2.trans (same_new nle (.lst []))
        have h3 := same_new nle (.lst []) _ _ h2
        by_cases c : i = 0
        · refine bF (by show (!_) = false; rw [emp.mpr c]; rfl) (R _ _ ⟨l, rfl, s3, ?_⟩)
          rw [h3, if_pos c, c, List.take_zero]
          rfl
        · refine bT (by
            show (!_) = true
            cases z : ((joinL (Str.ofString "or") ((ts.take i).map (inn wordsC (leastB false)))).map V.str).isEmpty with
            | false => rfl
            | true => exact absurd (emp.mp z) c) ?_
          refine ⟨_, rfl, fun d hd => ⟨upd_same, [(Sum.inr "all", V.str (Str.ofString "and")), (Sum.inr "some", V.str (Str.ofString "or"))], rfl, by decide, _, rfl, d, .str (Str.ofString "or"), rfl, ?_, one, fun l4 n4 => ?_⟩⟩
          · have g := DGet.k (H := upd (upd (upd H2 le (.lst [])) d (.dK [])) d (.dK (mergeK [] [(Sum.inr "all", V.str (Str.ofString "and")), (Sum.inr "some", V.str (Str.ofString "or"))]))) (a := d) (k := Sum.inr (kindS false)) upd_same
            rw [between_at] at g
            exact g
          have s4 : Same H (upd (upd (upd H2 le (.lst [])) d (.dK [])) d (.dK (mergeK [] [(Sum.inr "all", V.str (Str.ofString "and")), (Sum.inr "some", V.str (Str.ofString "or"))]))) := fun b o e => by
            have e3 := s3 _ _ e
            have n := ne_of_none e3 hd
            rw [upd_ne n, upd_ne n]; exact e3
          have h4 : upd (upd (upd H2 le (.lst [])) d (.dK [])) d (.dK (mergeK [] [(Sum.inr "all", V.str (Str.ofString "and")), (Sum.inr "some", V.str (Str.ofString "or"))])) l = some (.lst ((joinL (Str.ofString "or") ((ts.take i).map (inn wordsC (leastB false)))).map V.str)) := by
            have n := ne_of_none h3 hd
            rw [upd_ne n, upd_ne n]; exact h3
          have s5 := same_new n4 (.lst [.str (Str.ofString "or")])
          refine ⟨l, l4, _, _, rfl, rfl, s5 _ _ h4, upd_same, (by rw [List.length_map, sizeLine_eq]; show _ + 1 ≤ _; omega), fun l5 n5 => R _ _ ⟨l5, rfl, s4.trans (s5.trans (same_new n5 _)), ?_⟩⟩
          rw [if_neg c, List.map_append]
          exact upd_same
      rintro _ H3 ⟨l', rfl, s3, h3⟩
      refine ⟨_, rfl, _, rfl, two, fun l6 n6 => ?_⟩
      have s6 := same_new n6 (.lst [.int 2, .int 3])
      refine ⟨_, rfl, rfl, .inr ⟨_, rfl, l6, _, _, _, rfl, rfl, SqL.of upd_same, kind_ix false, v, u, leastB false, rfl, tr.same (s3.trans s6), hgts_le (by omega) i eu, okU, le1, fun l7 H7 s7 h7 => ?_⟩⟩
      refine ⟨l', l7, _, _, rfl, rfl, s7 _ _ (s6 _ _ h3), h7, ?_, fun l8 n8 => ⟨l8, some v, rfl, s3.trans (s6.trans (s7.trans (same_new n8 _))), ?_⟩⟩
      · rw [List.length_map, List.length_map, sizeLine_eq]
        have : (if i = 0 then [] else joinL (Str.ofString "or") ((ts.take i).map (inn wordsC (leastB false))) ++ [Str.ofString "or"]).length ≤ 61 := by
          split
          · simp
          · rw [List.length_append]; show _ + 1 ≤ _; omega
        omega
      · rw [sn, List.map_append]
        exact upd_same
    · rintro σ H2 ⟨l, o, rfl, s2, h2⟩
      rw [hlen, List.take_length] at h2
      exact ⟨_, rfl, q l H2 s2 h2⟩
theorem sc__law_words_are : FnScope ["_law_found", "_law_due", "_law_k"] ["_law_found", "_law_due"] (defScope s__law_words_are) := ⟨rfl, rfl, rfl, by decide +kernel, rfl, by decide +kernel, by decide +kernel⟩
theorem ok__law_words_are {f : Addr} {fd : FuncData} (F : Fun K "_law_words_are" "_law_words_are" s__law_words_are f fd) (T : Txt K mg) : FnOk P w K mg base CX0 1 f fd ["_law_found", "_law_due"] spWA := by
  have sc := sc__law_words_are
  refine F.ok sc (fun vs H Q E h => ?_) (fun cdv A outer s H vs Q E hr h => ?_)
  · obtain ⟨_, _, _, rfl, _⟩ := h
    rfl
  obtain ⟨a, b, xs, rfl, ha, hb, l10, q⟩ := h
  refine ⟨_, (pss_cons (ps_if (PW.pt (pw_or (pt_not (pt_val (pe_callB call_isinst rfl T.n_isinstance (show bootBuiltins _ = some (.builtin "isinstance") from rfl) (pa_cons (pv 0) (pa_cons (pe_ty "list" rfl T.n_list rfl) pa_nil))))) (pw_or1 (pt_cmpR op_ne (pe_callB call_len_seq rfl T.n_len (show bootBuiltins _ = some (.builtin "len") from rfl) (pa_cons (pv 0) pa_nil)) (pe_callB call_len_seq rfl T.n_len (show bootBuiltins _ = some (.builtin "len") from rfl) (pa_cons (pv 1) pa_nil)) (nomark _)))))
        (pss_one (ps_ret pe_bl))
        pss_nil)
      (pss_cons (ps_for PassesOwn.never rfl (pi_range1 rfl T.n_range (pa_cons (pe_callB call_len_seq rfl T.n_len (show bootBuiltins _ = some (.builtin "len") from rfl) (pa_cons (pv 1) pa_nil)) pa_nil)) (pg_name (i := 2) sc.nd rfl (Or.inl rfl))
        (pss_one (ps_if (PW.pt (pw_or (pt_not (pt_val (pe_callB call_isinst rfl T.n_isinstance (show bootBuiltins _ = some (.builtin "isinstance") from rfl) (pa_cons (pe_ix ix_list (pv 0) (pv 2) (fun _ _ => rfl)) (pa_cons (pe_ty "str" rfl T.n_str rfl) pa_nil))))) (pw_or1 (pt_cmpR op_ne (pe_ix ix_list (pv 0) (pv 2) (fun _ _ => rfl)) (pe_ix ix_list (pv 1) (pv 2) (fun _ _ => rfl)) (nomark _)))))
        (pss_one (ps_ret pe_bl))
        pss_nil)))
      (pss_one (ps_ret pe_bl)))), ?_⟩
  have hl : (List.map V.str xs).length = xs.length := List.length_map _
  refine ⟨_, rfl, _, _, _, _, _, rfl, ty_is, .lst ha, kit_ll, _, rfl, iteF ?_⟩
  refine ⟨_, rfl, a, _, rfl, .inl (SqL.of ha), _, rfl, b, _, rfl, .inl (SqL.of hb), rfl, _, rfl, nF rfl ?_⟩
  refine ⟨_, rfl, b, _, rfl, .inl (SqL.of hb), _, rfl, by omega, by omega, ?_⟩
  have ep : ((List.map V.str xs).length : Int).toNat = xs.length := by rw [hl]; omega
  rw [ep]
  refine for_range (lo := 0) (n := xs.length) (fun i σ H2 => (∃ o, σ = [some (.ref a), some (.ref b), o]) ∧ H2 = H) ⟨⟨none, rfl⟩, rfl⟩ ?_ ?_
  · rintro i σ H2 hi ⟨⟨o, rfl⟩, rfl⟩
    have at' : atI (List.map V.str xs) (0 + (i : Int)) = some (.str xs[i]) := by
      rw [show (0 + (i : Int)) = (i : Int) by omega]
      exact atI_nat (by rw [List.getElem?_map, List.getElem?_eq_getElem hi]; rfl)
    refine ⟨_, rfl, _, rfl, a, _, _, _, rfl, rfl, SqL.of ha, at', _, _, _, _, _, rfl, ty_is, .str _, kit_ss, _, rfl, iteF ?_⟩
    exact ⟨_, rfl, _, rfl, a, _, _, _, rfl, rfl, SqL.of ha, at', _, rfl, _, rfl, b, _, _, _, rfl, rfl, SqL.of hb, at', rfl, _, rfl, nF rfl ⟨⟨_, rfl⟩, rfl⟩⟩
  · rintro σ H2 ⟨⟨o, rfl⟩, rfl⟩
    exact q
theorem sc_show_condition : FnScope ["condition"] ["condition"] (defScope s_show_condition) := ⟨rfl, rfl, rfl, by decide +kernel, rfl, by decide +kernel, by decide +kernel⟩
theorem ok_show_condition {f : Addr} {fd : FuncData} (F : Fun K "show_condition" "show_condition" s_show_condition f fd) (L : Kl K mg C_Condition C_CauseIs C_ThingIs C_DaysIn C_Over C_Not C_All C_Some C_Reader) (Mwords : MFam P w K mg base 200 (A8.Fam (A8.mk C_Condition C_CauseIs C_ThingIs C_DaysIn C_Over C_Not C_All C_Some)) "words" ["self"] (spWords (A8.mk C_Condition C_CauseIs C_ThingIs C_DaysIn C_Over C_Not C_All C_Some) 66)) : FnOk P w K mg base CX0 201 f fd ["condition"] (spShC (A8.mk C_Condition C_CauseIs C_ThingIs C_DaysIn C_Over C_Not C_All C_Some)) := by
  have sc := sc_show_condition
  refine F.ok sc (fun vs H Q E h => ?_) (fun cdv A outer s H vs Q E hr h => ?_)
  · obtain ⟨_, _, rfl, _⟩ := h
    rfl
  obtain ⟨u, t, rfl, cd, hg, ok, hm, q⟩ := h
  obtain ⟨pu, du, fu, rfl, ob, _, _, nw, _⟩ := cd.obj
  have l1 := words_ne ok
  refine ⟨_, (pss_one (ps_ret (pe_bm PySem.F.plainAttrs_str PySem.F.slot_str_join PySem.F.type_str_join mt_joinA pe_str (pa_cons (pe_meth0D Mwords (hr.mono (by decide)) (pv 0)) pa_nil)))), ?_⟩
  exact ⟨rfl, _, rfl, pu, _, du, fu, rfl, ob, A8.fam _ t, nw, pu, t, rfl, cd, rfl, hg, ok, hm, fun l H' s' nl h' => ⟨_, l, wordsT wordsC t, rfl, rfl, SqL.of h', l1, by omega, by decide +kernel, fun y hy => by have := (okW_T ok y hy).2; omega, q H' s'⟩⟩
theorem sc_Reader___init__ : FnScope ["self", "row"] ["self", "row"] (defScope s_Reader___init__) := ⟨rfl, rfl, rfl, by decide +kernel, rfl, by decide +kernel, by decide +kernel⟩
theorem ok_Reader___init__ {f : Addr} {fd : FuncData} (F : Fun K "__init__" "Reader.__init__" s_Reader___init__ f fd) (L : Kl K mg C_Condition C_CauseIs C_ThingIs C_DaysIn C_Over C_Not C_All C_Some C_Reader) : FnOk P w K mg base CX0 1 f fd ["self", "row"] (spRInit C_Reader) := by
  have sc := sc_Reader___init__
  refine F.ok sc (fun vs H Q E h => ?_) (fun cdv A outer s H vs Q E hr h => ?_)
  · obtain ⟨_, _, _, rfl, _⟩ := h
    rfl
  obtain ⟨p, dx, rw, rfl, hp, q⟩ := h
  refine ⟨_, (pss_cons (ps_fld (pv 0) (pv 1) rfl)
      (pss_cons (ps_fld (pv 0) pe_int rfl)
      (pss_one (ps_fld (pv 0) pe_int rfl)))), ?_⟩
  refine ⟨_, rfl, _, rfl, p, _, dx, _, rfl, hp, L.cl_Reader, L.na_Reader_row, (by show 0 < 1000; decide), ?_⟩
  refine ⟨_, rfl, p, _, dx, _, rfl, upd_same, L.cl_Reader, L.na_Reader_place, (by show 1 < 1000; decide), ?_⟩
  exact ⟨_, rfl, p, _, dx, _, rfl, upd_same, L.cl_Reader, L.na_Reader_depth, (by show 2 < 1000; decide), q _ (fun b n => by rw [upd_ne n, upd_ne n, upd_ne n]) upd_same⟩
theorem sc_read_condition : FnScope ["text", "row", "reader", "condition"] ["text"] (defScope s_read_condition) := ⟨rfl, rfl, rfl, by decide +kernel, rfl, by decide +kernel, by decide +kernel⟩
theorem ok_read_condition {f : Addr} {fd : FuncData} (F : Fun K "read_condition" "read_condition" s_read_condition f fd) (T : Txt K mg) (L : Kl K mg C_Condition C_CauseIs C_ThingIs C_DaysIn C_Over C_Not C_All C_Some C_Reader) (KReader : KCal P w K mg base 1 "Reader" C_Reader ["self", "row"] (spRInit C_Reader)) (Mread_rows : MCal P w K mg base (5 * 6 + 8) C_Reader "read_rows" ["self"] (spRRs (A8.mk C_Condition C_CauseIs C_ThingIs C_DaysIn C_Over C_Not C_All C_Some) C_Reader 6)) : FnOk P w K mg base CX0 40 f fd ["text"] (spRC (A8.mk C_Condition C_CauseIs C_ThingIs C_DaysIn C_Over C_Not C_All C_Some)) := by
  have sc := sc_read_condition
  refine F.ok sc (fun vs H Q E h => ?_) (fun cdv A outer s H vs Q E hr h => ?_)
  · obtain ⟨_, _, _, rfl, _⟩ := h
    rfl
  obtain ⟨ws, t, d, rfl, hne, okw, l60, sp, d6, q⟩ := h
  refine ⟨_, (pss_cons (ps_if (pt_not (pt_val (pe_callB call_isinst rfl T.n_isinstance (show bootBuiltins _ = some (.builtin "isinstance") from rfl) (pa_cons (pv 0) (pa_cons (pe_ty "str" rfl T.n_str rfl) pa_nil)))))
        (pss_one ps_never)
        pss_nil)
      (pss_cons (ps_set (i := 1) sc.nd rfl (Or.inl rfl) (pe_bm PySem.F.plainAttrs_str PySem.F.slot_str_split PySem.F.type_str_split mt_split (pv 0) (pa_cons pe_str pa_nil)))
      (pss_cons (ps_if (pt_cmpR op_gt (pe_callB call_len_seq rfl T.n_len (show bootBuiltins _ = some (.builtin "len") from rfl) (pa_cons (pv 1) pa_nil)) (pe_gint T.g_MOST_WORDS rfl) (nomark _))
        (pss_one ps_never)
        pss_nil)
      (pss_cons (ps_set (i := 2) sc.nd rfl (Or.inl rfl) (pe_makeC KReader (hr.mono (by decide)) rfl (pa_cons (pv 1) pa_nil)))
      (pss_cons (ps_set (i := 3) sc.nd rfl (Or.inl rfl) (pe_meth0C Mread_rows (hr.mono (by decide)) (pv 2)))
      (pss_cons (ps_if (pt_cmpR op_lt (pe_fld (pv 2) rfl) (pe_callB call_len_seq rfl T.n_len (show bootBuiltins _ = some (.builtin "len") from rfl) (pa_cons (pv 1) pa_nil)) (nomark _))
        (pss_one ps_never)
        pss_nil)
      (pss_one (ps_ret (pv 3))))))))), ?_⟩
  refine ⟨_, rfl, _, _, _, _, _, rfl, ty_is, .str _, kit_ss, _, rfl, iteF ?_⟩
  have jl := join_le (z := Str.ofString " ") (B := 100) (ps := ws) fun y hy => (okw y hy).2
  have e1 : (Str.ofString " ").length = 1 := by decide +kernel
  rw [e1] at jl
  have jl2 : ws.length * (100 + 1) ≤ 60 * (100 + 1) := Nat.mul_le_mul_right _ l60
  refine ⟨_, rfl, rfl, _, _, rfl, rfl, by decide +kernel, by rw [sizeLine_eq]; omega, fun rw' nrw => ?_⟩
  rw [split_join hne okw]
  have s1 := same_new nrw (.lst (ws.map V.str))
  have h1 : upd H rw' (.lst (ws.map V.str)) rw' = some (.lst (ws.map V.str)) := upd_same
  have lm : (ws.map V.str).length = ws.length := List.length_map _
  generalize upd H rw' (.lst (ws.map V.str)) = H1 at s1 h1
  refine atG [some (.str (Str.join (Str.ofString " ") ws)), some (.ref rw'), none, none] rfl ?_
  refine ⟨_, rfl, rw', _, rfl, .inl (SqL.of h1), _, _, rfl, rfl, _, rfl, dF (by rw [lm]; omega) ?_⟩
  refine ⟨_, rfl, fun r dx nr nd ne => ⟨r, dx, rw', rfl, upd_same, fun H2 kp hr2 => ⟨rfl, ?_⟩⟩⟩
  have s2 : Same H1 H2 := fun b o e => by
    have n1 := ne_of_none e nr
    rw [kp b n1, upd_ne n1, upd_ne (ne_of_none e nd)]; exact e
  refine atG [some (.str (Str.join (Str.ofString " ") ws)), some (.ref rw'), some (.ref r), none] rfl ?_
  have rd2 : RdAt C_Reader H2 r rw' 0 ((0 : Nat) : Int) ws := ⟨⟨dx, hr2⟩, s2 _ _ h1, Nat.zero_le _, l60⟩
  refine ⟨_, rfl, r, dx, _, rfl, hr2, rfl, r, rw', 0, 0, ws, ws, [], t, d, rfl, rd2, (by rw [List.append_nil]; rfl), sp, d6, by omega, (by intro z; cases z), (by intro z; cases z), fun u H3 k3 rd3 cd => ?_⟩
  refine atG [some (.str (Str.join (Str.ofString " ") ws)), some (.ref rw'), some (.ref r), some u] rfl ?_
  obtain ⟨⟨dx3, hr3⟩, hw3, hpl3, _⟩ := rd3
  refine ⟨_, rfl, r, _, dx3, _, _, rfl, hr3, L.cl_Reader, L.na_Reader_place, lr_place _ _ _, _, rfl, rw', _, rfl, .inl (SqL.of hw3), _, _, rfl, rfl, _, rfl, dF (by rw [lm]; omega) ?_⟩
  have rH : H r = none := s1.free nr
  have S : Same H H3 := fun b o e => k3 b o (s2 _ _ (s1 _ _ e)) (ne_of_none e rH)
  exact ⟨_, rfl, q u H3 S (cd.same (Nw.later (s1.trans s2)))⟩
end
structure NI where
  t : Cnd
  ws : List Str
  rk : Int
  d : Nat
def SpR (n : NI) : Prop := (n.rk = 3 ∧ Spl wordsC okCo 0 n.ws n.t n.d) ∨ (n.rk = 2 ∧ Spl wordsC okCo 1 n.ws n.t n.d) ∨ (n.rk = 1 ∧ Spl wordsC okCo 2 n.ws n.t n.d)
def Nd4 (H : Hp) (v : V) (n : NI) : Prop := ∃ a w wl, v = .ref a ∧ H a = some (.tup [w, .ref wl, .int n.rk, .int n.d]) ∧ TrAt H w n.t ∧ H wl = some (.lst (n.ws.map V.str))
theorem Nd4.same {H H' : Hp} (s : Same H H') {v : V} {n : NI} (h : Nd4 H v n) : Nd4 H' v n := by
  obtain ⟨a, w, wl, e, h, tr, hw⟩ := h
  exact ⟨a, w, wl, e, s _ _ h, tr.same s, s _ _ hw⟩
inductive Eac {α : Type} (R : V → α → Prop) : List V → List α → Prop
  | nil : Eac R [] []
  | cons {v t vs ts} : R v t → Eac R vs ts → Eac R (v :: vs) (t :: ts)
section
variable {α : Type} {R R' : V → α → Prop} {vs ws : List V} {ts us : List α}
theorem Eac.imp (f : ∀ v t, R v t → R' v t) (h : Eac R vs ts) : Eac R' vs ts := by
  induction h with
  | nil => exact .nil
  | cons r _ ih => exact .cons (f _ _ r) ih
theorem Eac.len (h : Eac R vs ts) : vs.length = ts.length := by
  induction h with
  | nil => rfl
  | cons r _ ih => rw [List.length_cons, List.length_cons, ih]
theorem Eac.app (h : Eac R vs ts) (g : Eac R ws us) : Eac R (vs ++ ws) (ts ++ us) := by
  induction h with
  | nil => exact g
  | cons r _ ih => exact .cons r ih
theorem Eac.take (h : Eac R vs ts) (n : Nat) : Eac R (vs.take n) (ts.take n) := by
  induction h generalizing n with
  | nil => rw [List.take_nil, List.take_nil]; exact .nil
  | cons r _ ih =>
    cases n with
    | zero => exact .nil
    | succ n => exact .cons r (ih n)
theorem Eac.drop (h : Eac R vs ts) (n : Nat) : Eac R (vs.drop n) (ts.drop n) := by
  induction h generalizing n with
  | nil => rw [List.drop_nil, List.drop_nil]; exact .nil
  | cons r t ih =>
    cases n with
    | zero => exact .cons r t
    | succ n => exact ih n
theorem Eac.get (h : Eac R vs ts) {i : Nat} {v : V} (e : vs[i]? = some v) : ∃ t, ts[i]? = some t ∧ R v t := by
  induction h generalizing i with
  | nil => simp at e
  | cons r t ih =>
    cases i with
    | zero => simp at e; subst e; exact ⟨_, rfl, r⟩
    | succ i => obtain ⟨t, e', r⟩ := ih (i := i) (by simpa using e); exact ⟨t, by simpa using e', r⟩
end
def Row4 (H : Hp) (r : Addr) (ns : List NI) : Prop := ∃ vs, H r = some (.lst vs) ∧ Eac (Nd4 H) vs ns
def spelt (k : Int) (n : NI) : List Str := if n.rk < k then Str.ofString "(" :: (n.ws ++ [Str.ofString ")"]) else n.ws
def spelD (k : Int) (n : NI) : Nat := if n.rk < k then n.d + 1 else n.d
def sepB (b : Bool) : Str := if b then Str.ofString "and" else Str.ofString "or"
def maxD (k : Int) : List NI → Nat
  | [] => 0
  | n :: ns => max (spelD k n) (maxD k ns)
def joinN (b : Bool) (ns : List NI) : NI := ⟨joinT b (ns.map (·.t)), joinL (sepB b) (ns.map (spelt (leastB b))), if b then 2 else 1, maxD (leastB b) ns⟩
def Gd (m : Nat) (n : NI) : Prop := SpR n ∧ okT okCo n.t ∧ hgt n.t ≤ m ∧ (∀ w ∈ n.ws, okW w) ∧ n.ws ≠ []
def Gd6 (m : Nat) (n : NI) : Prop := Gd m n ∧ n.ws.length ≤ 60 ∧ n.d ≤ 6
theorem maxD_snoc (k : Int) (ns : List NI) (n : NI) : maxD k (ns ++ [n]) = max (maxD k ns) (spelD k n) := by
  induction ns with
  | nil => show max (spelD k n) 0 = max 0 (spelD k n); omega
  | cons u us ih => show max (spelD k u) (maxD k (us ++ [n])) = max (max (spelD k u) (maxD k us)) (spelD k n); rw [ih]; omega
theorem okW_br {ws : List Str} (h : ∀ w ∈ ws, okW w) : ∀ w ∈ Str.ofString "(" :: (ws ++ [Str.ofString ")"]), okW w := by
  intro w hw
  rcases List.mem_cons.mp hw with rfl | hw
  · exact ⟨by decide +kernel, by decide +kernel⟩
  · rcases List.mem_append.mp hw with hw | hw
    · exact h w hw
    · rw [List.mem_singleton.mp hw]; exact ⟨by decide +kernel, by decide +kernel⟩
theorem spelt_ok {m : Nat} {n : NI} (h : Gd m n) (k : Int) : (∀ w ∈ spelt k n, okW w) ∧ spelt k n ≠ [] := by
  unfold spelt
  split
  · exact ⟨okW_br h.2.2.2.1, by simp⟩
  · exact ⟨h.2.2.2.1, h.2.2.2.2⟩
theorem SpR.two {n : NI} (h : SpR n) : Spl wordsC okCo 2 n.ws n.t n.d := by
  rcases h with ⟨_, h⟩ | ⟨_, h⟩ | ⟨_, h⟩
  · exact .rows1 (.row1 h)
  · exact .rows1 h
  · exact h
theorem spelt3 {n : NI} (h : SpR n) : Spl wordsC okCo 0 (spelt 3 n) n.t (spelD 3 n) := by
  unfold spelt spelD
  by_cases c : n.rk < 3
  · rw [if_pos c, if_pos c]; exact .br h.two
  · rw [if_neg c, if_neg c]
    rcases h with ⟨_, h⟩ | ⟨e, h⟩ | ⟨e, h⟩
    · exact h
    · rw [e] at c; exact absurd (by decide) c
    · rw [e] at c; exact absurd (by decide) c
theorem spelt2 {n : NI} (h : SpR n) : Spl wordsC okCo 1 (spelt 2 n) n.t (spelD 2 n) := by
  unfold spelt spelD
  by_cases c : n.rk < 2
  · rw [if_pos c, if_pos c]; exact .row1 (.br h.two)
  · rw [if_neg c, if_neg c]
    rcases h with ⟨_, h⟩ | ⟨e, h⟩ | ⟨e, h⟩
    · exact .row1 h
    · exact h
    · rw [e] at c; exact absurd (by decide) c
theorem spls_mono {k : Nat} {wss : List (List Str)} {ts : List Cnd} {d d' : Nat} (h : Spls wordsC okCo k wss ts d) (hd : d ≤ d') : Spls wordsC okCo k wss ts d' := by
  induction h using Spls.rec (motive_1 := fun _ _ _ _ _ => True) with
  | nil => exact .nil
  | cons a b c ih1 ih2 => exact .cons a (Nat.le_trans b hd) (ih2 hd)
  | _ => trivial
theorem spls3 {ns : List NI} (h : ∀ n ∈ ns, SpR n) : Spls wordsC okCo 0 (ns.map (spelt 3)) (ns.map (·.t)) (maxD 3 ns) := by
  induction ns with
  | nil => exact .nil
  | cons n ns ih => exact .cons (spelt3 (h n List.mem_cons_self)) (Nat.le_max_left _ _) (spls_mono (ih fun u hu => h u (List.mem_cons_of_mem _ hu)) (Nat.le_max_right _ _))
theorem spls2 {ns : List NI} (h : ∀ n ∈ ns, SpR n) : Spls wordsC okCo 1 (ns.map (spelt 2)) (ns.map (·.t)) (maxD 2 ns) := by
  induction ns with
  | nil => exact .nil
  | cons n ns ih => exact .cons (spelt2 (h n List.mem_cons_self)) (Nat.le_max_left _ _) (spls_mono (ih fun u hu => h u (List.mem_cons_of_mem _ hu)) (Nat.le_max_right _ _))
theorem joinN_ok {b : Bool} {ns : List NI} {m : Nat} (h2 : 2 ≤ ns.length) (h8 : ns.length ≤ 8) (h : ∀ n ∈ ns, Gd m n) : Gd (m + 1) (joinN b ns) := by
  have hs : ∀ n ∈ ns, SpR n := fun n hn => (h n hn).1
  have l : (ns.map (·.t)).length = ns.length := List.length_map _
  have g1 : hgts (ns.map (·.t)) ≤ m := hgts_of fun t ht => by
    obtain ⟨n, hn, rfl⟩ := List.mem_map.mp ht
    exact (h n hn).2.2.1
  have g2 : okTs okCo (ns.map (·.t)) := okTs_of fun t ht => by
    obtain ⟨n, hn, rfl⟩ := List.mem_map.mp ht
    exact (h n hn).2.1
  have okb : okW (sepB b) := by cases b <;> exact ⟨by decide +kernel, by decide +kernel⟩
  have ow : ∀ w ∈ joinL (sepB b) (ns.map (spelt (leastB b))), okW w := joinL_all okb fun ws hws w hw => by
    obtain ⟨n, hn, rfl⟩ := List.mem_map.mp hws
    exact (spelt_ok (h n hn) _).1 w hw
  have ne : joinL (sepB b) (ns.map (spelt (leastB b))) ≠ [] := fun z => by
    cases ns with
    | nil => simp at h2
    | cons n ns =>
      have := joinL_mem_le (sepB b) (ws := (n :: ns).map (spelt (leastB b))) (w := spelt (leastB b) n) (by simp)
      rw [z, List.length_nil] at this
      exact (spelt_ok (h n List.mem_cons_self) (leastB b)).2 (List.length_eq_zero_iff.mp (by omega))
  cases b with
  | true =>
    refine ⟨.inr (.inl ⟨rfl, .rowN (spls3 hs) (by omega) (by omega)⟩), ?_, ?_, ow, ne⟩
    · show okT okCo (.al (ns.map (·.t))); unfold okT; exact ⟨by omega, by omega, g2⟩
    · show hgt (.al (ns.map (·.t))) ≤ m + 1; unfold hgt; omega
  | false =>
    refine ⟨.inr (.inr ⟨rfl, .rowsN (spls2 hs) (by omega) (by omega)⟩), ?_, ?_, ow, ne⟩
    · show okT okCo (.so (ns.map (·.t))); unfold okT; exact ⟨by omega, by omega, g2⟩
    · show hgt (.so (ns.map (·.t))) ≤ m + 1; unfold hgt; omega
theorem inn_le (k : Int) (t : Cnd) : (inn wordsC k t).length ≤ (wordsT wordsC t).length + 2 ∧ (wordsT wordsC t).length ≤ (inn wordsC k t).length := by
  unfold inn
  split
  · rw [List.length_cons, List.length_append, List.length_singleton]; omega
  · omega
theorem inn_23 (t : Cnd) : (inn wordsC 2 t).length ≤ (inn wordsC 3 t).length := by
  unfold inn
  by_cases c : prec t < 2
  · rw [if_pos c, if_pos (by omega)]; exact Nat.le_refl _
  · rw [if_neg c]
    exact (inn_le 3 t).2
theorem tail_le {b : Str} {f g : Cnd → List Str} : ∀ {ts : List Cnd} {wss : List (List Str)}, wss.length = ts.length → (∀ (i : Nat) (t : Cnd) (ws : List Str), ts[i]? = some t → wss[i]? = some ws → (f t).length ≤ ws.length) → (tailL b (ts.map f)).length ≤ (tailL b wss).length
  | [], [], _, _ => Nat.le_refl _
  | t :: ts, ws :: wss, hl, h => by
    rw [List.map_cons, tailL, tailL, List.length_cons, List.length_cons, List.length_append, List.length_append]
    have h0 := h 0 t ws rfl rfl
    have ih := tail_le (b := b) (f := f) (g := g) (ts := ts) (wss := wss) (by simpa using hl) fun i t ws e1 e2 => h (i + 1) t ws (by simpa using e1) (by simpa using e2)
    omega
  | [], _ :: _, hl, _ => by simp at hl
  | _ :: _, [], hl, _ => by simp at hl
theorem joinL_le {b : Str} {f : Cnd → List Str} {ts : List Cnd} {wss : List (List Str)} (hl : wss.length = ts.length) (h : ∀ (i : Nat) (t : Cnd) (ws : List Str), ts[i]? = some t → wss[i]? = some ws → (f t).length ≤ ws.length) : (joinL b (ts.map f)).length ≤ (joinL b wss).length := by
  cases ts with
  | nil => cases wss with
    | nil => exact Nat.le_refl _
    | cons _ _ => simp at hl
  | cons t ts => cases wss with
    | nil => simp at hl
    | cons ws wss =>
      rw [List.map_cons, joinL, joinL, List.length_append, List.length_append]
      have h0 := h 0 t ws rfl rfl
      have ih := tail_le (b := b) (f := f) (g := f) (ts := ts) (wss := wss) (by simpa using hl) fun i t ws e1 e2 => h (i + 1) t ws (by simpa using e1) (by simpa using e2)
      omega
def SL (k : Nat) (ws : List Str) (t : Cnd) : Prop := (k = 0 → (inn wordsC 3 t).length ≤ ws.length) ∧ (k = 1 → (inn wordsC 2 t).length ≤ ws.length) ∧ (k = 2 → (wordsT wordsC t).length ≤ ws.length)
theorem spl_len {k : Nat} {ws : List Str} {t : Cnd} {d : Nat} (h : Spl wordsC okCo k ws t d) : SL k ws t := by
  induction h using Spl.rec (motive_2 := fun k wss ts _ _ => ∀ (i : Nat) (t : Cnd) (ws : List Str), ts[i]? = some t → wss[i]? = some ws → SL k ws t) with
  | leaf h =>
    rename_i c d
    refine ⟨fun _ => ?_, fun z => (nomatch z), fun z => (nomatch z)⟩
    have : inn wordsC 3 (.at c) = wordsC c := by
      show (if (3 : Int) < 3 then _ else wordsT wordsC (.at c)) = _
      rw [if_neg (by decide), wordsT_at]
    rw [this]; exact Nat.le_refl _
  | no h ih =>
    rename_i ws t d
    refine ⟨fun _ => ?_, fun z => (nomatch z), fun z => (nomatch z)⟩
    have : inn wordsC 3 (.no t) = Str.ofString "not" :: inn wordsC 3 t := by
      show (if (3 : Int) < 3 then _ else wordsT wordsC (.no t)) = _
      rw [if_neg (by decide), wordsT_no]
    rw [this, List.length_cons, List.length_cons]
    have := ih.1 rfl
    omega
  | br h ih =>
    rename_i ws t d
    refine ⟨fun _ => ?_, fun z => (nomatch z), fun z => (nomatch z)⟩
    have := ih.2.2 rfl
    have := (inn_le 3 t).1
    rw [List.length_cons, List.length_append, List.length_singleton]
    omega
  | row1 h ih =>
    rename_i ws t d
    refine ⟨fun z => (nomatch z), fun _ => Nat.le_trans (inn_23 t) (ih.1 rfl), fun z => (nomatch z)⟩
  | rowN h h2 h8 ih =>
    rename_i wss ts d
    refine ⟨fun z => (nomatch z), fun _ => ?_, fun z => (nomatch z)⟩
    have : inn wordsC 2 (.al ts) = joinL (Str.ofString "and") (ts.map (inn wordsC 3)) := by
      show (if (2 : Int) < 2 then _ else wordsT wordsC (.al ts)) = _
      rw [if_neg (by decide), wordsT_al]
    rw [this]
    exact joinL_le h.len fun i t ws e1 e2 => (ih i t ws e1 e2).1 rfl
  | rows1 h ih =>
    rename_i ws t d
    refine ⟨fun z => (nomatch z), fun z => (nomatch z), fun _ => Nat.le_trans (inn_le 2 t).2 (ih.2.1 rfl)⟩
  | rowsN h h2 h8 ih =>
    rename_i wss ts d
    refine ⟨fun z => (nomatch z), fun z => (nomatch z), fun _ => ?_⟩
    rw [wordsT_so]
    exact joinL_le h.len fun i t ws e1 e2 => (ih i t ws e1 e2).2.1 rfl
  | nil =>
    rename_i i t ws e1 e2
    simp at e1
  | cons a b c ih1 ih2 =>
    rename_i k ws0 t0 d' wss ts d i t ws e1 e2
    cases i with
    | zero => simp at e1 e2; subst e1 e2; exact ih1
    | succ i => exact ih2 i t ws (by simpa using e1) (by simpa using e2)
def spSpelt : Sp := fun vs H Q _ => ∃ v n, ∃ k : Int, vs = [v, .int k] ∧ Nd4 H v n ∧ n.ws.length ≤ 100 ∧ ∀ r wl H', Same H H' → H' r = some (.tup [.ref wl, .int (spelD k n : Nat)]) → H' wl = some (.lst ((spelt k n).map V.str)) → Q (.ref r) H'
def spJoin4 : Sp := fun vs H Q _ => ∃ r ns b, vs = [.ref r, .str (kindS b)] ∧ Row4 H r ns ∧ ns.length ≤ 100 ∧ (∀ n ∈ ns, n.ws.length ≤ 100 ∧ n.ws ≠ []) ∧ ∀ v H', Same H H' → Nd4 H' v (joinN b ns) → Q v H'
def spStep4 : Sp := fun vs H Q _ => ∃ r pl ns, ∃ n : Int, ∃ m : Nat, vs = [.ref r, .int n, .ref pl] ∧ Row4 H r ns ∧ ns.length ≤ m ∧ m ≤ 63 ∧ (∀ n ∈ ns, Gd6 m n) ∧ PoolsAt H pl ∧
  ∀ r' ns' H', Same H H' → Row4 H' r' ns' → ns'.length ≤ m + 1 → 1 ≤ ns'.length → (∀ n ∈ ns', Gd6 (m + 1) n) → Q (.ref r') H'
def spTT (K : PySem.W.Frag) : Sp := fun vs H Q _ => ∃ a ns pl, vs = [.ref a, .ref pl] ∧ SqL K H a (List.map V.int ns) ∧ ns.length ≤ 63 ∧ PoolsAt H pl ∧ ∀ v n H', Same H H' → Nd4 H' v n → Gd6 65 n → Q v H'
theorem spelt_len (k : Int) (n : NI) : (spelt k n).length ≤ n.ws.length + 2 := by
  unfold spelt
  split
  · rw [List.length_cons, List.length_append, List.length_singleton]; omega
  · omega
theorem rank_at (b : Bool) : valV (mergeK [] [(Sum.inr "all", V.int 2), (Sum.inr "some", V.int 1)]) (Sum.inr (kindS b)) = some (.int (if b then 2 else 1)) := by
  cases b <;> rfl
theorem sep_at (b : Bool) : valV (mergeK [] [(Sum.inr "all", V.str (Str.ofString "and")), (Sum.inr "some", V.str (Str.ofString "or"))]) (Sum.inr (kindS b)) = some (.str (sepB b)) := by
  cases b <;> rfl
theorem joinL_all_le (b : Str) {ws : List (List Str)} (h : ∀ w ∈ ws, w.length ≤ 102) : (joinL b ws).length ≤ 103 * ws.length := by
  have tl : ∀ {ws : List (List Str)}, (∀ w ∈ ws, w.length ≤ 102) → (tailL b ws).length ≤ 103 * ws.length := by
    intro ws
    induction ws with
    | nil => intro _; exact Nat.zero_le _
    | cons w ws ih =>
      intro h
      have h0 := h w List.mem_cons_self
      have := ih fun v hv => h v (List.mem_cons_of_mem _ hv)
      rw [tailL, List.length_cons, List.length_append, List.length_cons]
      omega
  cases ws with
  | nil => exact Nat.zero_le _
  | cons w ws =>
    have h0 := h w List.mem_cons_self
    have := tl fun v hv => h v (List.mem_cons_of_mem _ hv)
    rw [joinL, List.length_append, List.length_cons]
    omega
section
seal L2.PS L2.PSs L2.PE L2.PA
variable {P : Program} {w : World} {K : PySem.W.Frag} {mg : Str → Option Value} {base : Heap}
theorem sc__law_spelt : FnScope ["_law_node", "_law_least"] ["_law_node", "_law_least"] (defScope s__law_spelt) := ⟨rfl, rfl, rfl, by decide +kernel, rfl, by decide +kernel, by decide +kernel⟩
theorem ok__law_spelt {f : Addr} {fd : FuncData} (F : Fun K "_law_spelt" "_law_spelt" s__law_spelt f fd) : FnOk P w K mg base CX0 1 f fd ["_law_node", "_law_least"] spSpelt := by
  have sc := sc__law_spelt
  refine F.ok sc (fun vs H Q E h => ?_) (fun cdv A outer s H vs Q E hr h => ?_)
  · obtain ⟨_, _, _, rfl, _⟩ := h
    rfl
  obtain ⟨v, n, k, rfl, ⟨a, wt, wl, rfl, ha, tr, hw⟩, l100, q⟩ := h
  have one : 1 ≤ sizeLine := by rw [sizeLine_eq]; decide
  have two : 2 ≤ sizeLine := by rw [sizeLine_eq]; decide
  refine ⟨_, (pss_cons (ps_if (pt_cmpR op_lt (pe_ix ix_tup (pv 0) pe_int (fun _ _ => rfl)) (pv 1) (nomark _))
        (pss_one (ps_ret (pe_tup (pa_cons (pe_op op_cat (pe_op op_cat (pe_lst (pa_cons pe_str pa_nil)) (pe_ix ix_tup (pv 0) pe_int (fun _ _ => rfl))) (pe_lst (pa_cons pe_str pa_nil))) (pa_cons (pe_op op_add (pe_ix ix_tup (pv 0) pe_int (fun _ _ => rfl)) pe_int) pa_nil)))))
        pss_nil)
      (pss_one (ps_ret (pe_tup (pa_cons (pe_ix ix_tup (pv 0) pe_int (fun _ _ => rfl)) (pa_cons (pe_ix ix_tup (pv 0) pe_int (fun _ _ => rfl)) pa_nil)))))), ?_⟩
  refine ⟨_, rfl, a, _, _, _, rfl, rfl, SqT.of ha, rfl, _, rfl, _, _, rfl, rfl, _, rfl, ite2 (fun c => ?_) (fun c => ?_)⟩
  · have c : n.rk < k := of_decide_eq_true c
    unfold spelt spelD at q
    rw [if_pos c, if_pos c] at q
    refine ⟨one, fun l1 n1 => ?_⟩
    have s1 := same_new n1 (.lst [.str (Str.ofString "(")])
    refine ⟨_, rfl, a, _, _, _, rfl, rfl, SqT.of (s1 _ _ ha), rfl, l1, wl, _, _, rfl, rfl, upd_same, s1 _ _ hw, (by rw [List.length_map, sizeLine_eq]; show 1 + _ ≤ _; omega), fun l2 n2 => ?_⟩
    have s2 := same_new n2 (.lst ([.str (Str.ofString "(")] ++ n.ws.map V.str))
    refine ⟨one, fun l3 n3 => ?_⟩
    have s3 := same_new n3 (.lst [.str (Str.ofString ")")])
    refine ⟨l2, l3, _, _, rfl, rfl, s3 _ _ upd_same, upd_same, (by rw [List.length_append, List.length_map, sizeLine_eq]; show 1 + _ + 1 ≤ _; omega), fun l4 n4 => ?_⟩
    have s4 := same_new n4 (.lst ([.str (Str.ofString "(")] ++ n.ws.map V.str ++ [.str (Str.ofString ")")]))
    have S4 := s1.trans (s2.trans (s3.trans s4))
    refine ⟨_, rfl, a, _, _, _, rfl, rfl, SqT.of (S4 _ _ ha), rfl, _, _, rfl, rfl, two, fun r nr => q r l4 _ (S4.trans (same_new nr _)) ?_ ?_⟩
    · exact upd_same
    · rw [List.map_cons, List.map_append]
      exact same_new nr _ _ _ upd_same
  · have c : ¬ n.rk < k := fun z => c (decide_eq_true z)
    unfold spelt spelD at q
    rw [if_neg c, if_neg c] at q
    exact ⟨_, rfl, a, _, _, _, rfl, rfl, SqT.of ha, rfl, _, rfl, a, _, _, _, rfl, rfl, SqT.of ha, rfl, two, fun r nr => q r wl _ (same_new nr _) upd_same (same_new nr _ _ _ hw)⟩
theorem sc__law_join : FnScope ["_law_row", "_law_kind", "_law_words_here", "_law_deep", "_law_node", "_law_more"] ["_law_row", "_law_kind"] (defScope s__law_join) := ⟨rfl, rfl, rfl, by decide +kernel, rfl, by decide +kernel, by decide +kernel⟩
theorem ok__law_join {f : Addr} {fd : FuncData} (F : Fun K "_law_join" "_law_join" s__law_join f fd) (T : Txt K mg) (C_law_spelt : Cal P w K mg base 1 "_law_spelt" ["_law_node", "_law_least"] spSpelt) : FnOk P w K mg base CX0 2 f fd ["_law_row", "_law_kind"] spJoin4 := by
  have sc := sc__law_join
  refine F.ok sc (fun vs H Q E h => ?_) (fun cdv A outer s H vs Q E hr h => ?_)
  · obtain ⟨_, _, _, rfl, _⟩ := h
    rfl
  obtain ⟨r, ns, b, rfl, ⟨vs, hr', ev⟩, l100, gd, q⟩ := h
  have hu2 := hu_of hr
  have hu0 := hr.units0
  have hl := ev.len
  have one : 1 ≤ sizeLine := by rw [sizeLine_eq]; decide
  have two : 2 ≤ sizeLine := by rw [sizeLine_eq]; decide
  have four : 4 ≤ sizeLine := by rw [sizeLine_eq]; decide
  refine ⟨_, (pss_cons (ps_set (i := 2) sc.nd rfl (Or.inl rfl) (pe_lst pa_nil))
      (pss_cons (ps_set (i := 3) sc.nd rfl (Or.inl rfl) pe_int)
      (pss_cons (ps_for PassesOwn.never rfl (pi_list (pv 0)) (pg_name (i := 4) sc.nd rfl (Or.inl rfl))
        (pss_cons (ps_set (i := 5) sc.nd rfl (Or.inl rfl) (pe_callC C_law_spelt (hr.mono (by decide)) rfl (pa_cons (pv 4) (pa_cons (pe_ix ix_list (pe_lst (pa_cons pe_int (pa_cons pe_int pa_nil))) (pe_callTy call_int1 rfl T.n_int (show bootBuiltins _ = some (.type "int") from rfl) (pa_cons (pe_cmpR op_eq (pv 1) pe_str (nomark _)) pa_nil)) (fun _ _ => rfl)) pa_nil))))
      (pss_cons (ps_if (pt_cmpR (op_neE hu0) (pv 2) (pe_lst pa_nil) (nomark _))
        (pss_one (ps_set (i := 2) sc.nd rfl (Or.inl rfl) (pe_op op_cat (pv 2) (pe_lst (pa_cons (pe_dget hu2 (pe_disp (pps_cons pe_str pe_str (pps_cons pe_str pe_str pps_nil)) rfl rfl (by simp) (by decide)) (pv 1) (fun _ _ => rfl)) pa_nil)))))
        pss_nil)
      (pss_cons (ps_set (i := 2) sc.nd rfl (Or.inl rfl) (pe_op op_cat (pv 2) (pe_ix ix_tup (pv 5) pe_int (fun _ _ => rfl))))
      (pss_one (ps_set (i := 3) sc.nd rfl (Or.inl rfl) (pe_callB (call_max2 rfl) rfl T.n_max (show bootBuiltins _ = some (.builtin "max") from rfl) (pa_cons (pv 3) (pa_cons (pe_ix ix_tup (pv 5) pe_int (fun _ _ => rfl)) pa_nil)))))))))
      (pss_one (ps_ret (pe_tup (pa_cons (pe_tup (pa_cons (pv 1) (pa_cons (pe_comp (NC := ["_law_node"]) (own := ["_law_node"]) (cs := []) (ix := []) rfl (CompScope.of rfl) rfl trivial (pi_list (pv 0)) (fun _ _ _ => (pg_name (i := 0) (show (["_law_node"] : List Str).Nodup from by decide +kernel) rfl (Or.inl rfl))) (fun _ _ _ => pts_nil) (fun _ _ _ => (pe_ix (ix_tupK (K := K) rfl) (pv 0) pe_int (fun _ _ => rfl)))) pa_nil))) (pa_cons (pv 2) (pa_cons (pe_dget hu2 (pe_disp (pps_cons pe_str pe_int (pps_cons pe_str pe_int pps_nil)) rfl rfl (by simp) (by decide)) (pv 1) (fun _ _ => rfl)) (pa_cons (pv 3) pa_nil)))))))))), ?_⟩
  refine ⟨Nat.zero_le _, fun l0 n0 => ?_⟩
  have s0 := same_new n0 (.lst [])
  refine atG [some (.ref r), some (.str (kindS b)), some (.ref l0), none, none, none] rfl ?_
  refine seqC [some (.ref r), some (.str (kindS b)), some (.ref l0), some (.int 0), none, none] rfl ?_
  have all_le : ∀ i, (joinL (sepB b) ((ns.take i).map (spelt (leastB b)))).length ≤ 10300 := fun i => by
    have h1 := joinL_all_le (sepB b) (ws := (ns.take i).map (spelt (leastB b))) fun w hw => by
      obtain ⟨n, hn, rfl⟩ := List.mem_map.mp hw
      have := (gd n (List.mem_of_mem_take hn)).1
      have := spelt_len (leastB b) n
      omega
    rw [List.length_map, List.length_take] at h1
    omega
  refine ⟨_, rfl, r, rfl, ⟨_, SqL.of (s0 _ _ hr')⟩, ?_⟩
  refine for_list (K := K) (a := r) (xs := vs) (fun i σ H2 => ∃ l o4 o5, σ = [some (.ref r), some (.str (kindS b)), some (.ref l), some (.int (maxD (leastB b) (ns.take i) : Nat)), o4, o5] ∧ Same H H2 ∧ H2 l = some (.lst ((joinL (sepB b) ((ns.take i).map (spelt (leastB b)))).map V.str))) ⟨l0, none, none, rfl, s0, upd_same⟩ (fun i σ H2 _ ⟨_, _, _, _, e, _⟩ => SqL.of (e _ _ hr')) ?_ ?_
  · rintro i v σ H2 hi ⟨l, o4, o5, rfl, s2, h2⟩
    obtain ⟨n, et, nd⟩ := ev.get hi
    have il := (List.getElem?_eq_some_iff.mp et).1
    have gn := gd n (List.mem_of_getElem? et)
    refine ⟨_, rfl, two, fun l1 n1 => ?_⟩
    have s3 := s2.trans (same_new n1 (.lst [.int 2, .int 3]))
    refine ⟨_, rfl, rfl, .inr ⟨_, rfl, l1, _, _, _, rfl, rfl, SqL.of upd_same, kind_ix b, v, n, leastB b, rfl, nd.same s3, gn.1, fun x wl H3 s4 hx hwl => ?_⟩⟩
    refine atG [some (.ref r), some (.str (kindS b)), some (.ref l), some (.int (maxD (leastB b) (ns.take i) : Nat)), some v, some (.ref x)] rfl ?_
    have h3 := s4 _ _ (same_new n1 (.lst [.int 2, .int 3]) _ _ h2)
    have S3 := s3.trans s4
    have emp : (((joinL (sepB b) ((ns.take i).map (spelt (leastB b)))).map V.str).isEmpty = true ↔ i = 0) := by
      constructor
      · intro z
        cases i with
        | zero => rfl
        | succ i =>
          have e0 : ns[0]? = some (ns[0]'(by omega)) := List.getElem?_eq_getElem _
          have g0 := (gd _ (List.mem_of_getElem? e0)).2
          have l1 := joinL_mem_le (sepB b) (ws := (ns.take (i + 1)).map (spelt (leastB b))) (w := spelt (leastB b) (ns[0]'(by omega))) (List.mem_map.mpr ⟨_, by rw [List.mem_take_iff_getElem]; exact ⟨0, by omega, rfl⟩, rfl⟩)
          rw [List.isEmpty_iff, List.map_eq_nil_iff] at z
          rw [z, List.length_nil] at l1
          exfalso
          have l2 : (spelt (leastB b) (ns[0]'(by omega))).length = 0 := by omega
          unfold spelt at l2
          split at l2
          · simp at l2
          · exact g0 (List.length_eq_zero_iff.mp l2)
      · intro z
        rw [z, List.take_zero]
        rfl
    have sn : joinL (sepB b) ((ns.take (i + 1)).map (spelt (leastB b))) = (if i = 0 then [] else joinL (sepB b) ((ns.take i).map (spelt (leastB b))) ++ [sepB b]) ++ spelt (leastB b) n := by
      rw [take_snoc et, List.map_append]
      by_cases c : i = 0
      · subst c
        rw [if_pos rfl, List.take_zero]
        show spelt (leastB b) n ++ [] = _
        rw [List.append_nil]; rfl
      · rw [if_neg c]
        show joinL _ (_ ++ [spelt (leastB b) n]) = _
        rw [joinL_snoc]
        · rw [List.append_assoc]; rfl
        · intro z
          have e := congrArg List.length z
          rw [List.length_map, List.length_take, List.length_nil] at e
          omega
    refine seqIn (fun σ' H' => ∃ l', σ' = [some (.ref r), some (.str (kindS b)), some (.ref l'), some (.int (maxD (leastB b) (ns.take i) : Nat)), some v, some (.ref x)] ∧ Same H3 H' ∧ H' l' = some (.lst ((if i = 0 then [] else joinL (sepB b) ((ns.take i).map (spelt (leastB b))) ++ [sepB b]).map V.str))) (fun N R => ?_) ?_
    · refine ⟨_, rfl, Nat.zero_le _, fun le nle => ⟨l, le, _, rfl, rfl, SqL.of (same_new nle _ _ _ h3), SqL.of upd_same, _, rfl, ?_⟩⟩
      have s5 := same_new nle (.lst [])
      have h5 := s5 _ _ h3
      by_cases c : i = 0
      · refine bF (by show (!_) = false; rw [emp.mpr c]; rfl) (R _ _ ⟨l, rfl, s5, ?_⟩)
        rw [h5, if_pos c, c, List.take_zero]
        rfl
      · refine bT (by
          show (!_) = true
          cases z : ((joinL (sepB b) ((ns.take i).map (spelt (leastB b)))).map V.str).isEmpty with
          | false => rfl
          | true => exact absurd (emp.mp z) c) ?_
        refine ⟨_, rfl, fun d hd => ⟨upd_same, [(Sum.inr "all", V.str (Str.ofString "and")), (Sum.inr "some", V.str (Str.ofString "or"))], rfl, by decide, _, rfl, d, .str (sepB b), rfl, ?_, one, fun l4 n4 => ?_⟩⟩
        · have g := DGet.k (H := upd (upd (upd H3 le (.lst [])) d (.dK [])) d (.dK (mergeK [] [(Sum.inr "all", V.str (Str.ofString "and")), (Sum.inr "some", V.str (Str.ofString "or"))]))) (a := d) (k := Sum.inr (kindS b)) upd_same
          rw [sep_at] at g
          exact g
        have s6 : Same H3 (upd (upd (upd H3 le (.lst [])) d (.dK [])) d (.dK (mergeK [] [(Sum.inr "all", V.str (Str.ofString "and")), (Sum.inr "some", V.str (Str.ofString "or"))]))) := fun b o e => by
          have e3 := s5 _ _ e
          have n := ne_of_none e3 hd
          rw [upd_ne n, upd_ne n]; exact e3
        have s7 := same_new n4 (.lst [.str (sepB b)])
        refine ⟨l, l4, _, _, rfl, rfl, s7 _ _ (s6 _ _ h3), upd_same, (by rw [List.length_map, sizeLine_eq]; have := all_le i; show _ + 1 ≤ _; omega), fun l5 n5 => R _ _ ⟨l5, rfl, s6.trans (s7.trans (same_new n5 _)), ?_⟩⟩
        rw [if_neg c, List.map_append]
        exact upd_same
    rintro _ H4 ⟨l', rfl, s5, h4⟩
    have hx4 := s5 _ _ hx
    have hwl4 := s5 _ _ hwl
    refine ⟨_, rfl, _, rfl, x, _, _, _, rfl, rfl, SqT.of hx4, rfl, l', wl, _, _, rfl, rfl, h4, hwl4, ?_, fun l6 n6 => ?_⟩
    · rw [List.length_map, List.length_map, sizeLine_eq]
      have h1 := spelt_len (leastB b) n
      have h2 := gn.1
      have h3 : (if i = 0 then [] else joinL (sepB b) ((ns.take i).map (spelt (leastB b))) ++ [sepB b]).length ≤ 10301 := by
        split
        · simp
        · rw [List.length_append]; have := all_le i; show _ + 1 ≤ _; omega
      omega
    have s6 := same_new n6 (.lst ((if i = 0 then [] else joinL (sepB b) ((ns.take i).map (spelt (leastB b))) ++ [sepB b]).map V.str ++ (spelt (leastB b) n).map V.str))
    refine ⟨_, rfl, _, rfl, x, _, _, _, rfl, rfl, SqT.of (s6 _ _ hx4), rfl, _, _, rfl, l6, some v, some (.ref x), ?_, S3.trans (s5.trans s6), ?_⟩
    · rw [take_snoc et, maxD_snoc, maxI_eq, show ((max (maxD (leastB b) (ns.take i)) (spelD (leastB b) n) : Nat) : Int) = max ((maxD (leastB b) (ns.take i) : Nat) : Int) ((spelD (leastB b) n : Nat) : Int) by omega]
      rfl
    · rw [sn, List.map_append]
      exact upd_same
  · rintro σ H2 ⟨l, o4, o5, rfl, s2, h2⟩
    rw [show ns.take vs.length = ns by rw [hl, List.take_length]] at h2 ⊢
    refine ⟨_, rfl, _, rfl, r, rfl, ⟨_, SqL.of (s2 _ _ hr')⟩, fun p hp => ?_⟩
    refine comp_list (K := K) (a := r) (xs := vs) (fun i ys H3 => H3 p = some (.lst ys) ∧ ys.length = i ∧ Same H2 H3 ∧ Each (TrAt H2) ys ((ns.take i).map (·.t))) ⟨upd_same, rfl, same_new hp _, by rw [List.take_zero]; exact .nil⟩ (fun i ys H3 _ ⟨h1, h2, h3, _⟩ => ⟨h1, by omega, SqL.of (h3 _ _ (s2 _ _ hr'))⟩) (by rw [hl, sizeLine_eq]; omega) ?_ ?_
    · rintro i v ys H3 hi ⟨h1, h2', h3, h4⟩
      obtain ⟨n, et, a, w', wl, rfl, ha, ht, hwl⟩ := ev.get hi
      refine ⟨_, rfl, a, _, _, _, rfl, rfl, SqT.of (h3 _ _ (s2 _ _ ha)), rfl, h1, rfl, upd_same, by rw [List.length_append, h2']; rfl, same_upd hp h3, ?_⟩
      rw [take_snoc et, List.map_append]
      exact h4.app (.cons (ht.same s2) .nil)
    · rintro ys H3 ⟨h1, h2', h3, h4⟩
      rw [hl, List.take_length] at h4
      refine ⟨two, fun t1 n1 => ?_⟩
      have s5 := same_new n1 (.tup [.str (kindS b), .ref p])
      refine ⟨_, rfl, fun d hd => ⟨upd_same, [(Sum.inr "all", V.int 2), (Sum.inr "some", V.int 1)], rfl, by decide, _, rfl, d, .int (if b then 2 else 1), rfl, ?_, _, rfl, four, fun t2 n2 => ?_⟩⟩
      · have g := DGet.k (H := upd (upd (upd H3 t1 (.tup [.str (kindS b), .ref p])) d (.dK [])) d (.dK (mergeK [] [(Sum.inr "all", V.int 2), (Sum.inr "some", V.int 1)]))) (a := d) (k := Sum.inr (kindS b)) upd_same
        rw [rank_at] at g
        exact g
      have s6 : Same (upd H3 t1 (.tup [.str (kindS b), .ref p])) (upd (upd (upd H3 t1 (.tup [.str (kindS b), .ref p])) d (.dK [])) d (.dK (mergeK [] [(Sum.inr "all", V.int 2), (Sum.inr "some", V.int 1)]))) := fun b o e => by
        have n := ne_of_none e hd
        rw [upd_ne n, upd_ne n]; exact e
      have s7 := same_new n2 (.tup [.ref t1, .ref l, .int (if b then 2 else 1), .int (maxD (leastB b) ns : Nat)])
      have S5 := s5.trans (s6.trans s7)
      have g1 := s6.trans s7 _ _ (upd_same (H := H3) (a := t1) (o := .tup [.str (kindS b), .ref p]))
      have tr := h4.trs.same (h3.trans S5)
      refine q _ _ (s2.trans (h3.trans S5)) ⟨t2, .ref t1, l, rfl, upd_same, ?_, S5 _ _ (h3 _ _ h2)⟩
      cases b with
      | true => show TrAt _ _ (.al (ns.map (·.t))); unfold TrAt; exact ⟨t1, p, ys, rfl, g1, S5 _ _ h1, tr⟩
      | false => show TrAt _ _ (.so (ns.map (·.t))); unfold TrAt; exact ⟨t1, p, ys, rfl, g1, S5 _ _ h1, tr⟩
end
theorem gd_mono {m n : Nat} {x : NI} (h : Gd m x) (e : m ≤ n) : Gd n x := ⟨h.1, h.2.1, Nat.le_trans h.2.2.1 e, h.2.2.2⟩
theorem gd6_mono {m n : Nat} {x : NI} (h : Gd6 m x) (e : m ≤ n) : Gd6 n x := ⟨gd_mono h.1 e, h.2⟩
section
seal L2.PS L2.PSs L2.PE L2.PA
variable {P : Program} {w : World} {K : PySem.W.Frag} {mg : Str → Option Value} {base : Heap}
theorem sc__law_step : FnScope ["_law_row", "_law_number", "_law_pools_here", "_law_way", "_law_size", "_law_made", "_law_more", "_law_leaf_here"] ["_law_row", "_law_number", "_law_pools_here"] (defScope s__law_step) := ⟨rfl, rfl, rfl, by decide +kernel, rfl, by decide +kernel, by decide +kernel⟩
theorem ok__law_step {f : Addr} {fd : FuncData} (F : Fun K "_law_step" "_law_step" s__law_step f fd) (T : Txt K mg) (C_law_spelt : Cal P w K mg base 1 "_law_spelt" ["_law_node", "_law_least"] spSpelt) (C_law_join : Cal P w K mg base 2 "_law_join" ["_law_row", "_law_kind"] spJoin4) (C_law_leaf : Cal P w K mg base 1 "_law_leaf" ["_law_number", "_law_pools_here"] spLeaf) (C_law_words : Cal P w K mg base 3 "_law_words" ["_law_tree"] (spLW 1)) : FnOk P w K mg base CX0 4 f fd ["_law_row", "_law_number", "_law_pools_here"] spStep4 := by
  have sc := sc__law_step
  refine F.ok sc (fun vs H Q E h => ?_) (fun cdv A outer s H vs Q E hr h => ?_)
  · obtain ⟨_, _, _, _, _, rfl, _⟩ := h
    rfl
  obtain ⟨r, pl, ns, n, m, rfl, ⟨vs, hv, ev⟩, tl, m63, hg, hpl, q⟩ := h
  have hu0 := hr.units0
  have hl := ev.len
  have one : 1 ≤ sizeLine := by rw [sizeLine_eq]; decide
  have two : 2 ≤ sizeLine := by rw [sizeLine_eq]; decide
  have four : 4 ≤ sizeLine := by rw [sizeLine_eq]; decide
  refine ⟨_, (pss_cons (ps_set (i := 3) sc.nd rfl (Or.inl rfl) (pe_op op_mod (pv 1) pe_int))
      (pss_cons (ps_set (i := 4) sc.nd rfl (Or.inl rfl) (pe_callB (call_min2 rfl) rfl T.n_min (show bootBuiltins _ = some (.builtin "min") from rfl) (pa_cons (pe_callB call_len_seq rfl T.n_len (show bootBuiltins _ = some (.builtin "len") from rfl) (pa_cons (pv 0) pa_nil)) (pa_cons (pe_op op_add pe_int (pe_op op_mod (pe_op op_fdiv (pv 1) pe_int) pe_int)) pa_nil))))
      (pss_cons (ps_set (i := 5) sc.nd rfl (Or.inl rfl) pe_non)
      (pss_cons (ps_if (PW.pt (pw_and (pt_cmpR op_eq (pv 3) pe_int (nomark _)) (pw_and1 (pt_cmpR (op_neE hu0) (pv 0) (pe_lst pa_nil) (nomark _)))))
        (pss_cons (ps_set (i := 4) sc.nd rfl (Or.inl rfl) pe_int)
      (pss_cons (ps_set (i := 6) sc.nd rfl (Or.inl rfl) (pe_callC C_law_spelt (hr.mono (by decide)) rfl (pa_cons (pe_ix ix_list (pv 0) (pe_un un_neg pe_int) (fun _ _ => rfl)) (pa_cons pe_int pa_nil))))
      (pss_one (ps_set (i := 5) sc.nd rfl (Or.inl rfl) (pe_tup (pa_cons (pe_tup (pa_cons pe_str (pa_cons (pe_ix ix_tup (pe_ix ix_list (pv 0) (pe_un un_neg pe_int) (fun _ _ => rfl)) pe_int (fun _ _ => rfl)) pa_nil))) (pa_cons (pe_op op_cat (pe_lst (pa_cons pe_str pa_nil)) (pe_ix ix_tup (pv 6) pe_int (fun _ _ => rfl))) (pa_cons pe_int (pa_cons (pe_op op_add (pe_ix ix_tup (pv 6) pe_int (fun _ _ => rfl)) pe_int) pa_nil)))))))))
        pss_nil)
      (pss_cons (ps_if (PW.pt (pw_and (pt_cmpR op_eq (pv 3) pe_int (nomark _)) (pw_and1 (pt_cmpR (op_neE hu0) (pv 0) (pe_lst pa_nil) (nomark _)))))
        (pss_cons (ps_set (i := 4) sc.nd rfl (Or.inl rfl) pe_int)
      (pss_one (ps_set (i := 5) sc.nd rfl (Or.inl rfl) (pe_tup (pa_cons (pe_ix ix_tup (pe_ix ix_list (pv 0) (pe_un un_neg pe_int) (fun _ _ => rfl)) pe_int (fun _ _ => rfl)) (pa_cons (pe_op op_cat (pe_op op_cat (pe_lst (pa_cons pe_str pa_nil)) (pe_ix ix_tup (pe_ix ix_list (pv 0) (pe_un un_neg pe_int) (fun _ _ => rfl)) pe_int (fun _ _ => rfl))) (pe_lst (pa_cons pe_str pa_nil))) (pa_cons pe_int (pa_cons (pe_op op_add (pe_ix ix_tup (pe_ix ix_list (pv 0) (pe_un un_neg pe_int) (fun _ _ => rfl)) pe_int (fun _ _ => rfl)) pe_int) pa_nil))))))))
        pss_nil)
      (pss_cons (ps_if (PW.pt (pw_and (pt_cmpR op_gt (pv 3) pe_int (nomark _)) (pw_and1 (pt_cmpR op_gt (pv 4) pe_int (nomark _)))))
        (pss_one (ps_set (i := 5) sc.nd rfl (Or.inl rfl) (pe_callC C_law_join (hr.mono (by decide)) rfl (pa_cons (pe_slice sl_list (pv 0) (po_some (pe_un un_neg (pv 4))) po_none) (pa_cons (pe_ix ix_list (pe_lst (pa_cons pe_str (pa_cons pe_str pa_nil))) (pe_op op_mod (pe_op op_fdiv (pv 1) pe_int) pe_int) (fun _ _ => rfl)) pa_nil)))))
        pss_nil)
      (pss_cons (ps_if (PW.pt (pw_or (pt_cmpR op_isN (pv 5) pe_non (nomark _)) (pw_or (pt_cmpR op_gt (pe_callB call_len_seq rfl T.n_len (show bootBuiltins _ = some (.builtin "len") from rfl) (pa_cons (pe_ix ix_tup (pv 5) pe_int (fun _ _ => rfl)) pa_nil)) pe_int (nomark _)) (pw_or1 (pt_cmpR op_gt (pe_ix ix_tup (pv 5) pe_int (fun _ _ => rfl)) pe_int (nomark _))))))
        (pss_cons (ps_set (i := 7) sc.nd rfl (Or.inl rfl) (pe_callC C_law_leaf (hr.mono (by decide)) rfl (pa_cons (pe_op op_fdiv (pv 1) pe_int) (pa_cons (pv 2) pa_nil))))
      (pss_one (ps_ret (pe_op op_cat (pv 0) (pe_lst (pa_cons (pe_tup (pa_cons (pv 7) (pa_cons (pe_callC C_law_words (hr.mono (by decide)) rfl (pa_cons (pv 7) pa_nil)) (pa_cons pe_int (pa_cons pe_int pa_nil))))) pa_nil))))))
        pss_nil)
      (pss_one (ps_ret (pe_op op_cat (pe_slice sl_list (pv 0) po_none (po_some (pe_op op_sub (pe_callB call_len_seq rfl T.n_len (show bootBuiltins _ = some (.builtin "len") from rfl) (pa_cons (pv 0) pa_nil)) (pv 4)))) (pe_lst (pa_cons (pv 5) pa_nil)))))))))))), ?_⟩
  refine ⟨_, rfl, _, _, rfl, rfl, (by show (0 : Int) < 9; decide), ?_⟩
  refine hideI 0 8 (md (by decide)) fun way w0 w8 => ?_
  refine atG [some (.ref r), some (.int n), some (.ref pl), some (.int way), none, none, none, none] rfl ?_
  refine ⟨_, rfl, r, _, rfl, .inl (SqL.of hv), _, rfl, _, _, rfl, rfl, ⟨by decide, by decide⟩, _, _, rfl, rfl, (by show (0 : Int) < 7; decide), _, _, rfl, rfl, _, _, rfl, ?_⟩
  have kd : ∃ k : Nat, (if 2 + n / 9 % 7 < (vs.length : Int) then 2 + n / 9 % 7 else (vs.length : Int)) = (k : Int) ∧ k ≤ 8 ∧ k ≤ vs.length := by
    have b := md (a := n / 9) (b := 7) (by decide)
    refine ⟨(if 2 + n / 9 % 7 < (vs.length : Int) then 2 + n / 9 % 7 else (vs.length : Int)).toNat, ?_, ?_, ?_⟩ <;> (split <;> omega)
  obtain ⟨k, ek, k8, kl⟩ := kd
  rw [ek]
  refine atG [some (.ref r), some (.int n), some (.ref pl), some (.int way), some (.int k), none, none, none] rfl ?_
  refine seqC [some (.ref r), some (.int n), some (.ref pl), some (.int way), some (.int k), some .non, none, none] rfl ?_
  refine seqIn (fun σ H' => ∃ (sz : Int) (mv : V) (o6 : Option V), σ = [some (.ref r), some (.int n), some (.ref pl), some (.int way), some (.int sz), some mv, o6, none] ∧ Same H H' ∧ ((mv = .non ∧ sz = k) ∨ (way = 4 ∧ sz = 1 ∧ 1 ≤ ns.length ∧ ∃ ni, Nd4 H' mv ni ∧ Gd (m + 1) ni))) (fun N R => ?_) ?_
  · refine ⟨_, rfl, rfl, _, rfl, ite2 (fun c => ?_) (fun c => ?_)⟩
    · have w4 : way = 4 := V.int.inj (of_decide_eq_true c)
      refine ⟨_, rfl, Nat.zero_le _, fun le hle => ⟨r, le, vs, rfl, rfl, SqL.of (same_new hle _ _ _ hv), SqL.of upd_same, _, rfl, ?_⟩⟩
      have s1 := same_new hle (.lst [])
      refine ite2 (fun c => ?_) (fun c => ?_)
      · have hne : vs ≠ [] := fun z => by rw [z] at c; cases c
        have hpos : 0 < vs.length := List.length_pos_iff.mpr hne
        have el : vs[vs.length - 1]? = some (vs[vs.length - 1]'(by omega)) := List.getElem?_eq_getElem _
        obtain ⟨ni, et, nd⟩ := ev.get el
        generalize vs[vs.length - 1]'(by omega) = v at el nd
        have gn := hg ni (List.mem_of_getElem? et)
        have al : atI vs (-1) = some v := by
          unfold atI ixN
          rw [if_neg (by decide), if_pos (by omega)]
          show vs[(-1 + (vs.length : Int)).toNat]? = some v
          rw [show (-1 + (vs.length : Int)).toNat = vs.length - 1 by omega]
          exact el
        refine seqC [some (.ref r), some (.int n), some (.ref pl), some (.int way), some (.int 1), some .non, none, none] rfl ?_
        have sl := spelt_len 3 ni
        have wl60 := gn.2.1
        refine ⟨_, rfl, _, rfl, r, _, _, _, rfl, rfl, SqL.of (s1 _ _ hv), al, v, ni, 3, rfl, nd.same s1, by omega, fun x wl H3 s3 hx hwl => ?_⟩
        refine atG [some (.ref r), some (.int n), some (.ref pl), some (.int way), some (.int 1), some .non, some (.ref x), none] rfl ?_
        have s13 := s1.trans s3
        obtain ⟨pa, wa, wla, rfl, ha, hta, hwa⟩ := nd
        refine ⟨_, rfl, _, rfl, r, _, _, _, rfl, rfl, SqL.of (s13 _ _ hv), al, pa, _, _, _, rfl, rfl, SqT.of (s13 _ _ ha), rfl, two, fun t1 n1 => ?_⟩
        have s4 := same_new n1 (.tup [.str "not", wa])
        refine ⟨one, fun l1 nl1 => ?_⟩
        have s5 := same_new nl1 (.lst [.str (Str.ofString "not")])
        refine ⟨_, rfl, x, _, _, _, rfl, rfl, SqT.of (s5 _ _ (s4 _ _ hx)), rfl, l1, wl, _, _, rfl, rfl, upd_same, s5 _ _ (s4 _ _ hwl), (by rw [List.length_map, sizeLine_eq]; show 1 + _ ≤ _; omega), fun l2 nl2 => ?_⟩
        have s6 := same_new nl2 (.lst ([.str (Str.ofString "not")] ++ (spelt 3 ni).map V.str))
        refine ⟨_, rfl, x, _, _, _, rfl, rfl, SqT.of (s6 _ _ (s5 _ _ (s4 _ _ hx))), rfl, _, _, rfl, rfl, four, fun t2 n2 => ?_⟩
        have s7 := same_new n2 (.tup [.ref t1, .ref l2, .int 3, .int (((spelD 3 ni : Nat) : Int) + 1)])
        have S7 := s13.trans (s4.trans (s5.trans (s6.trans s7)))
        refine R _ _ ⟨1, .ref t2, some (.ref x), rfl, S7, .inr ⟨w4, rfl, by omega, ⟨.no ni.t, Str.ofString "not" :: spelt 3 ni, 3, spelD 3 ni + 1⟩, ⟨t2, .ref t1, l2, rfl, upd_same, ?_, ?_⟩, .inl ⟨rfl, .no (spelt3 gn.1.1)⟩, ?_, ?_, ?_, by simp⟩⟩
        · show TrAt _ _ (.no ni.t)
          unfold TrAt
          exact ⟨t1, wa, rfl, s7 _ _ (s6 _ _ (s5 _ _ upd_same)), hta.same S7⟩
        · show _ = some (HO.lst ((Str.ofString "not" :: spelt 3 ni).map V.str))
          rw [List.map_cons]
          exact s7 _ _ upd_same
        · show okT okCo (.no ni.t); unfold okT; exact gn.1.2.1
        · show hgt (.no ni.t) ≤ m + 1; unfold hgt; have := gn.1.2.2.1; omega
        · intro w hw
          rcases List.mem_cons.mp hw with rfl | hw
          · exact ⟨by decide +kernel, by decide +kernel⟩
          · exact (spelt_ok gn.1 3).1 w hw
      · exact R _ _ ⟨k, .non, none, rfl, s1, .inl ⟨rfl, rfl⟩⟩
    · exact iteF (R _ _ ⟨k, .non, none, rfl, Same.refl _, .inl ⟨rfl, rfl⟩⟩)
  rintro _ H2 ⟨sz, mv, o6, rfl, s2, alt⟩
  refine seqI (fun σ H' => ∃ (sz : Int) (mv : V) (o6 : Option V), σ = [some (.ref r), some (.int n), some (.ref pl), some (.int way), some (.int sz), some mv, o6, none] ∧ Same H H' ∧ ((mv = .non ∧ sz = k) ∨ (way ≤ 5 ∧ sz = 1 ∧ 1 ≤ ns.length ∧ ∃ ni, Nd4 H' mv ni ∧ Gd (m + 1) ni))) (fun N R => ?_) ?_
  · refine ⟨_, rfl, rfl, _, rfl, ite2 (fun c => ?_) (fun c => ?_)⟩
    · have w5 : way = 5 := V.int.inj (of_decide_eq_true c)
      rcases alt with ⟨rfl, rfl⟩ | ⟨z, _⟩
      case inr => omega
      refine ⟨_, rfl, Nat.zero_le _, fun le hle => ⟨r, le, vs, rfl, rfl, SqL.of (same_new hle _ _ _ (s2 _ _ hv)), SqL.of upd_same, _, rfl, ?_⟩⟩
      have s1 := s2.trans (same_new hle (.lst []))
      refine ite2 (fun c => ?_) (fun c => ?_)
      · have hne : vs ≠ [] := fun z => by rw [z] at c; cases c
        have hpos : 0 < vs.length := List.length_pos_iff.mpr hne
        have el : vs[vs.length - 1]? = some (vs[vs.length - 1]'(by omega)) := List.getElem?_eq_getElem _
        obtain ⟨ni, et, nd⟩ := ev.get el
        generalize vs[vs.length - 1]'(by omega) = v at el nd
        have gn := hg ni (List.mem_of_getElem? et)
        have al : atI vs (-1) = some v := by
          unfold atI ixN
          rw [if_neg (by decide), if_pos (by omega)]
          show vs[(-1 + (vs.length : Int)).toNat]? = some v
          rw [show (-1 + (vs.length : Int)).toNat = vs.length - 1 by omega]
          exact el
        refine seqC [some (.ref r), some (.int n), some (.ref pl), some (.int way), some (.int 1), some .non, o6, none] rfl ?_
        have wl60 := gn.2.1
        obtain ⟨pa, wa, wla, rfl, ha, hta, hwa⟩ := nd
        refine ⟨_, rfl, _, rfl, r, _, _, _, rfl, rfl, SqL.of (s1 _ _ hv), al, pa, _, _, _, rfl, rfl, SqT.of (s1 _ _ ha), rfl, one, fun l1 nl1 => ?_⟩
        have s4 := s1.trans (same_new nl1 (.lst [.str (Str.ofString "(")]))
        refine ⟨_, rfl, _, rfl, r, _, _, _, rfl, rfl, SqL.of (s4 _ _ hv), al, pa, _, _, _, rfl, rfl, SqT.of (s4 _ _ ha), rfl, l1, wla, _, _, rfl, rfl, upd_same, s4 _ _ hwa, (by rw [List.length_map, sizeLine_eq]; show 1 + _ ≤ _; omega), fun l2 nl2 => ?_⟩
        have s5 := same_new nl2 (.lst ([.str (Str.ofString "(")] ++ ni.ws.map V.str))
        refine ⟨one, fun l3 nl3 => ?_⟩
        have s6 := same_new nl3 (.lst [.str (Str.ofString ")")])
        refine ⟨l2, l3, _, _, rfl, rfl, s6 _ _ upd_same, upd_same, (by rw [List.length_append, List.length_map, sizeLine_eq]; show 1 + _ + 1 ≤ _; omega), fun l4 nl4 => ?_⟩
        have s7 := same_new nl4 (.lst ([.str (Str.ofString "(")] ++ ni.ws.map V.str ++ [.str (Str.ofString ")")]))
        have S7 := s4.trans (s5.trans (s6.trans s7))
        refine ⟨_, rfl, _, rfl, r, _, _, _, rfl, rfl, SqL.of (S7 _ _ hv), al, pa, _, _, _, rfl, rfl, SqT.of (S7 _ _ ha), rfl, _, _, rfl, rfl, four, fun t2 n2 => ?_⟩
        have s8 := same_new n2 (.tup [wa, .ref l4, .int 3, .int ((ni.d : Int) + 1)])
        refine R _ _ ⟨1, .ref t2, o6, rfl, S7.trans s8, .inr ⟨by omega, rfl, by omega, ⟨ni.t, Str.ofString "(" :: (ni.ws ++ [Str.ofString ")"]), 3, ni.d + 1⟩, ⟨t2, wa, l4, rfl, upd_same, hta.same (S7.trans s8), ?_⟩, .inl ⟨rfl, .br gn.1.1.two⟩, gn.1.2.1, ?_, okW_br gn.1.2.2.2.1, by simp⟩⟩
        · show _ = some (HO.lst ((Str.ofString "(" :: (ni.ws ++ [Str.ofString ")"])).map V.str))
          rw [List.map_cons, List.map_append]
          exact s8 _ _ upd_same
        · show hgt ni.t ≤ m + 1; have := gn.1.2.2.1; omega
      · exact R _ _ ⟨_, _, _, rfl, s1, .inl ⟨rfl, rfl⟩⟩
    · refine iteF ?_
      rcases alt with ⟨rfl, rfl⟩ | ⟨w4, z⟩
      · exact R _ _ ⟨_, _, _, rfl, s2, .inl ⟨rfl, rfl⟩⟩
      · exact R _ _ ⟨_, _, _, rfl, s2, .inr ⟨by omega, z⟩⟩
  clear alt s2
  rintro _ H2 ⟨sz, mv, o6, rfl, s2, alt⟩
  refine seqI (fun σ H' => ∃ (sz : Int) (mv : V) (o6 : Option V), σ = [some (.ref r), some (.int n), some (.ref pl), some (.int way), some (.int sz), some mv, o6, none] ∧ Same H H' ∧ (mv = .non ∨ ∃ (k' : Nat) (ni : NI), sz = k' ∧ 1 ≤ k' ∧ k' ≤ ns.length ∧ Nd4 H' mv ni ∧ Gd (m + 1) ni)) (fun N R => ?_) ?_
  · refine ⟨_, rfl, _, _, rfl, rfl, _, rfl, ite2 (fun c => ?_) (fun c => ?_)⟩
    · have w5 : 5 < way := of_decide_eq_true c
      rcases alt with ⟨rfl, rfl⟩ | ⟨z, _⟩
      case inr => omega
      refine ⟨_, rfl, _, _, rfl, rfl, _, rfl, ite2 (fun c => ?_) (fun c => ?_)⟩
      · have k1 : (1 : Int) < k := of_decide_eq_true c
        refine ⟨_, rfl, _, rfl, _, rfl, _, rfl, r, vs, rfl, SqL.of (s2 _ _ hv), fun p hp => ?_⟩
        rw [cut_last vs (by omega) kl]
        have s3 := same_new hp (.lst (vs.drop (vs.length - k)))
        refine ⟨two, fun l hl' => ?_⟩
        have s4 := same_new hl' (.lst [.str "all", .str "some"])
        have b2 := md (a := n / 63) (b := 2) (by decide)
        obtain ⟨b, eb⟩ := kind_at b2.1 (by omega)
        have S := s2.trans (s3.trans s4)
        have ev' : Eac (Nd4 (upd (upd H2 p (.lst (vs.drop (vs.length - k)))) l (.lst [.str "all", .str "some"]))) (vs.drop (vs.length - k)) (ns.drop (vs.length - k)) := (ev.drop _).imp fun _ _ => Nd4.same S
        have dl : (ns.drop (vs.length - k)).length = k := by rw [List.length_drop]; omega
        refine ⟨_, rfl, _, _, rfl, rfl, ⟨by decide, by decide⟩, _, _, rfl, rfl, (by show (0 : Int) < 2; decide), l, _, _, _, rfl, rfl, SqL.of upd_same, eb, p, ns.drop (vs.length - k), b, rfl, ⟨_, s4 _ _ upd_same, ev'⟩, by omega, fun x hx => ⟨by have := (hg x (List.mem_of_mem_drop hx)).2.1; omega, (hg x (List.mem_of_mem_drop hx)).1.2.2.2.2⟩, fun v H5 s5 nd => ?_⟩
        exact R _ _ ⟨k, v, o6, rfl, S.trans s5, .inr ⟨k, _, rfl, by omega, by omega, nd, joinN_ok (by omega) (by omega) fun x hx => (hg x (List.mem_of_mem_drop hx)).1⟩⟩
      · exact R _ _ ⟨_, _, _, rfl, s2, .inl rfl⟩
    · refine iteF ?_
      rcases alt with ⟨rfl, _⟩ | ⟨_, rfl, t1, ni, nd, gi⟩
      · exact R _ _ ⟨_, _, _, rfl, s2, .inl rfl⟩
      · exact R _ _ ⟨_, _, _, rfl, s2, .inr ⟨1, ni, rfl, by omega, by omega, nd, gi⟩⟩
  clear alt s2 ek
  rintro _ H2 ⟨sz, mv, o6, rfl, s2, alt⟩
  rcases alt with rfl | ⟨k', ni, rfl, k1, k2, ⟨a, wt, wl, rfl, ha, tr, hwl⟩, gi⟩
  · refine ⟨_, rfl, rfl, _, rfl, dT rfl (iteT ?_)⟩
    refine ⟨_, rfl, _, _, rfl, rfl, ⟨by decide, by decide⟩, _, rfl, _, pl, rfl, hpl.same s2, fun v c H3 s3 tr oc => ?_⟩
    refine atG [some (.ref r), some (.int n), some (.ref pl), some (.int way), some (.int sz), some .non, o6, some v] rfl ?_
    have s23 := s2.trans s3
    have lc : (wordsC c).length ≤ 3 := by cases c <;> (show (_ : Nat) ≤ 3; simp [wordsC])
    refine ⟨_, rfl, _, rfl, _, rfl, v, .at c, rfl, tr, by unfold hgt; omega, by unfold okT; exact oc, by rw [wordsT_at]; omega, fun lw H4 s4 hlw => ⟨four, fun t ht => ⟨one, fun l hl' => ?_⟩⟩⟩
    rw [wordsT_at] at hlw
    have s5 := same_new ht (.tup [v, .ref lw, .int 3, .int 0])
    have s6 := same_new hl' (.lst [.ref t])
    have S := s23.trans (s4.trans (s5.trans s6))
    refine ⟨r, l, _, _, rfl, rfl, S _ _ hv, upd_same, (by rw [sizeLine_eq]; show _ + 1 ≤ _; omega), fun l2 hl2 => ?_⟩
    have s7 := same_new hl2 (.lst (vs ++ [.ref t]))
    have nd : Nd4 _ (.ref t) ⟨.at c, wordsC c, 3, 0⟩ := ⟨t, v, lw, rfl, s7 _ _ (s6 _ _ upd_same), tr.same (s4.trans (s5.trans (s6.trans s7))), s7 _ _ (s6 _ _ (s5 _ _ hlw))⟩
    refine q l2 (ns ++ [⟨.at c, wordsC c, 3, 0⟩]) _ (S.trans s7) ⟨_, upd_same, (ev.imp fun _ _ => Nd4.same (S.trans s7)).app (.cons nd .nil)⟩ (by rw [List.length_append]; show _ + 1 ≤ _; omega) (by rw [List.length_append]; show 1 ≤ _ + 1; omega) fun n' hn' => ?_
    rcases List.mem_append.mp hn' with h | h
    · exact gd6_mono (hg n' h) (by omega)
    · rw [List.mem_singleton.mp h]
      refine ⟨⟨.inl ⟨rfl, .leaf oc⟩, by show okT okCo (.at c); unfold okT; exact oc, by show hgt (.at c) ≤ _; unfold hgt; omega, okW_C c oc, fun z => ?_⟩, by show (wordsC c).length ≤ 60; omega, by show 0 ≤ 6; decide⟩
      cases c <;> simp [wordsC] at z
  have lm : (ni.ws.map V.str).length = ni.ws.length := List.length_map _
  refine ⟨_, rfl, rfl, _, rfl, dF (by intro z; cases z) ⟨_, rfl, a, _, _, _, rfl, rfl, SqT.of ha, rfl, wl, _, rfl, .inl (SqL.of hwl), _, _, rfl, rfl, _, rfl, ite2 (fun c => iteT ?_) (fun c1 => ⟨_, rfl, a, _, _, _, rfl, rfl, SqT.of ha, rfl, _, _, rfl, rfl, _, rfl, ite2 (fun c => ?_) (fun c2 => ?_)⟩)⟩⟩
  · generalize (k' : Int) = sz
    refine ⟨_, rfl, _, _, rfl, rfl, ⟨by decide, by decide⟩, _, rfl, _, pl, rfl, hpl.same s2, fun v c H3 s3 tr oc => ?_⟩
    refine atG [some (.ref r), some (.int n), some (.ref pl), some (.int way), some (.int sz), some (.ref a), o6, some v] rfl ?_
    have s23 := s2.trans s3
    have lc : (wordsC c).length ≤ 3 := by cases c <;> (show (_ : Nat) ≤ 3; simp [wordsC])
    refine ⟨_, rfl, _, rfl, _, rfl, v, .at c, rfl, tr, by unfold hgt; omega, by unfold okT; exact oc, by rw [wordsT_at]; omega, fun lw H4 s4 hlw => ⟨four, fun t ht => ⟨one, fun l hl' => ?_⟩⟩⟩
    rw [wordsT_at] at hlw
    have s5 := same_new ht (.tup [v, .ref lw, .int 3, .int 0])
    have s6 := same_new hl' (.lst [.ref t])
    have S := s23.trans (s4.trans (s5.trans s6))
    refine ⟨r, l, _, _, rfl, rfl, S _ _ hv, upd_same, (by rw [sizeLine_eq]; show _ + 1 ≤ _; omega), fun l2 hl2 => ?_⟩
    have s7 := same_new hl2 (.lst (vs ++ [.ref t]))
    have nd : Nd4 _ (.ref t) ⟨.at c, wordsC c, 3, 0⟩ := ⟨t, v, lw, rfl, s7 _ _ (s6 _ _ upd_same), tr.same (s4.trans (s5.trans (s6.trans s7))), s7 _ _ (s6 _ _ (s5 _ _ hlw))⟩
    refine q l2 (ns ++ [⟨.at c, wordsC c, 3, 0⟩]) _ (S.trans s7) ⟨_, upd_same, (ev.imp fun _ _ => Nd4.same (S.trans s7)).app (.cons nd .nil)⟩ (by rw [List.length_append]; show _ + 1 ≤ _; omega) (by rw [List.length_append]; show 1 ≤ _ + 1; omega) fun n' hn' => ?_
    rcases List.mem_append.mp hn' with h | h
    · exact gd6_mono (hg n' h) (by omega)
    · rw [List.mem_singleton.mp h]
      refine ⟨⟨.inl ⟨rfl, .leaf oc⟩, by show okT okCo (.at c); unfold okT; exact oc, by show hgt (.at c) ≤ _; unfold hgt; omega, okW_C c oc, fun z => ?_⟩, by show (wordsC c).length ≤ 60; omega, by show 0 ≤ 6; decide⟩
      cases c <;> simp [wordsC] at z
  · generalize (k' : Int) = sz
    refine ⟨_, rfl, _, _, rfl, rfl, ⟨by decide, by decide⟩, _, rfl, _, pl, rfl, hpl.same s2, fun v c H3 s3 tr oc => ?_⟩
    refine atG [some (.ref r), some (.int n), some (.ref pl), some (.int way), some (.int sz), some (.ref a), o6, some v] rfl ?_
    have s23 := s2.trans s3
    have lc : (wordsC c).length ≤ 3 := by cases c <;> (show (_ : Nat) ≤ 3; simp [wordsC])
    refine ⟨_, rfl, _, rfl, _, rfl, v, .at c, rfl, tr, by unfold hgt; omega, by unfold okT; exact oc, by rw [wordsT_at]; omega, fun lw H4 s4 hlw => ⟨four, fun t ht => ⟨one, fun l hl' => ?_⟩⟩⟩
    rw [wordsT_at] at hlw
    have s5 := same_new ht (.tup [v, .ref lw, .int 3, .int 0])
    have s6 := same_new hl' (.lst [.ref t])
    have S := s23.trans (s4.trans (s5.trans s6))
    refine ⟨r, l, _, _, rfl, rfl, S _ _ hv, upd_same, (by rw [sizeLine_eq]; show _ + 1 ≤ _; omega), fun l2 hl2 => ?_⟩
    have s7 := same_new hl2 (.lst (vs ++ [.ref t]))
    have nd : Nd4 _ (.ref t) ⟨.at c, wordsC c, 3, 0⟩ := ⟨t, v, lw, rfl, s7 _ _ (s6 _ _ upd_same), tr.same (s4.trans (s5.trans (s6.trans s7))), s7 _ _ (s6 _ _ (s5 _ _ hlw))⟩
    refine q l2 (ns ++ [⟨.at c, wordsC c, 3, 0⟩]) _ (S.trans s7) ⟨_, upd_same, (ev.imp fun _ _ => Nd4.same (S.trans s7)).app (.cons nd .nil)⟩ (by rw [List.length_append]; show _ + 1 ≤ _; omega) (by rw [List.length_append]; show 1 ≤ _ + 1; omega) fun n' hn' => ?_
    rcases List.mem_append.mp hn' with h | h
    · exact gd6_mono (hg n' h) (by omega)
    · rw [List.mem_singleton.mp h]
      refine ⟨⟨.inl ⟨rfl, .leaf oc⟩, by show okT okCo (.at c); unfold okT; exact oc, by show hgt (.at c) ≤ _; unfold hgt; omega, okW_C c oc, fun z => ?_⟩, by show (wordsC c).length ≤ 60; omega, by show 0 ≤ 6; decide⟩
      cases c <;> simp [wordsC] at z
  have c1 : ni.ws.length ≤ 60 := by
    have : ¬ (60 : Int) < ((ni.ws.map V.str).length : Int) := fun z => c1 (decide_eq_true z)
    omega
  have c2 : ni.d ≤ 6 := by
    have : ¬ (6 : Int) < (ni.d : Int) := fun z => c2 (decide_eq_true z)
    omega
  refine ⟨_, rfl, _, rfl, r, _, rfl, .inl (SqL.of (s2 _ _ hv)), _, rfl, _, _, rfl, rfl, _, rfl, r, vs, rfl, SqL.of (s2 _ _ hv), fun p hp => ?_⟩
  rw [show (vs.length : Int) - (k' : Int) = ((vs.length - k' : Nat) : Int) by omega, cut_first vs (by omega)]
  have s3 := same_new hp (.lst (vs.take (vs.length - k')))
  refine ⟨_, rfl, one, fun l hl' => ?_⟩
  have s4 := same_new hl' (.lst [.ref a])
  refine ⟨p, l, _, _, rfl, rfl, s4 _ _ upd_same, upd_same, (by rw [List.length_take, sizeLine_eq]; show _ + 1 ≤ _; omega), fun l2 hl2 => ?_⟩
  have s5 := same_new hl2 (.lst (vs.take (vs.length - k') ++ [.ref a]))
  have S := s3.trans (s4.trans s5)
  have nd : Nd4 _ (.ref a) ni := Nd4.same S ⟨a, wt, wl, rfl, ha, tr, hwl⟩
  refine q l2 (ns.take (vs.length - k') ++ [ni]) _ (s2.trans S) ⟨_, upd_same, ((ev.take _).imp fun _ _ => Nd4.same (s2.trans S)).app (.cons nd .nil)⟩ (by rw [List.length_append, List.length_take]; show _ + 1 ≤ _; omega) (by rw [List.length_append]; show 1 ≤ _ + 1; omega) fun n' h => ?_
  rcases List.mem_append.mp h with h | h
  · exact gd6_mono (hg n' (List.mem_of_mem_take h)) (by omega)
  · rw [List.mem_singleton.mp h]
    exact ⟨gi, c1, c2⟩
theorem sc__law_text_tree : FnScope ["_law_script", "_law_pools_here", "_law_row", "_law_k", "_law_size", "_law_made"] ["_law_script", "_law_pools_here"] (defScope s__law_text_tree) := ⟨rfl, rfl, rfl, by decide +kernel, rfl, by decide +kernel, by decide +kernel⟩
theorem ok__law_text_tree {f : Addr} {fd : FuncData} (F : Fun K "_law_text_tree" "_law_text_tree" s__law_text_tree f fd) (T : Txt K mg) (C_law_cell : Cal P w K mg base 1 "_law_cell" ["_law_script", "_law_k"] (spCellN K)) (C_law_mix : Cal P w K mg base 1 "_law_mix" ["_law_number", "_law_k"] spMix) (C_law_step : Cal P w K mg base 4 "_law_step" ["_law_row", "_law_number", "_law_pools_here"] spStep4) (C_law_join : Cal P w K mg base 2 "_law_join" ["_law_row", "_law_kind"] spJoin4) : FnOk P w K mg base CX0 5 f fd ["_law_script", "_law_pools_here"] (spTT K) := by
  have sc := sc__law_text_tree
  refine F.ok sc (fun vs H Q E h => ?_) (fun cdv A outer s H vs Q E hr h => ?_)
  · obtain ⟨_, _, _, rfl, _⟩ := h
    rfl
  obtain ⟨a, ns, pl, rfl, ha, h63, hpl, q⟩ := h
  have two : 2 ≤ sizeLine := by rw [sizeLine_eq]; decide
  have hln : (List.map V.int ns).length = ns.length := List.length_map _
  refine ⟨_, (pss_cons (ps_set (i := 2) sc.nd rfl (Or.inl rfl) (pe_lst pa_nil))
      (pss_cons (ps_for PassesOwn.never rfl (pi_rangeL rfl T.n_range (pa_cons pe_int (pa_cons (pe_callB (call_max2 rfl) rfl T.n_max (show bootBuiltins _ = some (.builtin "max") from rfl) (pa_cons pe_int (pa_cons (pe_callB (call_min2 rfl) rfl T.n_min (show bootBuiltins _ = some (.builtin "min") from rfl) (pa_cons (pe_callB call_len_seq rfl T.n_len (show bootBuiltins _ = some (.builtin "len") from rfl) (pa_cons (pv 0) pa_nil)) (pa_cons pe_int pa_nil))) pa_nil))) pa_nil))) (pg_name (i := 3) sc.nd rfl (Or.inl rfl))
        (pss_one (ps_set (i := 2) sc.nd rfl (Or.inl rfl) (pe_callC C_law_step (hr.mono (by decide)) rfl (pa_cons (pv 2) (pa_cons (pe_callC C_law_mix (hr.mono (by decide)) rfl (pa_cons (pe_callC C_law_cell (hr.mono (by decide)) rfl (pa_cons (pv 0) (pa_cons (pv 3) pa_nil))) (pa_cons (pv 3) pa_nil))) (pa_cons (pv 1) pa_nil)))))))
      (pss_cons (ps_for PassesOwn.never rfl (pi_rangeD rfl T.n_range (pa_cons (pe_callB (call_min2 rfl) rfl T.n_min (show bootBuiltins _ = some (.builtin "min") from rfl) (pa_cons pe_int (pa_cons (pe_callB call_len_seq rfl T.n_len (show bootBuiltins _ = some (.builtin "len") from rfl) (pa_cons (pv 2) pa_nil)) pa_nil))) (pa_cons pe_int (pa_cons (pe_un un_neg pe_int) pa_nil)))) (pg_name (i := 4) sc.nd rfl (Or.inl rfl))
        (pss_cons (ps_set (i := 5) sc.nd rfl (Or.inl rfl) (pe_callC C_law_join (hr.mono (by decide)) rfl (pa_cons (pe_slice sl_list (pv 2) (po_some (pe_un un_neg (pv 4))) po_none) (pa_cons (pe_ix ix_list (pe_lst (pa_cons pe_str (pa_cons pe_str pa_nil))) (pe_op op_mod (pe_callB call_len_seq rfl T.n_len (show bootBuiltins _ = some (.builtin "len") from rfl) (pa_cons (pv 0) pa_nil)) pe_int) (fun _ _ => rfl)) pa_nil))))
      (pss_one (ps_if (PW.pt (pw_and (pt_cmpR op_le (pe_callB call_len_seq rfl T.n_len (show bootBuiltins _ = some (.builtin "len") from rfl) (pa_cons (pe_ix ix_tup (pv 5) pe_int (fun _ _ => rfl)) pa_nil)) pe_int (nomark _)) (pw_and1 (pt_cmpR op_le (pe_ix ix_tup (pv 5) pe_int (fun _ _ => rfl)) pe_int (nomark _)))))
        (pss_one (ps_ret (pv 5)))
        pss_nil))))
      (pss_one (ps_ret (pe_ix ix_list (pv 2) (pe_un un_neg pe_int) (fun _ _ => rfl))))))), ?_⟩
  refine ⟨Nat.zero_le _, fun r0 n0 => ?_⟩
  have s0 := same_new n0 (.lst [])
  refine atG [some (.ref a), some (.ref pl), some (.ref r0), none, none, none] rfl ?_
  refine ⟨_, rfl, a, _, rfl, .inl (s0.seq ha), _, _, rfl, _, _, rfl, _, _, rfl, ?_⟩
  have cnt : ∃ c : Nat, ((if (if (63 : Int) < ((List.map V.int ns).length : Int) then 63 else ((List.map V.int ns).length : Int)) > 13 then (if (63 : Int) < ((List.map V.int ns).length : Int) then 63 else ((List.map V.int ns).length : Int)) else 13) - 4).toNat = c ∧ 1 ≤ c ∧ c ≤ 63 := by
    rw [hln]
    refine ⟨_, rfl, ?_, ?_⟩ <;> (repeat' split) <;> omega
  obtain ⟨c, ec, c1, c63⟩ := cnt
  rw [ec]
  refine for_range (lo := 4) (n := c) (fun i σ H2 => ∃ r ts o4, σ = [some (.ref a), some (.ref pl), some (.ref r), o4, none, none] ∧ Same H H2 ∧ Row4 H2 r ts ∧ ts.length ≤ i ∧ (0 < i → 1 ≤ ts.length) ∧ ∀ t ∈ ts, Gd6 i t) ⟨r0, [], none, rfl, s0, ⟨[], upd_same, .nil⟩, Nat.le_refl _, fun z => absurd z (Nat.lt_irrefl _), fun t ht => by cases ht⟩ ?_ ?_
  · rintro i σ H2 hi ⟨r, ts, o4, rfl, s2, row, l1, l2, gd⟩
    refine ⟨_, rfl, _, rfl, _, rfl, a, ns, _, rfl, s2.seq ha, by omega, by omega, h63, fun x x0 x1 => ⟨_, rfl, x, _, rfl, x0, by omega, by omega, by omega, fun y y0 y1 => ⟨_, rfl, r, pl, ts, y, i, rfl, row, l1, by omega, gd, hpl.same s2, fun r' ts' H3 s3 row' l1' l2' gd' => ?_⟩⟩⟩
    exact ⟨r', ts', _, rfl, s2.trans s3, row', l1', fun _ => l2', gd'⟩
  rintro σ H2 ⟨r, ts, o4, rfl, s2, ⟨vs, hv, ev⟩, l1, l2, gd⟩
  have hl := ev.len
  have l2 := l2 (by omega)
  refine ⟨_, rfl, r, _, rfl, .inl (SqL.of hv), _, _, rfl, _, rfl, ?_⟩
  have kd : ∃ k : Nat, (if (vs.length : Int) < 8 then (vs.length : Int) else 8) = (k : Int) ∧ 1 ≤ k ∧ k ≤ 8 ∧ k ≤ vs.length := by
    refine ⟨(if (vs.length : Int) < 8 then (vs.length : Int) else 8).toNat, ?_, ?_, ?_, ?_⟩ <;> (split <;> omega)
  obtain ⟨k, ek, k1, k8, kl⟩ := kd
  rw [ek]
  have el : vs[vs.length - 1]? = some (vs[vs.length - 1]'(by omega)) := List.getElem?_eq_getElem _
  obtain ⟨tl, etl, ndl⟩ := ev.get el
  generalize vs[vs.length - 1]'(by omega) = vl at el ndl
  have al : atI vs (-1) = some vl := by
    unfold atI ixN
    rw [if_neg (by decide), if_pos (by omega)]
    show vs[(-1 + (vs.length : Int)).toNat]? = some vl
    rw [show (-1 + (vs.length : Int)).toNat = vs.length - 1 by omega]
    exact el
  refine ⟨(k : Int), 1, -1, rfl, ?_, by decide, by decide, ?_⟩
  · have k9 : k = 1 ∨ k = 2 ∨ k = 3 ∨ k = 4 ∨ k = 5 ∨ k = 6 ∨ k = 7 ∨ k = 8 := by omega
    rcases k9 with rfl | rfl | rfl | rfl | rfl | rfl | rfl | rfl <;> rfl
  rw [size_down]
  refine for_rangeK (lo := k) (c := -1) (n := ((k : Int) - 1).toNat) (fun i σ H3 => (∃ o5 o6, σ = [some (.ref a), some (.ref pl), some (.ref r), o4, o5, o6]) ∧ Same H2 H3) ⟨⟨none, none, rfl⟩, Same.refl _⟩ ?_ ?_
  · rintro i σ H3 hi ⟨⟨o5, o6, rfl⟩, s3⟩
    obtain ⟨j, ej, j2, jk⟩ : ∃ j : Nat, (k : Int) + (i : Int) * -1 = (j : Int) ∧ 2 ≤ j ∧ j ≤ k := ⟨k - i, by omega, by omega, by omega⟩
    rw [ej]
    refine ⟨_, rfl, _, rfl, _, rfl, _, rfl, r, vs, rfl, SqL.of (s3 _ _ hv), fun p hp => ?_⟩
    rw [cut_last vs (by omega) (by omega)]
    have s4 := same_new hp (.lst (vs.drop (vs.length - j)))
    refine ⟨two, fun l hl' => ?_⟩
    have s5 := same_new hl' (.lst [.str "some", .str "all"])
    have S := s3.trans (s4.trans s5)
    have b2 := md (a := ((List.map V.int ns).length : Int)) (b := 2) (by decide)
    obtain ⟨b, eb⟩ := kind_at' b2.1 (by omega)
    have ev' : Eac (Nd4 (upd (upd H3 p (.lst (vs.drop (vs.length - j)))) l (.lst [.str "some", .str "all"]))) (vs.drop (vs.length - j)) (ts.drop (vs.length - j)) := (ev.drop _).imp fun _ _ => Nd4.same S
    have dl : (ts.drop (vs.length - j)).length = j := by rw [List.length_drop]; omega
    refine ⟨_, rfl, a, _, rfl, .inl ((s2.trans S).seq ha), _, _, rfl, rfl, (by show (0 : Int) < 2; decide), l, _, _, _, rfl, rfl, SqL.of upd_same, eb, p, ts.drop (vs.length - j), b, rfl, ⟨_, s5 _ _ upd_same, ev'⟩, by omega, fun x hx => ⟨by have := (gd x (List.mem_of_mem_drop hx)).2.1; omega, (gd x (List.mem_of_mem_drop hx)).1.2.2.2.2⟩, fun v H5 s6 nd => ?_⟩
    have jo : Gd (c + 1) (joinN b (ts.drop (vs.length - j))) := joinN_ok (by omega) (by omega) fun t ht => (gd t (List.mem_of_mem_drop ht)).1
    have nd' := nd
    obtain ⟨pa, wa, wl, rfl, ha', hta, hwl⟩ := nd
    have lm : ((joinN b (ts.drop (vs.length - j))).ws.map V.str).length = (joinN b (ts.drop (vs.length - j))).ws.length := List.length_map _
    refine atG [some (.ref a), some (.ref pl), some (.ref r), o4, some (.int j), some (.ref pa)] rfl ?_
    refine ⟨_, rfl, pa, _, _, _, rfl, rfl, SqT.of ha', rfl, wl, _, rfl, .inl (SqL.of hwl), _, _, rfl, rfl, _, rfl, ite2 (fun c1 => ?_) (fun c1 => iteF ⟨⟨_, _, rfl⟩, S.trans s6⟩)⟩
    refine ⟨_, rfl, pa, _, _, _, rfl, rfl, SqT.of ha', rfl, _, _, rfl, rfl, _, rfl, ite2 (fun c2 => ?_) (fun c2 => ⟨⟨_, _, rfl⟩, S.trans s6⟩)⟩
    have c1 : ((((joinN b (ts.drop (vs.length - j))).ws.map V.str).length : Nat) : Int) ≤ 60 := of_decide_eq_true c1
    have c2 : (((joinN b (ts.drop (vs.length - j))).d : Nat) : Int) ≤ 6 := of_decide_eq_true c2
    exact ⟨_, rfl, q _ _ _ (s2.trans (S.trans s6)) nd' ⟨gd_mono jo (by omega), by omega, by omega⟩⟩
  · rintro σ H3 ⟨⟨o5, o6, rfl⟩, s3⟩
    exact ⟨_, rfl, _, rfl, r, _, _, _, rfl, rfl, SqL.of (s3 _ _ hv), al, q _ _ _ (s2.trans s3) (ndl.same s3) (gd6_mono (gd tl (List.mem_of_getElem? etl)) (by omega))⟩
end
def kinds7 : List Str := [Str.ofString "cause", Str.ofString "thing", Str.ofString "days", Str.ofString "over", Str.ofString "not", Str.ofString "all", Str.ofString "some"]
def cls7 (t : Cnd) : List Bool := kinds7.map fun z => decide (V.str z = V.str (tagC t))
theorem eqL_bl (bs : List Bool) : eqL (bs.map V.bl) (bs.map V.bl) = true := by
  induction bs with
  | nil => rfl
  | cons b bs ih =>
    rw [List.map_cons]
    show (eqV (.bl b) (.bl b) && eqL (bs.map V.bl) (bs.map V.bl)) = true
    rw [ih]
    cases b <;> rfl
theorem flat_bl (bs : List Bool) : (bs.map V.bl).all flatV = true := by
  rw [List.all_map]
  exact List.all_eq_true.mpr fun _ _ => rfl
def spCI (κ : A8) : Sp := fun vs H Q _ => ∃ u v t, vs = [u, v] ∧ CdAt κ H u t ∧ TrAt H v t ∧ ∀ H', Same H H' → Q (.bl true) H'
def spLaw (K : PySem.W.Frag) : Sp := fun vs H Q _ => ∃ (a : Addr) (ns : List Int), vs = [.ref a] ∧ SqL K H a (ns.map V.int) ∧ ns.length ≤ 63 ∧ ∀ H', Q (.bl true) H'
theorem beq_self (b : Bool) : (b == b) = true := by cases b <;> rfl
section
seal L2.PS L2.PSs L2.PE L2.PA
variable {P : Program} {w : World} {K : PySem.W.Frag} {mg : Str → Option Value} {base : Heap} {C_Condition C_CauseIs C_ThingIs C_DaysIn C_Over C_Not C_All C_Some C_Reader : Addr}
theorem is_7 (L : Kl K mg C_Condition C_CauseIs C_ThingIs C_DaysIn C_Over C_Not C_All C_Some C_Reader) {H : Hp} {p dx : Addr} {fs : List (Str × V)} {t : Cnd} (h : H p = some (.ins (A8.of (A8.mk C_Condition C_CauseIs C_ThingIs C_DaysIn C_Over C_Not C_All C_Some) t) dx fs)) : ∃ T, TyOf K H (.ref p) T ∧ PySem.W.kitOne K T (.ref C_Condition) = some true ∧ PySem.W.kitOne K T (.ref C_CauseIs) = some (decide (V.str (Str.ofString "cause") = V.str (tagC t))) ∧ PySem.W.kitOne K T (.ref C_ThingIs) = some (decide (V.str (Str.ofString "thing") = V.str (tagC t))) ∧ PySem.W.kitOne K T (.ref C_DaysIn) = some (decide (V.str (Str.ofString "days") = V.str (tagC t))) ∧ PySem.W.kitOne K T (.ref C_Over) = some (decide (V.str (Str.ofString "over") = V.str (tagC t))) ∧ PySem.W.kitOne K T (.ref C_Not) = some (decide (V.str (Str.ofString "not") = V.str (tagC t))) ∧ PySem.W.kitOne K T (.ref C_All) = some (decide (V.str (Str.ofString "all") = V.str (tagC t))) ∧ PySem.W.kitOne K T (.ref C_Some) = some (decide (V.str (Str.ofString "some") = V.str (tagC t))) := by
  have no : ∀ {T : Value} {C : Addr} {y z : Str}, y ≠ z → PySem.W.kitOne K T (.ref C) = some false → PySem.W.kitOne K T (.ref C) = some (decide (V.str y = V.str z)) := fun hn e => by rw [decide_eq_false fun x => hn (V.str.inj x)]; exact e
  have ye : ∀ {T : Value} {C : Addr} {y z : Str}, y = z → PySem.W.kitOne K T (.ref C) = some true → PySem.W.kitOne K T (.ref C) = some (decide (V.str y = V.str z)) := fun hn e => by rw [decide_eq_true (by rw [hn])]; exact e
  cases t with
  | «at» c =>
    cases c with
    | alw => exact ⟨_, L.ty_Condition h, L.kt_Condition_Condition, no (by show Str.ofString _ ≠ Str.ofString _; decide +kernel) L.kt_Condition_CauseIs, no (by show Str.ofString _ ≠ Str.ofString _; decide +kernel) L.kt_Condition_ThingIs, no (by show Str.ofString _ ≠ Str.ofString _; decide +kernel) L.kt_Condition_DaysIn, no (by show Str.ofString _ ≠ Str.ofString _; decide +kernel) L.kt_Condition_Over, no (by show Str.ofString _ ≠ Str.ofString _; decide +kernel) L.kt_Condition_Not, no (by show Str.ofString _ ≠ Str.ofString _; decide +kernel) L.kt_Condition_All, no (by show Str.ofString _ ≠ Str.ofString _; decide +kernel) L.kt_Condition_Some⟩
    | cau _ => exact ⟨_, L.ty_CauseIs h, L.kt_CauseIs_Condition, ye rfl L.kt_CauseIs_CauseIs, no (by show Str.ofString _ ≠ Str.ofString _; decide +kernel) L.kt_CauseIs_ThingIs, no (by show Str.ofString _ ≠ Str.ofString _; decide +kernel) L.kt_CauseIs_DaysIn, no (by show Str.ofString _ ≠ Str.ofString _; decide +kernel) L.kt_CauseIs_Over, no (by show Str.ofString _ ≠ Str.ofString _; decide +kernel) L.kt_CauseIs_Not, no (by show Str.ofString _ ≠ Str.ofString _; decide +kernel) L.kt_CauseIs_All, no (by show Str.ofString _ ≠ Str.ofString _; decide +kernel) L.kt_CauseIs_Some⟩
    | thi _ => exact ⟨_, L.ty_ThingIs h, L.kt_ThingIs_Condition, no (by show Str.ofString _ ≠ Str.ofString _; decide +kernel) L.kt_ThingIs_CauseIs, ye rfl L.kt_ThingIs_ThingIs, no (by show Str.ofString _ ≠ Str.ofString _; decide +kernel) L.kt_ThingIs_DaysIn, no (by show Str.ofString _ ≠ Str.ofString _; decide +kernel) L.kt_ThingIs_Over, no (by show Str.ofString _ ≠ Str.ofString _; decide +kernel) L.kt_ThingIs_Not, no (by show Str.ofString _ ≠ Str.ofString _; decide +kernel) L.kt_ThingIs_All, no (by show Str.ofString _ ≠ Str.ofString _; decide +kernel) L.kt_ThingIs_Some⟩
    | day _ _ => exact ⟨_, L.ty_DaysIn h, L.kt_DaysIn_Condition, no (by show Str.ofString _ ≠ Str.ofString _; decide +kernel) L.kt_DaysIn_CauseIs, no (by show Str.ofString _ ≠ Str.ofString _; decide +kernel) L.kt_DaysIn_ThingIs, ye rfl L.kt_DaysIn_DaysIn, no (by show Str.ofString _ ≠ Str.ofString _; decide +kernel) L.kt_DaysIn_Over, no (by show Str.ofString _ ≠ Str.ofString _; decide +kernel) L.kt_DaysIn_Not, no (by show Str.ofString _ ≠ Str.ofString _; decide +kernel) L.kt_DaysIn_All, no (by show Str.ofString _ ≠ Str.ofString _; decide +kernel) L.kt_DaysIn_Some⟩
    | ovr _ => exact ⟨_, L.ty_Over h, L.kt_Over_Condition, no (by show Str.ofString _ ≠ Str.ofString _; decide +kernel) L.kt_Over_CauseIs, no (by show Str.ofString _ ≠ Str.ofString _; decide +kernel) L.kt_Over_ThingIs, no (by show Str.ofString _ ≠ Str.ofString _; decide +kernel) L.kt_Over_DaysIn, ye rfl L.kt_Over_Over, no (by show Str.ofString _ ≠ Str.ofString _; decide +kernel) L.kt_Over_Not, no (by show Str.ofString _ ≠ Str.ofString _; decide +kernel) L.kt_Over_All, no (by show Str.ofString _ ≠ Str.ofString _; decide +kernel) L.kt_Over_Some⟩
  | no _ => exact ⟨_, L.ty_Not h, L.kt_Not_Condition, no (by show Str.ofString _ ≠ Str.ofString _; decide +kernel) L.kt_Not_CauseIs, no (by show Str.ofString _ ≠ Str.ofString _; decide +kernel) L.kt_Not_ThingIs, no (by show Str.ofString _ ≠ Str.ofString _; decide +kernel) L.kt_Not_DaysIn, no (by show Str.ofString _ ≠ Str.ofString _; decide +kernel) L.kt_Not_Over, ye rfl L.kt_Not_Not, no (by show Str.ofString _ ≠ Str.ofString _; decide +kernel) L.kt_Not_All, no (by show Str.ofString _ ≠ Str.ofString _; decide +kernel) L.kt_Not_Some⟩
  | al _ => exact ⟨_, L.ty_All h, L.kt_All_Condition, no (by show Str.ofString _ ≠ Str.ofString _; decide +kernel) L.kt_All_CauseIs, no (by show Str.ofString _ ≠ Str.ofString _; decide +kernel) L.kt_All_ThingIs, no (by show Str.ofString _ ≠ Str.ofString _; decide +kernel) L.kt_All_DaysIn, no (by show Str.ofString _ ≠ Str.ofString _; decide +kernel) L.kt_All_Over, no (by show Str.ofString _ ≠ Str.ofString _; decide +kernel) L.kt_All_Not, ye rfl L.kt_All_All, no (by show Str.ofString _ ≠ Str.ofString _; decide +kernel) L.kt_All_Some⟩
  | so _ => exact ⟨_, L.ty_Some h, L.kt_Some_Condition, no (by show Str.ofString _ ≠ Str.ofString _; decide +kernel) L.kt_Some_CauseIs, no (by show Str.ofString _ ≠ Str.ofString _; decide +kernel) L.kt_Some_ThingIs, no (by show Str.ofString _ ≠ Str.ofString _; decide +kernel) L.kt_Some_DaysIn, no (by show Str.ofString _ ≠ Str.ofString _; decide +kernel) L.kt_Some_Over, no (by show Str.ofString _ ≠ Str.ofString _; decide +kernel) L.kt_Some_Not, no (by show Str.ofString _ ≠ Str.ofString _; decide +kernel) L.kt_Some_All, ye rfl L.kt_Some_Some⟩
theorem sc__law_class_is : FnScope ["_law_found", "_law_tree", "_law_kinds", "_law_told"] ["_law_found", "_law_tree"] (defScope s__law_class_is) := ⟨rfl, rfl, rfl, by decide +kernel, rfl, by decide +kernel, by decide +kernel⟩
theorem ok__law_class_is {f : Addr} {fd : FuncData} (F : Fun K "_law_class_is" "_law_class_is" s__law_class_is f fd) (T : Txt K mg) (L : Kl K mg C_Condition C_CauseIs C_ThingIs C_DaysIn C_Over C_Not C_All C_Some C_Reader) : FnOk P w K mg base CX0 1 f fd ["_law_found", "_law_tree"] (spCI (A8.mk C_Condition C_CauseIs C_ThingIs C_DaysIn C_Over C_Not C_All C_Some)) := by
  have sc := sc__law_class_is
  refine F.ok sc (fun vs H Q E h => ?_) (fun cdv A outer s H vs Q E hr h => ?_)
  · obtain ⟨_, _, _, rfl, _⟩ := h
    rfl
  obtain ⟨u, v, t, rfl, cd, tr, q⟩ := h
  have hu := hr.units0
  have three : 3 ≤ sizeLine := by rw [sizeLine_eq]; decide
  have four : 4 ≤ sizeLine := by rw [sizeLine_eq]; decide
  have seven : 7 ≤ sizeLine := by rw [sizeLine_eq]; decide
  refine ⟨_, (pss_cons (ps_set (i := 2) sc.nd rfl (Or.inl rfl) (pe_lst (pa_cons pe_str (pa_cons pe_str (pa_cons pe_str (pa_cons pe_str (pa_cons pe_str (pa_cons pe_str (pa_cons pe_str pa_nil)))))))))
      (pss_cons (ps_set (i := 3) sc.nd rfl (Or.inl rfl) (pe_lst (pa_cons (pe_callB call_isinst rfl T.n_isinstance (show bootBuiltins _ = some (.builtin "isinstance") from rfl) (pa_cons (pv 0) (pa_cons (pe_cls rfl L.mg_CauseIs) pa_nil))) (pa_cons (pe_callB call_isinst rfl T.n_isinstance (show bootBuiltins _ = some (.builtin "isinstance") from rfl) (pa_cons (pv 0) (pa_cons (pe_cls rfl L.mg_ThingIs) pa_nil))) (pa_cons (pe_callB call_isinst rfl T.n_isinstance (show bootBuiltins _ = some (.builtin "isinstance") from rfl) (pa_cons (pv 0) (pa_cons (pe_cls rfl L.mg_DaysIn) pa_nil))) (pa_cons (pe_callB call_isinst rfl T.n_isinstance (show bootBuiltins _ = some (.builtin "isinstance") from rfl) (pa_cons (pv 0) (pa_cons (pe_cls rfl L.mg_Over) pa_nil))) pa_nil))))))
      (pss_cons (ps_set (i := 3) sc.nd rfl (Or.inl rfl) (pe_op op_cat (pv 3) (pe_lst (pa_cons (pe_callB call_isinst rfl T.n_isinstance (show bootBuiltins _ = some (.builtin "isinstance") from rfl) (pa_cons (pv 0) (pa_cons (pe_cls rfl L.mg_Not) pa_nil))) (pa_cons (pe_callB call_isinst rfl T.n_isinstance (show bootBuiltins _ = some (.builtin "isinstance") from rfl) (pa_cons (pv 0) (pa_cons (pe_cls rfl L.mg_All) pa_nil))) (pa_cons (pe_callB call_isinst rfl T.n_isinstance (show bootBuiltins _ = some (.builtin "isinstance") from rfl) (pa_cons (pv 0) (pa_cons (pe_cls rfl L.mg_Some) pa_nil))) pa_nil))))))
      (pss_cons (ps_if (PW.pt (pw_or (pt_not (pt_val (pe_callB call_isinst rfl T.n_isinstance (show bootBuiltins _ = some (.builtin "isinstance") from rfl) (pa_cons (pv 0) (pa_cons (pe_cls rfl L.mg_Condition) pa_nil))))) (pw_or1 (pt_cmpR (op_neL hu) (pv 3) (pe_comp (NC := ["_law_kind", "_law_tree"]) (own := ["_law_kind"]) (cs := ["_law_tree"]) (ix := [1]) rfl (CompScope.of rfl) rfl ⟨⟨rfl, .inl rfl, rfl⟩, trivial⟩ (pi_list (pv 2)) (fun _ _ _ => (pg_name (i := 0) (show (["_law_kind", "_law_tree"] : List Str).Nodup from by decide +kernel) rfl (Or.inl rfl))) (fun _ _ _ => pts_nil) (fun _ _ _ => (pe_cmpR op_eq (pv 0) (pe_ix (ix_tupK (K := K) rfl) (pv 1) pe_int (fun _ _ => rfl)) (nomark _)))) (nomark _)))))
        (pss_one (ps_ret pe_bl))
        pss_nil)
      (pss_cons (ps_if (PW.pt (pw_or (pt_cmpR op_eq (pe_ix ix_tup (pv 1) pe_int (fun _ _ => rfl)) pe_str (nomark _)) (pw_or1 (pt_cmpR op_eq (pe_ix ix_tup (pv 1) pe_int (fun _ _ => rfl)) pe_str (nomark _)))))
        (pss_one (ps_ret (pe_cmpR op_eq (pe_callB call_len_seq rfl T.n_len (show bootBuiltins _ = some (.builtin "len") from rfl) (pa_cons (pe_fld (pv 0) rfl) pa_nil)) (pe_callB call_len_seq rfl T.n_len (show bootBuiltins _ = some (.builtin "len") from rfl) (pa_cons (pe_ix ix_tup (pv 1) pe_int (fun _ _ => rfl)) pa_nil)) (nomark _))))
        pss_nil)
      (pss_one (ps_ret pe_bl))))))), ?_⟩
  obtain ⟨pw, dw, fw, rfl, ew, _⟩ := cd.obj
  obtain ⟨p, xs, rfl, hp⟩ := tr.tag
  refine ⟨seven, fun lk nk => ?_⟩
  have s1 := same_new nk (.lst (kinds7.map V.str))
  have hk : upd H lk (.lst (kinds7.map V.str)) lk = some (.lst (kinds7.map V.str)) := upd_same
  refine atG [some (.ref pw), some (.ref p), some (.ref lk), none] rfl ?_
  obtain ⟨Ty, hty, k0, k1, k2, k3, k4, k5, k6, k7⟩ := is_7 L (s1 _ _ ew)
  refine ⟨_, rfl, _, _, _, _, _, rfl, ref_is, hty, k1, _, rfl, _, _, _, _, _, rfl, ref_is, hty, k2, _, rfl, _, _, _, _, _, rfl, ref_is, hty, k3, _, rfl, _, _, _, _, _, rfl, ref_is, hty, k4, four, fun l1 n1 => ?_⟩
  refine atG [some (.ref pw), some (.ref p), some (.ref lk), some (.ref l1)] rfl ?_
  have s2 := s1.trans (same_new n1 (.lst (List.map V.bl [decide (V.str (Str.ofString "cause") = V.str (tagC t)), decide (V.str (Str.ofString "thing") = V.str (tagC t)), decide (V.str (Str.ofString "days") = V.str (tagC t)), decide (V.str (Str.ofString "over") = V.str (tagC t))])))
  obtain ⟨Ty2, hty2, k0', k1', k2', k3', k4', k5', k6', k7'⟩ := is_7 L (s2 _ _ ew)
  refine ⟨_, rfl, _, rfl, _, _, _, _, _, rfl, ref_is, hty2, k5', _, rfl, _, _, _, _, _, rfl, ref_is, hty2, k6', _, rfl, _, _, _, _, _, rfl, ref_is, hty2, k7', three, fun l2 n2 => ?_⟩
  have s3 := same_new n2 (.lst (List.map V.bl [decide (V.str (Str.ofString "not") = V.str (tagC t)), decide (V.str (Str.ofString "all") = V.str (tagC t)), decide (V.str (Str.ofString "some") = V.str (tagC t))]))
  refine ⟨l1, l2, _, _, rfl, rfl, s3 _ _ upd_same, upd_same, (by show 4 + 3 ≤ sizeLine; rw [sizeLine_eq]; decide), fun l3 n3 => ?_⟩
  have hk3 := (same_new n1 (.lst (List.map V.bl [decide (V.str (Str.ofString "cause") = V.str (tagC t)), decide (V.str (Str.ofString "thing") = V.str (tagC t)), decide (V.str (Str.ofString "days") = V.str (tagC t)), decide (V.str (Str.ofString "over") = V.str (tagC t))]))).trans s3 _ _ hk
  refine (fun H4 S4 h3 hk4 => ?_ : ∀ H4 : Hp, Same H H4 → H4 l3 = some (.lst ((cls7 t).map V.bl)) → H4 lk = some (.lst (kinds7.map V.str)) → gName 3 (.ref l3) _ H4 _) _ (s2.trans (s3.trans (same_new n3 _))) upd_same (same_new n3 _ _ _ hk3)
  refine atG [some (.ref pw), some (.ref p), some (.ref lk), some (.ref l3)] rfl ?_
  clear hty2 k0' k1' k2' k3' k4' k5' k6' k7' hty k0 k1 k2 k3 k4 k5 k6 k7
  obtain ⟨Ty, hty, k0, _⟩ := is_7 L (S4 _ _ ew)
  refine ⟨_, rfl, _, _, _, _, _, rfl, ref_is, hty, k0, _, rfl, iteF ⟨_, rfl, _, rfl, lk, rfl, ⟨_, SqL.of hk4⟩, fun pc hpc => ?_⟩⟩
  refine comp_list (K := K) (a := lk) (xs := kinds7.map V.str) (fun i ys H5 => H5 pc = some (.lst ys) ∧ ys = ((kinds7.take i).map fun z => decide (V.str z = V.str (tagC t))).map V.bl ∧ Same H4 H5) ⟨upd_same, rfl, same_new hpc _⟩ (fun i ys H5 _ ⟨h1, h2, h5⟩ => ⟨h1, by rw [h2, List.length_map, List.length_map, List.length_take]; omega, SqL.of (h5 _ _ hk4)⟩) (by rw [List.length_map]; exact seven) ?_ ?_
  · rintro i v ys H5 hi ⟨h1, h2, h5⟩
    rw [List.getElem?_map] at hi
    obtain ⟨z, ez, rfl⟩ := Option.map_eq_some_iff.mp hi
    refine ⟨_, rfl, _, rfl, p, _, _, _, rfl, rfl, SqT.of (h5 _ _ (S4 _ _ hp)), at0 _ _, rfl, h1, rfl, upd_same, ?_, same_upd hpc h5⟩
    rw [take_snoc ez, List.map_append, List.map_append, ← h2]
    rfl
  rintro ys H5 ⟨h1, h2, h5⟩
  rw [List.length_map, List.take_length] at h2
  have h2 : ys = (cls7 t).map V.bl := h2
  subst h2
  refine ⟨l3, pc, _, _, rfl, rfl, SqL.of (h5 _ _ h3), SqL.of h1, flat_bl _, flat_bl _, _, rfl, bF (by show (!eqL _ _) = false; rw [eqL_bl]; rfl) ?_⟩
  have S5 := S4.trans h5
  have sne : ∀ {y z : Str}, y ≠ z → ¬ V.str y = V.str z := fun h e => h (V.str.inj e)
  cases t with
  | «at» c =>
    have n2 : tagC (.at c) ≠ "all" := by cases c <;> (show Str.ofString _ ≠ Str.ofString _; decide +kernel)
    have n3 : tagC (.at c) ≠ "some" := by cases c <;> (show Str.ofString _ ≠ Str.ofString _; decide +kernel)
    exact ⟨_, rfl, p, _, _, _, rfl, rfl, SqT.of (S5 _ _ hp), at0 _ _, rfl, _, rfl, dF (sne n2) ⟨_, rfl, p, _, _, _, rfl, rfl, SqT.of (S5 _ _ hp), at0 _ _, rfl, _, rfl, dF (sne n3) (q _ S5)⟩⟩
  | no t =>
    exact ⟨_, rfl, p, _, _, _, rfl, rfl, SqT.of (S5 _ _ hp), at0 _ _, rfl, _, rfl, dF (sne (by show Str.ofString _ ≠ Str.ofString _; decide +kernel)) ⟨_, rfl, p, _, _, _, rfl, rfl, SqT.of (S5 _ _ hp), at0 _ _, rfl, _, rfl, dF (sne (by show Str.ofString _ ≠ Str.ofString _; decide +kernel)) (q _ S5)⟩⟩
  | al ts =>
    unfold TrAt at tr
    unfold CdAt at cd
    obtain ⟨p', a, vs, ep, hp', ha, trs⟩ := tr
    cases ep
    obtain ⟨pu, dx, b, us, eu, hu', hb, cds⟩ := cd
    cases eu
    have l1 := trs.len
    have l2 := cds.len
    refine ⟨_, rfl, p, _, _, _, rfl, rfl, SqT.of (S5 _ _ hp), at0 _ _, rfl, _, rfl, dT rfl (iteT ⟨_, rfl, pw, _, dx, _, _, rfl, S5 _ _ hu', L.cl_All, L.na_All_several, lc_put _ _, b, _, rfl, .inl (SqL.of (S5 _ _ hb)), _, rfl, p, _, _, _, rfl, rfl, SqT.of (S5 _ _ hp'), rfl, a, _, rfl, .inl (SqL.of (S5 _ _ ha)), rfl, ?_⟩)⟩
    rw [decide_eq_true (by rw [l1, l2])]
    exact q _ S5
  | so ts =>
    unfold TrAt at tr
    unfold CdAt at cd
    obtain ⟨p', a, vs, ep, hp', ha, trs⟩ := tr
    cases ep
    obtain ⟨pu, dx, b, us, eu, hu', hb, cds⟩ := cd
    cases eu
    have l1 := trs.len
    have l2 := cds.len
    refine ⟨_, rfl, p, _, _, _, rfl, rfl, SqT.of (S5 _ _ hp), at0 _ _, rfl, _, rfl, dF (sne (by show Str.ofString _ ≠ Str.ofString _; decide +kernel)) ⟨_, rfl, p, _, _, _, rfl, rfl, SqT.of (S5 _ _ hp), at0 _ _, rfl, _, rfl, dT rfl ⟨_, rfl, pw, _, dx, _, _, rfl, S5 _ _ hu', L.cl_Some, L.na_Some_several, lc_put _ _, b, _, rfl, .inl (SqL.of (S5 _ _ hb)), _, rfl, p, _, _, _, rfl, rfl, SqT.of (S5 _ _ hp'), rfl, a, _, rfl, .inl (SqL.of (S5 _ _ ha)), rfl, ?_⟩⟩⟩
    rw [decide_eq_true (by rw [l1, l2])]
    exact q _ S5
theorem sc_law : FnScope ["_law_script", "_law_pools_here", "_law_made", "_law_due", "_law_way", "_law_found", "_law_k", "_law_loss_here"] ["_law_script"] (defScope s_law) := ⟨rfl, rfl, rfl, by decide +kernel, rfl, by decide +kernel, by decide +kernel⟩
theorem ok_law {f : Addr} {fd : FuncData} (F : Fun K "law" "law" s_law f fd) (T : Txt K mg) (L : Kl K mg C_Condition C_CauseIs C_ThingIs C_DaysIn C_Over C_Not C_All C_Some C_Reader) (C_law_pools : Cal P w K mg base 2 "_law_pools" ["_law_script"] (spPools K)) (C_law_text_tree : Cal P w K mg base 5 "_law_text_tree" ["_law_script", "_law_pools_here"] (spTT K)) (C_law_loss : Cal P w K mg base 2 "_law_loss" ["_law_script", "_law_k", "_law_pools_here"] (spLossL K))
    (C_law_words : Cal P w K mg base 133 "_law_words" ["_law_tree"] (spLW 66)) (C_law_words_are : Cal P w K mg base 1 "_law_words_are" ["_law_found", "_law_due"] spWA) (C_law_holds : Cal P w K mg base 66 "_law_holds" ["_law_tree", "_law_loss_here"] (spLH 66)) (C_law_truth : Cal P w K mg base 1 "_law_truth" ["_law_found", "_law_due"] spTruth) (C_law_class_is : Cal P w K mg base 1 "_law_class_is" ["_law_found", "_law_tree"] (spCI (A8.mk C_Condition C_CauseIs C_ThingIs C_DaysIn C_Over C_Not C_All C_Some)))
    (Cshow_condition : Cal P w K mg base 201 "show_condition" ["condition"] (spShC (A8.mk C_Condition C_CauseIs C_ThingIs C_DaysIn C_Over C_Not C_All C_Some))) (Cread_condition : Cal P w K mg base 40 "read_condition" ["text"] (spRC (A8.mk C_Condition C_CauseIs C_ThingIs C_DaysIn C_Over C_Not C_All C_Some)))
    (Mholds : MFam P w K mg base 66 (A8.Fam (A8.mk C_Condition C_CauseIs C_ThingIs C_DaysIn C_Over C_Not C_All C_Some)) "holds" ["self", "loss"] (spHolds (A8.mk C_Condition C_CauseIs C_ThingIs C_DaysIn C_Over C_Not C_All C_Some) 66)) (Mwords : MFam P w K mg base 200 (A8.Fam (A8.mk C_Condition C_CauseIs C_ThingIs C_DaysIn C_Over C_Not C_All C_Some)) "words" ["self"] (spWords (A8.mk C_Condition C_CauseIs C_ThingIs C_DaysIn C_Over C_Not C_All C_Some) 66)) :
    FnOk P w K mg base CX0 203 f fd ["_law_script"] (spLaw K) := by
  have sc := sc_law
  refine F.ok sc (fun vs H Q E h => ?_) (fun cdv A outer s H vs Q E hr h => ?_)
  · obtain ⟨_, _, rfl, _⟩ := h
    rfl
  obtain ⟨a, ns, rfl, ha, h63, q⟩ := h
  refine ⟨_, (pss_cons (ps_set (i := 1) sc.nd rfl (Or.inl rfl) (pe_callC C_law_pools (hr.mono (by decide)) rfl (pa_cons (pv 0) pa_nil)))
      (pss_cons (ps_set (i := 2) sc.nd rfl (Or.inl rfl) (pe_callC C_law_text_tree (hr.mono (by decide)) rfl (pa_cons (pv 0) (pa_cons (pv 1) pa_nil))))
      (pss_cons (ps_set (i := 3) sc.nd rfl (Or.inl rfl) (pe_callC C_law_words (hr.mono (by decide)) rfl (pa_cons (pe_ix ix_tup (pv 2) pe_int (fun _ _ => rfl)) pa_nil)))
      (pss_cons (ps_for PassesOwn.never rfl (pi_range1 rfl T.n_range (pa_cons pe_int pa_nil)) (pg_name (i := 4) sc.nd rfl (Or.inl rfl))
        (pss_cons (ps_set (i := 5) sc.nd rfl (Or.inl rfl) (pe_callC Cread_condition (hr.mono (by decide)) rfl (pa_cons (pe_bm PySem.F.plainAttrs_str PySem.F.slot_str_join PySem.F.type_str_join mt_joinA pe_str (pa_cons (pe_ix ix_tup (pv 2) pe_int (fun _ _ => rfl)) pa_nil)) pa_nil)))
      (pss_cons (ps_if (PW.pt (pw_or (pt_not (pt_val (pe_callC C_law_class_is (hr.mono (by decide)) rfl (pa_cons (pv 5) (pa_cons (pe_ix ix_tup (pv 2) pe_int (fun _ _ => rfl)) pa_nil))))) (pw_or1 (pt_not (pt_val (pe_callC C_law_words_are (hr.mono (by decide)) rfl (pa_cons (pe_meth0D Mwords (hr.mono (by decide)) (pv 5)) (pa_cons (pv 3) pa_nil))))))))
        (pss_one (ps_ret pe_bl))
        pss_nil)
      (pss_one (ps_for PassesOwn.never rfl (pi_range1 rfl T.n_range (pa_cons pe_int pa_nil)) (pg_name (i := 6) sc.nd rfl (Or.inl rfl))
        (pss_cons (ps_set (i := 7) sc.nd rfl (Or.inl rfl) (pe_callC C_law_loss (hr.mono (by decide)) rfl (pa_cons (pv 0) (pa_cons (pe_op op_add pe_int (pe_op op_mul pe_int (pv 6))) (pa_cons (pv 1) pa_nil)))))
      (pss_one (ps_if (pt_not (pt_val (pe_callC C_law_truth (hr.mono (by decide)) rfl (pa_cons (pe_methD Mholds (hr.mono (by decide)) (pv 5) (pa_cons (pv 7) pa_nil)) (pa_cons (pe_callC C_law_holds (hr.mono (by decide)) rfl (pa_cons (pe_ix ix_tup (pv 2) pe_int (fun _ _ => rfl)) (pa_cons (pv 7) pa_nil))) pa_nil)))))
        (pss_one (ps_ret pe_bl))
        pss_nil))))))))
      (pss_one (ps_ret (pe_cmpR op_eq (pe_callC Cshow_condition (hr.mono (by decide)) rfl (pa_cons (pv 5) pa_nil)) (pe_bm PySem.F.plainAttrs_str PySem.F.slot_str_join PySem.F.type_str_join mt_joinA pe_str (pa_cons (pv 3) pa_nil)) (nomark _)))))))), ?_⟩
  refine ⟨_, rfl, a, ns, rfl, ha, h63, fun pl H1 s1 hpl => ?_⟩
  refine atG [some (.ref a), some (.ref pl), none, none, none, none, none, none] rfl ?_
  refine ⟨_, rfl, _, rfl, a, ns, pl, rfl, s1.seq ha, h63, hpl, fun v ni H2 s2 nd g => ?_⟩
  obtain ⟨pn, vt, wl, rfl, hn, tr, hwl⟩ := nd
  refine atG [some (.ref a), some (.ref pl), some (.ref pn), none, none, none, none, none] rfl ?_
  obtain ⟨⟨spr, ok, hgt', okn, wne⟩, wn60, d6⟩ := g
  have hg : hgt ni.t < 66 := by omega
  have sp2 := spr.two
  have hm : (wordsT wordsC ni.t).length ≤ 60 := Nat.le_trans ((spl_len sp2).2.2 rfl) wn60
  have h1 := words_ne ok
  have okw := okW_T ok
  have w1 : 1 ≤ ni.ws.length := by
    cases z : ni.ws with
    | nil => exact absurd z wne
    | cons _ _ => simp
  refine ⟨_, rfl, pn, _, _, _, rfl, rfl, SqT.of hn, rfl, vt, ni.t, rfl, tr, hg, ok, hm, fun due H4 s4 hdue => ?_⟩
  refine atG [some (.ref a), some (.ref pl), some (.ref pn), some (.ref due), none, none, none, none] rfl ?_
  have S4 := s1.trans (s2.trans s4)
  have P4 := hpl.same (s2.trans s4)
  have hn4 := s4 _ _ hn
  have tr4 := tr.same s4
  have hwl4 := s4 _ _ hwl
  refine ⟨2, rfl, by decide, by decide, ?_⟩
  refine for_range (lo := 0) (n := 2) (fun i σ H5 => ∃ o4 o5 o6 o7, σ = [some (.ref a), some (.ref pl), some (.ref pn), some (.ref due), o4, o5, o6, o7] ∧ Same H4 H5 ∧ (0 < i → ∃ u, o5 = some u ∧ CdAt (A8.mk C_Condition C_CauseIs C_ThingIs C_DaysIn C_Over C_Not C_All C_Some) H5 u ni.t)) ⟨none, none, none, none, rfl, Same.refl _, fun z => absurd z (Nat.lt_irrefl _)⟩ ?_ ?_
  · rintro i σ H5 hi ⟨o4, o5, o6, o7, rfl, s5, _⟩
    refine ⟨rfl, _, rfl, pn, _, _, _, rfl, rfl, SqT.of (s5 _ _ hn4), rfl, _, wl, ni.ws, rfl, rfl, SqL.of (s5 _ _ hwl4), w1, by omega, by decide +kernel, fun y hy => by have := (okn y hy).2; omega, ni.ws, ni.t, ni.d, rfl, wne, okn, wn60, sp2, d6, fun u H6 s6 cd => ?_⟩
    have cd := cd.same (Nw.sub _ _)
    have s56 := s5.trans s6
    refine atG [some (.ref a), some (.ref pl), some (.ref pn), some (.ref due), some (.int (0 + (i : Int))), some u, o6, o7] rfl ?_
    refine ⟨_, rfl, _, rfl, pn, _, _, _, rfl, rfl, SqT.of (s56 _ _ hn4), rfl, u, vt, ni.t, rfl, cd, tr4.same s56, fun H7 s7 => ⟨_, rfl, iteF ?_⟩⟩
    have s57 := s56.trans s7
    have cd7 := cd.same s7
    obtain ⟨pu, du, fu, rfl, ob, nh, _, nw, _⟩ := cd7.obj
    refine ⟨_, rfl, pu, _, du, fu, rfl, ob, A8.fam _ ni.t, nw, pu, ni.t, rfl, cd7, rfl, hg, ok, hm, fun l8 H8 s8 nl8 hl8 => ?_⟩
    refine ⟨_, rfl, l8, due, wordsT wordsC ni.t, rfl, hl8, s8 _ _ (s57 _ _ hdue), by omega, _, rfl, iteF ?_⟩
    have s58 := s57.trans s8
    have cd8 := cd7.same s8
    have ob8 := s8 _ _ ob
    refine ⟨4, rfl, by decide, by decide, ?_⟩
    refine for_range (lo := 0) (n := 4) (fun k σ H9 => ∃ o6 o7, σ = [some (.ref a), some (.ref pl), some (.ref pn), some (.ref due), some (.int (0 + (i : Int))), some (.ref pu), o6, o7] ∧ Same H8 H9) ⟨o6, o7, rfl, Same.refl _⟩ ?_ ?_
    · rintro k σ H9 hk ⟨o6, o7, rfl, s9⟩
      have s59 := s58.trans s9
      refine ⟨_, rfl, _, rfl, _, _, rfl, rfl, .inl ⟨by decide, by decide⟩, _, _, rfl, rfl, _, rfl, a, ns, pl, _, rfl, (S4.trans s59).seq ha, h63, by omega, by omega, P4.same s59, fun l x H10 s10 hl _ => ?_⟩
      refine atG [some (.ref a), some (.ref pl), some (.ref pn), some (.ref due), some (.int (0 + (i : Int))), some (.ref pu), some (.int (0 + (k : Int))), some (.ref l)] rfl ?_
      have s910 := s9.trans s10
      refine ⟨_, rfl, pu, _, du, fu, rfl, s910 _ _ ob8, A8.fam _ ni.t, nh, _, rfl, pu, ni.t, l, x, rfl, cd8.same s910, rfl, hg, hl, _, rfl, pn, _, _, _, rfl, rfl, SqT.of ((s58.trans s910) _ _ hn4), rfl, _, rfl, vt, ni.t, l, x, rfl, tr4.same (s58.trans s910), hg, ok, hl, fun H11 s11 => ⟨_, _, rfl, ?_⟩⟩
      rw [beq_self]
      exact ⟨_, rfl, iteF ⟨_, _, rfl, s910.trans s11⟩⟩
    · rintro σ H9 ⟨o6, o7, rfl, s9⟩
      exact ⟨_, _, _, _, rfl, s58.trans s9, fun _ => ⟨_, rfl, cd8.same s9⟩⟩
  · rintro σ H5 ⟨o4, o5, o6, o7, rfl, s5, hu'⟩
    obtain ⟨u, rfl, cd⟩ := hu' (by decide)
    refine ⟨_, rfl, u, ni.t, rfl, cd, hg, ok, hm, fun H6 s6 => ?_⟩
    refine ⟨rfl, _, rfl, _, due, wordsT wordsC ni.t, rfl, rfl, SqL.of (s6 _ _ (s5 _ _ hdue)), h1, by omega, by decide +kernel, fun y hy => by have := (okw y hy).2; omega, rfl, ?_⟩
    rw [decide_eq_true rfl]
    exact q _
end
theorem vac {P : Program} {w : World} {K : PySem.W.Frag} {mg : Str → Option Value} {base : Heap} {CX : CXT} {k : Nat} {f : Addr} {fd : FuncData} {ps : List Str} {sp : Sp} (h : ∀ vs H Q E, ¬ sp vs H Q E) : FnOk P w K mg base CX k f fd ps sp :=
  ⟨fun vs H Q E z => absurd z (h vs H Q E), fun _ _ _ _ _ _ _ _ _ _ _ _ _ z => absurd z (h _ _ _ _)⟩
theorem all_mk {l : PySem.W.OpenLaw} {w : World} {K : PySem.W.Frag} {h : Heap} {mg : Str → Option Value} {fa : Addr} (X : K.In h) (G : h.Ns mainGlobals mg) (hfa : mg "law" = some (.ref fa))
    {f0 : Addr} {od0 an0 : Option Addr} {sl0 : Array (Option Value)} {oc0 kV0 dc0 pm0 cd0 ct0 : Value}
    (a0 : PySem.W.nsIn K mainGlobals "is_whole" = some (some (.ref f0))) (l0 : K.lookup f0 = some ⟨oc0, od0, .func (PySem.W.fnOf "is_whole" "is_whole" (defArgs s_is_whole) (defBody s_is_whole) (defScope s_is_whole) .none kV0 dc0 pm0 an0 cd0 ct0), sl0⟩) (c0 : PySem.W.codeIn K cd0 "is_whole" = true) (k0 : PySem.W.keepIn K (.ref f0) = true)
    {f1 : Addr} {od1 an1 : Option Addr} {sl1 : Array (Option Value)} {oc1 kV1 dc1 pm1 cd1 ct1 : Value}
    (a1 : PySem.W.nsIn K mainGlobals "has_figures_alone" = some (some (.ref f1))) (l1 : K.lookup f1 = some ⟨oc1, od1, .func (PySem.W.fnOf "has_figures_alone" "has_figures_alone" (defArgs s_has_figures_alone) (defBody s_has_figures_alone) (defScope s_has_figures_alone) .none kV1 dc1 pm1 an1 cd1 ct1), sl1⟩) (c1 : PySem.W.codeIn K cd1 "has_figures_alone" = true) (k1 : PySem.W.keepIn K (.ref f1) = true)
    {f2 : Addr} {od2 an2 : Option Addr} {sl2 : Array (Option Value)} {oc2 kV2 dc2 pm2 cd2 ct2 : Value}
    (a2 : PySem.W.nsIn K mainGlobals "writes_whole" = some (some (.ref f2))) (l2 : K.lookup f2 = some ⟨oc2, od2, .func (PySem.W.fnOf "writes_whole" "writes_whole" (defArgs s_writes_whole) (defBody s_writes_whole) (defScope s_writes_whole) .none kV2 dc2 pm2 an2 cd2 ct2), sl2⟩) (c2 : PySem.W.codeIn K cd2 "writes_whole" = true) (k2 : PySem.W.keepIn K (.ref f2) = true)
    {f3 : Addr} {od3 an3 : Option Addr} {sl3 : Array (Option Value)} {oc3 kV3 dc3 pm3 cd3 ct3 : Value}
    (a3 : PySem.W.nsIn K mainGlobals "is_cents_part" = some (some (.ref f3))) (l3 : K.lookup f3 = some ⟨oc3, od3, .func (PySem.W.fnOf "is_cents_part" "is_cents_part" (defArgs s_is_cents_part) (defBody s_is_cents_part) (defScope s_is_cents_part) .none kV3 dc3 pm3 an3 cd3 ct3), sl3⟩) (c3 : PySem.W.codeIn K cd3 "is_cents_part" = true) (k3 : PySem.W.keepIn K (.ref f3) = true)
    {f4 : Addr} {od4 an4 : Option Addr} {sl4 : Array (Option Value)} {oc4 kV4 dc4 pm4 cd4 ct4 : Value}
    (a4 : PySem.W.nsIn K mainGlobals "read_cents" = some (some (.ref f4))) (l4 : K.lookup f4 = some ⟨oc4, od4, .func (PySem.W.fnOf "read_cents" "read_cents" (defArgs s_read_cents) (defBody s_read_cents) (defScope s_read_cents) .none kV4 dc4 pm4 an4 cd4 ct4), sl4⟩) (c4 : PySem.W.codeIn K cd4 "read_cents" = true) (k4 : PySem.W.keepIn K (.ref f4) = true)
    {f5 : Addr} {od5 an5 : Option Addr} {sl5 : Array (Option Value)} {oc5 kV5 dc5 pm5 cd5 ct5 : Value}
    (a5 : PySem.W.nsIn K mainGlobals "show_cents" = some (some (.ref f5))) (l5 : K.lookup f5 = some ⟨oc5, od5, .func (PySem.W.fnOf "show_cents" "show_cents" (defArgs s_show_cents) (defBody s_show_cents) (defScope s_show_cents) .none kV5 dc5 pm5 an5 cd5 ct5), sl5⟩) (c5 : PySem.W.codeIn K cd5 "show_cents" = true) (k5 : PySem.W.keepIn K (.ref f5) = true)
    {f6 : Addr} {od6 an6 : Option Addr} {sl6 : Array (Option Value)} {oc6 kV6 dc6 pm6 cd6 ct6 : Value}
    (a6 : PySem.W.nsIn K mainGlobals "has_letters_alone" = some (some (.ref f6))) (l6 : K.lookup f6 = some ⟨oc6, od6, .func (PySem.W.fnOf "has_letters_alone" "has_letters_alone" (defArgs s_has_letters_alone) (defBody s_has_letters_alone) (defScope s_has_letters_alone) .none kV6 dc6 pm6 an6 cd6 ct6), sl6⟩) (c6 : PySem.W.codeIn K cd6 "has_letters_alone" = true) (k6 : PySem.W.keepIn K (.ref f6) = true)
    {f7 : Addr} {od7 an7 : Option Addr} {sl7 : Array (Option Value)} {oc7 kV7 dc7 pm7 cd7 ct7 : Value}
    (a7 : PySem.W.nsIn K mainGlobals "is_name" = some (some (.ref f7))) (l7 : K.lookup f7 = some ⟨oc7, od7, .func (PySem.W.fnOf "is_name" "is_name" (defArgs s_is_name) (defBody s_is_name) (defScope s_is_name) .none kV7 dc7 pm7 an7 cd7 ct7), sl7⟩) (c7 : PySem.W.codeIn K cd7 "is_name" = true) (k7 : PySem.W.keepIn K (.ref f7) = true)
    {f8 : Addr} {od8 an8 : Option Addr} {sl8 : Array (Option Value)} {oc8 kV8 dc8 pm8 cd8 ct8 : Value}
    (a8 : PySem.W.nsIn K mainGlobals "is_day" = some (some (.ref f8))) (l8 : K.lookup f8 = some ⟨oc8, od8, .func (PySem.W.fnOf "is_day" "is_day" (defArgs s_is_day) (defBody s_is_day) (defScope s_is_day) .none kV8 dc8 pm8 an8 cd8 ct8), sl8⟩) (c8 : PySem.W.codeIn K cd8 "is_day" = true) (k8 : PySem.W.keepIn K (.ref f8) = true)
    {f9 : Addr} {od9 an9 : Option Addr} {sl9 : Array (Option Value)} {oc9 kV9 dc9 pm9 cd9 ct9 : Value}
    (a9 : PySem.W.nsIn K mainGlobals "words_within" = some (some (.ref f9))) (l9 : K.lookup f9 = some ⟨oc9, od9, .func (PySem.W.fnOf "words_within" "words_within" (defArgs s_words_within) (defBody s_words_within) (defScope s_words_within) .none kV9 dc9 pm9 an9 cd9 ct9), sl9⟩) (c9 : PySem.W.codeIn K cd9 "words_within" = true) (k9 : PySem.W.keepIn K (.ref f9) = true)
    {f10 : Addr} {od10 an10 : Option Addr} {sl10 : Array (Option Value)} {oc10 kV10 dc10 pm10 cd10 ct10 : Value}
    (a10 : PySem.W.nsIn K mainGlobals "words_with" = some (some (.ref f10))) (l10 : K.lookup f10 = some ⟨oc10, od10, .func (PySem.W.fnOf "words_with" "words_with" (defArgs s_words_with) (defBody s_words_with) (defScope s_words_with) .none kV10 dc10 pm10 an10 cd10 ct10), sl10⟩) (c10 : PySem.W.codeIn K cd10 "words_with" = true) (k10 : PySem.W.keepIn K (.ref f10) = true)
    {f11 : Addr} {od11 an11 : Option Addr} {sl11 : Array (Option Value)} {oc11 kV11 dc11 pm11 cd11 ct11 : Value}
    (a11 : PySem.W.nsIn K mainGlobals "day_of" = some (some (.ref f11))) (l11 : K.lookup f11 = some ⟨oc11, od11, .func (PySem.W.fnOf "day_of" "day_of" (defArgs s_day_of) (defBody s_day_of) (defScope s_day_of) .none kV11 dc11 pm11 an11 cd11 ct11), sl11⟩) (c11 : PySem.W.codeIn K cd11 "day_of" = true) (k11 : PySem.W.keepIn K (.ref f11) = true)
    {f12 : Addr} {od12 an12 : Option Addr} {sl12 : Array (Option Value)} {oc12 kV12 dc12 pm12 cd12 ct12 : Value}
    (a12 : PySem.W.nsIn K mainGlobals "read_condition" = some (some (.ref f12))) (l12 : K.lookup f12 = some ⟨oc12, od12, .func (PySem.W.fnOf "read_condition" "read_condition" (defArgs s_read_condition) (defBody s_read_condition) (defScope s_read_condition) .none kV12 dc12 pm12 an12 cd12 ct12), sl12⟩) (c12 : PySem.W.codeIn K cd12 "read_condition" = true) (k12 : PySem.W.keepIn K (.ref f12) = true)
    {f13 : Addr} {od13 an13 : Option Addr} {sl13 : Array (Option Value)} {oc13 kV13 dc13 pm13 cd13 ct13 : Value}
    (a13 : PySem.W.nsIn K mainGlobals "show_condition" = some (some (.ref f13))) (l13 : K.lookup f13 = some ⟨oc13, od13, .func (PySem.W.fnOf "show_condition" "show_condition" (defArgs s_show_condition) (defBody s_show_condition) (defScope s_show_condition) .none kV13 dc13 pm13 an13 cd13 ct13), sl13⟩) (c13 : PySem.W.codeIn K cd13 "show_condition" = true) (k13 : PySem.W.keepIn K (.ref f13) = true)
    {f14 : Addr} {od14 an14 : Option Addr} {sl14 : Array (Option Value)} {oc14 kV14 dc14 pm14 cd14 ct14 : Value}
    (a14 : PySem.W.nsIn K mainGlobals "_law_cell" = some (some (.ref f14))) (l14 : K.lookup f14 = some ⟨oc14, od14, .func (PySem.W.fnOf "_law_cell" "_law_cell" (defArgs s__law_cell) (defBody s__law_cell) (defScope s__law_cell) .none kV14 dc14 pm14 an14 cd14 ct14), sl14⟩) (c14 : PySem.W.codeIn K cd14 "_law_cell" = true) (k14 : PySem.W.keepIn K (.ref f14) = true)
    {f15 : Addr} {od15 an15 : Option Addr} {sl15 : Array (Option Value)} {oc15 kV15 dc15 pm15 cd15 ct15 : Value}
    (a15 : PySem.W.nsIn K mainGlobals "_law_mix" = some (some (.ref f15))) (l15 : K.lookup f15 = some ⟨oc15, od15, .func (PySem.W.fnOf "_law_mix" "_law_mix" (defArgs s__law_mix) (defBody s__law_mix) (defScope s__law_mix) .none kV15 dc15 pm15 an15 cd15 ct15), sl15⟩) (c15 : PySem.W.codeIn K cd15 "_law_mix" = true) (k15 : PySem.W.keepIn K (.ref f15) = true)
    {f16 : Addr} {od16 an16 : Option Addr} {sl16 : Array (Option Value)} {oc16 kV16 dc16 pm16 cd16 ct16 : Value}
    (a16 : PySem.W.nsIn K mainGlobals "_law_name" = some (some (.ref f16))) (l16 : K.lookup f16 = some ⟨oc16, od16, .func (PySem.W.fnOf "_law_name" "_law_name" (defArgs s__law_name) (defBody s__law_name) (defScope s__law_name) .none kV16 dc16 pm16 an16 cd16 ct16), sl16⟩) (c16 : PySem.W.codeIn K cd16 "_law_name" = true) (k16 : PySem.W.keepIn K (.ref f16) = true)
    {f17 : Addr} {od17 an17 : Option Addr} {sl17 : Array (Option Value)} {oc17 kV17 dc17 pm17 cd17 ct17 : Value}
    (a17 : PySem.W.nsIn K mainGlobals "_law_other" = some (some (.ref f17))) (l17 : K.lookup f17 = some ⟨oc17, od17, .func (PySem.W.fnOf "_law_other" "_law_other" (defArgs s__law_other) (defBody s__law_other) (defScope s__law_other) .none kV17 dc17 pm17 an17 cd17 ct17), sl17⟩) (c17 : PySem.W.codeIn K cd17 "_law_other" = true) (k17 : PySem.W.keepIn K (.ref f17) = true)
    {f18 : Addr} {od18 an18 : Option Addr} {sl18 : Array (Option Value)} {oc18 kV18 dc18 pm18 cd18 ct18 : Value}
    (a18 : PySem.W.nsIn K mainGlobals "_law_pools" = some (some (.ref f18))) (l18 : K.lookup f18 = some ⟨oc18, od18, .func (PySem.W.fnOf "_law_pools" "_law_pools" (defArgs s__law_pools) (defBody s__law_pools) (defScope s__law_pools) .none kV18 dc18 pm18 an18 cd18 ct18), sl18⟩) (c18 : PySem.W.codeIn K cd18 "_law_pools" = true) (k18 : PySem.W.keepIn K (.ref f18) = true)
    {f19 : Addr} {od19 an19 : Option Addr} {sl19 : Array (Option Value)} {oc19 kV19 dc19 pm19 cd19 ct19 : Value}
    (a19 : PySem.W.nsIn K mainGlobals "_law_leaf" = some (some (.ref f19))) (l19 : K.lookup f19 = some ⟨oc19, od19, .func (PySem.W.fnOf "_law_leaf" "_law_leaf" (defArgs s__law_leaf) (defBody s__law_leaf) (defScope s__law_leaf) .none kV19 dc19 pm19 an19 cd19 ct19), sl19⟩) (c19 : PySem.W.codeIn K cd19 "_law_leaf" = true) (k19 : PySem.W.keepIn K (.ref f19) = true)
    {f20 : Addr} {od20 an20 : Option Addr} {sl20 : Array (Option Value)} {oc20 kV20 dc20 pm20 cd20 ct20 : Value}
    (a20 : PySem.W.nsIn K mainGlobals "_law_loss" = some (some (.ref f20))) (l20 : K.lookup f20 = some ⟨oc20, od20, .func (PySem.W.fnOf "_law_loss" "_law_loss" (defArgs s__law_loss) (defBody s__law_loss) (defScope s__law_loss) .none kV20 dc20 pm20 an20 cd20 ct20), sl20⟩) (c20 : PySem.W.codeIn K cd20 "_law_loss" = true) (k20 : PySem.W.keepIn K (.ref f20) = true)
    {f21 : Addr} {od21 an21 : Option Addr} {sl21 : Array (Option Value)} {oc21 kV21 dc21 pm21 cd21 ct21 : Value}
    (a21 : PySem.W.nsIn K mainGlobals "_law_holds" = some (some (.ref f21))) (l21 : K.lookup f21 = some ⟨oc21, od21, .func (PySem.W.fnOf "_law_holds" "_law_holds" (defArgs s__law_holds) (defBody s__law_holds) (defScope s__law_holds) .none kV21 dc21 pm21 an21 cd21 ct21), sl21⟩) (c21 : PySem.W.codeIn K cd21 "_law_holds" = true) (k21 : PySem.W.keepIn K (.ref f21) = true)
    {f22 : Addr} {od22 an22 : Option Addr} {sl22 : Array (Option Value)} {oc22 kV22 dc22 pm22 cd22 ct22 : Value}
    (a22 : PySem.W.nsIn K mainGlobals "_law_inner" = some (some (.ref f22))) (l22 : K.lookup f22 = some ⟨oc22, od22, .func (PySem.W.fnOf "_law_inner" "_law_inner" (defArgs s__law_inner) (defBody s__law_inner) (defScope s__law_inner) .none kV22 dc22 pm22 an22 cd22 ct22), sl22⟩) (c22 : PySem.W.codeIn K cd22 "_law_inner" = true) (k22 : PySem.W.keepIn K (.ref f22) = true)
    {f23 : Addr} {od23 an23 : Option Addr} {sl23 : Array (Option Value)} {oc23 kV23 dc23 pm23 cd23 ct23 : Value}
    (a23 : PySem.W.nsIn K mainGlobals "_law_words" = some (some (.ref f23))) (l23 : K.lookup f23 = some ⟨oc23, od23, .func (PySem.W.fnOf "_law_words" "_law_words" (defArgs s__law_words) (defBody s__law_words) (defScope s__law_words) .none kV23 dc23 pm23 an23 cd23 ct23), sl23⟩) (c23 : PySem.W.codeIn K cd23 "_law_words" = true) (k23 : PySem.W.keepIn K (.ref f23) = true)
    {f24 : Addr} {od24 an24 : Option Addr} {sl24 : Array (Option Value)} {oc24 kV24 dc24 pm24 cd24 ct24 : Value}
    (a24 : PySem.W.nsIn K mainGlobals "_law_words_are" = some (some (.ref f24))) (l24 : K.lookup f24 = some ⟨oc24, od24, .func (PySem.W.fnOf "_law_words_are" "_law_words_are" (defArgs s__law_words_are) (defBody s__law_words_are) (defScope s__law_words_are) .none kV24 dc24 pm24 an24 cd24 ct24), sl24⟩) (c24 : PySem.W.codeIn K cd24 "_law_words_are" = true) (k24 : PySem.W.keepIn K (.ref f24) = true)
    {f25 : Addr} {od25 an25 : Option Addr} {sl25 : Array (Option Value)} {oc25 kV25 dc25 pm25 cd25 ct25 : Value}
    (a25 : PySem.W.nsIn K mainGlobals "_law_truth" = some (some (.ref f25))) (l25 : K.lookup f25 = some ⟨oc25, od25, .func (PySem.W.fnOf "_law_truth" "_law_truth" (defArgs s__law_truth) (defBody s__law_truth) (defScope s__law_truth) .none kV25 dc25 pm25 an25 cd25 ct25), sl25⟩) (c25 : PySem.W.codeIn K cd25 "_law_truth" = true) (k25 : PySem.W.keepIn K (.ref f25) = true)
    {f26 : Addr} {od26 an26 : Option Addr} {sl26 : Array (Option Value)} {oc26 kV26 dc26 pm26 cd26 ct26 : Value}
    (a26 : PySem.W.nsIn K mainGlobals "_law_spelt" = some (some (.ref f26))) (l26 : K.lookup f26 = some ⟨oc26, od26, .func (PySem.W.fnOf "_law_spelt" "_law_spelt" (defArgs s__law_spelt) (defBody s__law_spelt) (defScope s__law_spelt) .none kV26 dc26 pm26 an26 cd26 ct26), sl26⟩) (c26 : PySem.W.codeIn K cd26 "_law_spelt" = true) (k26 : PySem.W.keepIn K (.ref f26) = true)
    {f27 : Addr} {od27 an27 : Option Addr} {sl27 : Array (Option Value)} {oc27 kV27 dc27 pm27 cd27 ct27 : Value}
    (a27 : PySem.W.nsIn K mainGlobals "_law_join" = some (some (.ref f27))) (l27 : K.lookup f27 = some ⟨oc27, od27, .func (PySem.W.fnOf "_law_join" "_law_join" (defArgs s__law_join) (defBody s__law_join) (defScope s__law_join) .none kV27 dc27 pm27 an27 cd27 ct27), sl27⟩) (c27 : PySem.W.codeIn K cd27 "_law_join" = true) (k27 : PySem.W.keepIn K (.ref f27) = true)
    {f28 : Addr} {od28 an28 : Option Addr} {sl28 : Array (Option Value)} {oc28 kV28 dc28 pm28 cd28 ct28 : Value}
    (a28 : PySem.W.nsIn K mainGlobals "_law_step" = some (some (.ref f28))) (l28 : K.lookup f28 = some ⟨oc28, od28, .func (PySem.W.fnOf "_law_step" "_law_step" (defArgs s__law_step) (defBody s__law_step) (defScope s__law_step) .none kV28 dc28 pm28 an28 cd28 ct28), sl28⟩) (c28 : PySem.W.codeIn K cd28 "_law_step" = true) (k28 : PySem.W.keepIn K (.ref f28) = true)
    {f29 : Addr} {od29 an29 : Option Addr} {sl29 : Array (Option Value)} {oc29 kV29 dc29 pm29 cd29 ct29 : Value}
    (a29 : PySem.W.nsIn K mainGlobals "_law_text_tree" = some (some (.ref f29))) (l29 : K.lookup f29 = some ⟨oc29, od29, .func (PySem.W.fnOf "_law_text_tree" "_law_text_tree" (defArgs s__law_text_tree) (defBody s__law_text_tree) (defScope s__law_text_tree) .none kV29 dc29 pm29 an29 cd29 ct29), sl29⟩) (c29 : PySem.W.codeIn K cd29 "_law_text_tree" = true) (k29 : PySem.W.keepIn K (.ref f29) = true)
    {f30 : Addr} {od30 an30 : Option Addr} {sl30 : Array (Option Value)} {oc30 kV30 dc30 pm30 cd30 ct30 : Value}
    (a30 : PySem.W.nsIn K mainGlobals "_law_class_is" = some (some (.ref f30))) (l30 : K.lookup f30 = some ⟨oc30, od30, .func (PySem.W.fnOf "_law_class_is" "_law_class_is" (defArgs s__law_class_is) (defBody s__law_class_is) (defScope s__law_class_is) .none kV30 dc30 pm30 an30 cd30 ct30), sl30⟩) (c30 : PySem.W.codeIn K cd30 "_law_class_is" = true) (k30 : PySem.W.keepIn K (.ref f30) = true)
    {f31 : Addr} {od31 an31 : Option Addr} {sl31 : Array (Option Value)} {oc31 kV31 dc31 pm31 cd31 ct31 : Value}
    (a31 : PySem.W.nsIn K mainGlobals "law" = some (some (.ref f31))) (l31 : K.lookup f31 = some ⟨oc31, od31, .func (PySem.W.fnOf "law" "law" (defArgs s_law) (defBody s_law) (defScope s_law) .none kV31 dc31 pm31 an31 cd31 ct31), sl31⟩) (c31 : PySem.W.codeIn K cd31 "law" = true) (k31 : PySem.W.keepIn K (.ref f31) = true)
    {C_Condition : Addr} (q_Condition : PySem.W.nsIn K mainGlobals "Condition" = some (some (.ref C_Condition)))
    (pg_Condition : PySem.W.plainGet K C_Condition Str.empty = true) (hd_Condition : PySem.W.hasDictIn K C_Condition = true) (po_Condition : PySem.W.plainOver K C_Condition = true) (sa_Condition : PySem.W.findIn K (.ref C_Condition) "__setattr__" = some (some (.builtin "object.__setattr__"))) (mk_Condition : PySem.W.makesIn K C_Condition = true) (kc_Condition : PySem.W.keepIn K (.ref C_Condition) = true)
    (ha_Condition : PySem.W.findIn K (.ref C_Condition) "__class__" = some (some (.builtin "object.__class__"))) (hm_Condition : PySem.W.mroIn K C_Condition (.type "object") = some true)
    (gs : PySem.W.specialIn K (.builtin "object.__class__") "__get__" = some (some (.builtin "getset_descriptor.__get__"))) (tk : PySem.W.takesIn K (.builtin "object.__class__") = some true)
    {C_CauseIs : Addr} (q_CauseIs : PySem.W.nsIn K mainGlobals "CauseIs" = some (some (.ref C_CauseIs)))
    (pg_CauseIs : PySem.W.plainGet K C_CauseIs Str.empty = true) (hd_CauseIs : PySem.W.hasDictIn K C_CauseIs = true) (po_CauseIs : PySem.W.plainOver K C_CauseIs = true) (sa_CauseIs : PySem.W.findIn K (.ref C_CauseIs) "__setattr__" = some (some (.builtin "object.__setattr__"))) (mk_CauseIs : PySem.W.makesIn K C_CauseIs = true) (kc_CauseIs : PySem.W.keepIn K (.ref C_CauseIs) = true)
    (na_CauseIs_name : PySem.W.findIn K (.ref C_CauseIs) "name" = some none)
    (ha_CauseIs : PySem.W.findIn K (.ref C_CauseIs) "__class__" = some (some (.builtin "object.__class__"))) (hm_CauseIs : PySem.W.mroIn K C_CauseIs (.type "object") = some true)
    {C_ThingIs : Addr} (q_ThingIs : PySem.W.nsIn K mainGlobals "ThingIs" = some (some (.ref C_ThingIs)))
    (pg_ThingIs : PySem.W.plainGet K C_ThingIs Str.empty = true) (hd_ThingIs : PySem.W.hasDictIn K C_ThingIs = true) (po_ThingIs : PySem.W.plainOver K C_ThingIs = true) (sa_ThingIs : PySem.W.findIn K (.ref C_ThingIs) "__setattr__" = some (some (.builtin "object.__setattr__"))) (mk_ThingIs : PySem.W.makesIn K C_ThingIs = true) (kc_ThingIs : PySem.W.keepIn K (.ref C_ThingIs) = true)
    (na_ThingIs_name : PySem.W.findIn K (.ref C_ThingIs) "name" = some none)
    (ha_ThingIs : PySem.W.findIn K (.ref C_ThingIs) "__class__" = some (some (.builtin "object.__class__"))) (hm_ThingIs : PySem.W.mroIn K C_ThingIs (.type "object") = some true)
    {C_DaysIn : Addr} (q_DaysIn : PySem.W.nsIn K mainGlobals "DaysIn" = some (some (.ref C_DaysIn)))
    (pg_DaysIn : PySem.W.plainGet K C_DaysIn Str.empty = true) (hd_DaysIn : PySem.W.hasDictIn K C_DaysIn = true) (po_DaysIn : PySem.W.plainOver K C_DaysIn = true) (sa_DaysIn : PySem.W.findIn K (.ref C_DaysIn) "__setattr__" = some (some (.builtin "object.__setattr__"))) (mk_DaysIn : PySem.W.makesIn K C_DaysIn = true) (kc_DaysIn : PySem.W.keepIn K (.ref C_DaysIn) = true)
    (na_DaysIn_first : PySem.W.findIn K (.ref C_DaysIn) "first" = some none)
    (na_DaysIn_last : PySem.W.findIn K (.ref C_DaysIn) "last" = some none)
    (ha_DaysIn : PySem.W.findIn K (.ref C_DaysIn) "__class__" = some (some (.builtin "object.__class__"))) (hm_DaysIn : PySem.W.mroIn K C_DaysIn (.type "object") = some true)
    {C_Over : Addr} (q_Over : PySem.W.nsIn K mainGlobals "Over" = some (some (.ref C_Over)))
    (pg_Over : PySem.W.plainGet K C_Over Str.empty = true) (hd_Over : PySem.W.hasDictIn K C_Over = true) (po_Over : PySem.W.plainOver K C_Over = true) (sa_Over : PySem.W.findIn K (.ref C_Over) "__setattr__" = some (some (.builtin "object.__setattr__"))) (mk_Over : PySem.W.makesIn K C_Over = true) (kc_Over : PySem.W.keepIn K (.ref C_Over) = true)
    (na_Over_cents : PySem.W.findIn K (.ref C_Over) "cents" = some none)
    (ha_Over : PySem.W.findIn K (.ref C_Over) "__class__" = some (some (.builtin "object.__class__"))) (hm_Over : PySem.W.mroIn K C_Over (.type "object") = some true)
    {C_Not : Addr} (q_Not : PySem.W.nsIn K mainGlobals "Not" = some (some (.ref C_Not)))
    (pg_Not : PySem.W.plainGet K C_Not Str.empty = true) (hd_Not : PySem.W.hasDictIn K C_Not = true) (po_Not : PySem.W.plainOver K C_Not = true) (sa_Not : PySem.W.findIn K (.ref C_Not) "__setattr__" = some (some (.builtin "object.__setattr__"))) (mk_Not : PySem.W.makesIn K C_Not = true) (kc_Not : PySem.W.keepIn K (.ref C_Not) = true)
    (na_Not_part : PySem.W.findIn K (.ref C_Not) "part" = some none)
    (ha_Not : PySem.W.findIn K (.ref C_Not) "__class__" = some (some (.builtin "object.__class__"))) (hm_Not : PySem.W.mroIn K C_Not (.type "object") = some true)
    {C_All : Addr} (q_All : PySem.W.nsIn K mainGlobals "All" = some (some (.ref C_All)))
    (pg_All : PySem.W.plainGet K C_All Str.empty = true) (hd_All : PySem.W.hasDictIn K C_All = true) (po_All : PySem.W.plainOver K C_All = true) (sa_All : PySem.W.findIn K (.ref C_All) "__setattr__" = some (some (.builtin "object.__setattr__"))) (mk_All : PySem.W.makesIn K C_All = true) (kc_All : PySem.W.keepIn K (.ref C_All) = true)
    (na_All_several : PySem.W.findIn K (.ref C_All) "several" = some none)
    (ha_All : PySem.W.findIn K (.ref C_All) "__class__" = some (some (.builtin "object.__class__"))) (hm_All : PySem.W.mroIn K C_All (.type "object") = some true)
    {C_Some : Addr} (q_Some : PySem.W.nsIn K mainGlobals "Some" = some (some (.ref C_Some)))
    (pg_Some : PySem.W.plainGet K C_Some Str.empty = true) (hd_Some : PySem.W.hasDictIn K C_Some = true) (po_Some : PySem.W.plainOver K C_Some = true) (sa_Some : PySem.W.findIn K (.ref C_Some) "__setattr__" = some (some (.builtin "object.__setattr__"))) (mk_Some : PySem.W.makesIn K C_Some = true) (kc_Some : PySem.W.keepIn K (.ref C_Some) = true)
    (na_Some_several : PySem.W.findIn K (.ref C_Some) "several" = some none)
    (ha_Some : PySem.W.findIn K (.ref C_Some) "__class__" = some (some (.builtin "object.__class__"))) (hm_Some : PySem.W.mroIn K C_Some (.type "object") = some true)
    {C_Reader : Addr} (q_Reader : PySem.W.nsIn K mainGlobals "Reader" = some (some (.ref C_Reader)))
    (pg_Reader : PySem.W.plainGet K C_Reader Str.empty = true) (hd_Reader : PySem.W.hasDictIn K C_Reader = true) (po_Reader : PySem.W.plainOver K C_Reader = true) (sa_Reader : PySem.W.findIn K (.ref C_Reader) "__setattr__" = some (some (.builtin "object.__setattr__"))) (mk_Reader : PySem.W.makesIn K C_Reader = true) (kc_Reader : PySem.W.keepIn K (.ref C_Reader) = true)
    (na_Reader_row : PySem.W.findIn K (.ref C_Reader) "row" = some none)
    (na_Reader_place : PySem.W.findIn K (.ref C_Reader) "place" = some none)
    (na_Reader_depth : PySem.W.findIn K (.ref C_Reader) "depth" = some none)
    (kt_Condition_Condition : PySem.W.kitOne K (.ref C_Condition) (.ref C_Condition) = some true)
    (kt_Condition_CauseIs : PySem.W.kitOne K (.ref C_Condition) (.ref C_CauseIs) = some false)
    (kt_Condition_ThingIs : PySem.W.kitOne K (.ref C_Condition) (.ref C_ThingIs) = some false)
    (kt_Condition_DaysIn : PySem.W.kitOne K (.ref C_Condition) (.ref C_DaysIn) = some false)
    (kt_Condition_Over : PySem.W.kitOne K (.ref C_Condition) (.ref C_Over) = some false)
    (kt_Condition_Not : PySem.W.kitOne K (.ref C_Condition) (.ref C_Not) = some false)
    (kt_Condition_All : PySem.W.kitOne K (.ref C_Condition) (.ref C_All) = some false)
    (kt_Condition_Some : PySem.W.kitOne K (.ref C_Condition) (.ref C_Some) = some false)
    (kt_CauseIs_Condition : PySem.W.kitOne K (.ref C_CauseIs) (.ref C_Condition) = some true)
    (kt_CauseIs_CauseIs : PySem.W.kitOne K (.ref C_CauseIs) (.ref C_CauseIs) = some true)
    (kt_CauseIs_ThingIs : PySem.W.kitOne K (.ref C_CauseIs) (.ref C_ThingIs) = some false)
    (kt_CauseIs_DaysIn : PySem.W.kitOne K (.ref C_CauseIs) (.ref C_DaysIn) = some false)
    (kt_CauseIs_Over : PySem.W.kitOne K (.ref C_CauseIs) (.ref C_Over) = some false)
    (kt_CauseIs_Not : PySem.W.kitOne K (.ref C_CauseIs) (.ref C_Not) = some false)
    (kt_CauseIs_All : PySem.W.kitOne K (.ref C_CauseIs) (.ref C_All) = some false)
    (kt_CauseIs_Some : PySem.W.kitOne K (.ref C_CauseIs) (.ref C_Some) = some false)
    (kt_ThingIs_Condition : PySem.W.kitOne K (.ref C_ThingIs) (.ref C_Condition) = some true)
    (kt_ThingIs_CauseIs : PySem.W.kitOne K (.ref C_ThingIs) (.ref C_CauseIs) = some false)
    (kt_ThingIs_ThingIs : PySem.W.kitOne K (.ref C_ThingIs) (.ref C_ThingIs) = some true)
    (kt_ThingIs_DaysIn : PySem.W.kitOne K (.ref C_ThingIs) (.ref C_DaysIn) = some false)
    (kt_ThingIs_Over : PySem.W.kitOne K (.ref C_ThingIs) (.ref C_Over) = some false)
    (kt_ThingIs_Not : PySem.W.kitOne K (.ref C_ThingIs) (.ref C_Not) = some false)
    (kt_ThingIs_All : PySem.W.kitOne K (.ref C_ThingIs) (.ref C_All) = some false)
    (kt_ThingIs_Some : PySem.W.kitOne K (.ref C_ThingIs) (.ref C_Some) = some false)
    (kt_DaysIn_Condition : PySem.W.kitOne K (.ref C_DaysIn) (.ref C_Condition) = some true)
    (kt_DaysIn_CauseIs : PySem.W.kitOne K (.ref C_DaysIn) (.ref C_CauseIs) = some false)
    (kt_DaysIn_ThingIs : PySem.W.kitOne K (.ref C_DaysIn) (.ref C_ThingIs) = some false)
    (kt_DaysIn_DaysIn : PySem.W.kitOne K (.ref C_DaysIn) (.ref C_DaysIn) = some true)
    (kt_DaysIn_Over : PySem.W.kitOne K (.ref C_DaysIn) (.ref C_Over) = some false)
    (kt_DaysIn_Not : PySem.W.kitOne K (.ref C_DaysIn) (.ref C_Not) = some false)
    (kt_DaysIn_All : PySem.W.kitOne K (.ref C_DaysIn) (.ref C_All) = some false)
    (kt_DaysIn_Some : PySem.W.kitOne K (.ref C_DaysIn) (.ref C_Some) = some false)
    (kt_Over_Condition : PySem.W.kitOne K (.ref C_Over) (.ref C_Condition) = some true)
    (kt_Over_CauseIs : PySem.W.kitOne K (.ref C_Over) (.ref C_CauseIs) = some false)
    (kt_Over_ThingIs : PySem.W.kitOne K (.ref C_Over) (.ref C_ThingIs) = some false)
    (kt_Over_DaysIn : PySem.W.kitOne K (.ref C_Over) (.ref C_DaysIn) = some false)
    (kt_Over_Over : PySem.W.kitOne K (.ref C_Over) (.ref C_Over) = some true)
    (kt_Over_Not : PySem.W.kitOne K (.ref C_Over) (.ref C_Not) = some false)
    (kt_Over_All : PySem.W.kitOne K (.ref C_Over) (.ref C_All) = some false)
    (kt_Over_Some : PySem.W.kitOne K (.ref C_Over) (.ref C_Some) = some false)
    (kt_Not_Condition : PySem.W.kitOne K (.ref C_Not) (.ref C_Condition) = some true)
    (kt_Not_CauseIs : PySem.W.kitOne K (.ref C_Not) (.ref C_CauseIs) = some false)
    (kt_Not_ThingIs : PySem.W.kitOne K (.ref C_Not) (.ref C_ThingIs) = some false)
    (kt_Not_DaysIn : PySem.W.kitOne K (.ref C_Not) (.ref C_DaysIn) = some false)
    (kt_Not_Over : PySem.W.kitOne K (.ref C_Not) (.ref C_Over) = some false)
    (kt_Not_Not : PySem.W.kitOne K (.ref C_Not) (.ref C_Not) = some true)
    (kt_Not_All : PySem.W.kitOne K (.ref C_Not) (.ref C_All) = some false)
    (kt_Not_Some : PySem.W.kitOne K (.ref C_Not) (.ref C_Some) = some false)
    (kt_All_Condition : PySem.W.kitOne K (.ref C_All) (.ref C_Condition) = some true)
    (kt_All_CauseIs : PySem.W.kitOne K (.ref C_All) (.ref C_CauseIs) = some false)
    (kt_All_ThingIs : PySem.W.kitOne K (.ref C_All) (.ref C_ThingIs) = some false)
    (kt_All_DaysIn : PySem.W.kitOne K (.ref C_All) (.ref C_DaysIn) = some false)
    (kt_All_Over : PySem.W.kitOne K (.ref C_All) (.ref C_Over) = some false)
    (kt_All_Not : PySem.W.kitOne K (.ref C_All) (.ref C_Not) = some false)
    (kt_All_All : PySem.W.kitOne K (.ref C_All) (.ref C_All) = some true)
    (kt_All_Some : PySem.W.kitOne K (.ref C_All) (.ref C_Some) = some false)
    (kt_Some_Condition : PySem.W.kitOne K (.ref C_Some) (.ref C_Condition) = some true)
    (kt_Some_CauseIs : PySem.W.kitOne K (.ref C_Some) (.ref C_CauseIs) = some false)
    (kt_Some_ThingIs : PySem.W.kitOne K (.ref C_Some) (.ref C_ThingIs) = some false)
    (kt_Some_DaysIn : PySem.W.kitOne K (.ref C_Some) (.ref C_DaysIn) = some false)
    (kt_Some_Over : PySem.W.kitOne K (.ref C_Some) (.ref C_Over) = some false)
    (kt_Some_Not : PySem.W.kitOne K (.ref C_Some) (.ref C_Not) = some false)
    (kt_Some_All : PySem.W.kitOne K (.ref C_Some) (.ref C_All) = some false)
    (kt_Some_Some : PySem.W.kitOne K (.ref C_Some) (.ref C_Some) = some true)
    (nd_C : ([C_Condition, C_CauseIs, C_ThingIs, C_DaysIn, C_Over, C_Not, C_All, C_Some, C_Reader] : List Addr).Nodup)
    {fCondition_holds : Addr} {odCondition_holds anCondition_holds : Option Addr} {slCondition_holds : Array (Option Value)} {ocCondition_holds kVCondition_holds dcCondition_holds pmCondition_holds cdCondition_holds ctCondition_holds : Value}
    (a_Condition_holds : PySem.W.findIn K (.ref C_Condition) "holds" = some (some (.ref fCondition_holds)))
    (iCondition_holds : PySem.W.isFn K (.ref fCondition_holds) = true) (lCondition_holds : K.lookup fCondition_holds = some ⟨ocCondition_holds, odCondition_holds, .func (PySem.W.fnOf "holds" "Condition.holds" (defArgs s_Condition_holds) (defBody s_Condition_holds) (defScope s_Condition_holds) .none kVCondition_holds dcCondition_holds pmCondition_holds anCondition_holds cdCondition_holds ctCondition_holds), slCondition_holds⟩) (cCondition_holds : PySem.W.codeIn K cdCondition_holds "Condition.holds" = true) (kCondition_holds : PySem.W.keepIn K (.ref fCondition_holds) = true)
    {fCondition_rank : Addr} {odCondition_rank anCondition_rank : Option Addr} {slCondition_rank : Array (Option Value)} {ocCondition_rank kVCondition_rank dcCondition_rank pmCondition_rank cdCondition_rank ctCondition_rank : Value}
    (a_Condition_rank : PySem.W.findIn K (.ref C_Condition) "rank" = some (some (.ref fCondition_rank)))
    (iCondition_rank : PySem.W.isFn K (.ref fCondition_rank) = true) (lCondition_rank : K.lookup fCondition_rank = some ⟨ocCondition_rank, odCondition_rank, .func (PySem.W.fnOf "rank" "Condition.rank" (defArgs s_Condition_rank) (defBody s_Condition_rank) (defScope s_Condition_rank) .none kVCondition_rank dcCondition_rank pmCondition_rank anCondition_rank cdCondition_rank ctCondition_rank), slCondition_rank⟩) (cCondition_rank : PySem.W.codeIn K cdCondition_rank "Condition.rank" = true) (kCondition_rank : PySem.W.keepIn K (.ref fCondition_rank) = true)
    {fCondition_words : Addr} {odCondition_words anCondition_words : Option Addr} {slCondition_words : Array (Option Value)} {ocCondition_words kVCondition_words dcCondition_words pmCondition_words cdCondition_words ctCondition_words : Value}
    (a_Condition_words : PySem.W.findIn K (.ref C_Condition) "words" = some (some (.ref fCondition_words)))
    (iCondition_words : PySem.W.isFn K (.ref fCondition_words) = true) (lCondition_words : K.lookup fCondition_words = some ⟨ocCondition_words, odCondition_words, .func (PySem.W.fnOf "words" "Condition.words" (defArgs s_Condition_words) (defBody s_Condition_words) (defScope s_Condition_words) .none kVCondition_words dcCondition_words pmCondition_words anCondition_words cdCondition_words ctCondition_words), slCondition_words⟩) (cCondition_words : PySem.W.codeIn K cdCondition_words "Condition.words" = true) (kCondition_words : PySem.W.keepIn K (.ref fCondition_words) = true)
    {fCauseIs___init__ : Addr} {odCauseIs___init__ anCauseIs___init__ : Option Addr} {slCauseIs___init__ : Array (Option Value)} {ocCauseIs___init__ kVCauseIs___init__ dcCauseIs___init__ pmCauseIs___init__ cdCauseIs___init__ ctCauseIs___init__ : Value}
    (a_CauseIs___init__ : PySem.W.findIn K (.ref C_CauseIs) "__init__" = some (some (.ref fCauseIs___init__)))
    (iCauseIs___init__ : PySem.W.isFn K (.ref fCauseIs___init__) = true) (lCauseIs___init__ : K.lookup fCauseIs___init__ = some ⟨ocCauseIs___init__, odCauseIs___init__, .func (PySem.W.fnOf "__init__" "CauseIs.__init__" (defArgs s_CauseIs___init__) (defBody s_CauseIs___init__) (defScope s_CauseIs___init__) .none kVCauseIs___init__ dcCauseIs___init__ pmCauseIs___init__ anCauseIs___init__ cdCauseIs___init__ ctCauseIs___init__), slCauseIs___init__⟩) (cCauseIs___init__ : PySem.W.codeIn K cdCauseIs___init__ "CauseIs.__init__" = true) (kCauseIs___init__ : PySem.W.keepIn K (.ref fCauseIs___init__) = true)
    {fCauseIs_holds : Addr} {odCauseIs_holds anCauseIs_holds : Option Addr} {slCauseIs_holds : Array (Option Value)} {ocCauseIs_holds kVCauseIs_holds dcCauseIs_holds pmCauseIs_holds cdCauseIs_holds ctCauseIs_holds : Value}
    (a_CauseIs_holds : PySem.W.findIn K (.ref C_CauseIs) "holds" = some (some (.ref fCauseIs_holds)))
    (iCauseIs_holds : PySem.W.isFn K (.ref fCauseIs_holds) = true) (lCauseIs_holds : K.lookup fCauseIs_holds = some ⟨ocCauseIs_holds, odCauseIs_holds, .func (PySem.W.fnOf "holds" "CauseIs.holds" (defArgs s_CauseIs_holds) (defBody s_CauseIs_holds) (defScope s_CauseIs_holds) .none kVCauseIs_holds dcCauseIs_holds pmCauseIs_holds anCauseIs_holds cdCauseIs_holds ctCauseIs_holds), slCauseIs_holds⟩) (cCauseIs_holds : PySem.W.codeIn K cdCauseIs_holds "CauseIs.holds" = true) (kCauseIs_holds : PySem.W.keepIn K (.ref fCauseIs_holds) = true)
    {fCauseIs_words : Addr} {odCauseIs_words anCauseIs_words : Option Addr} {slCauseIs_words : Array (Option Value)} {ocCauseIs_words kVCauseIs_words dcCauseIs_words pmCauseIs_words cdCauseIs_words ctCauseIs_words : Value}
    (a_CauseIs_words : PySem.W.findIn K (.ref C_CauseIs) "words" = some (some (.ref fCauseIs_words)))
    (iCauseIs_words : PySem.W.isFn K (.ref fCauseIs_words) = true) (lCauseIs_words : K.lookup fCauseIs_words = some ⟨ocCauseIs_words, odCauseIs_words, .func (PySem.W.fnOf "words" "CauseIs.words" (defArgs s_CauseIs_words) (defBody s_CauseIs_words) (defScope s_CauseIs_words) .none kVCauseIs_words dcCauseIs_words pmCauseIs_words anCauseIs_words cdCauseIs_words ctCauseIs_words), slCauseIs_words⟩) (cCauseIs_words : PySem.W.codeIn K cdCauseIs_words "CauseIs.words" = true) (kCauseIs_words : PySem.W.keepIn K (.ref fCauseIs_words) = true)
    {fThingIs___init__ : Addr} {odThingIs___init__ anThingIs___init__ : Option Addr} {slThingIs___init__ : Array (Option Value)} {ocThingIs___init__ kVThingIs___init__ dcThingIs___init__ pmThingIs___init__ cdThingIs___init__ ctThingIs___init__ : Value}
    (a_ThingIs___init__ : PySem.W.findIn K (.ref C_ThingIs) "__init__" = some (some (.ref fThingIs___init__)))
    (iThingIs___init__ : PySem.W.isFn K (.ref fThingIs___init__) = true) (lThingIs___init__ : K.lookup fThingIs___init__ = some ⟨ocThingIs___init__, odThingIs___init__, .func (PySem.W.fnOf "__init__" "ThingIs.__init__" (defArgs s_ThingIs___init__) (defBody s_ThingIs___init__) (defScope s_ThingIs___init__) .none kVThingIs___init__ dcThingIs___init__ pmThingIs___init__ anThingIs___init__ cdThingIs___init__ ctThingIs___init__), slThingIs___init__⟩) (cThingIs___init__ : PySem.W.codeIn K cdThingIs___init__ "ThingIs.__init__" = true) (kThingIs___init__ : PySem.W.keepIn K (.ref fThingIs___init__) = true)
    {fThingIs_holds : Addr} {odThingIs_holds anThingIs_holds : Option Addr} {slThingIs_holds : Array (Option Value)} {ocThingIs_holds kVThingIs_holds dcThingIs_holds pmThingIs_holds cdThingIs_holds ctThingIs_holds : Value}
    (a_ThingIs_holds : PySem.W.findIn K (.ref C_ThingIs) "holds" = some (some (.ref fThingIs_holds)))
    (iThingIs_holds : PySem.W.isFn K (.ref fThingIs_holds) = true) (lThingIs_holds : K.lookup fThingIs_holds = some ⟨ocThingIs_holds, odThingIs_holds, .func (PySem.W.fnOf "holds" "ThingIs.holds" (defArgs s_ThingIs_holds) (defBody s_ThingIs_holds) (defScope s_ThingIs_holds) .none kVThingIs_holds dcThingIs_holds pmThingIs_holds anThingIs_holds cdThingIs_holds ctThingIs_holds), slThingIs_holds⟩) (cThingIs_holds : PySem.W.codeIn K cdThingIs_holds "ThingIs.holds" = true) (kThingIs_holds : PySem.W.keepIn K (.ref fThingIs_holds) = true)
    {fThingIs_words : Addr} {odThingIs_words anThingIs_words : Option Addr} {slThingIs_words : Array (Option Value)} {ocThingIs_words kVThingIs_words dcThingIs_words pmThingIs_words cdThingIs_words ctThingIs_words : Value}
    (a_ThingIs_words : PySem.W.findIn K (.ref C_ThingIs) "words" = some (some (.ref fThingIs_words)))
    (iThingIs_words : PySem.W.isFn K (.ref fThingIs_words) = true) (lThingIs_words : K.lookup fThingIs_words = some ⟨ocThingIs_words, odThingIs_words, .func (PySem.W.fnOf "words" "ThingIs.words" (defArgs s_ThingIs_words) (defBody s_ThingIs_words) (defScope s_ThingIs_words) .none kVThingIs_words dcThingIs_words pmThingIs_words anThingIs_words cdThingIs_words ctThingIs_words), slThingIs_words⟩) (cThingIs_words : PySem.W.codeIn K cdThingIs_words "ThingIs.words" = true) (kThingIs_words : PySem.W.keepIn K (.ref fThingIs_words) = true)
    {fDaysIn___init__ : Addr} {odDaysIn___init__ anDaysIn___init__ : Option Addr} {slDaysIn___init__ : Array (Option Value)} {ocDaysIn___init__ kVDaysIn___init__ dcDaysIn___init__ pmDaysIn___init__ cdDaysIn___init__ ctDaysIn___init__ : Value}
    (a_DaysIn___init__ : PySem.W.findIn K (.ref C_DaysIn) "__init__" = some (some (.ref fDaysIn___init__)))
    (iDaysIn___init__ : PySem.W.isFn K (.ref fDaysIn___init__) = true) (lDaysIn___init__ : K.lookup fDaysIn___init__ = some ⟨ocDaysIn___init__, odDaysIn___init__, .func (PySem.W.fnOf "__init__" "DaysIn.__init__" (defArgs s_DaysIn___init__) (defBody s_DaysIn___init__) (defScope s_DaysIn___init__) .none kVDaysIn___init__ dcDaysIn___init__ pmDaysIn___init__ anDaysIn___init__ cdDaysIn___init__ ctDaysIn___init__), slDaysIn___init__⟩) (cDaysIn___init__ : PySem.W.codeIn K cdDaysIn___init__ "DaysIn.__init__" = true) (kDaysIn___init__ : PySem.W.keepIn K (.ref fDaysIn___init__) = true)
    {fDaysIn_holds : Addr} {odDaysIn_holds anDaysIn_holds : Option Addr} {slDaysIn_holds : Array (Option Value)} {ocDaysIn_holds kVDaysIn_holds dcDaysIn_holds pmDaysIn_holds cdDaysIn_holds ctDaysIn_holds : Value}
    (a_DaysIn_holds : PySem.W.findIn K (.ref C_DaysIn) "holds" = some (some (.ref fDaysIn_holds)))
    (iDaysIn_holds : PySem.W.isFn K (.ref fDaysIn_holds) = true) (lDaysIn_holds : K.lookup fDaysIn_holds = some ⟨ocDaysIn_holds, odDaysIn_holds, .func (PySem.W.fnOf "holds" "DaysIn.holds" (defArgs s_DaysIn_holds) (defBody s_DaysIn_holds) (defScope s_DaysIn_holds) .none kVDaysIn_holds dcDaysIn_holds pmDaysIn_holds anDaysIn_holds cdDaysIn_holds ctDaysIn_holds), slDaysIn_holds⟩) (cDaysIn_holds : PySem.W.codeIn K cdDaysIn_holds "DaysIn.holds" = true) (kDaysIn_holds : PySem.W.keepIn K (.ref fDaysIn_holds) = true)
    {fDaysIn_words : Addr} {odDaysIn_words anDaysIn_words : Option Addr} {slDaysIn_words : Array (Option Value)} {ocDaysIn_words kVDaysIn_words dcDaysIn_words pmDaysIn_words cdDaysIn_words ctDaysIn_words : Value}
    (a_DaysIn_words : PySem.W.findIn K (.ref C_DaysIn) "words" = some (some (.ref fDaysIn_words)))
    (iDaysIn_words : PySem.W.isFn K (.ref fDaysIn_words) = true) (lDaysIn_words : K.lookup fDaysIn_words = some ⟨ocDaysIn_words, odDaysIn_words, .func (PySem.W.fnOf "words" "DaysIn.words" (defArgs s_DaysIn_words) (defBody s_DaysIn_words) (defScope s_DaysIn_words) .none kVDaysIn_words dcDaysIn_words pmDaysIn_words anDaysIn_words cdDaysIn_words ctDaysIn_words), slDaysIn_words⟩) (cDaysIn_words : PySem.W.codeIn K cdDaysIn_words "DaysIn.words" = true) (kDaysIn_words : PySem.W.keepIn K (.ref fDaysIn_words) = true)
    {fOver___init__ : Addr} {odOver___init__ anOver___init__ : Option Addr} {slOver___init__ : Array (Option Value)} {ocOver___init__ kVOver___init__ dcOver___init__ pmOver___init__ cdOver___init__ ctOver___init__ : Value}
    (a_Over___init__ : PySem.W.findIn K (.ref C_Over) "__init__" = some (some (.ref fOver___init__)))
    (iOver___init__ : PySem.W.isFn K (.ref fOver___init__) = true) (lOver___init__ : K.lookup fOver___init__ = some ⟨ocOver___init__, odOver___init__, .func (PySem.W.fnOf "__init__" "Over.__init__" (defArgs s_Over___init__) (defBody s_Over___init__) (defScope s_Over___init__) .none kVOver___init__ dcOver___init__ pmOver___init__ anOver___init__ cdOver___init__ ctOver___init__), slOver___init__⟩) (cOver___init__ : PySem.W.codeIn K cdOver___init__ "Over.__init__" = true) (kOver___init__ : PySem.W.keepIn K (.ref fOver___init__) = true)
    {fOver_holds : Addr} {odOver_holds anOver_holds : Option Addr} {slOver_holds : Array (Option Value)} {ocOver_holds kVOver_holds dcOver_holds pmOver_holds cdOver_holds ctOver_holds : Value}
    (a_Over_holds : PySem.W.findIn K (.ref C_Over) "holds" = some (some (.ref fOver_holds)))
    (iOver_holds : PySem.W.isFn K (.ref fOver_holds) = true) (lOver_holds : K.lookup fOver_holds = some ⟨ocOver_holds, odOver_holds, .func (PySem.W.fnOf "holds" "Over.holds" (defArgs s_Over_holds) (defBody s_Over_holds) (defScope s_Over_holds) .none kVOver_holds dcOver_holds pmOver_holds anOver_holds cdOver_holds ctOver_holds), slOver_holds⟩) (cOver_holds : PySem.W.codeIn K cdOver_holds "Over.holds" = true) (kOver_holds : PySem.W.keepIn K (.ref fOver_holds) = true)
    {fOver_words : Addr} {odOver_words anOver_words : Option Addr} {slOver_words : Array (Option Value)} {ocOver_words kVOver_words dcOver_words pmOver_words cdOver_words ctOver_words : Value}
    (a_Over_words : PySem.W.findIn K (.ref C_Over) "words" = some (some (.ref fOver_words)))
    (iOver_words : PySem.W.isFn K (.ref fOver_words) = true) (lOver_words : K.lookup fOver_words = some ⟨ocOver_words, odOver_words, .func (PySem.W.fnOf "words" "Over.words" (defArgs s_Over_words) (defBody s_Over_words) (defScope s_Over_words) .none kVOver_words dcOver_words pmOver_words anOver_words cdOver_words ctOver_words), slOver_words⟩) (cOver_words : PySem.W.codeIn K cdOver_words "Over.words" = true) (kOver_words : PySem.W.keepIn K (.ref fOver_words) = true)
    {fNot___init__ : Addr} {odNot___init__ anNot___init__ : Option Addr} {slNot___init__ : Array (Option Value)} {ocNot___init__ kVNot___init__ dcNot___init__ pmNot___init__ cdNot___init__ ctNot___init__ : Value}
    (a_Not___init__ : PySem.W.findIn K (.ref C_Not) "__init__" = some (some (.ref fNot___init__)))
    (iNot___init__ : PySem.W.isFn K (.ref fNot___init__) = true) (lNot___init__ : K.lookup fNot___init__ = some ⟨ocNot___init__, odNot___init__, .func (PySem.W.fnOf "__init__" "Not.__init__" (defArgs s_Not___init__) (defBody s_Not___init__) (defScope s_Not___init__) .none kVNot___init__ dcNot___init__ pmNot___init__ anNot___init__ cdNot___init__ ctNot___init__), slNot___init__⟩) (cNot___init__ : PySem.W.codeIn K cdNot___init__ "Not.__init__" = true) (kNot___init__ : PySem.W.keepIn K (.ref fNot___init__) = true)
    {fNot_holds : Addr} {odNot_holds anNot_holds : Option Addr} {slNot_holds : Array (Option Value)} {ocNot_holds kVNot_holds dcNot_holds pmNot_holds cdNot_holds ctNot_holds : Value}
    (a_Not_holds : PySem.W.findIn K (.ref C_Not) "holds" = some (some (.ref fNot_holds)))
    (iNot_holds : PySem.W.isFn K (.ref fNot_holds) = true) (lNot_holds : K.lookup fNot_holds = some ⟨ocNot_holds, odNot_holds, .func (PySem.W.fnOf "holds" "Not.holds" (defArgs s_Not_holds) (defBody s_Not_holds) (defScope s_Not_holds) .none kVNot_holds dcNot_holds pmNot_holds anNot_holds cdNot_holds ctNot_holds), slNot_holds⟩) (cNot_holds : PySem.W.codeIn K cdNot_holds "Not.holds" = true) (kNot_holds : PySem.W.keepIn K (.ref fNot_holds) = true)
    {fNot_words : Addr} {odNot_words anNot_words : Option Addr} {slNot_words : Array (Option Value)} {ocNot_words kVNot_words dcNot_words pmNot_words cdNot_words ctNot_words : Value}
    (a_Not_words : PySem.W.findIn K (.ref C_Not) "words" = some (some (.ref fNot_words)))
    (iNot_words : PySem.W.isFn K (.ref fNot_words) = true) (lNot_words : K.lookup fNot_words = some ⟨ocNot_words, odNot_words, .func (PySem.W.fnOf "words" "Not.words" (defArgs s_Not_words) (defBody s_Not_words) (defScope s_Not_words) .none kVNot_words dcNot_words pmNot_words anNot_words cdNot_words ctNot_words), slNot_words⟩) (cNot_words : PySem.W.codeIn K cdNot_words "Not.words" = true) (kNot_words : PySem.W.keepIn K (.ref fNot_words) = true)
    {fAll___init__ : Addr} {odAll___init__ anAll___init__ : Option Addr} {slAll___init__ : Array (Option Value)} {ocAll___init__ kVAll___init__ dcAll___init__ pmAll___init__ cdAll___init__ ctAll___init__ : Value}
    (a_All___init__ : PySem.W.findIn K (.ref C_All) "__init__" = some (some (.ref fAll___init__)))
    (iAll___init__ : PySem.W.isFn K (.ref fAll___init__) = true) (lAll___init__ : K.lookup fAll___init__ = some ⟨ocAll___init__, odAll___init__, .func (PySem.W.fnOf "__init__" "All.__init__" (defArgs s_All___init__) (defBody s_All___init__) (defScope s_All___init__) .none kVAll___init__ dcAll___init__ pmAll___init__ anAll___init__ cdAll___init__ ctAll___init__), slAll___init__⟩) (cAll___init__ : PySem.W.codeIn K cdAll___init__ "All.__init__" = true) (kAll___init__ : PySem.W.keepIn K (.ref fAll___init__) = true)
    {fAll_holds : Addr} {odAll_holds anAll_holds : Option Addr} {slAll_holds : Array (Option Value)} {ocAll_holds kVAll_holds dcAll_holds pmAll_holds cdAll_holds ctAll_holds : Value}
    (a_All_holds : PySem.W.findIn K (.ref C_All) "holds" = some (some (.ref fAll_holds)))
    (iAll_holds : PySem.W.isFn K (.ref fAll_holds) = true) (lAll_holds : K.lookup fAll_holds = some ⟨ocAll_holds, odAll_holds, .func (PySem.W.fnOf "holds" "All.holds" (defArgs s_All_holds) (defBody s_All_holds) (defScope s_All_holds) .none kVAll_holds dcAll_holds pmAll_holds anAll_holds cdAll_holds ctAll_holds), slAll_holds⟩) (cAll_holds : PySem.W.codeIn K cdAll_holds "All.holds" = true) (kAll_holds : PySem.W.keepIn K (.ref fAll_holds) = true)
    {fAll_rank : Addr} {odAll_rank anAll_rank : Option Addr} {slAll_rank : Array (Option Value)} {ocAll_rank kVAll_rank dcAll_rank pmAll_rank cdAll_rank ctAll_rank : Value}
    (a_All_rank : PySem.W.findIn K (.ref C_All) "rank" = some (some (.ref fAll_rank)))
    (iAll_rank : PySem.W.isFn K (.ref fAll_rank) = true) (lAll_rank : K.lookup fAll_rank = some ⟨ocAll_rank, odAll_rank, .func (PySem.W.fnOf "rank" "All.rank" (defArgs s_All_rank) (defBody s_All_rank) (defScope s_All_rank) .none kVAll_rank dcAll_rank pmAll_rank anAll_rank cdAll_rank ctAll_rank), slAll_rank⟩) (cAll_rank : PySem.W.codeIn K cdAll_rank "All.rank" = true) (kAll_rank : PySem.W.keepIn K (.ref fAll_rank) = true)
    {fAll_words : Addr} {odAll_words anAll_words : Option Addr} {slAll_words : Array (Option Value)} {ocAll_words kVAll_words dcAll_words pmAll_words cdAll_words ctAll_words : Value}
    (a_All_words : PySem.W.findIn K (.ref C_All) "words" = some (some (.ref fAll_words)))
    (iAll_words : PySem.W.isFn K (.ref fAll_words) = true) (lAll_words : K.lookup fAll_words = some ⟨ocAll_words, odAll_words, .func (PySem.W.fnOf "words" "All.words" (defArgs s_All_words) (defBody s_All_words) (defScope s_All_words) .none kVAll_words dcAll_words pmAll_words anAll_words cdAll_words ctAll_words), slAll_words⟩) (cAll_words : PySem.W.codeIn K cdAll_words "All.words" = true) (kAll_words : PySem.W.keepIn K (.ref fAll_words) = true)
    {fSome___init__ : Addr} {odSome___init__ anSome___init__ : Option Addr} {slSome___init__ : Array (Option Value)} {ocSome___init__ kVSome___init__ dcSome___init__ pmSome___init__ cdSome___init__ ctSome___init__ : Value}
    (a_Some___init__ : PySem.W.findIn K (.ref C_Some) "__init__" = some (some (.ref fSome___init__)))
    (iSome___init__ : PySem.W.isFn K (.ref fSome___init__) = true) (lSome___init__ : K.lookup fSome___init__ = some ⟨ocSome___init__, odSome___init__, .func (PySem.W.fnOf "__init__" "Some.__init__" (defArgs s_Some___init__) (defBody s_Some___init__) (defScope s_Some___init__) .none kVSome___init__ dcSome___init__ pmSome___init__ anSome___init__ cdSome___init__ ctSome___init__), slSome___init__⟩) (cSome___init__ : PySem.W.codeIn K cdSome___init__ "Some.__init__" = true) (kSome___init__ : PySem.W.keepIn K (.ref fSome___init__) = true)
    {fSome_holds : Addr} {odSome_holds anSome_holds : Option Addr} {slSome_holds : Array (Option Value)} {ocSome_holds kVSome_holds dcSome_holds pmSome_holds cdSome_holds ctSome_holds : Value}
    (a_Some_holds : PySem.W.findIn K (.ref C_Some) "holds" = some (some (.ref fSome_holds)))
    (iSome_holds : PySem.W.isFn K (.ref fSome_holds) = true) (lSome_holds : K.lookup fSome_holds = some ⟨ocSome_holds, odSome_holds, .func (PySem.W.fnOf "holds" "Some.holds" (defArgs s_Some_holds) (defBody s_Some_holds) (defScope s_Some_holds) .none kVSome_holds dcSome_holds pmSome_holds anSome_holds cdSome_holds ctSome_holds), slSome_holds⟩) (cSome_holds : PySem.W.codeIn K cdSome_holds "Some.holds" = true) (kSome_holds : PySem.W.keepIn K (.ref fSome_holds) = true)
    {fSome_rank : Addr} {odSome_rank anSome_rank : Option Addr} {slSome_rank : Array (Option Value)} {ocSome_rank kVSome_rank dcSome_rank pmSome_rank cdSome_rank ctSome_rank : Value}
    (a_Some_rank : PySem.W.findIn K (.ref C_Some) "rank" = some (some (.ref fSome_rank)))
    (iSome_rank : PySem.W.isFn K (.ref fSome_rank) = true) (lSome_rank : K.lookup fSome_rank = some ⟨ocSome_rank, odSome_rank, .func (PySem.W.fnOf "rank" "Some.rank" (defArgs s_Some_rank) (defBody s_Some_rank) (defScope s_Some_rank) .none kVSome_rank dcSome_rank pmSome_rank anSome_rank cdSome_rank ctSome_rank), slSome_rank⟩) (cSome_rank : PySem.W.codeIn K cdSome_rank "Some.rank" = true) (kSome_rank : PySem.W.keepIn K (.ref fSome_rank) = true)
    {fSome_words : Addr} {odSome_words anSome_words : Option Addr} {slSome_words : Array (Option Value)} {ocSome_words kVSome_words dcSome_words pmSome_words cdSome_words ctSome_words : Value}
    (a_Some_words : PySem.W.findIn K (.ref C_Some) "words" = some (some (.ref fSome_words)))
    (iSome_words : PySem.W.isFn K (.ref fSome_words) = true) (lSome_words : K.lookup fSome_words = some ⟨ocSome_words, odSome_words, .func (PySem.W.fnOf "words" "Some.words" (defArgs s_Some_words) (defBody s_Some_words) (defScope s_Some_words) .none kVSome_words dcSome_words pmSome_words anSome_words cdSome_words ctSome_words), slSome_words⟩) (cSome_words : PySem.W.codeIn K cdSome_words "Some.words" = true) (kSome_words : PySem.W.keepIn K (.ref fSome_words) = true)
    {fReader___init__ : Addr} {odReader___init__ anReader___init__ : Option Addr} {slReader___init__ : Array (Option Value)} {ocReader___init__ kVReader___init__ dcReader___init__ pmReader___init__ cdReader___init__ ctReader___init__ : Value}
    (a_Reader___init__ : PySem.W.findIn K (.ref C_Reader) "__init__" = some (some (.ref fReader___init__)))
    (iReader___init__ : PySem.W.isFn K (.ref fReader___init__) = true) (lReader___init__ : K.lookup fReader___init__ = some ⟨ocReader___init__, odReader___init__, .func (PySem.W.fnOf "__init__" "Reader.__init__" (defArgs s_Reader___init__) (defBody s_Reader___init__) (defScope s_Reader___init__) .none kVReader___init__ dcReader___init__ pmReader___init__ anReader___init__ cdReader___init__ ctReader___init__), slReader___init__⟩) (cReader___init__ : PySem.W.codeIn K cdReader___init__ "Reader.__init__" = true) (kReader___init__ : PySem.W.keepIn K (.ref fReader___init__) = true)
    {fReader_ahead : Addr} {odReader_ahead anReader_ahead : Option Addr} {slReader_ahead : Array (Option Value)} {ocReader_ahead kVReader_ahead dcReader_ahead pmReader_ahead cdReader_ahead ctReader_ahead : Value}
    (a_Reader_ahead : PySem.W.findIn K (.ref C_Reader) "ahead" = some (some (.ref fReader_ahead)))
    (iReader_ahead : PySem.W.isFn K (.ref fReader_ahead) = true) (lReader_ahead : K.lookup fReader_ahead = some ⟨ocReader_ahead, odReader_ahead, .func (PySem.W.fnOf "ahead" "Reader.ahead" (defArgs s_Reader_ahead) (defBody s_Reader_ahead) (defScope s_Reader_ahead) .none kVReader_ahead dcReader_ahead pmReader_ahead anReader_ahead cdReader_ahead ctReader_ahead), slReader_ahead⟩) (cReader_ahead : PySem.W.codeIn K cdReader_ahead "Reader.ahead" = true) (kReader_ahead : PySem.W.keepIn K (.ref fReader_ahead) = true)
    {fReader_step : Addr} {odReader_step anReader_step : Option Addr} {slReader_step : Array (Option Value)} {ocReader_step kVReader_step dcReader_step pmReader_step cdReader_step ctReader_step : Value}
    (a_Reader_step : PySem.W.findIn K (.ref C_Reader) "step" = some (some (.ref fReader_step)))
    (iReader_step : PySem.W.isFn K (.ref fReader_step) = true) (lReader_step : K.lookup fReader_step = some ⟨ocReader_step, odReader_step, .func (PySem.W.fnOf "step" "Reader.step" (defArgs s_Reader_step) (defBody s_Reader_step) (defScope s_Reader_step) .none kVReader_step dcReader_step pmReader_step anReader_step cdReader_step ctReader_step), slReader_step⟩) (cReader_step : PySem.W.codeIn K cdReader_step "Reader.step" = true) (kReader_step : PySem.W.keepIn K (.ref fReader_step) = true)
    {fReader_read_rows : Addr} {odReader_read_rows anReader_read_rows : Option Addr} {slReader_read_rows : Array (Option Value)} {ocReader_read_rows kVReader_read_rows dcReader_read_rows pmReader_read_rows cdReader_read_rows ctReader_read_rows : Value}
    (a_Reader_read_rows : PySem.W.findIn K (.ref C_Reader) "read_rows" = some (some (.ref fReader_read_rows)))
    (iReader_read_rows : PySem.W.isFn K (.ref fReader_read_rows) = true) (lReader_read_rows : K.lookup fReader_read_rows = some ⟨ocReader_read_rows, odReader_read_rows, .func (PySem.W.fnOf "read_rows" "Reader.read_rows" (defArgs s_Reader_read_rows) (defBody s_Reader_read_rows) (defScope s_Reader_read_rows) .none kVReader_read_rows dcReader_read_rows pmReader_read_rows anReader_read_rows cdReader_read_rows ctReader_read_rows), slReader_read_rows⟩) (cReader_read_rows : PySem.W.codeIn K cdReader_read_rows "Reader.read_rows" = true) (kReader_read_rows : PySem.W.keepIn K (.ref fReader_read_rows) = true)
    {fReader_read_row : Addr} {odReader_read_row anReader_read_row : Option Addr} {slReader_read_row : Array (Option Value)} {ocReader_read_row kVReader_read_row dcReader_read_row pmReader_read_row cdReader_read_row ctReader_read_row : Value}
    (a_Reader_read_row : PySem.W.findIn K (.ref C_Reader) "read_row" = some (some (.ref fReader_read_row)))
    (iReader_read_row : PySem.W.isFn K (.ref fReader_read_row) = true) (lReader_read_row : K.lookup fReader_read_row = some ⟨ocReader_read_row, odReader_read_row, .func (PySem.W.fnOf "read_row" "Reader.read_row" (defArgs s_Reader_read_row) (defBody s_Reader_read_row) (defScope s_Reader_read_row) .none kVReader_read_row dcReader_read_row pmReader_read_row anReader_read_row cdReader_read_row ctReader_read_row), slReader_read_row⟩) (cReader_read_row : PySem.W.codeIn K cdReader_read_row "Reader.read_row" = true) (kReader_read_row : PySem.W.keepIn K (.ref fReader_read_row) = true)
    {fReader_goes_on : Addr} {odReader_goes_on anReader_goes_on : Option Addr} {slReader_goes_on : Array (Option Value)} {ocReader_goes_on kVReader_goes_on dcReader_goes_on pmReader_goes_on cdReader_goes_on ctReader_goes_on : Value}
    (a_Reader_goes_on : PySem.W.findIn K (.ref C_Reader) "goes_on" = some (some (.ref fReader_goes_on)))
    (iReader_goes_on : PySem.W.isFn K (.ref fReader_goes_on) = true) (lReader_goes_on : K.lookup fReader_goes_on = some ⟨ocReader_goes_on, odReader_goes_on, .func (PySem.W.fnOf "goes_on" "Reader.goes_on" (defArgs s_Reader_goes_on) (defBody s_Reader_goes_on) (defScope s_Reader_goes_on) .none kVReader_goes_on dcReader_goes_on pmReader_goes_on anReader_goes_on cdReader_goes_on ctReader_goes_on), slReader_goes_on⟩) (cReader_goes_on : PySem.W.codeIn K cdReader_goes_on "Reader.goes_on" = true) (kReader_goes_on : PySem.W.keepIn K (.ref fReader_goes_on) = true)
    {fReader_read_piece : Addr} {odReader_read_piece anReader_read_piece : Option Addr} {slReader_read_piece : Array (Option Value)} {ocReader_read_piece kVReader_read_piece dcReader_read_piece pmReader_read_piece cdReader_read_piece ctReader_read_piece : Value}
    (a_Reader_read_piece : PySem.W.findIn K (.ref C_Reader) "read_piece" = some (some (.ref fReader_read_piece)))
    (iReader_read_piece : PySem.W.isFn K (.ref fReader_read_piece) = true) (lReader_read_piece : K.lookup fReader_read_piece = some ⟨ocReader_read_piece, odReader_read_piece, .func (PySem.W.fnOf "read_piece" "Reader.read_piece" (defArgs s_Reader_read_piece) (defBody s_Reader_read_piece) (defScope s_Reader_read_piece) .none kVReader_read_piece dcReader_read_piece pmReader_read_piece anReader_read_piece cdReader_read_piece ctReader_read_piece), slReader_read_piece⟩) (cReader_read_piece : PySem.W.codeIn K cdReader_read_piece "Reader.read_piece" = true) (kReader_read_piece : PySem.W.keepIn K (.ref fReader_read_piece) = true)
    {fReader_read_deeper : Addr} {odReader_read_deeper anReader_read_deeper : Option Addr} {slReader_read_deeper : Array (Option Value)} {ocReader_read_deeper kVReader_read_deeper dcReader_read_deeper pmReader_read_deeper cdReader_read_deeper ctReader_read_deeper : Value}
    (a_Reader_read_deeper : PySem.W.findIn K (.ref C_Reader) "read_deeper" = some (some (.ref fReader_read_deeper)))
    (iReader_read_deeper : PySem.W.isFn K (.ref fReader_read_deeper) = true) (lReader_read_deeper : K.lookup fReader_read_deeper = some ⟨ocReader_read_deeper, odReader_read_deeper, .func (PySem.W.fnOf "read_deeper" "Reader.read_deeper" (defArgs s_Reader_read_deeper) (defBody s_Reader_read_deeper) (defScope s_Reader_read_deeper) .none kVReader_read_deeper dcReader_read_deeper pmReader_read_deeper anReader_read_deeper cdReader_read_deeper ctReader_read_deeper), slReader_read_deeper⟩) (cReader_read_deeper : PySem.W.codeIn K cdReader_read_deeper "Reader.read_deeper" = true) (kReader_read_deeper : PySem.W.keepIn K (.ref fReader_read_deeper) = true)
    {fReader_read_bracket : Addr} {odReader_read_bracket anReader_read_bracket : Option Addr} {slReader_read_bracket : Array (Option Value)} {ocReader_read_bracket kVReader_read_bracket dcReader_read_bracket pmReader_read_bracket cdReader_read_bracket ctReader_read_bracket : Value}
    (a_Reader_read_bracket : PySem.W.findIn K (.ref C_Reader) "read_bracket" = some (some (.ref fReader_read_bracket)))
    (iReader_read_bracket : PySem.W.isFn K (.ref fReader_read_bracket) = true) (lReader_read_bracket : K.lookup fReader_read_bracket = some ⟨ocReader_read_bracket, odReader_read_bracket, .func (PySem.W.fnOf "read_bracket" "Reader.read_bracket" (defArgs s_Reader_read_bracket) (defBody s_Reader_read_bracket) (defScope s_Reader_read_bracket) .none kVReader_read_bracket dcReader_read_bracket pmReader_read_bracket anReader_read_bracket cdReader_read_bracket ctReader_read_bracket), slReader_read_bracket⟩) (cReader_read_bracket : PySem.W.codeIn K cdReader_read_bracket "Reader.read_bracket" = true) (kReader_read_bracket : PySem.W.keepIn K (.ref fReader_read_bracket) = true)
    {fReader_read_name : Addr} {odReader_read_name anReader_read_name : Option Addr} {slReader_read_name : Array (Option Value)} {ocReader_read_name kVReader_read_name dcReader_read_name pmReader_read_name cdReader_read_name ctReader_read_name : Value}
    (a_Reader_read_name : PySem.W.findIn K (.ref C_Reader) "read_name" = some (some (.ref fReader_read_name)))
    (iReader_read_name : PySem.W.isFn K (.ref fReader_read_name) = true) (lReader_read_name : K.lookup fReader_read_name = some ⟨ocReader_read_name, odReader_read_name, .func (PySem.W.fnOf "read_name" "Reader.read_name" (defArgs s_Reader_read_name) (defBody s_Reader_read_name) (defScope s_Reader_read_name) .none kVReader_read_name dcReader_read_name pmReader_read_name anReader_read_name cdReader_read_name ctReader_read_name), slReader_read_name⟩) (cReader_read_name : PySem.W.codeIn K cdReader_read_name "Reader.read_name" = true) (kReader_read_name : PySem.W.keepIn K (.ref fReader_read_name) = true)
    {fReader_read_days : Addr} {odReader_read_days anReader_read_days : Option Addr} {slReader_read_days : Array (Option Value)} {ocReader_read_days kVReader_read_days dcReader_read_days pmReader_read_days cdReader_read_days ctReader_read_days : Value}
    (a_Reader_read_days : PySem.W.findIn K (.ref C_Reader) "read_days" = some (some (.ref fReader_read_days)))
    (iReader_read_days : PySem.W.isFn K (.ref fReader_read_days) = true) (lReader_read_days : K.lookup fReader_read_days = some ⟨ocReader_read_days, odReader_read_days, .func (PySem.W.fnOf "read_days" "Reader.read_days" (defArgs s_Reader_read_days) (defBody s_Reader_read_days) (defScope s_Reader_read_days) .none kVReader_read_days dcReader_read_days pmReader_read_days anReader_read_days cdReader_read_days ctReader_read_days), slReader_read_days⟩) (cReader_read_days : PySem.W.codeIn K cdReader_read_days "Reader.read_days" = true) (kReader_read_days : PySem.W.keepIn K (.ref fReader_read_days) = true)
    {fReader_read_day : Addr} {odReader_read_day anReader_read_day : Option Addr} {slReader_read_day : Array (Option Value)} {ocReader_read_day kVReader_read_day dcReader_read_day pmReader_read_day cdReader_read_day ctReader_read_day : Value}
    (a_Reader_read_day : PySem.W.findIn K (.ref C_Reader) "read_day" = some (some (.ref fReader_read_day)))
    (iReader_read_day : PySem.W.isFn K (.ref fReader_read_day) = true) (lReader_read_day : K.lookup fReader_read_day = some ⟨ocReader_read_day, odReader_read_day, .func (PySem.W.fnOf "read_day" "Reader.read_day" (defArgs s_Reader_read_day) (defBody s_Reader_read_day) (defScope s_Reader_read_day) .none kVReader_read_day dcReader_read_day pmReader_read_day anReader_read_day cdReader_read_day ctReader_read_day), slReader_read_day⟩) (cReader_read_day : PySem.W.codeIn K cdReader_read_day "Reader.read_day" = true) (kReader_read_day : PySem.W.keepIn K (.ref fReader_read_day) = true)
    {fReader_read_amount : Addr} {odReader_read_amount anReader_read_amount : Option Addr} {slReader_read_amount : Array (Option Value)} {ocReader_read_amount kVReader_read_amount dcReader_read_amount pmReader_read_amount cdReader_read_amount ctReader_read_amount : Value}
    (a_Reader_read_amount : PySem.W.findIn K (.ref C_Reader) "read_amount" = some (some (.ref fReader_read_amount)))
    (iReader_read_amount : PySem.W.isFn K (.ref fReader_read_amount) = true) (lReader_read_amount : K.lookup fReader_read_amount = some ⟨ocReader_read_amount, odReader_read_amount, .func (PySem.W.fnOf "read_amount" "Reader.read_amount" (defArgs s_Reader_read_amount) (defBody s_Reader_read_amount) (defScope s_Reader_read_amount) .none kVReader_read_amount dcReader_read_amount pmReader_read_amount anReader_read_amount cdReader_read_amount ctReader_read_amount), slReader_read_amount⟩) (cReader_read_amount : PySem.W.codeIn K cdReader_read_amount "Reader.read_amount" = true) (kReader_read_amount : PySem.W.keepIn K (.ref fReader_read_amount) = true)
    (a_CauseIs_rank : PySem.W.findIn K (.ref C_CauseIs) "rank" = some (some (.ref fCondition_rank)))
    (a_ThingIs_rank : PySem.W.findIn K (.ref C_ThingIs) "rank" = some (some (.ref fCondition_rank)))
    (a_DaysIn_rank : PySem.W.findIn K (.ref C_DaysIn) "rank" = some (some (.ref fCondition_rank)))
    (a_Over_rank : PySem.W.findIn K (.ref C_Over) "rank" = some (some (.ref fCondition_rank)))
    (a_Not_rank : PySem.W.findIn K (.ref C_Not) "rank" = some (some (.ref fCondition_rank)))
    (ni_Condition : PySem.W.findIn K (.ref C_Condition) "__init__" = some (some (.builtin "object.__init__")))
    {tk_CAUSE : Tok} (z_CAUSE : PySem.W.nsIn K mainGlobals "CAUSE" = some (some (.int 4 tk_CAUSE)))
    {tk_CENTS : Tok} (z_CENTS : PySem.W.nsIn K mainGlobals "CENTS" = some (some (.int 5 tk_CENTS)))
    {tk_DAY : Tok} (z_DAY : PySem.W.nsIn K mainGlobals "DAY" = some (some (.int 1 tk_DAY)))
    {tk_FIGURES : Tok} (z_FIGURES : PySem.W.nsIn K mainGlobals "FIGURES" = some (some (.str "0123456789" tk_FIGURES)))
    {tk_LAST_DAY : Tok} (z_LAST_DAY : PySem.W.nsIn K mainGlobals "LAST_DAY" = some (some (.int 1000000 tk_LAST_DAY)))
    {tk_LETTERS : Tok} (z_LETTERS : PySem.W.nsIn K mainGlobals "LETTERS" = some (some (.str "abcdefghijklmnopqrstuvwxyz" tk_LETTERS)))
    {tk_LONGEST_NAME : Tok} (z_LONGEST_NAME : PySem.W.nsIn K mainGlobals "LONGEST_NAME" = some (some (.int 8 tk_LONGEST_NAME)))
    {tk_MOST_DAY_FIGURES : Tok} (z_MOST_DAY_FIGURES : PySem.W.nsIn K mainGlobals "MOST_DAY_FIGURES" = some (some (.int 7 tk_MOST_DAY_FIGURES)))
    {tk_MOST_IN_ROW : Tok} (z_MOST_IN_ROW : PySem.W.nsIn K mainGlobals "MOST_IN_ROW" = some (some (.int 8 tk_MOST_IN_ROW)))
    {tk_MOST_OPEN : Tok} (z_MOST_OPEN : PySem.W.nsIn K mainGlobals "MOST_OPEN" = some (some (.int 6 tk_MOST_OPEN)))
    {tk_MOST_WHOLE_FIGURES : Tok} (z_MOST_WHOLE_FIGURES : PySem.W.nsIn K mainGlobals "MOST_WHOLE_FIGURES" = some (some (.int 10 tk_MOST_WHOLE_FIGURES)))
    {tk_MOST_WORDS : Tok} (z_MOST_WORDS : PySem.W.nsIn K mainGlobals "MOST_WORDS" = some (some (.int 60 tk_MOST_WORDS)))
    {tk_RANK_OF_ALL : Tok} (z_RANK_OF_ALL : PySem.W.nsIn K mainGlobals "RANK_OF_ALL" = some (some (.int 2 tk_RANK_OF_ALL)))
    {tk_RANK_OF_OTHERS : Tok} (z_RANK_OF_OTHERS : PySem.W.nsIn K mainGlobals "RANK_OF_OTHERS" = some (some (.int 3 tk_RANK_OF_OTHERS)))
    {tk_RANK_OF_SOME : Tok} (z_RANK_OF_SOME : PySem.W.nsIn K mainGlobals "RANK_OF_SOME" = some (some (.int 1 tk_RANK_OF_SOME)))
    {tk_THING : Tok} (z_THING : PySem.W.nsIn K mainGlobals "THING" = some (some (.int 3 tk_THING)))
    (z_bool : PySem.W.nsIn K mainGlobals "bool" = some none)
    (z_enumerate : PySem.W.nsIn K mainGlobals "enumerate" = some none)
    (z_int : PySem.W.nsIn K mainGlobals "int" = some none)
    (z_isinstance : PySem.W.nsIn K mainGlobals "isinstance" = some none)
    (z_len : PySem.W.nsIn K mainGlobals "len" = some none)
    (z_list : PySem.W.nsIn K mainGlobals "list" = some none)
    (z_max : PySem.W.nsIn K mainGlobals "max" = some none)
    (z_min : PySem.W.nsIn K mainGlobals "min" = some none)
    (z_range : PySem.W.nsIn K mainGlobals "range" = some none)
    (z_sorted : PySem.W.nsIn K mainGlobals "sorted" = some none)
    (z_str : PySem.W.nsIn K mainGlobals "str" = some none)
    {C_CoverError : Addr} (q_CoverError : PySem.W.nsIn K mainGlobals "CoverError" = some (some (.ref C_CoverError)))
    {C_NoAmount : Addr} (q_NoAmount : PySem.W.nsIn K mainGlobals "NoAmount" = some (some (.ref C_NoAmount)))
    {C_NoWords : Addr} (q_NoWords : PySem.W.nsIn K mainGlobals "NoWords" = some (some (.ref C_NoWords)))
    {C_TooDeep : Addr} (q_TooDeep : PySem.W.nsIn K mainGlobals "TooDeep" = some (some (.ref C_TooDeep))) :
    ∃ fd : FuncData, (∀ (s : Shared) (v : Value), BindsTo s fd ⟨[v], []⟩ [("_law_script", v)]) ∧ ∀ base : Heap, K.In base → base.Ns mainGlobals mg → FnOk l.prog w K mg base CX0 203 fa fd ["_law_script"] (spLaw K) := by
  have e := hfa.symm.trans (PySem.W.mg_of X G a31)
  cases e
  have F0 := fun_mk (st := s_is_whole) l0 c0 k0
  have B0 := F0.binds (ps := ["thing"]) fun _ _ _ _ _ _ us hl => match us, hl with | [_], _ => rfl
  have D_is_whole : Def K mg "is_whole" s_is_whole ["thing"] := ⟨f0, _, F0, B0, PySem.W.mg_of X G a0⟩
  have F1 := fun_mk (st := s_has_figures_alone) l1 c1 k1
  have B1 := F1.binds (ps := ["text"]) fun _ _ _ _ _ _ us hl => match us, hl with | [_], _ => rfl
  have D_has_figures_alone : Def K mg "has_figures_alone" s_has_figures_alone ["text"] := ⟨f1, _, F1, B1, PySem.W.mg_of X G a1⟩
  have F2 := fun_mk (st := s_writes_whole) l2 c2 k2
  have B2 := F2.binds (ps := ["text", "most_figures"]) fun _ _ _ _ _ _ us hl => match us, hl with | [_, _], _ => rfl
  have D_writes_whole : Def K mg "writes_whole" s_writes_whole ["text", "most_figures"] := ⟨f2, _, F2, B2, PySem.W.mg_of X G a2⟩
  have F3 := fun_mk (st := s_is_cents_part) l3 c3 k3
  have B3 := F3.binds (ps := ["text"]) fun _ _ _ _ _ _ us hl => match us, hl with | [_], _ => rfl
  have D_is_cents_part : Def K mg "is_cents_part" s_is_cents_part ["text"] := ⟨f3, _, F3, B3, PySem.W.mg_of X G a3⟩
  have F4 := fun_mk (st := s_read_cents) l4 c4 k4
  have B4 := F4.binds (ps := ["text"]) fun _ _ _ _ _ _ us hl => match us, hl with | [_], _ => rfl
  have D_read_cents : Def K mg "read_cents" s_read_cents ["text"] := ⟨f4, _, F4, B4, PySem.W.mg_of X G a4⟩
  have F5 := fun_mk (st := s_show_cents) l5 c5 k5
  have B5 := F5.binds (ps := ["cents"]) fun _ _ _ _ _ _ us hl => match us, hl with | [_], _ => rfl
  have D_show_cents : Def K mg "show_cents" s_show_cents ["cents"] := ⟨f5, _, F5, B5, PySem.W.mg_of X G a5⟩
  have F6 := fun_mk (st := s_has_letters_alone) l6 c6 k6
  have B6 := F6.binds (ps := ["text"]) fun _ _ _ _ _ _ us hl => match us, hl with | [_], _ => rfl
  have D_has_letters_alone : Def K mg "has_letters_alone" s_has_letters_alone ["text"] := ⟨f6, _, F6, B6, PySem.W.mg_of X G a6⟩
  have F7 := fun_mk (st := s_is_name) l7 c7 k7
  have B7 := F7.binds (ps := ["thing"]) fun _ _ _ _ _ _ us hl => match us, hl with | [_], _ => rfl
  have D_is_name : Def K mg "is_name" s_is_name ["thing"] := ⟨f7, _, F7, B7, PySem.W.mg_of X G a7⟩
  have F8 := fun_mk (st := s_is_day) l8 c8 k8
  have B8 := F8.binds (ps := ["thing"]) fun _ _ _ _ _ _ us hl => match us, hl with | [_], _ => rfl
  have D_is_day : Def K mg "is_day" s_is_day ["thing"] := ⟨f8, _, F8, B8, PySem.W.mg_of X G a8⟩
  have F9 := fun_mk (st := s_words_within) l9 c9 k9
  have B9 := F9.binds (ps := ["part", "highest_in_brackets"]) fun _ _ _ _ _ _ us hl => match us, hl with | [_, _], _ => rfl
  have D_words_within : Def K mg "words_within" s_words_within ["part", "highest_in_brackets"] := ⟨f9, _, F9, B9, PySem.W.mg_of X G a9⟩
  have F10 := fun_mk (st := s_words_with) l10 c10 k10
  have B10 := F10.binds (ps := ["several", "between", "highest_in_brackets"]) fun _ _ _ _ _ _ us hl => match us, hl with | [_, _, _], _ => rfl
  have D_words_with : Def K mg "words_with" s_words_with ["several", "between", "highest_in_brackets"] := ⟨f10, _, F10, B10, PySem.W.mg_of X G a10⟩
  have F11 := fun_mk (st := s_day_of) l11 c11 k11
  have B11 := F11.binds (ps := ["word"]) fun _ _ _ _ _ _ us hl => match us, hl with | [_], _ => rfl
  have D_day_of : Def K mg "day_of" s_day_of ["word"] := ⟨f11, _, F11, B11, PySem.W.mg_of X G a11⟩
  have F12 := fun_mk (st := s_read_condition) l12 c12 k12
  have B12 := F12.binds (ps := ["text"]) fun _ _ _ _ _ _ us hl => match us, hl with | [_], _ => rfl
  have D_read_condition : Def K mg "read_condition" s_read_condition ["text"] := ⟨f12, _, F12, B12, PySem.W.mg_of X G a12⟩
  have F13 := fun_mk (st := s_show_condition) l13 c13 k13
  have B13 := F13.binds (ps := ["condition"]) fun _ _ _ _ _ _ us hl => match us, hl with | [_], _ => rfl
  have D_show_condition : Def K mg "show_condition" s_show_condition ["condition"] := ⟨f13, _, F13, B13, PySem.W.mg_of X G a13⟩
  have F14 := fun_mk (st := s__law_cell) l14 c14 k14
  have B14 := F14.binds (ps := ["_law_script", "_law_k"]) fun _ _ _ _ _ _ us hl => match us, hl with | [_, _], _ => rfl
  have D__law_cell : Def K mg "_law_cell" s__law_cell ["_law_script", "_law_k"] := ⟨f14, _, F14, B14, PySem.W.mg_of X G a14⟩
  have F15 := fun_mk (st := s__law_mix) l15 c15 k15
  have B15 := F15.binds (ps := ["_law_number", "_law_k"]) fun _ _ _ _ _ _ us hl => match us, hl with | [_, _], _ => rfl
  have D__law_mix : Def K mg "_law_mix" s__law_mix ["_law_number", "_law_k"] := ⟨f15, _, F15, B15, PySem.W.mg_of X G a15⟩
  have F16 := fun_mk (st := s__law_name) l16 c16 k16
  have B16 := F16.binds (ps := ["_law_number"]) fun _ _ _ _ _ _ us hl => match us, hl with | [_], _ => rfl
  have D__law_name : Def K mg "_law_name" s__law_name ["_law_number"] := ⟨f16, _, F16, B16, PySem.W.mg_of X G a16⟩
  have F17 := fun_mk (st := s__law_other) l17 c17 k17
  have B17 := F17.binds (ps := ["_law_name_here", "_law_number"]) fun _ _ _ _ _ _ us hl => match us, hl with | [_, _], _ => rfl
  have D__law_other : Def K mg "_law_other" s__law_other ["_law_name_here", "_law_number"] := ⟨f17, _, F17, B17, PySem.W.mg_of X G a17⟩
  have F18 := fun_mk (st := s__law_pools) l18 c18 k18
  have B18 := F18.binds (ps := ["_law_script"]) fun _ _ _ _ _ _ us hl => match us, hl with | [_], _ => rfl
  have D__law_pools : Def K mg "_law_pools" s__law_pools ["_law_script"] := ⟨f18, _, F18, B18, PySem.W.mg_of X G a18⟩
  have F19 := fun_mk (st := s__law_leaf) l19 c19 k19
  have B19 := F19.binds (ps := ["_law_number", "_law_pools_here"]) fun _ _ _ _ _ _ us hl => match us, hl with | [_, _], _ => rfl
  have D__law_leaf : Def K mg "_law_leaf" s__law_leaf ["_law_number", "_law_pools_here"] := ⟨f19, _, F19, B19, PySem.W.mg_of X G a19⟩
  have F20 := fun_mk (st := s__law_loss) l20 c20 k20
  have B20 := F20.binds (ps := ["_law_script", "_law_k", "_law_pools_here"]) fun _ _ _ _ _ _ us hl => match us, hl with | [_, _, _], _ => rfl
  have D__law_loss : Def K mg "_law_loss" s__law_loss ["_law_script", "_law_k", "_law_pools_here"] := ⟨f20, _, F20, B20, PySem.W.mg_of X G a20⟩
  have F21 := fun_mk (st := s__law_holds) l21 c21 k21
  have B21 := F21.binds (ps := ["_law_tree", "_law_loss_here"]) fun _ _ _ _ _ _ us hl => match us, hl with | [_, _], _ => rfl
  have D__law_holds : Def K mg "_law_holds" s__law_holds ["_law_tree", "_law_loss_here"] := ⟨f21, _, F21, B21, PySem.W.mg_of X G a21⟩
  have F22 := fun_mk (st := s__law_inner) l22 c22 k22
  have B22 := F22.binds (ps := ["_law_tree", "_law_least"]) fun _ _ _ _ _ _ us hl => match us, hl with | [_, _], _ => rfl
  have D__law_inner : Def K mg "_law_inner" s__law_inner ["_law_tree", "_law_least"] := ⟨f22, _, F22, B22, PySem.W.mg_of X G a22⟩
  have F23 := fun_mk (st := s__law_words) l23 c23 k23
  have B23 := F23.binds (ps := ["_law_tree"]) fun _ _ _ _ _ _ us hl => match us, hl with | [_], _ => rfl
  have D__law_words : Def K mg "_law_words" s__law_words ["_law_tree"] := ⟨f23, _, F23, B23, PySem.W.mg_of X G a23⟩
  have F24 := fun_mk (st := s__law_words_are) l24 c24 k24
  have B24 := F24.binds (ps := ["_law_found", "_law_due"]) fun _ _ _ _ _ _ us hl => match us, hl with | [_, _], _ => rfl
  have D__law_words_are : Def K mg "_law_words_are" s__law_words_are ["_law_found", "_law_due"] := ⟨f24, _, F24, B24, PySem.W.mg_of X G a24⟩
  have F25 := fun_mk (st := s__law_truth) l25 c25 k25
  have B25 := F25.binds (ps := ["_law_found", "_law_due"]) fun _ _ _ _ _ _ us hl => match us, hl with | [_, _], _ => rfl
  have D__law_truth : Def K mg "_law_truth" s__law_truth ["_law_found", "_law_due"] := ⟨f25, _, F25, B25, PySem.W.mg_of X G a25⟩
  have F26 := fun_mk (st := s__law_spelt) l26 c26 k26
  have B26 := F26.binds (ps := ["_law_node", "_law_least"]) fun _ _ _ _ _ _ us hl => match us, hl with | [_, _], _ => rfl
  have D__law_spelt : Def K mg "_law_spelt" s__law_spelt ["_law_node", "_law_least"] := ⟨f26, _, F26, B26, PySem.W.mg_of X G a26⟩
  have F27 := fun_mk (st := s__law_join) l27 c27 k27
  have B27 := F27.binds (ps := ["_law_row", "_law_kind"]) fun _ _ _ _ _ _ us hl => match us, hl with | [_, _], _ => rfl
  have D__law_join : Def K mg "_law_join" s__law_join ["_law_row", "_law_kind"] := ⟨f27, _, F27, B27, PySem.W.mg_of X G a27⟩
  have F28 := fun_mk (st := s__law_step) l28 c28 k28
  have B28 := F28.binds (ps := ["_law_row", "_law_number", "_law_pools_here"]) fun _ _ _ _ _ _ us hl => match us, hl with | [_, _, _], _ => rfl
  have D__law_step : Def K mg "_law_step" s__law_step ["_law_row", "_law_number", "_law_pools_here"] := ⟨f28, _, F28, B28, PySem.W.mg_of X G a28⟩
  have F29 := fun_mk (st := s__law_text_tree) l29 c29 k29
  have B29 := F29.binds (ps := ["_law_script", "_law_pools_here"]) fun _ _ _ _ _ _ us hl => match us, hl with | [_, _], _ => rfl
  have D__law_text_tree : Def K mg "_law_text_tree" s__law_text_tree ["_law_script", "_law_pools_here"] := ⟨f29, _, F29, B29, PySem.W.mg_of X G a29⟩
  have F30 := fun_mk (st := s__law_class_is) l30 c30 k30
  have B30 := F30.binds (ps := ["_law_found", "_law_tree"]) fun _ _ _ _ _ _ us hl => match us, hl with | [_, _], _ => rfl
  have D__law_class_is : Def K mg "_law_class_is" s__law_class_is ["_law_found", "_law_tree"] := ⟨f30, _, F30, B30, PySem.W.mg_of X G a30⟩
  have F31 := fun_mk (st := s_law) l31 c31 k31
  have B31 := F31.binds (ps := ["_law_script"]) fun _ _ _ _ _ _ us hl => match us, hl with | [_], _ => rfl
  have F_Condition_holds := fun_mk (x := "holds") (qual := "Condition.holds") (st := s_Condition_holds) lCondition_holds cCondition_holds kCondition_holds
  have B_Condition_holds := F_Condition_holds.binds (ps := ["self", "loss"]) fun _ _ _ _ _ _ us hl => match us, hl with | [_, _], _ => rfl
  have F_Condition_rank := fun_mk (x := "rank") (qual := "Condition.rank") (st := s_Condition_rank) lCondition_rank cCondition_rank kCondition_rank
  have B_Condition_rank := F_Condition_rank.binds (ps := ["self"]) fun _ _ _ _ _ _ us hl => match us, hl with | [_], _ => rfl
  have F_Condition_words := fun_mk (x := "words") (qual := "Condition.words") (st := s_Condition_words) lCondition_words cCondition_words kCondition_words
  have B_Condition_words := F_Condition_words.binds (ps := ["self"]) fun _ _ _ _ _ _ us hl => match us, hl with | [_], _ => rfl
  have F_CauseIs___init__ := fun_mk (x := "__init__") (qual := "CauseIs.__init__") (st := s_CauseIs___init__) lCauseIs___init__ cCauseIs___init__ kCauseIs___init__
  have B_CauseIs___init__ := F_CauseIs___init__.binds (ps := ["self", "name"]) fun _ _ _ _ _ _ us hl => match us, hl with | [_, _], _ => rfl
  have F_CauseIs_holds := fun_mk (x := "holds") (qual := "CauseIs.holds") (st := s_CauseIs_holds) lCauseIs_holds cCauseIs_holds kCauseIs_holds
  have B_CauseIs_holds := F_CauseIs_holds.binds (ps := ["self", "loss"]) fun _ _ _ _ _ _ us hl => match us, hl with | [_, _], _ => rfl
  have F_CauseIs_words := fun_mk (x := "words") (qual := "CauseIs.words") (st := s_CauseIs_words) lCauseIs_words cCauseIs_words kCauseIs_words
  have B_CauseIs_words := F_CauseIs_words.binds (ps := ["self"]) fun _ _ _ _ _ _ us hl => match us, hl with | [_], _ => rfl
  have F_ThingIs___init__ := fun_mk (x := "__init__") (qual := "ThingIs.__init__") (st := s_ThingIs___init__) lThingIs___init__ cThingIs___init__ kThingIs___init__
  have B_ThingIs___init__ := F_ThingIs___init__.binds (ps := ["self", "name"]) fun _ _ _ _ _ _ us hl => match us, hl with | [_, _], _ => rfl
  have F_ThingIs_holds := fun_mk (x := "holds") (qual := "ThingIs.holds") (st := s_ThingIs_holds) lThingIs_holds cThingIs_holds kThingIs_holds
  have B_ThingIs_holds := F_ThingIs_holds.binds (ps := ["self", "loss"]) fun _ _ _ _ _ _ us hl => match us, hl with | [_, _], _ => rfl
  have F_ThingIs_words := fun_mk (x := "words") (qual := "ThingIs.words") (st := s_ThingIs_words) lThingIs_words cThingIs_words kThingIs_words
  have B_ThingIs_words := F_ThingIs_words.binds (ps := ["self"]) fun _ _ _ _ _ _ us hl => match us, hl with | [_], _ => rfl
  have F_DaysIn___init__ := fun_mk (x := "__init__") (qual := "DaysIn.__init__") (st := s_DaysIn___init__) lDaysIn___init__ cDaysIn___init__ kDaysIn___init__
  have B_DaysIn___init__ := F_DaysIn___init__.binds (ps := ["self", "first", "last"]) fun _ _ _ _ _ _ us hl => match us, hl with | [_, _, _], _ => rfl
  have F_DaysIn_holds := fun_mk (x := "holds") (qual := "DaysIn.holds") (st := s_DaysIn_holds) lDaysIn_holds cDaysIn_holds kDaysIn_holds
  have B_DaysIn_holds := F_DaysIn_holds.binds (ps := ["self", "loss"]) fun _ _ _ _ _ _ us hl => match us, hl with | [_, _], _ => rfl
  have F_DaysIn_words := fun_mk (x := "words") (qual := "DaysIn.words") (st := s_DaysIn_words) lDaysIn_words cDaysIn_words kDaysIn_words
  have B_DaysIn_words := F_DaysIn_words.binds (ps := ["self"]) fun _ _ _ _ _ _ us hl => match us, hl with | [_], _ => rfl
  have F_Over___init__ := fun_mk (x := "__init__") (qual := "Over.__init__") (st := s_Over___init__) lOver___init__ cOver___init__ kOver___init__
  have B_Over___init__ := F_Over___init__.binds (ps := ["self", "cents"]) fun _ _ _ _ _ _ us hl => match us, hl with | [_, _], _ => rfl
  have F_Over_holds := fun_mk (x := "holds") (qual := "Over.holds") (st := s_Over_holds) lOver_holds cOver_holds kOver_holds
  have B_Over_holds := F_Over_holds.binds (ps := ["self", "loss"]) fun _ _ _ _ _ _ us hl => match us, hl with | [_, _], _ => rfl
  have F_Over_words := fun_mk (x := "words") (qual := "Over.words") (st := s_Over_words) lOver_words cOver_words kOver_words
  have B_Over_words := F_Over_words.binds (ps := ["self"]) fun _ _ _ _ _ _ us hl => match us, hl with | [_], _ => rfl
  have F_Not___init__ := fun_mk (x := "__init__") (qual := "Not.__init__") (st := s_Not___init__) lNot___init__ cNot___init__ kNot___init__
  have B_Not___init__ := F_Not___init__.binds (ps := ["self", "part"]) fun _ _ _ _ _ _ us hl => match us, hl with | [_, _], _ => rfl
  have F_Not_holds := fun_mk (x := "holds") (qual := "Not.holds") (st := s_Not_holds) lNot_holds cNot_holds kNot_holds
  have B_Not_holds := F_Not_holds.binds (ps := ["self", "loss"]) fun _ _ _ _ _ _ us hl => match us, hl with | [_, _], _ => rfl
  have F_Not_words := fun_mk (x := "words") (qual := "Not.words") (st := s_Not_words) lNot_words cNot_words kNot_words
  have B_Not_words := F_Not_words.binds (ps := ["self"]) fun _ _ _ _ _ _ us hl => match us, hl with | [_], _ => rfl
  have F_All___init__ := fun_mk (x := "__init__") (qual := "All.__init__") (st := s_All___init__) lAll___init__ cAll___init__ kAll___init__
  have B_All___init__ := F_All___init__.binds (ps := ["self", "several"]) fun _ _ _ _ _ _ us hl => match us, hl with | [_, _], _ => rfl
  have F_All_holds := fun_mk (x := "holds") (qual := "All.holds") (st := s_All_holds) lAll_holds cAll_holds kAll_holds
  have B_All_holds := F_All_holds.binds (ps := ["self", "loss"]) fun _ _ _ _ _ _ us hl => match us, hl with | [_, _], _ => rfl
  have F_All_rank := fun_mk (x := "rank") (qual := "All.rank") (st := s_All_rank) lAll_rank cAll_rank kAll_rank
  have B_All_rank := F_All_rank.binds (ps := ["self"]) fun _ _ _ _ _ _ us hl => match us, hl with | [_], _ => rfl
  have F_All_words := fun_mk (x := "words") (qual := "All.words") (st := s_All_words) lAll_words cAll_words kAll_words
  have B_All_words := F_All_words.binds (ps := ["self"]) fun _ _ _ _ _ _ us hl => match us, hl with | [_], _ => rfl
  have F_Some___init__ := fun_mk (x := "__init__") (qual := "Some.__init__") (st := s_Some___init__) lSome___init__ cSome___init__ kSome___init__
  have B_Some___init__ := F_Some___init__.binds (ps := ["self", "several"]) fun _ _ _ _ _ _ us hl => match us, hl with | [_, _], _ => rfl
  have F_Some_holds := fun_mk (x := "holds") (qual := "Some.holds") (st := s_Some_holds) lSome_holds cSome_holds kSome_holds
  have B_Some_holds := F_Some_holds.binds (ps := ["self", "loss"]) fun _ _ _ _ _ _ us hl => match us, hl with | [_, _], _ => rfl
  have F_Some_rank := fun_mk (x := "rank") (qual := "Some.rank") (st := s_Some_rank) lSome_rank cSome_rank kSome_rank
  have B_Some_rank := F_Some_rank.binds (ps := ["self"]) fun _ _ _ _ _ _ us hl => match us, hl with | [_], _ => rfl
  have F_Some_words := fun_mk (x := "words") (qual := "Some.words") (st := s_Some_words) lSome_words cSome_words kSome_words
  have B_Some_words := F_Some_words.binds (ps := ["self"]) fun _ _ _ _ _ _ us hl => match us, hl with | [_], _ => rfl
  have F_Reader___init__ := fun_mk (x := "__init__") (qual := "Reader.__init__") (st := s_Reader___init__) lReader___init__ cReader___init__ kReader___init__
  have B_Reader___init__ := F_Reader___init__.binds (ps := ["self", "row"]) fun _ _ _ _ _ _ us hl => match us, hl with | [_, _], _ => rfl
  have F_Reader_ahead := fun_mk (x := "ahead") (qual := "Reader.ahead") (st := s_Reader_ahead) lReader_ahead cReader_ahead kReader_ahead
  have B_Reader_ahead := F_Reader_ahead.binds (ps := ["self"]) fun _ _ _ _ _ _ us hl => match us, hl with | [_], _ => rfl
  have F_Reader_step := fun_mk (x := "step") (qual := "Reader.step") (st := s_Reader_step) lReader_step cReader_step kReader_step
  have B_Reader_step := F_Reader_step.binds (ps := ["self"]) fun _ _ _ _ _ _ us hl => match us, hl with | [_], _ => rfl
  have F_Reader_read_rows := fun_mk (x := "read_rows") (qual := "Reader.read_rows") (st := s_Reader_read_rows) lReader_read_rows cReader_read_rows kReader_read_rows
  have B_Reader_read_rows := F_Reader_read_rows.binds (ps := ["self"]) fun _ _ _ _ _ _ us hl => match us, hl with | [_], _ => rfl
  have F_Reader_read_row := fun_mk (x := "read_row") (qual := "Reader.read_row") (st := s_Reader_read_row) lReader_read_row cReader_read_row kReader_read_row
  have B_Reader_read_row := F_Reader_read_row.binds (ps := ["self"]) fun _ _ _ _ _ _ us hl => match us, hl with | [_], _ => rfl
  have F_Reader_goes_on := fun_mk (x := "goes_on") (qual := "Reader.goes_on") (st := s_Reader_goes_on) lReader_goes_on cReader_goes_on kReader_goes_on
  have B_Reader_goes_on := F_Reader_goes_on.binds (ps := ["self", "between", "so_far"]) fun _ _ _ _ _ _ us hl => match us, hl with | [_, _, _], _ => rfl
  have F_Reader_read_piece := fun_mk (x := "read_piece") (qual := "Reader.read_piece") (st := s_Reader_read_piece) lReader_read_piece cReader_read_piece kReader_read_piece
  have B_Reader_read_piece := F_Reader_read_piece.binds (ps := ["self"]) fun _ _ _ _ _ _ us hl => match us, hl with | [_], _ => rfl
  have F_Reader_read_deeper := fun_mk (x := "read_deeper") (qual := "Reader.read_deeper") (st := s_Reader_read_deeper) lReader_read_deeper cReader_read_deeper kReader_read_deeper
  have B_Reader_read_deeper := F_Reader_read_deeper.binds (ps := ["self", "word"]) fun _ _ _ _ _ _ us hl => match us, hl with | [_, _], _ => rfl
  have F_Reader_read_bracket := fun_mk (x := "read_bracket") (qual := "Reader.read_bracket") (st := s_Reader_read_bracket) lReader_read_bracket cReader_read_bracket kReader_read_bracket
  have B_Reader_read_bracket := F_Reader_read_bracket.binds (ps := ["self"]) fun _ _ _ _ _ _ us hl => match us, hl with | [_], _ => rfl
  have F_Reader_read_name := fun_mk (x := "read_name") (qual := "Reader.read_name") (st := s_Reader_read_name) lReader_read_name cReader_read_name kReader_read_name
  have B_Reader_read_name := F_Reader_read_name.binds (ps := ["self"]) fun _ _ _ _ _ _ us hl => match us, hl with | [_], _ => rfl
  have F_Reader_read_days := fun_mk (x := "read_days") (qual := "Reader.read_days") (st := s_Reader_read_days) lReader_read_days cReader_read_days kReader_read_days
  have B_Reader_read_days := F_Reader_read_days.binds (ps := ["self"]) fun _ _ _ _ _ _ us hl => match us, hl with | [_], _ => rfl
  have F_Reader_read_day := fun_mk (x := "read_day") (qual := "Reader.read_day") (st := s_Reader_read_day) lReader_read_day cReader_read_day kReader_read_day
  have B_Reader_read_day := F_Reader_read_day.binds (ps := ["self", "least"]) fun _ _ _ _ _ _ us hl => match us, hl with | [_, _], _ => rfl
  have F_Reader_read_amount := fun_mk (x := "read_amount") (qual := "Reader.read_amount") (st := s_Reader_read_amount) lReader_read_amount cReader_read_amount kReader_read_amount
  have B_Reader_read_amount := F_Reader_read_amount.binds (ps := ["self"]) fun _ _ _ _ _ _ us hl => match us, hl with | [_], _ => rfl
  have H_Condition_holds : Meth K C_Condition "holds" fCondition_holds := ⟨a_Condition_holds, iCondition_holds, kCondition_holds⟩
  have H_Condition_rank : Meth K C_Condition "rank" fCondition_rank := ⟨a_Condition_rank, iCondition_rank, kCondition_rank⟩
  have H_Condition_words : Meth K C_Condition "words" fCondition_words := ⟨a_Condition_words, iCondition_words, kCondition_words⟩
  have H_CauseIs_make : Mk K C_CauseIs fCauseIs___init__ := ⟨mk_CauseIs, a_CauseIs___init__, iCauseIs___init__, kc_CauseIs⟩
  have H_CauseIs_holds : Meth K C_CauseIs "holds" fCauseIs_holds := ⟨a_CauseIs_holds, iCauseIs_holds, kCauseIs_holds⟩
  have H_CauseIs_rank : Meth K C_CauseIs "rank" fCondition_rank := ⟨a_CauseIs_rank, iCondition_rank, kCondition_rank⟩
  have H_CauseIs_words : Meth K C_CauseIs "words" fCauseIs_words := ⟨a_CauseIs_words, iCauseIs_words, kCauseIs_words⟩
  have H_ThingIs_make : Mk K C_ThingIs fThingIs___init__ := ⟨mk_ThingIs, a_ThingIs___init__, iThingIs___init__, kc_ThingIs⟩
  have H_ThingIs_holds : Meth K C_ThingIs "holds" fThingIs_holds := ⟨a_ThingIs_holds, iThingIs_holds, kThingIs_holds⟩
  have H_ThingIs_rank : Meth K C_ThingIs "rank" fCondition_rank := ⟨a_ThingIs_rank, iCondition_rank, kCondition_rank⟩
  have H_ThingIs_words : Meth K C_ThingIs "words" fThingIs_words := ⟨a_ThingIs_words, iThingIs_words, kThingIs_words⟩
  have H_DaysIn_make : Mk K C_DaysIn fDaysIn___init__ := ⟨mk_DaysIn, a_DaysIn___init__, iDaysIn___init__, kc_DaysIn⟩
  have H_DaysIn_holds : Meth K C_DaysIn "holds" fDaysIn_holds := ⟨a_DaysIn_holds, iDaysIn_holds, kDaysIn_holds⟩
  have H_DaysIn_rank : Meth K C_DaysIn "rank" fCondition_rank := ⟨a_DaysIn_rank, iCondition_rank, kCondition_rank⟩
  have H_DaysIn_words : Meth K C_DaysIn "words" fDaysIn_words := ⟨a_DaysIn_words, iDaysIn_words, kDaysIn_words⟩
  have H_Over_make : Mk K C_Over fOver___init__ := ⟨mk_Over, a_Over___init__, iOver___init__, kc_Over⟩
  have H_Over_holds : Meth K C_Over "holds" fOver_holds := ⟨a_Over_holds, iOver_holds, kOver_holds⟩
  have H_Over_rank : Meth K C_Over "rank" fCondition_rank := ⟨a_Over_rank, iCondition_rank, kCondition_rank⟩
  have H_Over_words : Meth K C_Over "words" fOver_words := ⟨a_Over_words, iOver_words, kOver_words⟩
  have H_Not_make : Mk K C_Not fNot___init__ := ⟨mk_Not, a_Not___init__, iNot___init__, kc_Not⟩
  have H_Not_holds : Meth K C_Not "holds" fNot_holds := ⟨a_Not_holds, iNot_holds, kNot_holds⟩
  have H_Not_rank : Meth K C_Not "rank" fCondition_rank := ⟨a_Not_rank, iCondition_rank, kCondition_rank⟩
  have H_Not_words : Meth K C_Not "words" fNot_words := ⟨a_Not_words, iNot_words, kNot_words⟩
  have H_All_make : Mk K C_All fAll___init__ := ⟨mk_All, a_All___init__, iAll___init__, kc_All⟩
  have H_All_holds : Meth K C_All "holds" fAll_holds := ⟨a_All_holds, iAll_holds, kAll_holds⟩
  have H_All_rank : Meth K C_All "rank" fAll_rank := ⟨a_All_rank, iAll_rank, kAll_rank⟩
  have H_All_words : Meth K C_All "words" fAll_words := ⟨a_All_words, iAll_words, kAll_words⟩
  have H_Some_make : Mk K C_Some fSome___init__ := ⟨mk_Some, a_Some___init__, iSome___init__, kc_Some⟩
  have H_Some_holds : Meth K C_Some "holds" fSome_holds := ⟨a_Some_holds, iSome_holds, kSome_holds⟩
  have H_Some_rank : Meth K C_Some "rank" fSome_rank := ⟨a_Some_rank, iSome_rank, kSome_rank⟩
  have H_Some_words : Meth K C_Some "words" fSome_words := ⟨a_Some_words, iSome_words, kSome_words⟩
  have H_Reader_make : Mk K C_Reader fReader___init__ := ⟨mk_Reader, a_Reader___init__, iReader___init__, kc_Reader⟩
  have H_Reader_ahead : Meth K C_Reader "ahead" fReader_ahead := ⟨a_Reader_ahead, iReader_ahead, kReader_ahead⟩
  have H_Reader_step : Meth K C_Reader "step" fReader_step := ⟨a_Reader_step, iReader_step, kReader_step⟩
  have H_Reader_read_rows : Meth K C_Reader "read_rows" fReader_read_rows := ⟨a_Reader_read_rows, iReader_read_rows, kReader_read_rows⟩
  have H_Reader_read_row : Meth K C_Reader "read_row" fReader_read_row := ⟨a_Reader_read_row, iReader_read_row, kReader_read_row⟩
  have H_Reader_goes_on : Meth K C_Reader "goes_on" fReader_goes_on := ⟨a_Reader_goes_on, iReader_goes_on, kReader_goes_on⟩
  have H_Reader_read_piece : Meth K C_Reader "read_piece" fReader_read_piece := ⟨a_Reader_read_piece, iReader_read_piece, kReader_read_piece⟩
  have H_Reader_read_deeper : Meth K C_Reader "read_deeper" fReader_read_deeper := ⟨a_Reader_read_deeper, iReader_read_deeper, kReader_read_deeper⟩
  have H_Reader_read_bracket : Meth K C_Reader "read_bracket" fReader_read_bracket := ⟨a_Reader_read_bracket, iReader_read_bracket, kReader_read_bracket⟩
  have H_Reader_read_name : Meth K C_Reader "read_name" fReader_read_name := ⟨a_Reader_read_name, iReader_read_name, kReader_read_name⟩
  have H_Reader_read_days : Meth K C_Reader "read_days" fReader_read_days := ⟨a_Reader_read_days, iReader_read_days, kReader_read_days⟩
  have H_Reader_read_day : Meth K C_Reader "read_day" fReader_read_day := ⟨a_Reader_read_day, iReader_read_day, kReader_read_day⟩
  have H_Reader_read_amount : Meth K C_Reader "read_amount" fReader_read_amount := ⟨a_Reader_read_amount, iReader_read_amount, kReader_read_amount⟩
  have NCondition : Mk0 K mg "Condition" C_Condition := ⟨mk_Condition, ni_Condition, kc_Condition, PySem.W.mg_of X G q_Condition⟩
  have L : Kl K mg C_Condition C_CauseIs C_ThingIs C_DaysIn C_Over C_Not C_All C_Some C_Reader := ⟨PySem.W.mg_of X G q_Condition, ⟨pg_Condition, hd_Condition, po_Condition, sa_Condition⟩, fun e => .ins e ⟨pg_Condition, hd_Condition, po_Condition, sa_Condition⟩ ha_Condition gs tk hm_Condition, PySem.W.mg_of X G q_CauseIs, ⟨pg_CauseIs, hd_CauseIs, po_CauseIs, sa_CauseIs⟩, na_CauseIs_name, fun e => .ins e ⟨pg_CauseIs, hd_CauseIs, po_CauseIs, sa_CauseIs⟩ ha_CauseIs gs tk hm_CauseIs, PySem.W.mg_of X G q_ThingIs, ⟨pg_ThingIs, hd_ThingIs, po_ThingIs, sa_ThingIs⟩, na_ThingIs_name, fun e => .ins e ⟨pg_ThingIs, hd_ThingIs, po_ThingIs, sa_ThingIs⟩ ha_ThingIs gs tk hm_ThingIs, PySem.W.mg_of X G q_DaysIn, ⟨pg_DaysIn, hd_DaysIn, po_DaysIn, sa_DaysIn⟩, na_DaysIn_first, na_DaysIn_last, fun e => .ins e ⟨pg_DaysIn, hd_DaysIn, po_DaysIn, sa_DaysIn⟩ ha_DaysIn gs tk hm_DaysIn, PySem.W.mg_of X G q_Over, ⟨pg_Over, hd_Over, po_Over, sa_Over⟩, na_Over_cents, fun e => .ins e ⟨pg_Over, hd_Over, po_Over, sa_Over⟩ ha_Over gs tk hm_Over, PySem.W.mg_of X G q_Not, ⟨pg_Not, hd_Not, po_Not, sa_Not⟩, na_Not_part, fun e => .ins e ⟨pg_Not, hd_Not, po_Not, sa_Not⟩ ha_Not gs tk hm_Not, PySem.W.mg_of X G q_All, ⟨pg_All, hd_All, po_All, sa_All⟩, na_All_several, fun e => .ins e ⟨pg_All, hd_All, po_All, sa_All⟩ ha_All gs tk hm_All, PySem.W.mg_of X G q_Some, ⟨pg_Some, hd_Some, po_Some, sa_Some⟩, na_Some_several, fun e => .ins e ⟨pg_Some, hd_Some, po_Some, sa_Some⟩ ha_Some gs tk hm_Some, PySem.W.mg_of X G q_Reader, ⟨pg_Reader, hd_Reader, po_Reader, sa_Reader⟩, na_Reader_row, na_Reader_place, na_Reader_depth, kt_Condition_Condition, kt_Condition_CauseIs, kt_Condition_ThingIs, kt_Condition_DaysIn, kt_Condition_Over, kt_Condition_Not, kt_Condition_All, kt_Condition_Some, kt_CauseIs_Condition, kt_CauseIs_CauseIs, kt_CauseIs_ThingIs, kt_CauseIs_DaysIn, kt_CauseIs_Over, kt_CauseIs_Not, kt_CauseIs_All, kt_CauseIs_Some, kt_ThingIs_Condition, kt_ThingIs_CauseIs, kt_ThingIs_ThingIs, kt_ThingIs_DaysIn, kt_ThingIs_Over, kt_ThingIs_Not, kt_ThingIs_All, kt_ThingIs_Some, kt_DaysIn_Condition, kt_DaysIn_CauseIs, kt_DaysIn_ThingIs, kt_DaysIn_DaysIn, kt_DaysIn_Over, kt_DaysIn_Not, kt_DaysIn_All, kt_DaysIn_Some, kt_Over_Condition, kt_Over_CauseIs, kt_Over_ThingIs, kt_Over_DaysIn, kt_Over_Over, kt_Over_Not, kt_Over_All, kt_Over_Some, kt_Not_Condition, kt_Not_CauseIs, kt_Not_ThingIs, kt_Not_DaysIn, kt_Not_Over, kt_Not_Not, kt_Not_All, kt_Not_Some, kt_All_Condition, kt_All_CauseIs, kt_All_ThingIs, kt_All_DaysIn, kt_All_Over, kt_All_Not, kt_All_All, kt_All_Some, kt_Some_Condition, kt_Some_CauseIs, kt_Some_ThingIs, kt_Some_DaysIn, kt_Some_Over, kt_Some_Not, kt_Some_All, kt_Some_Some, nd_C⟩
  have T : Txt K mg := ⟨⟨tk_CAUSE, PySem.W.mg_of X G z_CAUSE⟩, ⟨tk_CENTS, PySem.W.mg_of X G z_CENTS⟩, ⟨tk_DAY, PySem.W.mg_of X G z_DAY⟩, ⟨tk_FIGURES, PySem.W.mg_of X G z_FIGURES⟩, ⟨tk_LAST_DAY, PySem.W.mg_of X G z_LAST_DAY⟩, ⟨tk_LETTERS, PySem.W.mg_of X G z_LETTERS⟩, ⟨tk_LONGEST_NAME, PySem.W.mg_of X G z_LONGEST_NAME⟩, ⟨tk_MOST_DAY_FIGURES, PySem.W.mg_of X G z_MOST_DAY_FIGURES⟩, ⟨tk_MOST_IN_ROW, PySem.W.mg_of X G z_MOST_IN_ROW⟩, ⟨tk_MOST_OPEN, PySem.W.mg_of X G z_MOST_OPEN⟩, ⟨tk_MOST_WHOLE_FIGURES, PySem.W.mg_of X G z_MOST_WHOLE_FIGURES⟩, ⟨tk_MOST_WORDS, PySem.W.mg_of X G z_MOST_WORDS⟩, ⟨tk_RANK_OF_ALL, PySem.W.mg_of X G z_RANK_OF_ALL⟩, ⟨tk_RANK_OF_OTHERS, PySem.W.mg_of X G z_RANK_OF_OTHERS⟩, ⟨tk_RANK_OF_SOME, PySem.W.mg_of X G z_RANK_OF_SOME⟩, ⟨tk_THING, PySem.W.mg_of X G z_THING⟩, PySem.W.mg_none_of X G z_bool, PySem.W.mg_none_of X G z_enumerate, PySem.W.mg_none_of X G z_int, PySem.W.mg_none_of X G z_isinstance, PySem.W.mg_none_of X G z_len, PySem.W.mg_none_of X G z_list, PySem.W.mg_none_of X G z_max, PySem.W.mg_none_of X G z_min, PySem.W.mg_none_of X G z_range, PySem.W.mg_none_of X G z_sorted, PySem.W.mg_none_of X G z_str⟩
  have Z : Xc K mg C_CoverError C_NoAmount C_NoWords C_TooDeep := ⟨PySem.W.mg_of X G q_CoverError, PySem.W.mg_of X G q_NoAmount, PySem.W.mg_of X G q_NoWords, PySem.W.mg_of X G q_TooDeep⟩
  refine ⟨PySem.W.fnOf "law" "law" (defArgs s_law) (defBody s_law) (defScope s_law) .none kV31 dc31 pm31 an31 cd31 ct31, fun s v => .of_eq rfl, fun base _ _ => ?_⟩
  have Mholds : ∀ m, MFam l.prog w K mg base m (A8.Fam (A8.mk C_Condition C_CauseIs C_ThingIs C_DaysIn C_Over C_Not C_All C_Some)) "holds" ["self", "loss"] (spHolds (A8.mk C_Condition C_CauseIs C_ThingIs C_DaysIn C_Over C_Not C_All C_Some) m) := by
    intro m
    induction m with
    | zero =>
      refine ⟨fun C hC => ?_⟩
      rcases hC with rfl | rfl | rfl | rfl | rfl | rfl | rfl | rfl
      · exact ⟨⟨_, _, vac fun _ _ _ _ => spHolds0, B_Condition_holds, H_Condition_holds⟩, L.cl_Condition⟩
      · exact ⟨⟨_, _, vac fun _ _ _ _ => spHolds0, B_CauseIs_holds, H_CauseIs_holds⟩, L.cl_CauseIs⟩
      · exact ⟨⟨_, _, vac fun _ _ _ _ => spHolds0, B_ThingIs_holds, H_ThingIs_holds⟩, L.cl_ThingIs⟩
      · exact ⟨⟨_, _, vac fun _ _ _ _ => spHolds0, B_DaysIn_holds, H_DaysIn_holds⟩, L.cl_DaysIn⟩
      · exact ⟨⟨_, _, vac fun _ _ _ _ => spHolds0, B_Over_holds, H_Over_holds⟩, L.cl_Over⟩
      · exact ⟨⟨_, _, vac fun _ _ _ _ => spHolds0, B_Not_holds, H_Not_holds⟩, L.cl_Not⟩
      · exact ⟨⟨_, _, vac fun _ _ _ _ => spHolds0, B_All_holds, H_All_holds⟩, L.cl_All⟩
      · exact ⟨⟨_, _, vac fun _ _ _ _ => spHolds0, B_Some_holds, H_Some_holds⟩, L.cl_Some⟩
    | succ m ih =>
      refine ⟨fun C hC => ?_⟩
      have m1 : 1 ≤ m + 1 := Nat.succ_le_succ (Nat.zero_le _)
      rcases hC with rfl | rfl | rfl | rfl | rfl | rfl | rfl | rfl
      · exact ⟨⟨_, _, (ok_Condition_holds F_Condition_holds L).mono m1, B_Condition_holds, H_Condition_holds⟩, L.cl_Condition⟩
      · exact ⟨⟨_, _, (ok_CauseIs_holds F_CauseIs_holds T L).mono m1, B_CauseIs_holds, H_CauseIs_holds⟩, L.cl_CauseIs⟩
      · exact ⟨⟨_, _, (ok_ThingIs_holds F_ThingIs_holds T L).mono m1, B_ThingIs_holds, H_ThingIs_holds⟩, L.cl_ThingIs⟩
      · exact ⟨⟨_, _, (ok_DaysIn_holds F_DaysIn_holds T L).mono m1, B_DaysIn_holds, H_DaysIn_holds⟩, L.cl_DaysIn⟩
      · exact ⟨⟨_, _, (ok_Over_holds F_Over_holds T L).mono m1, B_Over_holds, H_Over_holds⟩, L.cl_Over⟩
      · exact ⟨⟨_, _, ok_Not_holds F_Not_holds L ih, B_Not_holds, H_Not_holds⟩, L.cl_Not⟩
      · exact ⟨⟨_, _, ok_All_holds F_All_holds L ih, B_All_holds, H_All_holds⟩, L.cl_All⟩
      · exact ⟨⟨_, _, ok_Some_holds F_Some_holds L ih, B_Some_holds, H_Some_holds⟩, L.cl_Some⟩
  have nd := nd8 L
  unfold A8.l at nd
  simp only [List.nodup_cons, List.mem_cons, List.not_mem_nil, not_or, or_false] at nd
  have Mrank : MFam l.prog w K mg base 1 (A8.Fam (A8.mk C_Condition C_CauseIs C_ThingIs C_DaysIn C_Over C_Not C_All C_Some)) "rank" ["self"] (spRank (A8.mk C_Condition C_CauseIs C_ThingIs C_DaysIn C_Over C_Not C_All C_Some)) := ⟨fun C hC => by
    rcases hC with rfl | rfl | rfl | rfl | rfl | rfl | rfl | rfl
    · exact ⟨⟨_, _, ok_Condition_rank F_Condition_rank T L nd.1.2.2.2.2.2.1 nd.1.2.2.2.2.2.2, B_Condition_rank, H_Condition_rank⟩, L.cl_Condition⟩
    · exact ⟨⟨_, _, ok_Condition_rank F_Condition_rank T L nd.2.1.2.2.2.2.1 nd.2.1.2.2.2.2.2, B_Condition_rank, H_CauseIs_rank⟩, L.cl_CauseIs⟩
    · exact ⟨⟨_, _, ok_Condition_rank F_Condition_rank T L nd.2.2.1.2.2.2.1 nd.2.2.1.2.2.2.2, B_Condition_rank, H_ThingIs_rank⟩, L.cl_ThingIs⟩
    · exact ⟨⟨_, _, ok_Condition_rank F_Condition_rank T L nd.2.2.2.1.2.2.1 nd.2.2.2.1.2.2.2, B_Condition_rank, H_DaysIn_rank⟩, L.cl_DaysIn⟩
    · exact ⟨⟨_, _, ok_Condition_rank F_Condition_rank T L nd.2.2.2.2.1.2.1 nd.2.2.2.2.1.2.2, B_Condition_rank, H_Over_rank⟩, L.cl_Over⟩
    · exact ⟨⟨_, _, ok_Condition_rank F_Condition_rank T L nd.2.2.2.2.2.1.1 nd.2.2.2.2.2.1.2, B_Condition_rank, H_Not_rank⟩, L.cl_Not⟩
    · exact ⟨⟨_, _, ok_All_rank F_All_rank T L, B_All_rank, H_All_rank⟩, L.cl_All⟩
    · exact ⟨⟨_, _, ok_Some_rank F_Some_rank T L, B_Some_rank, H_Some_rank⟩, L.cl_Some⟩⟩
  have Cshow_cents : Cal l.prog w K mg base 1 "show_cents" ["cents"] spShow := D_show_cents.cal fun f fd F => ok_show_cents F T
  have Mwords : ∀ m, MFam l.prog w K mg base (3 * m + 2) (A8.Fam (A8.mk C_Condition C_CauseIs C_ThingIs C_DaysIn C_Over C_Not C_All C_Some)) "words" ["self"] (spWords (A8.mk C_Condition C_CauseIs C_ThingIs C_DaysIn C_Over C_Not C_All C_Some) m) := by
    intro m
    induction m with
    | zero =>
      refine ⟨fun C hC => ?_⟩
      rcases hC with rfl | rfl | rfl | rfl | rfl | rfl | rfl | rfl
      · exact ⟨⟨_, _, vac fun _ _ _ _ => spWords0, B_Condition_words, H_Condition_words⟩, L.cl_Condition⟩
      · exact ⟨⟨_, _, vac fun _ _ _ _ => spWords0, B_CauseIs_words, H_CauseIs_words⟩, L.cl_CauseIs⟩
      · exact ⟨⟨_, _, vac fun _ _ _ _ => spWords0, B_ThingIs_words, H_ThingIs_words⟩, L.cl_ThingIs⟩
      · exact ⟨⟨_, _, vac fun _ _ _ _ => spWords0, B_DaysIn_words, H_DaysIn_words⟩, L.cl_DaysIn⟩
      · exact ⟨⟨_, _, vac fun _ _ _ _ => spWords0, B_Over_words, H_Over_words⟩, L.cl_Over⟩
      · exact ⟨⟨_, _, vac fun _ _ _ _ => spWords0, B_Not_words, H_Not_words⟩, L.cl_Not⟩
      · exact ⟨⟨_, _, vac fun _ _ _ _ => spWords0, B_All_words, H_All_words⟩, L.cl_All⟩
      · exact ⟨⟨_, _, vac fun _ _ _ _ => spWords0, B_Some_words, H_Some_words⟩, L.cl_Some⟩
    | succ m ih =>
      have Cwords_within : Cal l.prog w K mg base (3 * m + 2 + 1) "words_within" ["part", "highest_in_brackets"] (spWW (A8.mk C_Condition C_CauseIs C_ThingIs C_DaysIn C_Over C_Not C_All C_Some) m) := D_words_within.cal fun f fd F => ok_words_within F ih Mrank
      have Cwords_with : Cal l.prog w K mg base (3 * m + 2 + 1 + 1) "words_with" ["several", "between", "highest_in_brackets"] (spWWs (A8.mk C_Condition C_CauseIs C_ThingIs C_DaysIn C_Over C_Not C_All C_Some) m) := D_words_with.cal fun f fd F => ok_words_with F T Cwords_within
      refine ⟨fun C hC => ?_⟩
      have m2 : 2 ≤ 3 * (m + 1) + 2 := by omega
      rcases hC with rfl | rfl | rfl | rfl | rfl | rfl | rfl | rfl
      · exact ⟨⟨_, _, (ok_Condition_words F_Condition_words T L).mono m2, B_Condition_words, H_Condition_words⟩, L.cl_Condition⟩
      · exact ⟨⟨_, _, (ok_CauseIs_words F_CauseIs_words T L).mono m2, B_CauseIs_words, H_CauseIs_words⟩, L.cl_CauseIs⟩
      · exact ⟨⟨_, _, (ok_ThingIs_words F_ThingIs_words T L).mono m2, B_ThingIs_words, H_ThingIs_words⟩, L.cl_ThingIs⟩
      · exact ⟨⟨_, _, (ok_DaysIn_words F_DaysIn_words T L).mono m2, B_DaysIn_words, H_DaysIn_words⟩, L.cl_DaysIn⟩
      · exact ⟨⟨_, _, (ok_Over_words F_Over_words T L Cshow_cents).mono m2, B_Over_words, H_Over_words⟩, L.cl_Over⟩
      · exact ⟨⟨_, _, (ok_Not_words F_Not_words T L Cwords_within).mono (by omega), B_Not_words, H_Not_words⟩, L.cl_Not⟩
      · exact ⟨⟨_, _, ok_All_words F_All_words T L Cwords_with, B_All_words, H_All_words⟩, L.cl_All⟩
      · exact ⟨⟨_, _, ok_Some_words F_Some_words T L Cwords_with, B_Some_words, H_Some_words⟩, L.cl_Some⟩
  have KCauseIs : KCal l.prog w K mg base 1 "CauseIs" C_CauseIs ["self", "name"] (spMk1 C_CauseIs "name") := ⟨_, _, H_CauseIs_make, ok_CauseIs___init__ F_CauseIs___init__ L, B_CauseIs___init__, L.mg_CauseIs⟩
  have KThingIs : KCal l.prog w K mg base 1 "ThingIs" C_ThingIs ["self", "name"] (spMk1 C_ThingIs "name") := ⟨_, _, H_ThingIs_make, ok_ThingIs___init__ F_ThingIs___init__ L, B_ThingIs___init__, L.mg_ThingIs⟩
  have KDaysIn : KCal l.prog w K mg base 1 "DaysIn" C_DaysIn ["self", "first", "last"] (spMkD C_DaysIn) := ⟨_, _, H_DaysIn_make, ok_DaysIn___init__ F_DaysIn___init__ L, B_DaysIn___init__, L.mg_DaysIn⟩
  have KOver : KCal l.prog w K mg base 1 "Over" C_Over ["self", "cents"] (spMk1 C_Over "cents") := ⟨_, _, H_Over_make, ok_Over___init__ F_Over___init__ L, B_Over___init__, L.mg_Over⟩
  have KNot : KCal l.prog w K mg base 1 "Not" C_Not ["self", "part"] (spMk1 C_Not "part") := ⟨_, _, H_Not_make, ok_Not___init__ F_Not___init__ L, B_Not___init__, L.mg_Not⟩
  have KAll : KCal l.prog w K mg base 1 "All" C_All ["self", "several"] (spMkA C_All) := ⟨_, _, H_All_make, ok_All___init__ F_All___init__ T L, B_All___init__, L.mg_All⟩
  have KSome : KCal l.prog w K mg base 1 "Some" C_Some ["self", "several"] (spMkA C_Some) := ⟨_, _, H_Some_make, ok_Some___init__ F_Some___init__ T L, B_Some___init__, L.mg_Some⟩
  have C_law_cell : Cal l.prog w K mg base 1 "_law_cell" ["_law_script", "_law_k"] (spCellN K) := D__law_cell.cal fun f fd F => ok__law_cell F T
  have C_law_mix : Cal l.prog w K mg base 1 "_law_mix" ["_law_number", "_law_k"] spMix := D__law_mix.cal fun f fd F => ok__law_mix F T
  have C_law_name : Cal l.prog w K mg base 1 "_law_name" ["_law_number"] spNameOf := D__law_name.cal fun f fd F => ok__law_name F T
  have C_law_other : Cal l.prog w K mg base 1 "_law_other" ["_law_name_here", "_law_number"] spOtherN := D__law_other.cal fun f fd F => ok__law_other F T
  have C_law_truth : Cal l.prog w K mg base 1 "_law_truth" ["_law_found", "_law_due"] spTruth := D__law_truth.cal fun f fd F => ok__law_truth F T
  have C_law_pools : Cal l.prog w K mg base 2 "_law_pools" ["_law_script"] (spPools K) := D__law_pools.cal fun f fd F => ok__law_pools F T C_law_cell C_law_mix C_law_name C_law_other
  have C_law_leaf : Cal l.prog w K mg base 1 "_law_leaf" ["_law_number", "_law_pools_here"] spLeaf := D__law_leaf.cal fun f fd F => ok__law_leaf F T
  have C_law_loss : Cal l.prog w K mg base 2 "_law_loss" ["_law_script", "_law_k", "_law_pools_here"] (spLossL K) := D__law_loss.cal fun f fd F => ok__law_loss F T C_law_cell C_law_mix C_law_name
  have C_law_holds : ∀ m, Cal l.prog w K mg base m "_law_holds" ["_law_tree", "_law_loss_here"] (spLH m) := by
    intro m
    induction m with
    | zero =>
      refine D__law_holds.cal fun f fd F => vac fun _ _ _ _ z => ?_
      obtain ⟨_, _, _, _, _, _, z, _⟩ := z
      exact Nat.not_lt_zero _ z
    | succ m ih => exact D__law_holds.cal fun f fd F => ok__law_holds F ih
  have Cis_whole : Cal l.prog w K mg base 1 "is_whole" ["thing"] (spWhole K) := D_is_whole.cal fun f fd F => ok_is_whole F T
  have Chas_letters_alone : Cal l.prog w K mg base 1 "has_letters_alone" ["text"] spLet := D_has_letters_alone.cal fun f fd F => ok_has_letters_alone F T
  have Cis_name : Cal l.prog w K mg base 2 "is_name" ["thing"] (spName K) := D_is_name.cal fun f fd F => ok_is_name F T Chas_letters_alone
  have Chas_figures_alone : Cal l.prog w K mg base 1 "has_figures_alone" ["text"] spFigs := D_has_figures_alone.cal fun f fd F => ok_has_figures_alone F T
  have Cwrites_whole : Cal l.prog w K mg base 2 "writes_whole" ["text", "most_figures"] spWholePart := D_writes_whole.cal fun f fd F => ok_writes_whole F T Chas_figures_alone
  have Cis_cents_part : Cal l.prog w K mg base 2 "is_cents_part" ["text"] spCentsPart := D_is_cents_part.cal fun f fd F => ok_is_cents_part F T Chas_figures_alone
  have Cread_cents : Cal l.prog w K mg base 3 "read_cents" ["text"] spRead := D_read_cents.cal fun f fd F => ok_read_cents F T Cwrites_whole Cis_cents_part
  have Cis_day : Cal l.prog w K mg base 2 "is_day" ["thing"] spIsDay := D_is_day.cal fun f fd F => ok_is_day F T Cis_whole
  have Cday_of : Cal l.prog w K mg base 3 "day_of" ["word"] spDayOf := D_day_of.cal fun f fd F => ok_day_of F T Cwrites_whole Cis_day
  have Mahead : MCal l.prog w K mg base 1 C_Reader "ahead" ["self"] (spAhead C_Reader) := ⟨⟨_, _, ok_Reader_ahead F_Reader_ahead T L, B_Reader_ahead, H_Reader_ahead⟩, L.cl_Reader⟩
  have Mstep : MCal l.prog w K mg base 1 C_Reader "step" ["self"] (spStep1 C_Reader) := ⟨⟨_, _, ok_Reader_step F_Reader_step T L, B_Reader_step, H_Reader_step⟩, L.cl_Reader⟩
  have Mgoes_on : MCal l.prog w K mg base 2 C_Reader "goes_on" ["self", "between", "so_far"] (spGo C_Reader) := ⟨⟨_, _, ok_Reader_goes_on F_Reader_goes_on T L Mahead Mstep, B_Reader_goes_on, H_Reader_goes_on⟩, L.cl_Reader⟩
  have Mread_name : MCal l.prog w K mg base 3 C_Reader "read_name" ["self"] (spRdName C_Reader) := ⟨⟨_, _, ok_Reader_read_name F_Reader_read_name T L Mahead Mstep Cis_name, B_Reader_read_name, H_Reader_read_name⟩, L.cl_Reader⟩
  have Mread_day : MCal l.prog w K mg base 4 C_Reader "read_day" ["self", "least"] (spRdDay C_Reader) := ⟨⟨_, _, ok_Reader_read_day F_Reader_read_day T L Mahead Mstep Cday_of, B_Reader_read_day, H_Reader_read_day⟩, L.cl_Reader⟩
  have Mread_days : MCal l.prog w K mg base 5 C_Reader "read_days" ["self"] (spRdDays (A8.mk C_Condition C_CauseIs C_ThingIs C_DaysIn C_Over C_Not C_All C_Some) C_Reader) := ⟨⟨_, _, ok_Reader_read_days F_Reader_read_days T L Mread_day KDaysIn, B_Reader_read_days, H_Reader_read_days⟩, L.cl_Reader⟩
  have Mread_amount : MCal l.prog w K mg base 4 C_Reader "read_amount" ["self"] (spRdAmt C_Reader) := ⟨⟨_, _, ok_Reader_read_amount F_Reader_read_amount T L Mahead Mstep Z Cread_cents, B_Reader_read_amount, H_Reader_read_amount⟩, L.cl_Reader⟩
  have lev : ∀ m, MCal l.prog w K mg base (5 * m + 5) C_Reader "read_deeper" ["self", "word"] (spRD (A8.mk C_Condition C_CauseIs C_ThingIs C_DaysIn C_Over C_Not C_All C_Some) C_Reader m) ∧ (MCal l.prog w K mg base (5 * m + 5) C_Reader "read_deeper" ["self", "word"] (spRD (A8.mk C_Condition C_CauseIs C_ThingIs C_DaysIn C_Over C_Not C_All C_Some) C_Reader m) → MCal l.prog w K mg base (5 * m + 8) C_Reader "read_rows" ["self"] (spRRs (A8.mk C_Condition C_CauseIs C_ThingIs C_DaysIn C_Over C_Not C_All C_Some) C_Reader m)) := by
    have piece : ∀ m, MCal l.prog w K mg base (5 * m + 5) C_Reader "read_deeper" ["self", "word"] (spRD (A8.mk C_Condition C_CauseIs C_ThingIs C_DaysIn C_Over C_Not C_All C_Some) C_Reader m) → MCal l.prog w K mg base (5 * m + 6) C_Reader "read_piece" ["self"] (spRP (A8.mk C_Condition C_CauseIs C_ThingIs C_DaysIn C_Over C_Not C_All C_Some) C_Reader m) := fun m D => ⟨⟨_, _, ok_Reader_read_piece F_Reader_read_piece T L Mahead Mstep D Mread_name Mread_days Mread_amount NCondition KCauseIs KThingIs KOver, B_Reader_read_piece, H_Reader_read_piece⟩, L.cl_Reader⟩
    have rows : ∀ m, MCal l.prog w K mg base (5 * m + 5) C_Reader "read_deeper" ["self", "word"] (spRD (A8.mk C_Condition C_CauseIs C_ThingIs C_DaysIn C_Over C_Not C_All C_Some) C_Reader m) → MCal l.prog w K mg base (5 * m + 8) C_Reader "read_rows" ["self"] (spRRs (A8.mk C_Condition C_CauseIs C_ThingIs C_DaysIn C_Over C_Not C_All C_Some) C_Reader m) := fun m D => ⟨⟨_, _, ok_Reader_read_rows F_Reader_read_rows T L Mgoes_on ⟨⟨_, _, ok_Reader_read_row F_Reader_read_row T L Mgoes_on (piece m D) KAll, B_Reader_read_row, H_Reader_read_row⟩, L.cl_Reader⟩ KSome, B_Reader_read_rows, H_Reader_read_rows⟩, L.cl_Reader⟩
    intro m
    refine ⟨?_, rows m⟩
    induction m with
    | zero =>
      refine ⟨⟨_, _, vac fun _ _ _ _ z => ?_, B_Reader_read_deeper, H_Reader_read_deeper⟩, L.cl_Reader⟩
      obtain ⟨_, _, _, _, _, _, _, _, _, _, _, _, _, z, _⟩ := z
      exact Nat.not_lt_zero _ z
    | succ m ih =>
      have B : MCal l.prog w K mg base (5 * m + 9) C_Reader "read_bracket" ["self"] (spRB (A8.mk C_Condition C_CauseIs C_ThingIs C_DaysIn C_Over C_Not C_All C_Some) C_Reader m) := ⟨⟨_, _, ok_Reader_read_bracket F_Reader_read_bracket T L Mahead Mstep (rows m ih), B_Reader_read_bracket, H_Reader_read_bracket⟩, L.cl_Reader⟩
      exact ⟨⟨_, _, ok_Reader_read_deeper F_Reader_read_deeper T L Mstep (piece m ih) B KNot, B_Reader_read_deeper, H_Reader_read_deeper⟩, L.cl_Reader⟩
  have Mread_rows : MCal l.prog w K mg base (5 * 6 + 8) C_Reader "read_rows" ["self"] (spRRs (A8.mk C_Condition C_CauseIs C_ThingIs C_DaysIn C_Over C_Not C_All C_Some) C_Reader 6) := (lev 6).2 (lev 6).1
  have KReader : KCal l.prog w K mg base 1 "Reader" C_Reader ["self", "row"] (spRInit C_Reader) := ⟨_, _, H_Reader_make, ok_Reader___init__ F_Reader___init__ L, B_Reader___init__, L.mg_Reader⟩
  have Cread_condition : Cal l.prog w K mg base 40 "read_condition" ["text"] (spRC (A8.mk C_Condition C_CauseIs C_ThingIs C_DaysIn C_Over C_Not C_All C_Some)) := D_read_condition.cal fun f fd F => ok_read_condition F T L KReader Mread_rows
  have Cshow_condition : Cal l.prog w K mg base 201 "show_condition" ["condition"] (spShC (A8.mk C_Condition C_CauseIs C_ThingIs C_DaysIn C_Over C_Not C_All C_Some)) := D_show_condition.cal fun f fd F => ok_show_condition F L (Mwords 66)
  have C_law_words : ∀ m, Cal l.prog w K mg base (2 * m + 1) "_law_words" ["_law_tree"] (spLW m) := by
    intro m
    induction m with
    | zero =>
      refine D__law_words.cal fun f fd F => vac fun _ _ _ _ z => ?_
      obtain ⟨_, _, _, _, z, _⟩ := z
      exact Nat.not_lt_zero _ z
    | succ m ih => exact D__law_words.cal fun f fd F => ok__law_words F T (D__law_inner.cal fun f fd F => ok__law_inner F ih)
  have C_law_words_are : Cal l.prog w K mg base 1 "_law_words_are" ["_law_found", "_law_due"] spWA := D__law_words_are.cal fun f fd F => ok__law_words_are F T
  have C_law_spelt : Cal l.prog w K mg base 1 "_law_spelt" ["_law_node", "_law_least"] spSpelt := D__law_spelt.cal fun f fd F => ok__law_spelt F
  have C_law_join : Cal l.prog w K mg base 2 "_law_join" ["_law_row", "_law_kind"] spJoin4 := D__law_join.cal fun f fd F => ok__law_join F T C_law_spelt
  have C_law_step : Cal l.prog w K mg base 4 "_law_step" ["_law_row", "_law_number", "_law_pools_here"] spStep4 := D__law_step.cal fun f fd F => ok__law_step F T C_law_spelt C_law_join C_law_leaf (C_law_words 1)
  have C_law_text_tree : Cal l.prog w K mg base 5 "_law_text_tree" ["_law_script", "_law_pools_here"] (spTT K) := D__law_text_tree.cal fun f fd F => ok__law_text_tree F T C_law_cell C_law_mix C_law_step C_law_join
  have C_law_class_is : Cal l.prog w K mg base 1 "_law_class_is" ["_law_found", "_law_tree"] (spCI (A8.mk C_Condition C_CauseIs C_ThingIs C_DaysIn C_Over C_Not C_All C_Some)) := D__law_class_is.cal fun f fd F => ok__law_class_is F T L
  exact ok_law F31 T L C_law_pools C_law_text_tree C_law_loss (C_law_words 66) C_law_words_are (C_law_holds 66) C_law_truth C_law_class_is Cshow_condition Cread_condition (Mholds 66) (Mwords 66)
theorem walk {l : PySem.W.OpenLaw} {q : Program} {loose : List Str} {XP : (Str → Option Value) → Heap → Prop} {YP : World → Heap → Prop} {d : DefRec} {K : Params → PySem.W.Frag} (hn : l.most = some 63) (hdf : d.params.defaults = [])
    (hY : ∀ (w : World) (h : Heap), YP w h → (K w.params).In h)
    (F : ∀ (w : World) (mg : Str → Option Value) (fa : Addr) (h : Heap), (K w.params).In h → h.Ns mainGlobals mg → mg d.name = some (.ref fa) →
      ∃ fd : FuncData, (∀ (s : Shared) (u : Value), BindsTo s fd ⟨[u], []⟩ [("_law_script", u)]) ∧ ∀ base : Heap, (K w.params).In base → base.Ns mainGlobals mg → FnOk l.prog w (K w.params) mg base CX0 203 fa fd ["_law_script"] (spLaw (K w.params))) :
    PySem.W.WalkO q loose XP YP l.row.toRowW d [] (fun f vs => PySem.call f vs) :=
  L2.walk_of (n := 63) (k := 203) (x := "_law_script") (CX := fun _ => CX0) (sp := fun w => spLaw (K w.params)) hn (by decide) hdf ⟨rfl, by decide, by decide⟩ hY F (fun _ _ a ns hl _ hS => ⟨a, ns, rfl, hS, hl, fun _ => rfl⟩) fun _ _ _ _ _ z => z
end CRL
open PySem PySem.W PyProof.Rows
def PySem.W.Fast.tw15928668589410802360 : Unit := ()
def PySem.W.Fast.tw11344459544044778556 : Unit := ()
def PySem.W.Fast.tw750039083967879016 : Unit := ()
def PySem.W.Fast.tw174923275130936191 : Unit := ()
def PySem.W.Fast.tw6235197236469959969 : Unit := ()
def PySem.W.Fast.tw9961240108587888248 : Unit := ()
def PySem.W.Fast.tw8502789680839187186 : Unit := ()
def PySem.W.Fast.tw14137603671063225032 : Unit := ()
def PySem.W.Fast.tw4745397261421453834 : Unit := ()
def PySem.W.Fast.tw6563978060102020457 : Unit := ()
def PySem.W.Fast.tw8166483043502868476 : Unit := ()
def PySem.W.Fast.tw11223248956423024323 : Unit := ()
def PySem.W.Fast.tw6588876853714932069 : Unit := ()
def PySem.W.Fast.tw1363216291335310930 : Unit := ()
def PySem.W.Fast.tw17450747870297712091 : Unit := ()
def PySem.W.Fast.tw16447305438316372221 : Unit := ()
def PySem.W.Fast.tw13597030856584394993 : Unit := ()
def PySem.W.Fast.tw12231457816202734040 : Unit := ()
def PySem.W.Fast.tw15627160653266285274 : Unit := ()
def PySem.W.Fast.tw9732906378358311010 : Unit := ()
def PySem.W.Fast.tw7354040895287589096 : Unit := ()
def PySem.W.Fast.tw3897256022107970865 : Unit := ()
def PySem.W.Fast.tw11203594269845083326 : Unit := ()
def PySem.W.Fast.tw10542022332216283781 : Unit := ()
def PySem.W.Fast.tw994602687747987788 : Unit := ()
def PySem.W.Fast.tw4263157375537488573 : Unit := ()
def PySem.W.Fast.tw5752789076920594981 : Unit := ()
def PySem.W.Fast.tw17933616945859769785 : Unit := ()
def PySem.W.Fast.tw14379054105955698781 : Unit := ()
def PySem.W.Fast.tw18430121233682289740 : Unit := ()
def PySem.W.Fast.tw15638483573562511583 : Unit := ()
def PySem.W.Fast.tw103154918024187301 : Unit := ()
def PySem.W.Fast.tw6370531646836320347 : Unit := ()
def PySem.W.Fast.tw11756018710376480360 : Unit := ()
def PySem.W.Fast.tw8623963042622130783 : Unit := ()
def PySem.W.Fast.tw9249579477394152602 : Unit := ()
def PySem.W.Fast.tw4912317767074551070 : Unit := ()
def PySem.W.Fast.tw9509258170557709945 : Unit := ()
def PySem.W.Fast.tw4621464040958409772 : Unit := ()
def PySem.W.Fast.tw9136985086229928487 : Unit := ()
def PySem.W.Fast.tw6040675027700336715 : Unit := ()
def PySem.W.Fast.tw1888752681781702841 : Unit := ()
def PySem.W.Fast.tw4983730501597856784 : Unit := ()
def PySem.W.Fast.tw1957321057906488338 : Unit := ()
def PySem.W.Fast.tw1695150200126034236 : Unit := ()
def PySem.W.Fast.tw16483520171309633290 : Unit := ()
def PySem.W.Fast.tw11830760082358701559 : Unit := ()
def PySem.W.Fast.tw6965059678227082143 : Unit := ()
def PySem.W.Fast.tw4492520346254118922 : Unit := ()
def PySem.W.Fast.tw3065330174260166036 : Unit := ()
def PySem.W.Fast.tw4494951810517148762 : Unit := ()
def PySem.W.Fast.tw16051686890548619502 : Unit := ()
def PySem.W.Fast.tw9166618239622977972 : Unit := ()
def PySem.W.Fast.tw1279790055032394186 : Unit := ()
set_option maxRecDepth 100000 in
set_option maxHeartbeats 0 in
theorem PySem.Challenge.cw_coverroll_k24_conditions_read_holds : PySem.Challenge.rw_coverroll_k24_conditions_read.Holds := by
  w_on; o_law; k_head; (case hw => w_witness2)
  k_fill
  refine CRL.walk (l := PySem.Challenge.rw_coverroll_k24_conditions_read) rfl rfl (fun w h Y => PySem.W.kIn_of Y) ?F
  case F =>
    intro w mg fa h KX G hmg
    refine' CRL.all_mk KX G hmg ?a0 ?l0 ?c0 ?k0 ?a1 ?l1 ?c1 ?k1 ?a2 ?l2 ?c2 ?k2 ?a3 ?l3 ?c3 ?k3 ?a4 ?l4 ?c4 ?k4 ?a5 ?l5 ?c5 ?k5 ?a6 ?l6 ?c6 ?k6 ?a7 ?l7 ?c7 ?k7 ?a8 ?l8 ?c8 ?k8 ?a9 ?l9 ?c9 ?k9 ?a10 ?l10 ?c10 ?k10 ?a11 ?l11 ?c11 ?k11 ?a12 ?l12 ?c12 ?k12 ?a13 ?l13 ?c13 ?k13 ?a14 ?l14 ?c14 ?k14 ?a15 ?l15 ?c15 ?k15 ?a16 ?l16 ?c16 ?k16 ?a17 ?l17 ?c17 ?k17 ?a18 ?l18 ?c18 ?k18 ?a19 ?l19 ?c19 ?k19 ?a20 ?l20 ?c20 ?k20 ?a21 ?l21 ?c21 ?k21 ?a22 ?l22 ?c22 ?k22 ?a23 ?l23 ?c23 ?k23 ?a24 ?l24 ?c24 ?k24 ?a25 ?l25 ?c25 ?k25 ?a26 ?l26 ?c26 ?k26 ?a27 ?l27 ?c27 ?k27 ?a28 ?l28 ?c28 ?k28 ?a29 ?l29 ?c29 ?k29 ?a30 ?l30 ?c30 ?k30 ?a31 ?l31 ?c31 ?k31 ?q_Condition ?pg_Condition ?hd_Condition ?po_Condition ?sa_Condition ?mk_Condition ?kc_Condition ?ha_Condition ?hm_Condition ?gs ?tk ?q_CauseIs ?pg_CauseIs ?hd_CauseIs ?po_CauseIs ?sa_CauseIs ?mk_CauseIs ?kc_CauseIs ?na_CauseIs_name ?ha_CauseIs ?hm_CauseIs ?q_ThingIs ?pg_ThingIs ?hd_ThingIs ?po_ThingIs ?sa_ThingIs ?mk_ThingIs ?kc_ThingIs ?na_ThingIs_name ?ha_ThingIs ?hm_ThingIs ?q_DaysIn ?pg_DaysIn ?hd_DaysIn ?po_DaysIn ?sa_DaysIn ?mk_DaysIn ?kc_DaysIn ?na_DaysIn_first ?na_DaysIn_last ?ha_DaysIn ?hm_DaysIn ?q_Over ?pg_Over ?hd_Over ?po_Over ?sa_Over ?mk_Over ?kc_Over ?na_Over_cents ?ha_Over ?hm_Over ?q_Not ?pg_Not ?hd_Not ?po_Not ?sa_Not ?mk_Not ?kc_Not ?na_Not_part ?ha_Not ?hm_Not ?q_All ?pg_All ?hd_All ?po_All ?sa_All ?mk_All ?kc_All ?na_All_several ?ha_All ?hm_All ?q_Some ?pg_Some ?hd_Some ?po_Some ?sa_Some ?mk_Some ?kc_Some ?na_Some_several ?ha_Some ?hm_Some ?q_Reader ?pg_Reader ?hd_Reader ?po_Reader ?sa_Reader ?mk_Reader ?kc_Reader ?na_Reader_row ?na_Reader_place ?na_Reader_depth ?kt_Condition_Condition ?kt_Condition_CauseIs ?kt_Condition_ThingIs ?kt_Condition_DaysIn ?kt_Condition_Over ?kt_Condition_Not ?kt_Condition_All ?kt_Condition_Some ?kt_CauseIs_Condition ?kt_CauseIs_CauseIs ?kt_CauseIs_ThingIs ?kt_CauseIs_DaysIn ?kt_CauseIs_Over ?kt_CauseIs_Not ?kt_CauseIs_All ?kt_CauseIs_Some ?kt_ThingIs_Condition ?kt_ThingIs_CauseIs ?kt_ThingIs_ThingIs ?kt_ThingIs_DaysIn ?kt_ThingIs_Over ?kt_ThingIs_Not ?kt_ThingIs_All ?kt_ThingIs_Some ?kt_DaysIn_Condition ?kt_DaysIn_CauseIs ?kt_DaysIn_ThingIs ?kt_DaysIn_DaysIn ?kt_DaysIn_Over ?kt_DaysIn_Not ?kt_DaysIn_All ?kt_DaysIn_Some ?kt_Over_Condition ?kt_Over_CauseIs ?kt_Over_ThingIs ?kt_Over_DaysIn ?kt_Over_Over ?kt_Over_Not ?kt_Over_All ?kt_Over_Some ?kt_Not_Condition ?kt_Not_CauseIs ?kt_Not_ThingIs ?kt_Not_DaysIn ?kt_Not_Over ?kt_Not_Not ?kt_Not_All ?kt_Not_Some ?kt_All_Condition ?kt_All_CauseIs ?kt_All_ThingIs ?kt_All_DaysIn ?kt_All_Over ?kt_All_Not ?kt_All_All ?kt_All_Some ?kt_Some_Condition ?kt_Some_CauseIs ?kt_Some_ThingIs ?kt_Some_DaysIn ?kt_Some_Over ?kt_Some_Not ?kt_Some_All ?kt_Some_Some ?nd_C ?a_Condition_holds ?iCondition_holds ?lCondition_holds ?cCondition_holds ?kCondition_holds ?a_Condition_rank ?iCondition_rank ?lCondition_rank ?cCondition_rank ?kCondition_rank ?a_Condition_words ?iCondition_words ?lCondition_words ?cCondition_words ?kCondition_words ?a_CauseIs___init__ ?iCauseIs___init__ ?lCauseIs___init__ ?cCauseIs___init__ ?kCauseIs___init__ ?a_CauseIs_holds ?iCauseIs_holds ?lCauseIs_holds ?cCauseIs_holds ?kCauseIs_holds ?a_CauseIs_words ?iCauseIs_words ?lCauseIs_words ?cCauseIs_words ?kCauseIs_words ?a_ThingIs___init__ ?iThingIs___init__ ?lThingIs___init__ ?cThingIs___init__ ?kThingIs___init__ ?a_ThingIs_holds ?iThingIs_holds ?lThingIs_holds ?cThingIs_holds ?kThingIs_holds ?a_ThingIs_words ?iThingIs_words ?lThingIs_words ?cThingIs_words ?kThingIs_words ?a_DaysIn___init__ ?iDaysIn___init__ ?lDaysIn___init__ ?cDaysIn___init__ ?kDaysIn___init__ ?a_DaysIn_holds ?iDaysIn_holds ?lDaysIn_holds ?cDaysIn_holds ?kDaysIn_holds ?a_DaysIn_words ?iDaysIn_words ?lDaysIn_words ?cDaysIn_words ?kDaysIn_words ?a_Over___init__ ?iOver___init__ ?lOver___init__ ?cOver___init__ ?kOver___init__ ?a_Over_holds ?iOver_holds ?lOver_holds ?cOver_holds ?kOver_holds ?a_Over_words ?iOver_words ?lOver_words ?cOver_words ?kOver_words ?a_Not___init__ ?iNot___init__ ?lNot___init__ ?cNot___init__ ?kNot___init__ ?a_Not_holds ?iNot_holds ?lNot_holds ?cNot_holds ?kNot_holds ?a_Not_words ?iNot_words ?lNot_words ?cNot_words ?kNot_words ?a_All___init__ ?iAll___init__ ?lAll___init__ ?cAll___init__ ?kAll___init__ ?a_All_holds ?iAll_holds ?lAll_holds ?cAll_holds ?kAll_holds ?a_All_rank ?iAll_rank ?lAll_rank ?cAll_rank ?kAll_rank ?a_All_words ?iAll_words ?lAll_words ?cAll_words ?kAll_words ?a_Some___init__ ?iSome___init__ ?lSome___init__ ?cSome___init__ ?kSome___init__ ?a_Some_holds ?iSome_holds ?lSome_holds ?cSome_holds ?kSome_holds ?a_Some_rank ?iSome_rank ?lSome_rank ?cSome_rank ?kSome_rank ?a_Some_words ?iSome_words ?lSome_words ?cSome_words ?kSome_words ?a_Reader___init__ ?iReader___init__ ?lReader___init__ ?cReader___init__ ?kReader___init__ ?a_Reader_ahead ?iReader_ahead ?lReader_ahead ?cReader_ahead ?kReader_ahead ?a_Reader_step ?iReader_step ?lReader_step ?cReader_step ?kReader_step ?a_Reader_read_rows ?iReader_read_rows ?lReader_read_rows ?cReader_read_rows ?kReader_read_rows ?a_Reader_read_row ?iReader_read_row ?lReader_read_row ?cReader_read_row ?kReader_read_row ?a_Reader_goes_on ?iReader_goes_on ?lReader_goes_on ?cReader_goes_on ?kReader_goes_on ?a_Reader_read_piece ?iReader_read_piece ?lReader_read_piece ?cReader_read_piece ?kReader_read_piece ?a_Reader_read_deeper ?iReader_read_deeper ?lReader_read_deeper ?cReader_read_deeper ?kReader_read_deeper ?a_Reader_read_bracket ?iReader_read_bracket ?lReader_read_bracket ?cReader_read_bracket ?kReader_read_bracket ?a_Reader_read_name ?iReader_read_name ?lReader_read_name ?cReader_read_name ?kReader_read_name ?a_Reader_read_days ?iReader_read_days ?lReader_read_days ?cReader_read_days ?kReader_read_days ?a_Reader_read_day ?iReader_read_day ?lReader_read_day ?cReader_read_day ?kReader_read_day ?a_Reader_read_amount ?iReader_read_amount ?lReader_read_amount ?cReader_read_amount ?kReader_read_amount ?a_CauseIs_rank ?a_ThingIs_rank ?a_DaysIn_rank ?a_Over_rank ?a_Not_rank ?ni_Condition ?z_CAUSE ?z_CENTS ?z_DAY ?z_FIGURES ?z_LAST_DAY ?z_LETTERS ?z_LONGEST_NAME ?z_MOST_DAY_FIGURES ?z_MOST_IN_ROW ?z_MOST_OPEN ?z_MOST_WHOLE_FIGURES ?z_MOST_WORDS ?z_RANK_OF_ALL ?z_RANK_OF_OTHERS ?z_RANK_OF_SOME ?z_THING ?z_bool ?z_enumerate ?z_int ?z_isinstance ?z_len ?z_list ?z_max ?z_min ?z_range ?z_sorted ?z_str ?q_CoverError ?q_NoAmount ?q_NoWords ?q_TooDeep
    (case a0 => k_is)
    (case l0 => k_is)
    (case c0 => k_is)
    (case k0 => k_is)
    (case a1 => k_is)
    (case l1 => k_is)
    (case c1 => k_is)
    (case k1 => k_is)
    (case a2 => k_is)
    (case l2 => k_is)
    (case c2 => k_is)
    (case k2 => k_is)
    (case a3 => k_is)
    (case l3 => k_is)
    (case c3 => k_is)
    (case k3 => k_is)
    (case a4 => k_is)
    (case l4 => k_is)
    (case c4 => k_is)
    (case k4 => k_is)
    (case a5 => k_is)
    (case l5 => k_is)
    (case c5 => k_is)
    (case k5 => k_is)
    (case a6 => k_is)
    (case l6 => k_is)
    (case c6 => k_is)
    (case k6 => k_is)
    (case a7 => k_is)
    (case l7 => k_is)
    (case c7 => k_is)
    (case k7 => k_is)
    (case a8 => k_is)
    (case l8 => k_is)
    (case c8 => k_is)
    (case k8 => k_is)
    (case a9 => k_is)
    (case l9 => k_is)
    (case c9 => k_is)
    (case k9 => k_is)
    (case a10 => k_is)
    (case l10 => k_is)
    (case c10 => k_is)
    (case k10 => k_is)
    (case a11 => k_is)
    (case l11 => k_is)
    (case c11 => k_is)
    (case k11 => k_is)
    (case a12 => k_is)
    (case l12 => k_is)
    (case c12 => k_is)
    (case k12 => k_is)
    (case a13 => k_is)
    (case l13 => k_is)
    (case c13 => k_is)
    (case k13 => k_is)
    (case a14 => k_is)
    (case l14 => k_is)
    (case c14 => k_is)
    (case k14 => k_is)
    (case a15 => k_is)
    (case l15 => k_is)
    (case c15 => k_is)
    (case k15 => k_is)
    (case a16 => k_is)
    (case l16 => k_is)
    (case c16 => k_is)
    (case k16 => k_is)
    (case a17 => k_is)
    (case l17 => k_is)
    (case c17 => k_is)
    (case k17 => k_is)
    (case a18 => k_is)
    (case l18 => k_is)
    (case c18 => k_is)
    (case k18 => k_is)
    (case a19 => k_is)
    (case l19 => k_is)
    (case c19 => k_is)
    (case k19 => k_is)
    (case a20 => k_is)
    (case l20 => k_is)
    (case c20 => k_is)
    (case k20 => k_is)
    (case a21 => k_is)
    (case l21 => k_is)
    (case c21 => k_is)
    (case k21 => k_is)
    (case a22 => k_is)
    (case l22 => k_is)
    (case c22 => k_is)
    (case k22 => k_is)
    (case a23 => k_is)
    (case l23 => k_is)
    (case c23 => k_is)
    (case k23 => k_is)
    (case a24 => k_is)
    (case l24 => k_is)
    (case c24 => k_is)
    (case k24 => k_is)
    (case a25 => k_is)
    (case l25 => k_is)
    (case c25 => k_is)
    (case k25 => k_is)
    (case a26 => k_is)
    (case l26 => k_is)
    (case c26 => k_is)
    (case k26 => k_is)
    (case a27 => k_is)
    (case l27 => k_is)
    (case c27 => k_is)
    (case k27 => k_is)
    (case a28 => k_is)
    (case l28 => k_is)
    (case c28 => k_is)
    (case k28 => k_is)
    (case a29 => k_is)
    (case l29 => k_is)
    (case c29 => k_is)
    (case k29 => k_is)
    (case a30 => k_is)
    (case l30 => k_is)
    (case c30 => k_is)
    (case k30 => k_is)
    (case a31 => k_is)
    (case l31 => k_is)
    (case c31 => k_is)
    (case k31 => k_is)
    (case q_Condition => k_is)
    (case pg_Condition => k_is)
    (case hd_Condition => k_is)
    (case po_Condition => k_is)
    (case sa_Condition => k_is)
    (case mk_Condition => k_is)
    (case kc_Condition => k_is)
    (case ha_Condition => k_is)
    (case hm_Condition => k_is)
    (case gs => k_is)
    (case tk => k_is)
    (case q_CauseIs => k_is)
    (case pg_CauseIs => k_is)
    (case hd_CauseIs => k_is)
    (case po_CauseIs => k_is)
    (case sa_CauseIs => k_is)
    (case mk_CauseIs => k_is)
    (case kc_CauseIs => k_is)
    (case na_CauseIs_name => k_is)
    (case ha_CauseIs => k_is)
    (case hm_CauseIs => k_is)
    (case q_ThingIs => k_is)
    (case pg_ThingIs => k_is)
    (case hd_ThingIs => k_is)
    (case po_ThingIs => k_is)
    (case sa_ThingIs => k_is)
    (case mk_ThingIs => k_is)
    (case kc_ThingIs => k_is)
    (case na_ThingIs_name => k_is)
    (case ha_ThingIs => k_is)
    (case hm_ThingIs => k_is)
    (case q_DaysIn => k_is)
    (case pg_DaysIn => k_is)
    (case hd_DaysIn => k_is)
    (case po_DaysIn => k_is)
    (case sa_DaysIn => k_is)
    (case mk_DaysIn => k_is)
    (case kc_DaysIn => k_is)
    (case na_DaysIn_first => k_is)
    (case na_DaysIn_last => k_is)
    (case ha_DaysIn => k_is)
    (case hm_DaysIn => k_is)
    (case q_Over => k_is)
    (case pg_Over => k_is)
    (case hd_Over => k_is)
    (case po_Over => k_is)
    (case sa_Over => k_is)
    (case mk_Over => k_is)
    (case kc_Over => k_is)
    (case na_Over_cents => k_is)
    (case ha_Over => k_is)
    (case hm_Over => k_is)
    (case q_Not => k_is)
    (case pg_Not => k_is)
    (case hd_Not => k_is)
    (case po_Not => k_is)
    (case sa_Not => k_is)
    (case mk_Not => k_is)
    (case kc_Not => k_is)
    (case na_Not_part => k_is)
    (case ha_Not => k_is)
    (case hm_Not => k_is)
    (case q_All => k_is)
    (case pg_All => k_is)
    (case hd_All => k_is)
    (case po_All => k_is)
    (case sa_All => k_is)
    (case mk_All => k_is)
    (case kc_All => k_is)
    (case na_All_several => k_is)
    (case ha_All => k_is)
    (case hm_All => k_is)
    (case q_Some => k_is)
    (case pg_Some => k_is)
    (case hd_Some => k_is)
    (case po_Some => k_is)
    (case sa_Some => k_is)
    (case mk_Some => k_is)
    (case kc_Some => k_is)
    (case na_Some_several => k_is)
    (case ha_Some => k_is)
    (case hm_Some => k_is)
    (case q_Reader => k_is)
    (case pg_Reader => k_is)
    (case hd_Reader => k_is)
    (case po_Reader => k_is)
    (case sa_Reader => k_is)
    (case mk_Reader => k_is)
    (case kc_Reader => k_is)
    (case na_Reader_row => k_is)
    (case na_Reader_place => k_is)
    (case na_Reader_depth => k_is)
    (case kt_Condition_Condition => kit_is)
    (case kt_Condition_CauseIs => kit_is)
    (case kt_Condition_ThingIs => kit_is)
    (case kt_Condition_DaysIn => kit_is)
    (case kt_Condition_Over => kit_is)
    (case kt_Condition_Not => kit_is)
    (case kt_Condition_All => kit_is)
    (case kt_Condition_Some => kit_is)
    (case kt_CauseIs_Condition => kit_is)
    (case kt_CauseIs_CauseIs => kit_is)
    (case kt_CauseIs_ThingIs => kit_is)
    (case kt_CauseIs_DaysIn => kit_is)
    (case kt_CauseIs_Over => kit_is)
    (case kt_CauseIs_Not => kit_is)
    (case kt_CauseIs_All => kit_is)
    (case kt_CauseIs_Some => kit_is)
    (case kt_ThingIs_Condition => kit_is)
    (case kt_ThingIs_CauseIs => kit_is)
    (case kt_ThingIs_ThingIs => kit_is)
    (case kt_ThingIs_DaysIn => kit_is)
    (case kt_ThingIs_Over => kit_is)
    (case kt_ThingIs_Not => kit_is)
    (case kt_ThingIs_All => kit_is)
    (case kt_ThingIs_Some => kit_is)
    (case kt_DaysIn_Condition => kit_is)
    (case kt_DaysIn_CauseIs => kit_is)
    (case kt_DaysIn_ThingIs => kit_is)
    (case kt_DaysIn_DaysIn => kit_is)
    (case kt_DaysIn_Over => kit_is)
    (case kt_DaysIn_Not => kit_is)
    (case kt_DaysIn_All => kit_is)
    (case kt_DaysIn_Some => kit_is)
    (case kt_Over_Condition => kit_is)
    (case kt_Over_CauseIs => kit_is)
    (case kt_Over_ThingIs => kit_is)
    (case kt_Over_DaysIn => kit_is)
    (case kt_Over_Over => kit_is)
    (case kt_Over_Not => kit_is)
    (case kt_Over_All => kit_is)
    (case kt_Over_Some => kit_is)
    (case kt_Not_Condition => kit_is)
    (case kt_Not_CauseIs => kit_is)
    (case kt_Not_ThingIs => kit_is)
    (case kt_Not_DaysIn => kit_is)
    (case kt_Not_Over => kit_is)
    (case kt_Not_Not => kit_is)
    (case kt_Not_All => kit_is)
    (case kt_Not_Some => kit_is)
    (case kt_All_Condition => kit_is)
    (case kt_All_CauseIs => kit_is)
    (case kt_All_ThingIs => kit_is)
    (case kt_All_DaysIn => kit_is)
    (case kt_All_Over => kit_is)
    (case kt_All_Not => kit_is)
    (case kt_All_All => kit_is)
    (case kt_All_Some => kit_is)
    (case kt_Some_Condition => kit_is)
    (case kt_Some_CauseIs => kit_is)
    (case kt_Some_ThingIs => kit_is)
    (case kt_Some_DaysIn => kit_is)
    (case kt_Some_Over => kit_is)
    (case kt_Some_Not => kit_is)
    (case kt_Some_All => kit_is)
    (case kt_Some_Some => kit_is)
    (case nd_C => decide)
    (case a_Condition_holds => k_is)
    (case iCondition_holds => k_is)
    (case lCondition_holds => k_is)
    (case cCondition_holds => k_is)
    (case kCondition_holds => k_is)
    (case a_Condition_rank => k_is)
    (case iCondition_rank => k_is)
    (case lCondition_rank => k_is)
    (case cCondition_rank => k_is)
    (case kCondition_rank => k_is)
    (case a_Condition_words => k_is)
    (case iCondition_words => k_is)
    (case lCondition_words => k_is)
    (case cCondition_words => k_is)
    (case kCondition_words => k_is)
    (case a_CauseIs___init__ => k_is)
    (case iCauseIs___init__ => k_is)
    (case lCauseIs___init__ => k_is)
    (case cCauseIs___init__ => k_is)
    (case kCauseIs___init__ => k_is)
    (case a_CauseIs_holds => k_is)
    (case iCauseIs_holds => k_is)
    (case lCauseIs_holds => k_is)
    (case cCauseIs_holds => k_is)
    (case kCauseIs_holds => k_is)
    (case a_CauseIs_words => k_is)
    (case iCauseIs_words => k_is)
    (case lCauseIs_words => k_is)
    (case cCauseIs_words => k_is)
    (case kCauseIs_words => k_is)
    (case a_ThingIs___init__ => k_is)
    (case iThingIs___init__ => k_is)
    (case lThingIs___init__ => k_is)
    (case cThingIs___init__ => k_is)
    (case kThingIs___init__ => k_is)
    (case a_ThingIs_holds => k_is)
    (case iThingIs_holds => k_is)
    (case lThingIs_holds => k_is)
    (case cThingIs_holds => k_is)
    (case kThingIs_holds => k_is)
    (case a_ThingIs_words => k_is)
    (case iThingIs_words => k_is)
    (case lThingIs_words => k_is)
    (case cThingIs_words => k_is)
    (case kThingIs_words => k_is)
    (case a_DaysIn___init__ => k_is)
    (case iDaysIn___init__ => k_is)
    (case lDaysIn___init__ => k_is)
    (case cDaysIn___init__ => k_is)
    (case kDaysIn___init__ => k_is)
    (case a_DaysIn_holds => k_is)
    (case iDaysIn_holds => k_is)
    (case lDaysIn_holds => k_is)
    (case cDaysIn_holds => k_is)
    (case kDaysIn_holds => k_is)
    (case a_DaysIn_words => k_is)
    (case iDaysIn_words => k_is)
    (case lDaysIn_words => k_is)
    (case cDaysIn_words => k_is)
    (case kDaysIn_words => k_is)
    (case a_Over___init__ => k_is)
    (case iOver___init__ => k_is)
    (case lOver___init__ => k_is)
    (case cOver___init__ => k_is)
    (case kOver___init__ => k_is)
    (case a_Over_holds => k_is)
    (case iOver_holds => k_is)
    (case lOver_holds => k_is)
    (case cOver_holds => k_is)
    (case kOver_holds => k_is)
    (case a_Over_words => k_is)
    (case iOver_words => k_is)
    (case lOver_words => k_is)
    (case cOver_words => k_is)
    (case kOver_words => k_is)
    (case a_Not___init__ => k_is)
    (case iNot___init__ => k_is)
    (case lNot___init__ => k_is)
    (case cNot___init__ => k_is)
    (case kNot___init__ => k_is)
    (case a_Not_holds => k_is)
    (case iNot_holds => k_is)
    (case lNot_holds => k_is)
    (case cNot_holds => k_is)
    (case kNot_holds => k_is)
    (case a_Not_words => k_is)
    (case iNot_words => k_is)
    (case lNot_words => k_is)
    (case cNot_words => k_is)
    (case kNot_words => k_is)
    (case a_All___init__ => k_is)
    (case iAll___init__ => k_is)
    (case lAll___init__ => k_is)
    (case cAll___init__ => k_is)
    (case kAll___init__ => k_is)
    (case a_All_holds => k_is)
    (case iAll_holds => k_is)
    (case lAll_holds => k_is)
    (case cAll_holds => k_is)
    (case kAll_holds => k_is)
    (case a_All_rank => k_is)
    (case iAll_rank => k_is)
    (case lAll_rank => k_is)
    (case cAll_rank => k_is)
    (case kAll_rank => k_is)
    (case a_All_words => k_is)
    (case iAll_words => k_is)
    (case lAll_words => k_is)
    (case cAll_words => k_is)
    (case kAll_words => k_is)
    (case a_Some___init__ => k_is)
    (case iSome___init__ => k_is)
    (case lSome___init__ => k_is)
    (case cSome___init__ => k_is)
    (case kSome___init__ => k_is)
    (case a_Some_holds => k_is)
    (case iSome_holds => k_is)
    (case lSome_holds => k_is)
    (case cSome_holds => k_is)
    (case kSome_holds => k_is)
    (case a_Some_rank => k_is)
    (case iSome_rank => k_is)
    (case lSome_rank => k_is)
    (case cSome_rank => k_is)
    (case kSome_rank => k_is)
    (case a_Some_words => k_is)
    (case iSome_words => k_is)
    (case lSome_words => k_is)
    (case cSome_words => k_is)
    (case kSome_words => k_is)
    (case a_Reader___init__ => k_is)
    (case iReader___init__ => k_is)
    (case lReader___init__ => k_is)
    (case cReader___init__ => k_is)
    (case kReader___init__ => k_is)
    (case a_Reader_ahead => k_is)
    (case iReader_ahead => k_is)
    (case lReader_ahead => k_is)
    (case cReader_ahead => k_is)
    (case kReader_ahead => k_is)
    (case a_Reader_step => k_is)
    (case iReader_step => k_is)
    (case lReader_step => k_is)
    (case cReader_step => k_is)
    (case kReader_step => k_is)
    (case a_Reader_read_rows => k_is)
    (case iReader_read_rows => k_is)
    (case lReader_read_rows => k_is)
    (case cReader_read_rows => k_is)
    (case kReader_read_rows => k_is)
    (case a_Reader_read_row => k_is)
    (case iReader_read_row => k_is)
    (case lReader_read_row => k_is)
    (case cReader_read_row => k_is)
    (case kReader_read_row => k_is)
    (case a_Reader_goes_on => k_is)
    (case iReader_goes_on => k_is)
    (case lReader_goes_on => k_is)
    (case cReader_goes_on => k_is)
    (case kReader_goes_on => k_is)
    (case a_Reader_read_piece => k_is)
    (case iReader_read_piece => k_is)
    (case lReader_read_piece => k_is)
    (case cReader_read_piece => k_is)
    (case kReader_read_piece => k_is)
    (case a_Reader_read_deeper => k_is)
    (case iReader_read_deeper => k_is)
    (case lReader_read_deeper => k_is)
    (case cReader_read_deeper => k_is)
    (case kReader_read_deeper => k_is)
    (case a_Reader_read_bracket => k_is)
    (case iReader_read_bracket => k_is)
    (case lReader_read_bracket => k_is)
    (case cReader_read_bracket => k_is)
    (case kReader_read_bracket => k_is)
    (case a_Reader_read_name => k_is)
    (case iReader_read_name => k_is)
    (case lReader_read_name => k_is)
    (case cReader_read_name => k_is)
    (case kReader_read_name => k_is)
    (case a_Reader_read_days => k_is)
    (case iReader_read_days => k_is)
    (case lReader_read_days => k_is)
    (case cReader_read_days => k_is)
    (case kReader_read_days => k_is)
    (case a_Reader_read_day => k_is)
    (case iReader_read_day => k_is)
    (case lReader_read_day => k_is)
    (case cReader_read_day => k_is)
    (case kReader_read_day => k_is)
    (case a_Reader_read_amount => k_is)
    (case iReader_read_amount => k_is)
    (case lReader_read_amount => k_is)
    (case cReader_read_amount => k_is)
    (case kReader_read_amount => k_is)
    (case a_CauseIs_rank => k_is)
    (case a_ThingIs_rank => k_is)
    (case a_DaysIn_rank => k_is)
    (case a_Over_rank => k_is)
    (case a_Not_rank => k_is)
    (case ni_Condition => k_is)
    (case z_CAUSE => k_is)
    (case z_CENTS => k_is)
    (case z_DAY => k_is)
    (case z_FIGURES => k_is)
    (case z_LAST_DAY => k_is)
    (case z_LETTERS => k_is)
    (case z_LONGEST_NAME => k_is)
    (case z_MOST_DAY_FIGURES => k_is)
    (case z_MOST_IN_ROW => k_is)
    (case z_MOST_OPEN => k_is)
    (case z_MOST_WHOLE_FIGURES => k_is)
    (case z_MOST_WORDS => k_is)
    (case z_RANK_OF_ALL => k_is)
    (case z_RANK_OF_OTHERS => k_is)
    (case z_RANK_OF_SOME => k_is)
    (case z_THING => k_is)
    (case z_bool => k_is)
    (case z_enumerate => k_is)
    (case z_int => k_is)
    (case z_isinstance => k_is)
    (case z_len => k_is)
    (case z_list => k_is)
    (case z_max => k_is)
    (case z_min => k_is)
    (case z_range => k_is)
    (case z_sorted => k_is)
    (case z_str => k_is)
    (case q_CoverError => k_is)
    (case q_NoAmount => k_is)
    (case q_NoWords => k_is)
    (case q_TooDeep => k_is)
