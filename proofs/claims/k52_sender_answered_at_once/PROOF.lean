import PyProof.Rows.All
import Wide.All
import OpenK.AllK
import Wide.FinOn
import PyProof.EqAt
import PyProof.EqKinds
import PyProof.TupleCall
import PyProof.NeKinds
import PyProof.Rows.BitMore
import PyProof.FitsBits
import PyProof.Rows.TupAssign
import PyProof.ListRange
import Lean
import PySem.Challenge.RW_slowroad_k52_sender_answered_at_once
set_option Elab.async false
set_option linter.all false
set_option compiler.extract_closed false
-- CHANGE: your row's module here, as the last of these rows
set_option maxRecDepth 100000
namespace L2
open PySem PySem.Spec PyProof.Rows

/-- a key: an int or a str -/
noncomputable abbrev Key := Sum Int Str
noncomputable def keyIs : Key → Value → Bool
  | .inl k, v => Value.isInt k v
  | .inr x, v => Value.isStrOf x v
noncomputable def keyH (w : World) : Key → Int
  | .inl k => hashInt k
  | .inr x => hashStr w x
theorem keyIs_shape : ∀ {k : Key} {v : Value}, keyIs k v = true → (∃ i t, k = Sum.inl i ∧ v = Value.int i t) ∨ (∃ x t, k = Sum.inr x ∧ v = Value.str x t)
  | .inl i, v, h => by
    obtain ⟨t, e⟩ := Value.isInt_shape (k := i) (v := v) h
    exact .inl ⟨i, t, rfl, e⟩
  | .inr x, v, h => by
    obtain ⟨t, e⟩ := Value.isStrOf_shape (x := x) (v := v) h
    exact .inr ⟨x, t, rfl, e⟩
theorem keyIs_int (i : Int) (t : Tok) : keyIs (.inl i) (.int i t) = true := by simp [keyIs, Value.isInt]
theorem keyIs_str (x : Str) (t : Tok) : keyIs (.inr x) (.str x t) = true := by simp [keyIs, Value.isStrOf]
theorem key_ll (a b : Int) : decide ((Sum.inl a : Key) = Sum.inl b) = (a == b) := by
  by_cases e : a = b
  · subst e; simp
  · have h : ¬ (Sum.inl a : Key) = Sum.inl b := fun q => e (Sum.inl.inj q)
    rw [decide_eq_false h]
    exact (beq_eq_false_iff_ne.mpr e).symm
theorem key_rr (a b : Str) : decide ((Sum.inr a : Key) = Sum.inr b) = decide (a = b) := by
  by_cases e : a = b
  · subst e; simp
  · have h : ¬ (Sum.inr a : Key) = Sum.inr b := fun q => e (Sum.inr.inj q)
    rw [decide_eq_false h, decide_eq_false e]
theorem key_lr (a : Int) (b : Str) : decide ((Sum.inl a : Key) = Sum.inr b) = false := decide_eq_false (fun q => nomatch q)
theorem key_rl (a : Str) (b : Int) : decide ((Sum.inr a : Key) = Sum.inl b) = false := decide_eq_false (fun q => nomatch q)

noncomputable def mixKind (prog : Program) (w : World) : PySem.KeyKind prog w Key where
  is := keyIs
  hash := keyH w
  inj := fun v a b ha hb => by
    rcases keyIs_shape ha with ⟨i, t, rfl, rfl⟩ | ⟨x, t, rfl, rfl⟩
    · rcases keyIs_shape hb with ⟨j, u, rfl, e⟩ | ⟨y, u, rfl, e⟩
      · injection e with e1 _; rw [e1]
      · exact nomatch e
    · rcases keyIs_shape hb with ⟨j, u, rfl, e⟩ | ⟨y, u, rfl, e⟩
      · exact nomatch e
      · injection e with e1 _; rw [e1]
  byValue := fun k v h => by
    rcases keyIs_shape h with ⟨i, t, rfl, rfl⟩ | ⟨x, t, rfl, rfl⟩ <;> rfl
  pyHash := fun hv h => by
    rcases keyIs_shape hv with ⟨i, t, rfl, rfl⟩ | ⟨x, t, rfl, rfl⟩
    · exact wpAny_pyHash_int h
    · exact wpAny_pyHash_str h
  eqBool := fun hu hv h => by
    rcases keyIs_shape hu with ⟨i, t, rfl, rfl⟩ | ⟨x, t, rfl, rfl⟩
    · rcases keyIs_shape hv with ⟨j, u, rfl, rfl⟩ | ⟨y, u, rfl, rfl⟩
      · rw [key_ll] at h; exact wpAny_eqBool_int h
      · rw [key_lr] at h; exact SeqAt.EqAt.int_str i t y u _ _ _ _ h
    · rcases keyIs_shape hv with ⟨j, u, rfl, rfl⟩ | ⟨y, u, rfl, rfl⟩
      · rw [key_rl] at h; exact SeqAt.EqAt.str_int x t j u _ _ _ _ h
      · rw [key_rr] at h; exact wpAny_eqBool_str h
  «strs» := fun k x t v h => by
    rcases keyIs_shape h with ⟨i, u, rfl, e⟩ | ⟨y, u, rfl, e⟩
    · exact nomatch e
    · injection e with e1 _
      subst e1
      cases v <;> rfl

theorem mixKind_int (prog : Program) (w : World) (i : Int) (t : Tok) : (mixKind prog w).is (.inl i) (.int i t) = true := keyIs_int i t
theorem mixKind_str (prog : Program) (w : World) (x : Str) (t : Tok) : (mixKind prog w).is (.inr x) (.str x t) = true := keyIs_str x t
end L2

namespace L2
open PySem PySem.Spec PyProof.Rows

/-- a value, without the heap -/
inductive V where
  | non | bl (b : Bool) | int (i : Int) | str (x : Str) | byt (b : Array UInt8) | flt (b : UInt64) | ref (a : Addr) | ty (n : String)
  deriving DecidableEq

noncomputable def RelV : V → Value → Prop
  | .non, u => u = Value.none
  | .bl b, u => u = Value.bool b
  | .int i, u => ∃ t, u = Value.int i t
  | .str x, u => ∃ t, u = Value.str x t
  | .byt b, u => ∃ t, u = Value.bytes b t
  | .flt b, u => ∃ t, u = Value.float b t
  | .ref a, u => u = Value.ref a
  | .ty n, u => u = Value.type n

noncomputable abbrev Vals : List V → List Value → Prop := Paired RelV
theorem Vals.length {xs : List V} {us : List Value} (r : Vals xs us) : xs.length = us.length := Paired.length r
theorem Vals.get : ∀ {xs : List V} {us : List Value} {i : Nat} {x : V}, Vals xs us → xs[i]? = some x → ∃ u, us[i]? = some u ∧ RelV x u
  | _, _, _, _, .nil, e => by simp at e
  | _, _, 0, _, .cons r _, e => by simp at e; subst e; exact ⟨_, rfl, r⟩
  | _, _, i + 1, x, .cons _ t, e => by
    obtain ⟨u, h1, h2⟩ := Vals.get (i := i) (x := x) t (by simpa using e)
    exact ⟨u, by simpa using h1, h2⟩
theorem Vals.append : ∀ {xs ys : List V} {us ws : List Value}, Vals xs us → Vals ys ws → Vals (xs ++ ys) (us ++ ws)
  | _, _, _, _, .nil, s => s
  | _, _, _, _, .cons r t, s => .cons r (Vals.append t s)
theorem Vals.take : ∀ {xs : List V} {us : List Value} (n : Nat), Vals xs us → Vals (xs.take n) (us.take n)
  | _, _, 0, _ => .nil
  | _, _, _ + 1, .nil => .nil
  | _, _, n + 1, .cons r t => .cons r (Vals.take n t)
theorem Vals.drop : ∀ {xs : List V} {us : List Value} (n : Nat), Vals xs us → Vals (xs.drop n) (us.drop n)
  | _, _, 0, r => r
  | _, _, _ + 1, .nil => .nil
  | _, _, n + 1, .cons _ t => Vals.drop n t
noncomputable def RelO : Option V → Option Value → Prop
  | some v, some u => RelV v u
  | none, none => True
  | _, _ => False
noncomputable def KV {κ : Type} : List (κ × V) → List (κ × Value) → Prop := Paired fun (p : κ × V) (q : κ × Value) => p.1 = q.1 ∧ RelV p.2 q.2

/-- a key of a dict (00_mix): an int or a text -/
noncomputable def kV : Key → V
  | .inl i => .int i
  | .inr x => .str x

/-- what stands at a tracked address -/
inductive HO where
  /-- a list -/
  | lst (xs : List V)
  /-- a tuple (never changes) -/
  | tup (xs : List V)
  /-- a dict whose keys are ints and texts; one whose keys are tuples of ints and texts (the empty one is both) -/
  | dK (kvs : List (Key × V)) | dT (kvs : List (List Key × V))
  /-- a set of ints: its members, its size -/
  | set (S : Int → Bool) (n : Nat)
  /-- an instance of the class at C, its dict at dx, its attributes -/
  | ins (C dx : Addr) (fs : List (Str × V))
  /-- the dict of the instance at x -/
  | own (x : Addr)
  /-- the dict of an exception -/
  | xd (fs : List (Str × V))
  /-- a bound method, f of x -/
  | met (f x : Addr)
  /-- a range object lo, lo + 1, .. below hi -/
  | rng (lo hi : Int)
  /-- a thing that is known to the object (the script; a dict while a loop walks it): read, never written while it is so -/
  | frz (o : Obj) (u : HO)
  /-- a code object's table -/
  | tbl (ps : Array Value)
  /-- any other thing, by what is true of its one object (a def of one's own: SetO a S n := HO.ext fun h => ..) -/
  | ext (φ : Heap → Prop)

noncomputable abbrev Hp := Addr → Option HO
noncomputable def upd (H : Hp) (a : Addr) (o : HO) : Hp := fun b => if b = a then some o else H b
theorem upd_same {H : Hp} {a : Addr} {o : HO} : upd H a o a = some o := by unfold upd; rw [if_pos rfl]
theorem upd_ne {H : Hp} {a b : Addr} {o : HO} (h : b ≠ a) : upd H a o b = H b := by unfold upd; rw [if_neg h]
theorem upd_upd {H : Hp} {a : Addr} {o u : HO} : upd (upd H a o) a u = upd H a u := by
  funext b; unfold upd; split <;> rfl
/-- two objects of different content stand apart -/
theorem ne_of {H : Hp} {a b : Addr} {o u : HO} (h : H a = some o) (h' : H b = some u) (d : o ≠ u) : a ≠ b := by
  intro e; subst e; rw [h] at h'; exact d (Option.some.inj h')
theorem ne_of_none {H : Hp} {a b : Addr} {o : HO} (h : H a = some o) (h' : H b = none) : a ≠ b := by
  intro e; subst e; rw [h] at h'; cases h'

section
variable (P : Program) (w : World)
noncomputable def ObjOk (H : Hp) (h : Heap) (a : Addr) : HO → Prop
  | .lst xs => xs.length ≤ sizeLine ∧ ∃ (its : List Value) (n : Nat), Vals xs its ∧ h.get? a = some { cls := .type "list", data := .seq its.toArray n }
  | .tup xs => xs.length ≤ sizeLine ∧ ∃ its : List Value, Vals xs its ∧ IsTup h a its.toArray
  | .dK kvs => kvs.length ≤ sizeLine ∧ (a == sysModules) = false ∧ ∃ vs, KV kvs vs ∧ h.DictOf (mixKind P w) a vs
  | .dT kvs => kvs.length ≤ sizeLine ∧ (a == sysModules) = false ∧ ∃ xs : List (List Key × Addr × Value),
      Paired (fun (p : List Key × V) (q : List Key × Addr × Value) => p.1 = q.1 ∧ H q.2.1 = some (.tup (p.1.map kV)) ∧ RelV p.2 q.2.2) kvs xs ∧
      ∃ o es ep, h.get? a = some o ∧ o.ExactDict ∧ o.data = .dict es ep ∧ es.toList = xs.map (entryOfKey (tupleKind (mixKind P w))) ∧ (xs.map (·.1)).Nodup
  | .set S n => h.SetOf (intKind P w) a S n
  | .ins C dx fs => H dx = some (.own a) ∧ fs.length ≤ 1000 ∧ dx ≠ a ∧ h.get? a = some (PySem.W.instObj C dx) ∧
      ∃ mA, h.Ns1 dx mA ∧ (∀ f, RelO (fs.lookup f) (mA f)) ∧ PySem.Within mA (fs.map (·.1))
  | .own _ => ∃ o, h.get? a = some o
  | .xd fs => ∃ mA, h.Ns1 a mA ∧ ∀ f, RelO (fs.lookup f) (mA f)
  | .rng lo hi => ∃ t u v, h.get? a = some { cls := .type "range", data := .fields #[.int lo t, .int hi u, .int 1 v] }
  | .frz o u => h.get? a = some o ∧ ObjOk H h a u
  | .tbl ps => h.get? a = some { cls := .none, data := .fields ps }
  | .met f x => h.get? a = some (PySem.W.methodObj (.ref f) (.ref x))
  | .ext φ => φ h ∧ (∃ o, h.get? a = some o) ∧ ∀ h1 h2 : Heap, φ h1 → (∀ o, h1.get? a = some o → h2.get? a = some o) → φ h2
/-- the abstract heap is held -/
noncomputable def HOk (H : Hp) (h : Heap) : Prop := ∀ a o, H a = some o → ObjOk P w H h a o
end

section
variable {P : Program} {w : World} {H H' : Hp} {h h' : Heap} {a : Addr} {o : HO}
theorem ObjOk.lt (x : ObjOk P w H h a o) : a < h.objs.size := by
  cases o with
  | lst xs => obtain ⟨_, _, _, _, e⟩ := x; exact Heap.lt_size e
  | tup xs => obtain ⟨_, _, _, p⟩ := x; exact p.lt
  | dK kvs => obtain ⟨_, _, _, _, o, _, _, e, _⟩ := x; exact Heap.lt_size e
  | dT kvs => obtain ⟨_, _, _, _, o, _, _, e, _⟩ := x; exact Heap.lt_size e
  | set S n => obtain ⟨o, _, _, _, e, _⟩ := x; exact Heap.lt_size e
  | ins C dx fs => obtain ⟨_, _, _, e, _⟩ := x; exact Heap.lt_size e
  | own y => obtain ⟨_, e⟩ := x; exact Heap.lt_size e
  | xd fs => obtain ⟨_, ⟨_, _, _, e, _⟩, _⟩ := x; exact Heap.lt_size e
  | rng lo hi => obtain ⟨_, _, _, e⟩ := x; exact Heap.lt_size e
  | frz ob u => obtain ⟨e, _⟩ := x; exact Heap.lt_size e
  | tbl ps => exact Heap.lt_size (show h.get? a = some _ from x)
  | met f y => exact Heap.lt_size (show h.get? a = some _ from x)
  | ext φ => obtain ⟨_, ⟨_, e⟩, _⟩ := x; exact Heap.lt_size e
theorem Paired.mapP {α β : Type} {F G : α → β → Prop} : ∀ {l₁ : List α} {l₂ : List β}, Paired F l₁ l₂ → (∀ a b, F a b → G a b) → Paired G l₁ l₂
  | _, _, .nil, _ => .nil
  | _, _, .cons r t, f => .cons (f _ _ r) (Paired.mapP t f)
/-- what an object's description leans on: its own object, its own dict, the tuples -/
theorem ObjOk.stay (x : ObjOk P w H h a o) (k : ∀ b u, (b = a ∨ H b = some (.own a)) → h.get? b = some u → h'.get? b = some u)
    (ho : ∀ b, H b = some (.own a) → H' b = some (.own a)) (ht : ∀ b xs, H b = some (.tup xs) → H' b = some (.tup xs)) : ObjOk P w H' h' a o := by
  induction o with
  | lst xs => obtain ⟨z, its, n, r, e⟩ := x; exact ⟨z, its, n, r, k _ _ (.inl rfl) e⟩
  | tup xs => obtain ⟨z, its, r, ob, e, c⟩ := x; exact ⟨z, its, r, ob, k _ _ (.inl rfl) e, c⟩
  | dK kvs => obtain ⟨z, y, vs, r, ob, es, ep, e, c⟩ := x; exact ⟨z, y, vs, r, ob, es, ep, k _ _ (.inl rfl) e, c⟩
  | dT kvs =>
    obtain ⟨z, y, xs, r, ob, es, ep, e, c⟩ := x
    exact ⟨z, y, xs, Paired.mapP r fun p q z => ⟨z.1, ht _ _ z.2.1, z.2.2⟩, ob, es, ep, k _ _ (.inl rfl) e, c⟩
  | set S n => obtain ⟨ob, es, ep, t, e, c⟩ := x; exact ⟨ob, es, ep, t, k _ _ (.inl rfl) e, c⟩
  | ins C dx fs =>
    obtain ⟨d, z, ne, e, mA, ⟨od, es, ep, e2, c⟩, r⟩ := x
    exact ⟨ho _ d, z, ne, k _ _ (.inl rfl) e, mA, ⟨od, es, ep, k _ _ (.inr d) e2, c⟩, r⟩
  | own y => obtain ⟨ob, e⟩ := x; exact ⟨ob, k _ _ (.inl rfl) e⟩
  | xd fs => obtain ⟨mA, ⟨od, es, ep, e, c⟩, r⟩ := x; exact ⟨mA, ⟨od, es, ep, k _ _ (.inl rfl) e, c⟩, r⟩
  | rng lo hi => obtain ⟨t, u, v, e⟩ := x; exact ⟨t, u, v, k _ _ (.inl rfl) e⟩
  | frz ob u ih => obtain ⟨e, q⟩ := x; exact ⟨k _ _ (.inl rfl) e, ih q⟩
  | tbl ps =>
    have e : h.get? a = some { cls := .none, data := .fields ps } := x
    show h'.get? a = some { cls := .none, data := .fields ps }
    exact k a _ (.inl rfl) e
  | met f y =>
    have e : h.get? a = some (PySem.W.methodObj (.ref f) (.ref y)) := x
    show h'.get? a = some (PySem.W.methodObj (.ref f) (.ref y))
    exact k a _ (.inl rfl) e
  | ext φ => obtain ⟨p, ⟨o, e⟩, st⟩ := x; exact ⟨st _ _ p fun o q => k _ _ (.inl rfl) q, ⟨o, k _ _ (.inl rfl) e⟩, st⟩
theorem HOk.lt (x : HOk P w H h) (e : H a = some o) : a < h.objs.size := (x a o e).lt
theorem HOk.fresh (x : HOk P w H h) (e : h.objs.size ≤ a) : H a = none := by
  cases q : H a with
  | none => rfl
  | some u => exact absurd (Nat.lt_of_lt_of_le (x.lt q) e) (Nat.lt_irrefl _)
/-- every object of the heap is kept -/
theorem HOk.kept (x : HOk P w H h) (k : ∀ b u, h.get? b = some u → h'.get? b = some u) : HOk P w H h' := fun a o e =>
  (x a o e).stay (fun b u _ q => k b u q) (fun _ q => q) fun _ _ q => q
/-- a new object is laid and tracked -/
theorem HOk.laid (x : HOk P w H h) (k : ∀ b u, h.get? b = some u → h'.get? b = some u) (hp : h.objs.size ≤ a) (new : ObjOk P w (upd H a o) h' a o) : HOk P w (upd H a o) h' := fun b u e => by
  have hn := x.fresh hp
  by_cases hb : b = a
  · subst hb; rw [upd_same] at e; cases e; exact new
  · rw [upd_ne hb] at e
    exact (x b u e).stay (fun c v _ q => k c v q) (fun c q => by rw [upd_ne (ne_of_none q hn)]; exact q) fun c xs q => by rw [upd_ne (ne_of_none q hn)]; exact q
end

/-- what may be read as u: it is u, or a known u -/
noncomputable def Rd (H : Hp) (a : Addr) (u : HO) : Prop := H a = some u ∨ ∃ o, H a = some (.frz o u)
theorem Rd.ok {P : Program} {w : World} {H : Hp} {h : Heap} {a : Addr} {u : HO} (r : Rd H a u) (x : HOk P w H h) : ObjOk P w H h a u := by
  rcases r with r | ⟨o, r⟩
  · exact x a u r
  · obtain ⟨_, q⟩ := x a _ r
    exact q
/-- what may be written -/
noncomputable def Mut : Option HO → Prop
  | some (.lst _) => True
  | some (.dK _) => True
  | some (.dT _) => True
  | some (.set _ _) => True
  | some (.ins _ _ _) => True
  | some (.ext _) => True
  | _ => False
section
variable {P : Program} {w : World} {H : Hp} {h h' : Heap} {x e : Addr} {o' : HO}
/-- the object at e is changed: x itself, or the dict of the instance x -/
theorem HOk.write (ok : HOk P w H h) (mu : Mut (H x)) (he : e = x ∨ H e = some (.own x)) (k : ∀ b u, b ≠ e → h.get? b = some u → h'.get? b = some u) (heo : ∃ u, h'.get? e = some u)
    (new : ObjOk P w (upd H x o') h' x o') : HOk P w (upd H x o') h' := fun b u q => by
  have nown : ∀ c y, H c = some (.own y) → c ≠ x := fun c y r z => by subst z; rw [r] at mu; exact mu
  have ntup : ∀ c xs, H c = some (.tup xs) → c ≠ x := fun c xs r z => by subst z; rw [r] at mu; exact mu
  by_cases hb : b = x
  · subst hb; rw [upd_same] at q; cases q; exact new
  · rw [upd_ne hb] at q
    by_cases hbe : b = e
    · have q' : H b = some (.own x) := by
        rcases he with z | z
        · exact absurd (hbe.trans z) hb
        · rw [hbe]; exact z
      rw [q] at q'; cases q'
      obtain ⟨v, hv⟩ := heo
      exact ⟨v, by rw [hbe]; exact hv⟩
    · refine (ok b u q).stay (fun c v hc r => k c v ?_ r) (fun c r => by rw [upd_ne (nown c b r)]; exact r) fun c xs r => by rw [upd_ne (ntup c xs r)]; exact r
      rcases hc with rfl | hc
      · exact hbe
      · rintro rfl
        rcases he with z | z
        · exact nown c b hc z
        · rw [hc] at z; cases z; exact hb rfl
end

structure Un (fs ex : List Addr) (H H' : Hp) (h h' : Heap) : Prop where
  keep : ∀ b o, h.get? b = some o → H b = none → b ∉ fs → b ∉ ex → h'.get? b = some o
  slot : ∀ b o, h.get? b = some o → H b = none → b ∈ fs → b ∉ ex → ∃ sl, h'.get? b = some { o with slots := sl }
  free : ∀ b o, h.get? b = some o → H b = none → b ∉ ex → H' b = none
  there : ∀ b o, h.get? b = some o → b ∉ ex → ∃ o', h'.get? b = some o'
  tups : ∀ b xs, H b = some (.tup xs) → H' b = some (.tup xs)
  frzs : ∀ b o u, H b = some (.frz o u) → H' b = some (.frz o u)
  tbls : ∀ b ps, H b = some (.tbl ps) → ∃ more, H' b = some (.tbl (ps ++ more))
section
variable {fs fs' ex ex' : List Addr} {H H1 H2 : Hp} {h h1 h2 h' : Heap} {a x e : Addr} {o : HO}
theorem Un.any (u : Un fs ex H H1 h h1) {b : Addr} {ob : Obj} (q : h.get? b = some ob) (n : H b = none) (hx : b ∉ ex) : ∃ sl, h1.get? b = some { ob with slots := sl } := by
  by_cases hb : b ∈ fs
  · exact u.slot b ob q n hb hx
  · exact ⟨ob.slots, u.keep b ob q n hb hx⟩
theorem Un.kept (k : ∀ b u, h.get? b = some u → h'.get? b = some u) : Un fs ex H H h h' :=
  ⟨fun b ob q _ _ _ => k b ob q, fun b ob q _ _ _ => ⟨ob.slots, k b ob q⟩, fun _ _ _ n _ => n, fun b ob q _ => ⟨ob, k b ob q⟩, fun _ _ q => q, fun _ _ _ q => q, fun _ ps q => ⟨#[], by rw [q]; simp⟩⟩
theorem Un.refl : Un fs ex H H h h := Un.kept fun _ _ q => q
theorem Un.laid (k : ∀ b u, h.get? b = some u → h'.get? b = some u) (hp : h.objs.size ≤ a) (hn : H a = none) : Un fs ex H (upd H a o) h h' where
  keep := fun b u q _ _ _ => k b u q
  slot := fun b u q _ _ _ => ⟨u.slots, k b u q⟩
  free := fun b u q n _ => by rw [upd_ne (Nat.ne_of_lt (Nat.lt_of_lt_of_le (Heap.lt_size q) hp))]; exact n
  there := fun b u q _ => ⟨u, k b u q⟩
  tups := fun b xs q => by rw [upd_ne (ne_of_none q hn)]; exact q
  frzs := fun b u xs q => by rw [upd_ne (ne_of_none q hn)]; exact q
  tbls := fun b ps q => ⟨#[], by rw [upd_ne (ne_of_none q hn), q]; simp⟩
theorem Un.write (mu : Mut (H x)) (he : e = x ∨ H e = some (.own x)) (k : ∀ b u, b ≠ e → h.get? b = some u → h'.get? b = some u) (heo : ∃ u, h'.get? e = some u) : Un fs ex H (upd H x o) h h' := by
  have hx : ∀ b, H b = none → b ≠ x := fun b n z => by subst z; rw [n] at mu; exact mu
  have hb : ∀ b, H b = none → b ≠ e := fun b n z => by
    subst z
    rcases he with r | r
    · exact hx b n r
    · rw [n] at r; cases r
  have hm : ∀ b u, H b = some u → ¬ Mut (some u) → b ≠ x := fun b u q nm z => by subst z; rw [q] at mu; exact nm mu
  refine ⟨fun b u q n _ _ => k b u (hb b n) q, fun b u q n _ _ => ⟨u.slots, k b u (hb b n) q⟩, fun b u q n _ => by rw [upd_ne (hx b n)]; exact n, fun b u q _ => ?_,
    fun b xs q => by rw [upd_ne (hm b _ q fun z => z)]; exact q, fun b u xs q => by rw [upd_ne (hm b _ q fun z => z)]; exact q, fun b ps q => ⟨#[], by rw [upd_ne (hm b _ q fun z => z), q]; simp⟩⟩
  by_cases hbe : b = e
  · subst hbe; exact heo
  · exact ⟨u, k b u hbe q⟩
end

noncomputable def trk (h : Heap) (H : Hp) : List Addr := (List.range h.objs.size).filter fun a => (H a).isSome
noncomputable def hidT (h : Heap) (H : Hp) : Heap := PySem.W.hideAll h (trk h H)
theorem hidT_size (h : Heap) (H : Hp) : (hidT h H).objs.size = h.objs.size := PySem.W.hideAll_size _ _
theorem hidT_get {h : Heap} {H : Hp} {b : Addr} {o : Obj} (e : h.get? b = some o) (n : H b = none) : (hidT h H).get? b = some o :=
  PySem.W.hideAll_get _ e fun hm => by
    have q : (H b).isSome = true := (List.mem_filter.mp hm).2
    rw [n] at q; simp at q
theorem of_hidT {h : Heap} {H : Hp} {b : Addr} {o : Obj} (e : (hidT h H).get? b = some o) : h.get? b = some o ∧ H b = none := by
  have e' : h.get? b = some o := PySem.W.of_hideAll (trk h H) e
  refine ⟨e', ?_⟩
  cases q : H b with
  | none => rfl
  | some x =>
    have hm : b ∈ trk h H := List.mem_filter.mpr ⟨List.mem_range.mpr (Heap.lt_size e'), by simp [q]⟩
    have z : (hidT h H).get? b = none := PySem.W.hideAll_none (trk h H) hm
    rw [z] at e; cases e

end L2

namespace L2
open PySem PySem.Spec PyProof.Rows

/-- the module's facts, over the base: the heap at the law's entry without what is tracked there -/
structure Mod (K : PySem.W.Frag) (mg : Str → Option Value) (base : Heap) : Prop where
  kin : K.In base
  glob : base.Ns mainGlobals mg
  blt : ∃ mb, base.Ns builtinsNs mb ∧ ∀ x : Str, x ≠ "__name__" → mb x = bootBuiltins x
  nolimit : base.NoLimit

/-- the context: a def's body (or a comprehension's block) running. base: fixed through the whole law; s₀, H₀: the entry; outer: the frames whose slots others may change (a def's callers); stack: all frames that run;
   ex: iterators that were made ahead of the entry and are walked here (a comprehension's); fn: the names whose cells were made at the entry (a def: all; a comprehension's block: its own); calm: not within an except suite; pn: pins that every state bears; xe: what is wanted of an exception that leaves the code -/
structure Cx where
  prog : Program
  w : World
  K : PySem.W.Frag
  mg : Str → Option Value
  base : Heap
  A : Around
  N : List Str
  s₀ : Shared
  H₀ : Hp
  env : Env
  outer : List Env
  stack : List Env
  ex : List Addr
  fn : Str → Bool
  calm : Bool
  pn : List (Addr × Obj)
  xe : Value → Shared → Prop
/-- the callers' frames -/
noncomputable def frs (l : List Env) : List Addr := l.filterMap (·.frame)
noncomputable abbrev Cx.fs (X : Cx) : List Addr := frs X.outer

noncomputable def Vis (sc : Scope) (x : Str) : Prop := sc.names.lookup x = some .local ∨ sc.names.lookup x = some .cell ∨ sc.names.lookup x = some .free
noncomputable def Loc (sc : Scope) (x : Str) : Prop := sc.names.lookup x = some .local ∨ sc.names.lookup x = some .cell
noncomputable def Look (env : Env) (h : Heap) (m : Str → Option Value) (x : Str) (u : Value) : Prop :=
  (env.kindOf x = some .local ∧ m x = some u) ∨ ((env.kindOf x = some .cell ∨ env.kindOf x = some .free) ∧ ∃ c, env.cells.lookup x = some c ∧ h.IsCell c (some u))

structure Cx.Ok (X : Cx) : Prop where
  mod : Mod X.K X.mg X.base
  kind : X.env.scope.kind = .function
  glob : X.env.globals = mainGlobals
  blt : X.env.builtins = builtinsNs
  above : X.s₀.heap.objs.size ≤ X.env.locals
  inj : ∀ x y c, X.env.cells.lookup x = some c → X.env.cells.lookup y = some c → x = y
  has : ∀ x, (X.env.kindOf x = some .cell ∨ X.env.kindOf x = some .free) → ∃ c, X.env.cells.lookup x = some c
  cab : ∀ x c, X.fn x = true → X.env.cells.lookup x = some c → X.s₀.heap.objs.size ≤ c
  hd : X.calm = true → X.A.handled = none
  frames : X.A.frames = some X.stack
  stk : X.stack = X.outer ∨ (X.stack = X.env :: X.outer ∧ X.env.frame = some X.env.locals)
  exf : ∀ b ∈ X.ex, b ≠ X.env.locals ∧ ∀ x c, X.env.cells.lookup x = some c → c ≠ b
  bs : ∀ b o, X.base.get? b = some o → X.s₀.heap.get? b = some o ∧ X.H₀ b = none
  bsz : X.base.objs.size ≤ X.s₀.heap.objs.size
  noex : ∀ b o, X.base.get? b = some o → b ∉ X.ex
  exfs : ∀ b ∈ X.ex, b ∉ X.fs
  funs : X.s₀.heap.FunFrames X.base X.outer
  frf : ∀ b ∈ X.fs, X.H₀ b = none

structure Inv (X : Cx) (pins : List (Addr × Obj)) (σ : List (Option V)) (H : Hp) (s : Shared) : Prop where
  ok : X.Ok
  os : s.os = X.s₀.os
  bare : AllBare s.gens
  base : Un X.fs X.ex X.H₀ H X.s₀.heap s.heap
  loc : ∃ m, s.heap.Ns X.env.locals m ∧ ∀ (i : Nat) (x : Str) (v : V), X.N[i]? = some x → σ[i]? = some (some v) → Vis X.env.scope x → ∃ u, RelV v u ∧ Look X.env s.heap m x u
  cell : ∀ x c, X.env.cells.lookup x = some c → ∃ v, s.heap.IsCell c v
  free : H X.env.locals = none
  freeC : ∀ x c, X.env.cells.lookup x = some c → H c = none
  pin : ∀ p ∈ X.pn ++ pins, s.heap.get? p.1 = some p.2 ∧ H p.1 = none ∧ p.1 ≠ X.env.locals ∧ p.1 ∉ X.fs ∧ ∀ v, p.2.data ≠ .cell v
  hok : HOk X.prog X.w H s.heap
  len : σ.length = X.N.length

section
variable {X : Cx} {pins : List (Addr × Obj)} {σ : List (Option V)} {H H' : Hp} {s : Shared} {h' : Heap}

theorem Cx.Ok.nofr (ok : X.Ok) {b : Addr} {o : Obj} (e : X.base.get? b = some o) : b ∉ X.fs := fun hb => by
  have := (ok.funs.mem hb).1
  rw [e] at this; cases this
theorem Inv.bs (I : Inv X pins σ H s) : ∀ b o, X.base.get? b = some o → s.heap.get? b = some o ∧ H b = none := fun b o e =>
  ⟨I.base.keep b o (I.ok.bs b o e).1 (I.ok.bs b o e).2 (I.ok.nofr e) (I.ok.noex b o e), I.base.free b o (I.ok.bs b o e).1 (I.ok.bs b o e).2 (I.ok.noex b o e)⟩
theorem Inv.bk (I : Inv X pins σ H s) : ∀ b o, X.base.get? b = some o → s.heap.get? b = some o := fun b o e => (I.bs b o e).1
theorem Inv.mod (I : Inv X pins σ H s) : Mod X.K X.mg X.base := I.ok.mod
theorem Inv.kIn (I : Inv X pins σ H s) : X.K.In s.heap := I.ok.mod.kin.keeps I.bk
theorem Inv.lt (I : Inv X pins σ H s) : X.env.locals < s.heap.objs.size := let ⟨_, hn, _⟩ := I.loc; hn.lt
theorem Inv.sz (I : Inv X pins σ H s) : X.s₀.heap.objs.size ≤ s.heap.objs.size := Nat.le_trans I.ok.above (Nat.le_of_lt I.lt)
theorem Inv.nofs (I : Inv X pins σ H s) {a : Addr} (h : s.heap.objs.size ≤ a) : a ∉ X.fs := fun hb => by
  obtain ⟨_, o, ho, _⟩ := I.ok.funs.mem hb
  exact absurd (Nat.lt_of_lt_of_le (Heap.lt_size ho) (Nat.le_trans I.sz h)) (Nat.lt_irrefl _)
theorem Inv.cne (I : Inv X pins σ H s) : ∀ x c, X.env.cells.lookup x = some c → c ≠ X.env.locals := fun x c e z => by
  obtain ⟨v, o, ho, hd⟩ := I.cell x c e
  obtain ⟨m, ⟨o', es, ep, ho', hd', _⟩, _⟩ := I.loc
  rw [z, ho'] at ho; cases ho; rw [hd'] at hd; cases hd
theorem Inv.funs (I : Inv X pins σ H s) : s.heap.FunFrames X.base X.outer := by
  have all : ∀ (l : List Env), (∀ b ∈ frs l, b ∈ X.fs) → X.s₀.heap.FunFrames X.base l → s.heap.FunFrames X.base l := by
    intro l
    induction l with
    | nil => intro _ _; trivial
    | cons env r ih =>
      intro hs hl
      obtain ⟨hk, ⟨L, o, hf, hn, ho, hd⟩, hr⟩ := hl
      have hL : L ∈ X.fs := hs L (by unfold frs; rw [List.filterMap_cons, hf]; exact List.mem_cons_self)
      obtain ⟨sl, e⟩ := I.base.slot L o ho (I.ok.frf L hL) hL fun z => I.ok.exfs L z hL
      exact ⟨hk, ⟨L, _, hf, hn, e, hd⟩, ih (fun b hb => hs b (by unfold frs; rw [List.filterMap_cons, hf]; exact List.mem_cons_of_mem _ hb)) hr⟩
  exact all X.outer (fun _ hb => hb) I.ok.funs

/-- the frames that run, for a call -/
theorem Inv.stack (I : Inv X pins σ H s) : s.heap.FunFrames X.base X.stack := by
  rcases I.ok.stk with e | ⟨e, hf⟩
  · rw [e]; exact I.funs
  · rw [e]
    obtain ⟨m, hn, _⟩ := I.loc
    refine .cons (by rw [I.ok.kind]; decide) hf hn ?_ I.funs
    exact Heap.get?_none_of_le (Nat.le_trans I.ok.bsz I.ok.above)
theorem Inv.stkSub (I : Inv X pins σ H s) : ∀ b ∈ frs X.stack, b ∈ X.env.locals :: X.fs := fun b hb => by
  rcases I.ok.stk with e | ⟨e, hf⟩
  · rw [e] at hb; exact List.mem_cons_of_mem _ hb
  · rw [e] at hb
    unfold frs at hb
    rw [List.filterMap_cons, hf] at hb
    exact hb
theorem Inv.stkFree (I : Inv X pins σ H s) : ∀ b ∈ frs X.stack, H b = none := fun b hb => by
  rcases List.mem_cons.mp (I.stkSub b hb) with e | hb
  · rw [e]; exact I.free
  · obtain ⟨_, o, ho, _⟩ := I.ok.funs.mem hb
    exact I.base.free b o ho (I.ok.frf b hb) fun z => I.ok.exfs b z hb

/-- THE STEP: the untracked objects but the frame and the records at ch are kept (the callers' frames up to slots), the frame's map is kept, the new abstract heap is held -/
theorem Inv.step {g' : Array GenState} {t' : Nat} {d' : Drawn} {ch : List Addr} (I : Inv X pins σ H s)
    (hch : ∀ b ∈ ch, (b ∈ X.ex ∨ X.s₀.heap.objs.size ≤ b) ∧ b ≠ X.env.locals ∧ (∀ x c, X.env.cells.lookup x = some c → c ≠ b) ∧ ∀ p ∈ X.pn ++ pins, p.1 ≠ b)
    (keep : ∀ b o, b ≠ X.env.locals → b ∉ X.fs → b ∉ ch → s.heap.get? b = some o → H b = none → h'.get? b = some o)
    (slot : ∀ b o, b ≠ X.env.locals → b ∈ X.fs → b ∉ ch → s.heap.get? b = some o → H b = none → ∃ sl, h'.get? b = some { o with slots := sl }) (free : ∀ b o, b ∉ ch → s.heap.get? b = some o → H b = none → H' b = none)
    (there : ∀ b o, b ∉ ch → s.heap.get? b = some o → ∃ o', h'.get? b = some o')
    (tups : ∀ b xs, H b = some (.tup xs) → H' b = some (.tup xs)) (frzs : ∀ b o u, H b = some (.frz o u) → H' b = some (.frz o u)) (tbls : ∀ b ps, H b = some (.tbl ps) → ∃ more, H' b = some (.tbl (ps ++ more)))
    (ns : ∀ m, s.heap.Ns X.env.locals m → h'.Ns X.env.locals m) (hok : HOk X.prog X.w H' h') (hg : AllBare g') :
    Inv X pins σ H' { s with heap := h', gens := g', drawn := d', toks := t' } := by
  have neL : ∀ b o, X.s₀.heap.get? b = some o → b ≠ X.env.locals := fun b o e => Nat.ne_of_lt (Nat.lt_of_lt_of_le (Heap.lt_size e) I.ok.above)
  have neC : ∀ b o, X.s₀.heap.get? b = some o → b ∉ X.ex → b ∉ ch := fun b o e hx hb => by
    rcases (hch b hb).1 with z | z
    · exact hx z
    · exact absurd (Nat.lt_of_lt_of_le (Heap.lt_size e) z) (Nat.lt_irrefl _)
  have cellK : ∀ x c, X.env.cells.lookup x = some c → ∀ v, s.heap.IsCell c v → h'.IsCell c v := fun x c e v ⟨o, ho, hd⟩ => by
    have nch : c ∉ ch := fun z => (hch c z).2.2.1 x c e rfl
    by_cases hc : c ∈ X.fs
    · obtain ⟨sl, q⟩ := slot c o (I.cne x c e) hc nch ho (I.freeC x c e)
      exact ⟨_, q, hd⟩
    · exact ⟨o, keep c o (I.cne x c e) hc nch ho (I.freeC x c e), hd⟩
  refine ⟨I.ok, I.os, hg, ⟨fun b o e n hb hx => ?_, fun b o e n hb hx => ?_, fun b o e n hx => ?_, fun b o e hx => ?_, fun b xs e => tups b xs (I.base.tups b xs e), fun b o xs e => frzs b o xs (I.base.frzs b o xs e), fun b ps e => ?_⟩, ?_, fun x c e => ?_, ?_, fun x c e => ?_, fun p hp => ?_, hok, I.len⟩
  · exact keep b o (neL b o e) hb (neC b o e hx) (I.base.keep b o e n hb hx) (I.base.free b o e n hx)
  · obtain ⟨sl, e1⟩ := I.base.slot b o e n hb hx
    obtain ⟨sl', e2⟩ := slot b _ (neL b o e) hb (neC b o e hx) e1 (I.base.free b o e n hx)
    exact ⟨sl', e2⟩
  · obtain ⟨o', e1⟩ := I.base.there b o e hx
    exact free b o' (neC b o e hx) e1 (I.base.free b o e n hx)
  · obtain ⟨o', e1⟩ := I.base.there b o e hx
    exact there b o' (neC b o e hx) e1
  · obtain ⟨m1, e1⟩ := I.base.tbls b ps e
    obtain ⟨m2, e2⟩ := tbls b _ e1
    exact ⟨m1 ++ m2, by rw [e2, Array.append_assoc]⟩
  · obtain ⟨m, hn, hl⟩ := I.loc
    refine ⟨m, ns m hn, fun i x v e1 e2 e3 => ?_⟩
    obtain ⟨u, r, l⟩ := hl i x v e1 e2 e3
    refine ⟨u, r, ?_⟩
    rcases l with l | ⟨k, c, e, z⟩
    · exact .inl l
    · exact .inr ⟨k, c, e, cellK x c e _ z⟩
  · obtain ⟨v, z⟩ := I.cell x c e
    exact ⟨v, cellK x c e v z⟩
  · obtain ⟨m, ⟨o, _, _, ho, _⟩, _⟩ := I.loc
    exact free _ o (fun z => (hch _ z).2.1 rfl) ho I.free
  · obtain ⟨v, o, ho, hd⟩ := I.cell x c e
    exact free c o (fun z => (hch c z).2.2.1 x c e rfl) ho (I.freeC x c e)
  · obtain ⟨e, n, ne, nf, d⟩ := I.pin p hp
    have nch : p.1 ∉ ch := fun z => (hch p.1 z).2.2.2 p hp rfl
    exact ⟨keep p.1 p.2 ne nf nch e n, free p.1 p.2 nch e n, ne, nf, d⟩
/-- .. where the frame's own object is kept too -/
theorem Inv.un {t' : Nat} (I : Inv X pins σ H s) (u : Un X.fs [] H H' s.heap h') (hok : HOk X.prog X.w H' h') : Inv X pins σ H' { s with heap := h', toks := t' } := by
  obtain ⟨m, ⟨o, es, ep, ho, r⟩, _⟩ := id I.loc
  obtain ⟨sl, hL⟩ := u.any ho I.free (by simp)
  exact I.step (g' := s.gens) (d' := s.drawn) (ch := []) (fun _ z => nomatch z) (fun b o _ hb _ e n => u.keep b o e n hb (by simp)) (fun b o _ hb _ e n => u.slot b o e n hb (by simp)) (fun b o _ e n => u.free b o e n (by simp)) (fun b o _ e => u.there b o e (by simp)) u.tups u.frzs u.tbls (fun m' hm => by
    obtain ⟨o', es', ep', ho', r'⟩ := hm
    rw [ho] at ho'; cases ho'
    exact ⟨_, es', ep', hL, r'⟩) hok I.bare
/-- behind a call (or a comprehension's block): the slots of this frame may have changed too, the records at ch may have turned -/
theorem Inv.call {g' : Array GenState} {t' : Nat} {d' : Drawn} {ch : List Addr} (I : Inv X pins σ H s) (u : Un (frs X.stack) ch H H' s.heap h') (hok : HOk X.prog X.w H' h') (hg : AllBare g')
    (hch : ∀ b ∈ ch, (b ∈ X.ex ∨ X.s₀.heap.objs.size ≤ b) ∧ b ≠ X.env.locals ∧ (∀ x c, X.env.cells.lookup x = some c → c ≠ b) ∧ ∀ p ∈ X.pn ++ pins, p.1 ≠ b) :
    Inv X pins σ H' { s with heap := h', gens := g', drawn := d', toks := t' } := by
  obtain ⟨m, ⟨o, es, ep, ho, r⟩, _⟩ := id I.loc
  obtain ⟨sl, hL⟩ := u.any ho I.free fun z => (hch _ z).2.1 rfl
  exact I.step (ch := ch) hch (fun b o hL hb hc e n => u.keep b o e n (fun z => (List.mem_cons.mp (I.stkSub b z)).elim hL hb) hc) (fun b o _ _ hc e n => u.any e n hc) (fun b o hc e n => u.free b o e n hc) (fun b o hc e => u.there b o e hc) u.tups u.frzs u.tbls (fun m' hm => by
    obtain ⟨o', es', ep', ho', r'⟩ := hm
    rw [ho] at ho'; cases ho'
    exact ⟨_, es', ep', hL, r'⟩) hok hg
/-- an untracked record of ours (an iterator) has turned -/
theorem Inv.turned {t' : Nat} {it : Addr} (I : Inv X pins σ H s) (k : ∀ b o, b ≠ it → s.heap.get? b = some o → h'.get? b = some o) (hn : H it = none) (hL : it ≠ X.env.locals)
    (h1 : it ∈ X.ex ∨ X.s₀.heap.objs.size ≤ it) (h2 : ∀ x c, X.env.cells.lookup x = some c → c ≠ it) (h3 : ∀ p ∈ X.pn ++ pins, p.1 ≠ it) : Inv X pins σ H { s with heap := h', toks := t' } := by
  have nit : ∀ b u, H b = some u → b ≠ it := fun b u e z => by rw [z, hn] at e; cases e
  refine I.step (g' := s.gens) (d' := s.drawn) (ch := [it]) (fun b hb => ?_) (fun b o _ _ hc e _ => k b o (fun z => hc (by simp [z])) e) (fun b o _ _ hc e _ => ⟨o.slots, k b o (fun z => hc (by simp [z])) e⟩) (fun _ _ _ _ n => n)
    (fun b o hc e => ⟨o, k b o (fun z => hc (by simp [z])) e⟩) (fun _ _ e => e) (fun _ _ _ e => e) (fun b ps e => ⟨#[], by rw [e]; simp⟩) (fun m hm => ?_) (fun b u e => ?_) I.bare
  · have e : b = it := by simpa using hb
    subst e
    exact ⟨h1, hL, h2, h3⟩
  · obtain ⟨o, es, ep, ho, r⟩ := hm
    exact ⟨o, es, ep, k _ o (Ne.symm hL) ho, r⟩
  · refine (I.hok b u e).stay (fun c v hc q => k c v ?_ q) (fun _ q => q) fun _ _ q => q
    rcases hc with z | z
    · rw [z]; exact nit b u e
    · exact nit c _ z
theorem Inv.tok (I : Inv X pins σ H s) (t : Nat) : Inv X pins σ H { s with toks := t } := I.un (h' := s.heap) (t' := t) Un.refl I.hok
/-- all objects kept -/
theorem Inv.kept {t' : Nat} (I : Inv X pins σ H s) (k : ∀ b u, s.heap.get? b = some u → h'.get? b = some u) : Inv X pins σ H { s with heap := h', toks := t' } := I.un (Un.kept k) (I.hok.kept k)
/-- a new object laid and tracked -/
theorem Inv.laid {a : Addr} {o : HO} {t' : Nat} (I : Inv X pins σ H s) (k : ∀ b u, s.heap.get? b = some u → h'.get? b = some u) (hp : s.heap.objs.size ≤ a) (new : ObjOk X.prog X.w (upd H a o) h' a o) :
    Inv X pins σ (upd H a o) { s with heap := h', toks := t' } := I.un (Un.laid k hp (I.hok.fresh hp)) (I.hok.laid k hp new)
/-- an object written -/
theorem Inv.write {x e : Addr} {o : HO} {t' : Nat} (I : Inv X pins σ H s) (mu : Mut (H x)) (he : e = x ∨ H e = some (.own x)) (k : ∀ b u, b ≠ e → s.heap.get? b = some u → h'.get? b = some u) (heo : ∃ u, h'.get? e = some u)
    (new : ObjOk X.prog X.w (upd H x o) h' x o) : Inv X pins σ (upd H x o) { s with heap := h', toks := t' } := I.un (Un.write mu he k heo) (I.hok.write mu he k heo new)
theorem Inv.pins_of {pins' : List (Addr × Obj)} (I : Inv X pins σ H s) (h : ∀ p ∈ pins', s.heap.get? p.1 = some p.2 ∧ H p.1 = none ∧ p.1 ≠ X.env.locals ∧ p.1 ∉ X.fs ∧ ∀ v, p.2.data ≠ .cell v) : Inv X pins' σ H s :=
  ⟨I.ok, I.os, I.bare, I.base, I.loc, I.cell, I.free, I.freeC, fun p hp => (List.mem_append.mp hp).elim (fun z => I.pin p (List.mem_append_left _ z)) (h p), I.hok, I.len⟩

theorem nodup_ix {N : List Str} (hN : N.Nodup) {i j : Nat} {x : Str} (a : N[i]? = some x) (b : N[j]? = some x) : i = j := by
  obtain ⟨h1, e1⟩ := List.getElem?_eq_some_iff.mp a
  obtain ⟨h2, e2⟩ := List.getElem?_eq_some_iff.mp b
  exact (List.getElem_inj hN).mp (e1.trans e2.symm)

/-- a name is stored; what changed -/
theorem store_ok2 {M : Model} {A : Around} {E : Value → Shared → Prop} {i : Nat} {x : Str} {v : V} {u : Value} {Q : Unit → Shared → Prop} (I : Inv X pins σ H s) (hN : X.N.Nodup) (hi : X.N[i]? = some x) (hx : Loc X.env.scope x) (r : RelV v u)
    (h : ∀ s', Inv X pins (σ.set i (some v)) H s' → (∃ a, Heap.SameBut a s.heap s'.heap ∧ (a = X.env.locals ∨ X.env.cells.lookup x = some a)) → Q () s') (hf : X.fn x = true ∨ X.env.scope.names.lookup x = some .local := by first | exact .inl rfl | exact .inr rfl | assumption) : wpAny M A (storeName X.env x u) Q E s := by
  obtain ⟨m, hn, hl⟩ := id I.loc
  have hcls : (X.env.scope.kind == .class || (X.env.scope.kind == .module && X.env.locals != X.env.globals)) = false := by rw [I.ok.kind]; rfl
  have hiσ : i < σ.length := by rw [I.len]; exact (List.getElem?_eq_some_iff.mp hi).1
  have cne := I.cne
  have tracked : ∀ {a : Addr} {h' : Heap}, (∃ o, s.heap.get? a = some o ∧ H a = none) → Heap.SameBut a s.heap h' → HOk X.prog X.w H h' := fun {a h'} ha hs b ob e => by
    obtain ⟨_, _, hfree⟩ := ha
    refine (I.hok b ob e).stay (fun c w' hc q => (hs.2 c ?_).trans q) (fun _ q => q) fun _ _ q => q
    rintro rfl
    rcases hc with rfl | hc
    · rw [hfree] at e; cases e
    · rw [hfree] at hc; cases hc
  rcases hx with hk | hk
  · refine wpAny_storeName_local hk hn (fun h' hn' hs => ?_) hcls
    obtain ⟨oL, _, _, hoL, _⟩ := id hn
    refine h _ ⟨I.ok, I.os, I.bare, ⟨fun b o e n hb hx => ?_, fun b o e n hb hx => ?_, I.base.free, fun b o e hx => ?_, I.base.tups, I.base.frzs, I.base.tbls⟩, ⟨_, hn', fun j y v' e1 e2 e3 => ?_⟩, fun y c e => ?_, I.free, I.freeC, fun p hp => ?_, tracked ⟨oL, hoL, I.free⟩ hs, by simpa using I.len⟩ ⟨_, hs, .inl rfl⟩
    · exact (hs.2 b (Nat.ne_of_lt (Nat.lt_of_lt_of_le (Heap.lt_size e) I.ok.above))).trans (I.base.keep b o e n hb hx)
    · obtain ⟨sl, e1⟩ := I.base.slot b o e n hb hx
      exact ⟨sl, (hs.2 b (Nat.ne_of_lt (Nat.lt_of_lt_of_le (Heap.lt_size e) I.ok.above))).trans e1⟩
    · obtain ⟨o', e1⟩ := I.base.there b o e hx
      exact ⟨o', (hs.2 b (Nat.ne_of_lt (Nat.lt_of_lt_of_le (Heap.lt_size e) I.ok.above))).trans e1⟩
    · by_cases hj : j = i
      · subst hj
        rw [hi] at e1; cases e1
        rw [List.getElem?_set_self hiσ] at e2
        cases e2
        exact ⟨u, r, .inl ⟨hk, by simp⟩⟩
      · rw [List.getElem?_set_ne (Ne.symm hj)] at e2
        obtain ⟨u', r', q⟩ := hl j y v' e1 e2 e3
        refine ⟨u', r', ?_⟩
        rcases q with ⟨k, e⟩ | ⟨k, c, e, z⟩
        · refine .inl ⟨k, ?_⟩
          have : y ≠ x := fun e => hj (nodup_ix hN e1 (e ▸ hi))
          simp [this, e]
        · exact .inr ⟨k, c, e, z.sameBut hs (cne y c e)⟩
    · obtain ⟨w', z⟩ := I.cell y c e
      exact ⟨w', z.sameBut hs (cne y c e)⟩
    · obtain ⟨e, n, ne, nf, d⟩ := I.pin p hp
      exact ⟨(hs.2 p.1 ne).trans e, n, ne, nf, d⟩
  · have hfn : X.fn x = true := by
      rcases hf with z | z
      · exact z
      · rw [z] at hk; cases hk
    obtain ⟨c, hc⟩ := I.ok.has x (.inl hk)
    obtain ⟨w', z⟩ := I.cell x c hc
    refine wpAny_storeName_cell I.ok.kind hk hc z (fun h' hc' hs => ?_)
    obtain ⟨oc, hoc, hocd⟩ := id z
    refine h { s with heap := h' } ⟨I.ok, I.os, I.bare, ⟨fun b o e n hb hx => ?_, fun b o e n hb hx => ?_, I.base.free, fun b o e hx => ?_, I.base.tups, I.base.frzs, I.base.tbls⟩, ⟨m, hn.sameBut hs (Ne.symm (cne x c hc)), fun j y v' e1 e2 e3 => ?_⟩, fun y c' e => ?_, I.free, I.freeC, fun p hp => ?_, tracked ⟨oc, hoc, I.freeC x c hc⟩ hs, by simpa using I.len⟩ ⟨c, hs, .inr hc⟩
    · exact (hs.2 b (Nat.ne_of_lt (Nat.lt_of_lt_of_le (Heap.lt_size e) (I.ok.cab x c hfn hc)))).trans (I.base.keep b o e n hb hx)
    · obtain ⟨sl, e1⟩ := I.base.slot b o e n hb hx
      exact ⟨sl, (hs.2 b (Nat.ne_of_lt (Nat.lt_of_lt_of_le (Heap.lt_size e) (I.ok.cab x c hfn hc)))).trans e1⟩
    · obtain ⟨o', e1⟩ := I.base.there b o e hx
      exact ⟨o', (hs.2 b (Nat.ne_of_lt (Nat.lt_of_lt_of_le (Heap.lt_size e) (I.ok.cab x c hfn hc)))).trans e1⟩
    · by_cases hj : j = i
      · subst hj
        rw [hi] at e1; cases e1
        rw [List.getElem?_set_self hiσ] at e2
        cases e2
        exact ⟨u, r, .inr ⟨.inl hk, c, hc, hc'⟩⟩
      · rw [List.getElem?_set_ne (Ne.symm hj)] at e2
        obtain ⟨u', r', q⟩ := hl j y v' e1 e2 e3
        refine ⟨u', r', ?_⟩
        rcases q with q | ⟨k, c', e, z'⟩
        · exact .inl q
        · refine .inr ⟨k, c', e, z'.sameBut hs ?_⟩
          rintro rfl
          exact hj (nodup_ix hN e1 (I.ok.inj _ _ _ e hc ▸ hi))
    · by_cases hcc : c' = c
      · subst hcc; exact ⟨_, hc'⟩
      · obtain ⟨w2, z2⟩ := I.cell y c' e
        exact ⟨w2, z2.sameBut hs hcc⟩
    · obtain ⟨e, n, ne, nf, d⟩ := I.pin p hp
      refine ⟨(hs.2 p.1 ?_).trans e, n, ne, nf, d⟩
      intro q
      rw [q, hoc] at e
      have q' : oc = p.2 := Option.some.inj e
      exact d w' (by rw [← q']; exact hocd)
theorem store_ok {M : Model} {A : Around} {E : Value → Shared → Prop} {i : Nat} {x : Str} {v : V} {u : Value} {Q : Unit → Shared → Prop} (I : Inv X pins σ H s) (hN : X.N.Nodup) (hi : X.N[i]? = some x) (hx : Loc X.env.scope x) (r : RelV v u)
    (h : ∀ s', Inv X pins (σ.set i (some v)) H s' → Q () s') (hf : X.fn x = true ∨ X.env.scope.names.lookup x = some .local := by first | exact .inl rfl | exact .inr rfl | assumption) : wpAny M A (storeName X.env x u) Q E s :=
  store_ok2 I hN hi hx r (fun s' I' _ => h s' I') hf
/-- behind a call or a block, the state as it is -/
theorem Inv.call' {s' : Shared} {ch : List Addr} (I : Inv X pins σ H s) (ho : s'.os = s.os) (u : Un (frs X.stack) ch H H' s.heap s'.heap) (hok : HOk X.prog X.w H' s'.heap) (hg : AllBare s'.gens)
    (hch : ∀ b ∈ ch, (b ∈ X.ex ∨ X.s₀.heap.objs.size ≤ b) ∧ b ≠ X.env.locals ∧ (∀ x c, X.env.cells.lookup x = some c → c ≠ b) ∧ ∀ p ∈ X.pn ++ pins, p.1 ≠ b) : Inv X pins σ H' s' := by
  obtain ⟨h', g', d', t', o'⟩ := s'
  have e : o' = s.os := ho
  subst e
  exact I.call (g' := g') (t' := t') (d' := d') u hok hg hch
end

/-- an exception: its class, its own dict's address (where it has one), the abstract heap behind it -/
noncomputable abbrev XK := Value → Option Addr → Hp → Prop
noncomputable abbrev St := List (Option V)
noncomputable abbrev VK := V → Hp → Prop
/-- an expression's reading; a test's; an argument list's -/
noncomputable abbrev TE := St → Hp → VK → Prop
noncomputable abbrev TT := St → Hp → (Bool → Hp → Prop) → Prop
noncomputable abbrev TA := St → Hp → (List V → Hp → Prop) → Prop
/-- what is wanted behind a statement -/
structure Ends where
  nx : St → Hp → Prop
  rt : VK
  bk : St → Hp → Prop := fun _ _ => False
  ct : St → Hp → Prop := fun _ _ => False
noncomputable abbrev TS := Ends → St → Hp → Prop

noncomputable def EP (X : Cx) (pins : List (Addr × Obj)) (σ : St) (Q : VK) (u : Value) (s' : Shared) : Prop := ∃ v H', Inv X pins σ H' s' ∧ RelV v u ∧ Q v H'
noncomputable def TP (X : Cx) (pins : List (Addr × Obj)) (σ : St) (Q : Bool → Hp → Prop) (b : Bool) (s' : Shared) : Prop := ∃ H', Inv X pins σ H' s' ∧ Q b H'
noncomputable def AP (X : Cx) (pins : List (Addr × Obj)) (σ : St) (Q : List V → Hp → Prop) (us : List Value) (s' : Shared) : Prop := ∃ vs H', Inv X pins σ H' s' ∧ Vals vs us ∧ Q vs H'
noncomputable def SP (X : Cx) (pins : List (Addr × Obj)) (D : Ends) (f : Flow) (s' : Shared) : Prop :=
  match f with
  | .next => ∃ σ' H', Inv X pins σ' H' s' ∧ D.nx σ' H'
  | .brk => ∃ σ' H', Inv X pins σ' H' s' ∧ D.bk σ' H'
  | .cont => ∃ σ' H', Inv X pins σ' H' s' ∧ D.ct σ' H'
  | .ret u => ∃ v σ' H', Inv X pins σ' H' s' ∧ RelV v u ∧ D.rt v H'

noncomputable def PE (X : Cx) (e : Expr) (t : TE) : Prop :=
  ∀ (pins : List (Addr × Obj)) (s : Shared) (σ : St) (H : Hp) (Q : VK), Inv X pins σ H s → t σ H Q → wpAny (model X.prog X.w) X.A (eval e X.env) (EP X pins σ Q) X.xe s
noncomputable def PT (X : Cx) (e : Expr) (t : TT) : Prop :=
  ∀ (pins : List (Addr × Obj)) (s : Shared) (σ : St) (H : Hp) (Q : Bool → Hp → Prop), Inv X pins σ H s → t σ H Q → wpAny (model X.prog X.w) X.A (isTrue e X.env (eval e X.env)) (TP X pins σ Q) X.xe s
/-- a test whatever its 'whole' is (and, or) -/
noncomputable def PW (X : Cx) (e : Expr) (t : TT) : Prop :=
  ∀ (whole : Sem Value) (pins : List (Addr × Obj)) (s : Shared) (σ : St) (H : Hp) (Q : Bool → Hp → Prop), Inv X pins σ H s → t σ H Q → wpAny (model X.prog X.w) X.A (isTrue e X.env whole) (TP X pins σ Q) X.xe s
theorem PW.pt {X : Cx} {e : Expr} {t : TT} (h : PW X e t) : PT X e t := h _
/-- an argument list (no star), from the left -/
noncomputable def PA (X : Cx) (es : List Expr) (t : TA) : Prop :=
  ∀ (pos : Pos) (pins : List (Addr × Obj)) (s : Shared) (σ : St) (H : Hp) (Q : List V → Hp → Prop), Inv X pins σ H s → t σ H Q → wpAny (model X.prog X.w) X.A (spliced (backTo pos (starEach es X.env))) (AP X pins σ Q) X.xe s
noncomputable def PS (X : Cx) (st : Stmt) (t : TS) : Prop :=
  ∀ (pins : List (Addr × Obj)) (s : Shared) (σ : St) (H : Hp) (D : Ends), Inv X pins σ H s → t D σ H → wpAny (model X.prog X.w) X.A (exec st X.env) (SP X pins D) X.xe s
noncomputable def PSs (X : Cx) (st : List Stmt) (t : TS) : Prop :=
  ∀ (pins : List (Addr × Obj)) (s : Shared) (σ : St) (H : Hp) (D : Ends), Inv X pins σ H s → t D σ H → wpAny (model X.prog X.w) X.A (execs st X.env) (SP X pins D) X.xe s
/-- weaken the end -/
theorem thn {α : Type} {t : Sem α} {Q Q' : α → Shared → Prop} {M : Model} {A : Around} {E : Value → Shared → Prop} {s : Shared} (h : wpAny M A t Q E s) (hQ : ∀ a s, Q a s → Q' a s) : wpAny M A t Q' E s := wpAny_mono h hQ fun _ _ x => x
end L2

namespace L2
open PySem PySem.Spec PyProof.Rows
section
variable {X : Cx}

noncomputable def tVar (i : Nat) : TE := fun σ H Q => ∃ v, σ[i]? = some (some v) ∧ Q v H
noncomputable def tC (v : V) : TE := fun _ H Q => Q v H
theorem pe_var {i : Nat} {x : Str} {pos : Pos} (hN : X.N[i]? = some x) (hv : Vis X.env.scope x) (hd : (x == ("__debug__" : Str)) = false := by decide) (hcd : (x == ("__classdict__" : Str)) = false := by decide) : PE X (.Name x pos) (tVar i) := by
  intro pins s σ H Q I h
  obtain ⟨v, e, h⟩ := h
  obtain ⟨m, hn, hl⟩ := I.loc
  obtain ⟨u, r, l⟩ := hl i x v hN e hv
  have fin : EP X pins σ Q u s := ⟨v, H, I, r, h⟩
  rcases l with ⟨hk, hm⟩ | ⟨hk, c, hc, hcell⟩
  · exact wpAny_Name (wpAny_loadName_local I.ok.kind hk hn hm fin) hd
  · rcases hk with hk | hk
    · exact wpAny_Name (wpAny_loadName_cell I.ok.kind hk hc hcell fin) hd
    · exact wpAny_Name (wpAny_loadName_free I.ok.kind hk hc hcell fin hcd) hd
theorem pe_int {i j pos} : PE X (.Constant (.int i) j pos) (tC (.int i)) := fun _ _ _ H _ I h => wpAny_Constant_int ⟨.int i, H, I.tok _, ⟨_, rfl⟩, h⟩
theorem pe_bl {b j pos} : PE X (.Constant (.bool b) j pos) (tC (.bl b)) := fun _ _ _ H _ I h => Constant_bool ⟨.bl b, H, I, rfl, h⟩
theorem pe_non {j pos} : PE X (.Constant .none j pos) (tC .non) := fun _ _ _ H _ I h => Constant_none ⟨.non, H, I, rfl, h⟩
theorem pe_str {x j pos} : PE X (.Constant (.str x) j pos) (tC (.str x)) := fun _ _ _ H _ I h => Calls.Constant_str ⟨.str x, H, I.tok _, ⟨_, rfl⟩, h⟩

/-- a global name of the def -/
noncomputable def Gl (X : Cx) (x : Str) : Prop := X.env.kindOf x = some .globalImplicit
theorem ld_glob {E : Value → Shared → Prop} {pins : List (Addr × Obj)} {s : Shared} {σ : St} {H : Hp} {x : Str} {u : Value} {pos : Pos} {Q : Value → Shared → Prop} (I : Inv X pins σ H s) (hg : Gl X x) (hm : X.mg x = some u) (h : Q u s)
    (hd : (x == ("__debug__" : Str)) = false := by decide) : wpAny (model X.prog X.w) X.A (eval (.Name x pos) X.env) Q E s :=
  Calls.Name_function_global I.ok.kind hg (Calls.loadGlobal_global (by rw [I.ok.glob]; exact I.mod.glob.keeps I.bk) hm h) hd
theorem ld_blt {E : Value → Shared → Prop} {pins : List (Addr × Obj)} {s : Shared} {σ : St} {H : Hp} {x : Str} {u : Value} {pos : Pos} {Q : Value → Shared → Prop} (I : Inv X pins σ H s) (hg : Gl X x) (hm : X.mg x = none) (hv : bootBuiltins x = some u) (h : Q u s)
    (hn : x ≠ "__name__" := by decide) (hd : (x == ("__debug__" : Str)) = false := by decide) : wpAny (model X.prog X.w) X.A (eval (.Name x pos) X.env) Q E s := by
  obtain ⟨mb, h1, h2⟩ := I.mod.blt
  exact Calls.Name_function_global I.ok.kind hg (Calls.loadGlobal_builtin (by rw [I.ok.glob]; exact I.mod.glob.keeps I.bk) hm (by rw [I.ok.blt]; exact h1.keeps I.bk) ((h2 x hn).trans hv) h) hd
/-- a module's constant, a class, a function, as a value -/
theorem pe_glob {x : Str} {v : V} {u : Value} {pos : Pos} (hg : Gl X x) (hm : X.mg x = some u) (r : RelV v u) (hd : (x == ("__debug__" : Str)) = false := by decide) : PE X (.Name x pos) (tC v) :=
  fun _ _ _ H _ I h => ld_glob I hg hm ⟨v, H, I, r, h⟩ hd
theorem pe_bltn {x : Str} {v : V} {u : Value} {pos : Pos} (hg : Gl X x) (hm : X.mg x = none) (hv : bootBuiltins x = some u) (r : RelV v u) (hn : x ≠ "__name__" := by decide) (hd : (x == ("__debug__" : Str)) = false := by decide) : PE X (.Name x pos) (tC v) :=
  fun _ _ _ H _ I h => ld_blt I hg hm hv ⟨v, H, I, r, h⟩ hn hd

variable {a b : Expr} {ta tb : TE} {pos : Pos}
noncomputable def PC (X : Cx) (op : CmpOp) (a b : Expr) (t : TE) : Prop :=
  ∀ (pins : List (Addr × Obj)) (s : Shared) (σ : St) (H : Hp) (Q : VK), Inv X pins σ H s → t σ H Q →
    wpAny (model X.prog X.w) X.A (eval a X.env) (fun v s₁ => wpAny (model X.prog X.w) X.A (eval b X.env) (fun u s₂ => wpAny (model X.prog X.w) X.A (compareOp op v u) (EP X pins σ Q) X.xe s₂) X.xe s₁) X.xe s
/-- a comparison as a value, as a test -/
noncomputable def tB (t : TE) : TT := fun σ H Q => t σ H fun x H1 => ∃ c, x = .bl c ∧ Q c H1
theorem pt_cmp {op : CmpOp} {t : TE} (h : PC X op a b t) (h1 : behindInMarks op b = false := by first | exact nobehind _ (by decide) (by decide) | rfl) : PT X (.Compare a [op] [b] pos) (tB t) := by
  intro pins s σ H Q I hw
  refine wpAny_isTrue_Compare1 (thn (h pins s σ H _ I hw) fun v s1 h1 => thn h1 fun u s2 h2 => thn h2 fun c s3 ⟨x, H1, I1, r1, q1⟩ => ?_) h1
  obtain ⟨d, rfl, q⟩ := q1
  cases r1
  exact wpAny_truthy_bool ⟨H1, I1, q⟩
/-- an expression whose value is a bool, as a test -/
theorem pt_val {e : Expr} {t : TE} (h : PE X e t) (he : ∀ whole, isTrue e X.env whole = (do let v ← whole; standAt e.pos; holding [v] (truthy v)) := by intro _; rfl) : PT X e (tB t) := by
  intro pins s σ H Q I hw
  refine isTrue_plain (thn (h pins s σ H _ I hw) fun v s1 ⟨x, H1, I1, r1, q1⟩ => ?_) (he _)
  obtain ⟨d, rfl, q⟩ := q1
  cases r1
  exact wpAny_truthy_bool ⟨H1, I1, q⟩

variable {tA tB' : TT} {rest : List Expr}
noncomputable def tAnd (t u : TT) : TT := fun σ H Q => t σ H fun c H1 => if c = true then u σ H1 Q else Q false H1
noncomputable def tOr (t u : TT) : TT := fun σ H Q => t σ H fun c H1 => if c = true then Q true H1 else u σ H1 Q
noncomputable def tNot (t : TT) : TT := fun σ H Q => t σ H fun c H1 => Q (!c) H1
theorem pw_and1 (ha : PT X a tA) : PW X (.BoolOp .And [a] pos) tA := by
  intro wh pins s σ H Q I h
  refine isTrue_and (thn (ha pins s σ H Q I h) fun c s1 e => ?_)
  cases c with
  | true => exact isTrue_and_nil e
  | false => exact e
theorem pw_or1 (ha : PT X a tA) : PW X (.BoolOp .Or [a] pos) tA := by
  intro wh pins s σ H Q I h
  refine isTrue_or (thn (ha pins s σ H Q I h) fun c s1 e => ?_)
  cases c with
  | false => exact isTrue_or_nil e
  | true => exact e
theorem pw_and (ha : PT X a tA) (hb : PW X (.BoolOp .And (b :: rest) pos) tB') : PW X (.BoolOp .And (a :: b :: rest) pos) (tAnd tA tB') := by
  intro wh pins s σ H Q I h
  refine isTrue_and (thn (ha pins s σ H _ I h) fun c s1 ⟨H1, I1, q1⟩ => ?_)
  cases c with
  | true => exact hb wh pins s1 σ H1 Q I1 q1
  | false => exact ⟨H1, I1, q1⟩
theorem pw_or (ha : PT X a tA) (hb : PW X (.BoolOp .Or (b :: rest) pos) tB') : PW X (.BoolOp .Or (a :: b :: rest) pos) (tOr tA tB') := by
  intro wh pins s σ H Q I h
  refine isTrue_or (thn (ha pins s σ H _ I h) fun c s1 ⟨H1, I1, q1⟩ => ?_)
  cases c with
  | true => exact ⟨H1, I1, q1⟩
  | false => exact hb wh pins s1 σ H1 Q I1 q1
theorem pt_not (ha : PT X a tA) : PT X (.UnaryOp .Not a pos) (tNot tA) := by
  intro pins s σ H Q I h
  exact isTrue_not (ha pins s σ H (fun c H1 => Q (!c) H1) I h)
/-- .. as values (bools) -/
noncomputable def tAndV (ta tb : TE) : TE := fun σ H Q => ta σ H fun x H1 => ∃ c, x = .bl c ∧ if c = true then tb σ H1 Q else Q (.bl false) H1
noncomputable def tNotV (ta : TE) : TE := fun σ H Q => ta σ H fun x H1 => ∃ c, x = .bl c ∧ Q (.bl (!c)) H1
theorem pe_one {op} {t : TE} (h : PE X a t) : PE X (.BoolOp op [a] pos) t := fun pins s σ H Q I hw => BoolOp_one (h pins s σ H Q I hw)
theorem pe_and (ha : PE X a ta) (hb : PE X (.BoolOp .And (b :: rest) pos) tb) : PE X (.BoolOp .And (a :: b :: rest) pos) (tAndV ta tb) := by
  intro pins s σ H Q I h
  refine BoolOp_and (thn (ha pins s σ H _ I h) fun v s1 ⟨x, H1, I1, r1, q1⟩ => ?_)
  obtain ⟨c, rfl, q1⟩ := q1
  cases r1
  refine wpAny_truthy_bool ?_
  cases c with
  | true => exact hb pins s1 σ H1 Q I1 q1
  | false => exact ⟨.bl false, H1, I1, rfl, q1⟩
theorem pe_not (ha : PE X a ta) : PE X (.UnaryOp .Not a pos) (tNotV ta) := by
  intro pins s σ H Q I h
  refine UnaryOp_ (thn (ha pins s σ H _ I h) fun v s1 ⟨x, H1, I1, r1, q1⟩ => ?_)
  obtain ⟨c, rfl, q1⟩ := q1
  cases r1
  exact not_of (wpAny_truthy_bool ⟨.bl (!c), H1, I1, rfl, q1⟩)
/-- a if t else b -/
noncomputable def tIf (t : TT) (ta tb : TE) : TE := fun σ H Q => t σ H fun c H1 => if c = true then ta σ H1 Q else tb σ H1 Q
theorem pe_ifExp {c : Expr} (hc : PT X c tA) (ha : PE X a ta) (hb : PE X b tb) : PE X (.IfExp c a b pos) (tIf tA ta tb) := by
  intro pins s σ H Q I h
  refine wpAny_IfExp (thn (hc pins s σ H _ I h) fun d s1 ⟨H1, I1, q1⟩ => ?_)
  cases d with
  | true => exact ha pins s1 σ H1 Q I1 q1
  | false => exact hb pins s1 σ H1 Q I1 q1
end
end L2

namespace L2
open PySem PySem.Spec PyProof.Rows

noncomputable def SqL (K : PySem.W.Frag) (H : Hp) (a : Addr) (xs : List V) : Prop :=
  Rd H a (.lst xs) ∨
    ∃ (o : Obj) (its : Array Value) (n : Nat), K.lookup a = some o ∧ o.cls = .type "list" ∧ o.dict = none ∧ o.data = .seq its n ∧ its.size ≤ sizeLine ∧ Vals xs its.toList
noncomputable def SqT (K : PySem.W.Frag) (H : Hp) (a : Addr) (xs : List V) : Prop :=
  Rd H a (.tup xs) ∨
    ∃ (o : Obj) (its : Array Value) (n : Nat), K.lookup a = some o ∧ o.cls = .type "tuple" ∧ o.data = .seq its n ∧ its.size ≤ sizeLine ∧ Vals xs its.toList
noncomputable def absV : Value → Option V
  | .none => some .non
  | .bool b => some (.bl b)
  | .int i _ => some (.int i)
  | .str x _ => some (.str x)
  | .bytes b _ => some (.byt b)
  | .float b _ => some (.flt b)
  | .ref a => some (.ref a)
  | .type n => some (.ty n)
  | _ => none
theorem RelV.abs {x : V} {u : Value} (r : RelV x u) : absV u = some x := by
  cases x with
  | non => cases r; rfl
  | bl _ => cases r; rfl
  | int _ => obtain ⟨t, rfl⟩ := r; rfl
  | str _ => obtain ⟨t, rfl⟩ := r; rfl
  | byt _ => obtain ⟨t, rfl⟩ := r; rfl
  | flt _ => obtain ⟨t, rfl⟩ := r; rfl
  | ref _ => cases r; rfl
  | ty _ => cases r; rfl
theorem RelV.inj {x y : V} {u : Value} (r : RelV x u) (q : RelV y u) : x = y := Option.some.inj (r.abs.symm.trans q.abs)
theorem Vals.inj : ∀ {xs ys : List V} {us : List Value}, Vals xs us → Vals ys us → xs = ys
  | _, _, _, .nil, .nil => rfl
  | _, _, _, .cons r t, .cons r' t' => by rw [r.inj r', Vals.inj t t']
section
variable {X : Cx} {pins : List (Addr × Obj)} {σ : St} {H : Hp} {s : Shared} {a : Addr} {xs ys : List V}
theorem SqL.of {K : PySem.W.Frag} (h : H a = some (.lst xs)) : SqL K H a xs := .inl (.inl h)
theorem SqT.of {K : PySem.W.Frag} (h : H a = some (.tup xs)) : SqT K H a xs := .inl (.inl h)
theorem Inv.list (I : Inv X pins σ H s) (h : SqL X.K H a xs) : ∃ its : List Value, Vals xs its ∧ PlainL s.heap a its.toArray ∧ xs.length ≤ sizeLine := by
  rcases h with h | ⟨o, its, n, hk, hc, hd, hs, hz, r⟩
  · obtain ⟨z, its, n, r, e⟩ := h.ok I.hok
    exact ⟨its, r, ⟨_, n, e, rfl, rfl, rfl⟩, z⟩
  · refine ⟨its.toList, r, ⟨o, n, I.kIn a o hk, hc, hd, by simpa using hs⟩, ?_⟩
    have e := r.length
    simp only [Array.length_toList] at e
    lia
theorem Inv.tuple (I : Inv X pins σ H s) (h : SqT X.K H a xs) : ∃ its : List Value, Vals xs its ∧ IsTup s.heap a its.toArray ∧ xs.length ≤ sizeLine := by
  rcases h with h | ⟨o, its, n, hk, hc, hs, hz, r⟩
  · obtain ⟨z, its, r, p⟩ := h.ok I.hok
    exact ⟨its, r, p, z⟩
  · refine ⟨its.toList, r, ⟨o, I.kIn a o hk, hc, n, by simpa using hs⟩, ?_⟩
    have e := r.length
    simp only [Array.length_toList] at e
    lia
theorem Inv.list_inj (I : Inv X pins σ H s) (h : SqL X.K H a xs) (h' : SqL X.K H a ys) : xs = ys := by
  obtain ⟨its, r, ⟨o, n, e, _, _, d⟩, _⟩ := I.list h
  obtain ⟨its', r', ⟨o', n', e', _, _, d'⟩, _⟩ := I.list h'
  rw [e] at e'; cases e'
  rw [d] at d'
  injection d' with d1 _
  have : its = its' := by simpa using congrArg Array.toList d1
  subst this
  exact r.inj r'
theorem Inv.tuple_inj (I : Inv X pins σ H s) (h : SqT X.K H a xs) (h' : SqT X.K H a ys) : xs = ys := by
  obtain ⟨its, r, ⟨o, e, _, n, d⟩, _⟩ := I.tuple h
  obtain ⟨its', r', ⟨o', e', _, n', d'⟩, _⟩ := I.tuple h'
  rw [e] at e'; cases e'
  rw [d] at d'
  injection d' with d1 _
  have : its = its' := by simpa using congrArg Array.toList d1
  subst this
  exact r.inj r'
end

noncomputable abbrev Cx.wish (X : Cx) (E : Value → Shared → Prop) : Cx := { X with xe := E }
/-- no exception leaves -/
noncomputable abbrev Cx.nox (X : Cx) : Cx := X.wish fun _ _ => False
theorem Cx.Ok.wish {X : Cx} (ok : X.Ok) (E : Value → Shared → Prop) : (X.wish E).Ok :=
  ⟨ok.mod, ok.kind, ok.glob, ok.blt, ok.above, ok.inj, ok.has, ok.cab, ok.hd, ok.frames, ok.stk, ok.exf, ok.bs, ok.bsz, ok.noex, ok.exfs, ok.funs, ok.frf⟩
theorem Cx.Ok.unwish {X : Cx} {E : Value → Shared → Prop} (ok : (X.wish E).Ok) : X.Ok :=
  ⟨ok.mod, ok.kind, ok.glob, ok.blt, ok.above, ok.inj, ok.has, ok.cab, ok.hd, ok.frames, ok.stk, ok.exf, ok.bs, ok.bsz, ok.noex, ok.exfs, ok.funs, ok.frf⟩
section
variable {X : Cx} {pins : List (Addr × Obj)} {σ : St} {H : Hp} {s : Shared} {E : Value → Shared → Prop}
theorem Inv.wish (I : Inv X pins σ H s) (E : Value → Shared → Prop) : Inv (X.wish E) pins σ H s := ⟨I.ok.wish E, I.os, I.bare, I.base, I.loc, I.cell, I.free, I.freeC, I.pin, I.hok, I.len⟩
theorem Inv.unwish (I : Inv (X.wish E) pins σ H s) : Inv X pins σ H s := ⟨I.ok.unwish, I.os, I.bare, I.base, I.loc, I.cell, I.free, I.freeC, I.pin, I.hok, I.len⟩
theorem SP.unwish {D : Ends} {f : Flow} {s' : Shared} (h : SP (X.wish E) pins D f s') : SP X pins D f s' := by
  cases f with
  | next => obtain ⟨σ', H', I, q⟩ := h; exact ⟨σ', H', I.unwish, q⟩
  | brk => obtain ⟨σ', H', I, q⟩ := h; exact ⟨σ', H', I.unwish, q⟩
  | cont => obtain ⟨σ', H', I, q⟩ := h; exact ⟨σ', H', I.unwish, q⟩
  | ret u => obtain ⟨v, σ', H', I, r, q⟩ := h; exact ⟨v, σ', H', I.unwish, r, q⟩
theorem PSs.nox {st : List Stmt} {t : TS} (h : PSs X.nox st t) : PSs X st t := fun pins s σ H D I hw =>
  wpAny_mono (h pins s σ H D (I.wish _) hw) (fun _ _ q => q.unwish) fun _ _ z => False.elim z
end

section
variable {X : Cx} {st : Stmt} {rest : List Stmt} {t u : TS} {e : Expr} {te : TE} {pos : Pos}
noncomputable def tNext : TS := fun D σ H => D.nx σ H
noncomputable def tSeq (t u : TS) : TS := fun D σ H => t { D with nx := u D } σ H
theorem pss_nil : PSs X [] tNext := fun _ _ σ H _ I h => wpAny_execs_nil ⟨σ, H, I, h⟩
theorem pss_cons (h1 : PS X st t) (h2 : PSs X rest u) : PSs X (st :: rest) (tSeq t u) := by
  intro pins s σ H D I h
  refine wpAny_execs_cons (thn (h1 pins s σ H { D with nx := u D } I h) fun f s1 q => ?_)
  cases f with
  | next =>
    obtain ⟨σ', H', I', q⟩ := q
    exact h2 pins s1 σ' H' D I' q
  | ret v => exact q
  | brk => exact q
  | cont => exact q
theorem pss_one (h1 : PS X st t) : PSs X [st] t := by
  intro pins s σ H D I h
  refine wpAny_execs_cons (thn (h1 pins s σ H D I h) fun f s1 q => ?_)
  cases f with
  | next => exact wpAny_execs_nil q
  | ret v => exact q
  | brk => exact q
  | cont => exact q
/-- in a def's body nothing is shown -/
theorem Inv.quiet {pins : List (Addr × Obj)} {σ : St} {H : Hp} {s : Shared} (I : Inv X pins σ H s) : interactive X.env = false := by simp [interactive, I.ok.kind]
/-- an expression whose value is dropped -/
noncomputable def tDrop (te : TE) : TS := fun D σ H => te σ H fun _ H1 => D.nx σ H1
theorem ps_expr (he : PE X e te) (hs : swapsWith e none pos.line X.env = pure false := by rfl) : PS X (.Expr e pos) (tDrop te) := by
  intro pins s σ H D I h
  exact wpAny_Expr_any (thn (he pins s σ H _ I h) fun v s1 ⟨x, H1, I1, r1, q1⟩ => ⟨σ, H1, I1, q1⟩) I.quiet hs
noncomputable def tRet (te : TE) : TS := fun D σ H => te σ H D.rt
theorem ps_ret (he : PE X e te) : PS X (.Return (some e) pos) (tRet te) := by
  intro pins s σ H D I h
  exact wpAny_Return_some (thn (he pins s σ H _ I h) fun v s1 ⟨x, H1, I1, r1, q1⟩ => ⟨x, σ, H1, I1, r1, q1⟩)
noncomputable def tRetN : TS := fun D _ H => D.rt .non H
theorem ps_retN : PS X (.Return none pos) tRetN := fun _ _ σ H _ I h => wpAny_Return_none ⟨.non, σ, H, I, rfl, h⟩
noncomputable def tIfS (c : TT) (t u : TS) : TS := fun D σ H => c σ H fun b H1 => if b = true then t D σ H1 else u D σ H1
theorem ps_if {c : Expr} {a b : List Stmt} {tc : TT} (hc : PT X c tc) (ha : PSs X a t) (hb : PSs X b u) : PS X (.If c a b pos) (tIfS tc t u) := by
  intro pins s σ H D I h
  refine wpAny_If (thn (hc pins s σ H _ I h) fun d s1 ⟨H1, I1, q1⟩ => ?_)
  cases d with
  | true => exact ha pins s1 σ H1 D I1 q1
  | false => exact hb pins s1 σ H1 D I1 q1
end

noncomputable abbrev TG := V → St → Hp → (St → Hp → Prop) → Prop
noncomputable def PG (X : Cx) (target : Expr) (t : TG) : Prop :=
  ∀ (pins : List (Addr × Obj)) (s : Shared) (σ : St) (H : Hp) (v : V) (u : Value) (Q : St → Hp → Prop), Inv X pins σ H s → RelV v u → t v σ H Q →
    wpAny (model X.prog X.w) X.A (assign target X.env u) (fun _ s' => ∃ σ' H', Inv X pins σ' H' s' ∧ Q σ' H') X.xe s
section
variable {X : Cx} {pos : Pos}
noncomputable def gName (i : Nat) : TG := fun v σ H Q => Q (σ.set i (some v)) H
theorem pg_name {i : Nat} {x : Str} (hN : X.N.Nodup) (hi : X.N[i]? = some x) (hx : Loc X.env.scope x) (hf : X.fn x = true ∨ X.env.scope.names.lookup x = some .local := by first | exact .inl rfl | exact .inr rfl | assumption) : PG X (.Name x pos) (gName i) := by
  intro pins s σ H v u Q I r h
  exact wpAny_assign_Name (store_ok I hN hi hx r (fun s' I' => ⟨_, H, I', h⟩) hf)
/-- target = value -/
noncomputable def tAsg (te : TE) (g : TG) : TS := fun D σ H => te σ H fun x H1 => g x σ H1 D.nx
/-- name = value -/
theorem ps_set {i : Nat} {x : Str} {e : Expr} {te : TE} {pos' : Pos} (hN : X.N.Nodup) (hi : X.N[i]? = some x) (hx : Loc X.env.scope x) (he : PE X e te) (hs : swapsWith e (some (.Name x pos')) pos.line X.env = pure false := by rfl) (hf : X.fn x = true ∨ X.env.scope.names.lookup x = some .local := by first | exact .inl rfl | exact .inr rfl | assumption) :
    PS X (.Assign [.Name x pos'] e pos) (tAsg te (gName i)) := by
  intro pins s σ H D I h
  refine wpAny_Assign_Name (thn (he pins s σ H _ I h) fun v s1 ⟨y, H1, I1, r1, q1⟩ => ?_) hs
  exact store_ok I1 hN hi hx r1 (fun s2 I2 => ⟨_, H1, I2, q1⟩) hf
end

section
variable {X : Cx} {pos : Pos}
end

/-- at turn i: it yields x (the heap may grow), or it stops -/
structure It where
  go : Nat → Hp → Prop
  yld : Nat → Hp → V → Hp → Prop
  stop : Nat → Hp → Prop
/-- the iterator's own objects may turn: they are not the frame's, not pinned, younger than the entry (or a comprehension's own) -/
noncomputable def FpOk (X : Cx) (pins : List (Addr × Obj)) (H : Hp) (b : Addr) : Prop :=
  H b = none ∧ b ≠ X.env.locals ∧ b ∉ X.fs ∧ (b ∈ X.ex ∨ X.s₀.heap.objs.size ≤ b) ∧ (∀ x c, X.env.cells.lookup x = some c → c ≠ b) ∧ ∀ p ∈ X.pn ++ pins, p.1 ≠ b
theorem Inv.fpOk {X : Cx} {pins : List (Addr × Obj)} {σ : St} {H H' : Hp} {s : Shared} {b : Addr} (I : Inv X pins σ H s) (hb : s.heap.objs.size ≤ b) (hn : H' b = none) : FpOk X pins H' b := by
  refine ⟨hn, Nat.ne_of_gt (Nat.lt_of_lt_of_le I.lt hb), I.nofs hb, .inr (Nat.le_trans I.sz hb), fun x c e z => ?_, fun p hp z => ?_⟩
  · obtain ⟨v, q⟩ := I.cell x c e
    exact absurd (Nat.lt_of_lt_of_le q.lt (by rw [z]; exact hb)) (Nat.lt_irrefl _)
  · exact absurd (Nat.lt_of_lt_of_le (Heap.lt_size (I.pin p hp).1) (by rw [z]; exact hb)) (Nat.lt_irrefl _)
structure Turn (P : Program) (w : World) (K : PySem.W.Frag) (tg : Expr) (J : It) (fp : List Addr) (it : Addr) (tn : Nat → Heap → Prop) : Prop where
  mem : it ∈ fp
  obj : ∀ i h, tn i h → ∀ b ∈ fp, ∃ o, h.get? b = some o ∧ ∀ v, o.data ≠ .cell v
  keep : ∀ i h h', tn i h → (∀ b ∈ fp, ∀ o, h.get? b = some o → h'.get? b = some o) → tn i h'
  item : ∀ (X : Cx), X.prog = P → X.w = w → X.K = K → X.calm = true → ∀ (i : Nat) (pins : List (Addr × Obj)) (s : Shared) (σ : St) (H : Hp) (E : Value → Shared → Prop), Inv X pins σ H s → (∀ b ∈ fp, FpOk X pins H b) → tn i s.heap → J.go i H →
    wpAny (model P w) X.A (pyNext (.ref it)) (fun r s1 => ∃ u, r = some u ∧
      wpAny (model P w) X.A (letOwnedTupleGo tg (.ref it) u) (fun _ s2 => ∃ x H', Inv X pins σ H' s2 ∧ RelV x u ∧ J.yld i H x H' ∧ tn (i + 1) s2.heap ∧ ∀ b ∈ fp, H' b = none) E s1) E s
  done : ∀ (X : Cx), X.prog = P → X.w = w → X.K = K → X.calm = true → ∀ (i : Nat) (pins : List (Addr × Obj)) (s : Shared) (σ : St) (H : Hp) (E : Value → Shared → Prop), Inv X pins σ H s → (∀ b ∈ fp, FpOk X pins H b) → tn i s.heap → J.stop i H →
    wpAny (model P w) X.A (pyNext (.ref it)) (fun r s1 => r = none ∧ Inv X pins σ H s1) E s
  self : ∀ (A : Around) (i : Nat) (s : Shared) (Q : Value → Shared → Prop) (E : Value → Shared → Prop), tn i s.heap → Q (.ref it) s → wpAny (model P w) A (pyIter (.ref it)) Q E s
noncomputable abbrev TI := St → Hp → (It → Hp → Prop) → Prop
/-- an iterator has come -/
noncomputable def PIE (X : Cx) (pins : List (Addr × Obj)) (σ : St) (tg : Expr) (R : It → Hp → Prop) (itv : Value) (s2 : Shared) : Prop :=
  ∃ (it : Addr) (fp : List Addr) (tn : Nat → Heap → Prop) (J : It) (H' : Hp), itv = .ref it ∧ Inv X pins σ H' s2 ∧ Turn X.prog X.w X.K tg J fp it tn ∧ tn 0 s2.heap ∧ (∀ b ∈ fp, FpOk X pins H' b) ∧ R J H'
noncomputable def PI (X : Cx) (tg iter : Expr) (wi : TI) : Prop :=
  ∀ (pins : List (Addr × Obj)) (s : Shared) (σ : St) (H : Hp) (R : It → Hp → Prop), Inv X pins σ H s → wi σ H R →
    wpAny (model X.prog X.w) X.A (eval iter X.env) (fun v s1 => wpAny (model X.prog X.w) X.A (pyIter v) (PIE X pins σ tg R) X.xe s1) X.xe s

/-- the step ahead of the store is nothing for an iterator that keeps no tuple -/
theorem go_of {M : Model} {A : Around} {E : Value → Shared → Prop} {s : Shared} {tg : Expr} {it : Addr} {u : Value} {o : Obj} {n : String} {vs : Array Value} {Q : Unit → Shared → Prop} (ho : s.heap.get? it = some o) (hc : o.cls = .type n) (hd : o.data = .fields vs)
    (hn : ["enumerate", "zip", "dict_itemiterator", "dict_reverseitemiterator", "odict_iterator", "itertools.zip_longest", "itertools.pairwise"].contains n = false) (hQ : Q () s) : wpAny M A (letOwnedTupleGo tg (.ref it) u) Q E s := by
  unfold letOwnedTupleGo
  cases tg <;> first
    | exact wpAny_pure hQ
    | (cases u <;> first
        | exact wpAny_pure hQ
        | (refine wpAny_bind (wpAny_load ho ?_)
           rw [hc, hd]
           show wpAny M A (if (["enumerate", "zip", "dict_itemiterator", "dict_reverseitemiterator", "odict_iterator", "itertools.zip_longest", "itertools.pairwise"].contains n && vs[0]? == some (rawInt _)) = true then _ else _) Q E s
           rw [if_neg (by intro h; rw [hn, Bool.false_and] at h; cases h)]
           exact wpAny_pure hQ))

/-- the list at a, as it stands at each turn (a loop may append to it) -/
noncomputable def Itl (K : PySem.W.Frag) (a : Addr) : It :=
  ⟨fun i H => ∃ xs x, SqL K H a xs ∧ xs[i]? = some x, fun i H x H' => H' = H ∧ ∀ xs, SqL K H a xs → xs[i]? = some x, fun i H => ∃ xs, SqL K H a xs ∧ xs.length ≤ i⟩
noncomputable def Itt (K : PySem.W.Frag) (a : Addr) : It :=
  ⟨fun i H => ∃ xs x, SqT K H a xs ∧ xs[i]? = some x, fun i H x H' => H' = H ∧ ∀ xs, SqT K H a xs → xs[i]? = some x, fun i H => ∃ xs, SqT K H a xs ∧ xs.length ≤ i⟩
/-- lo, lo + 1, .. (n of them) -/
noncomputable def Itr (lo : Int) (n : Nat) : It := ⟨fun i _ => i < n, fun i H x H' => H' = H ∧ x = .int (lo + i), fun i _ => n ≤ i⟩
theorem turn_list {P : Program} {w : World} {K : PySem.W.Frag} {tg : Expr} (a it : Addr) : Turn P w K tg (Itl K a) [it] it (fun i h => h.IsListIter it a i) where
  mem := by simp
  obj := fun i h st b hb => by
    have e : b = it := by simpa using hb
    subst e
    obtain ⟨o, e, c, d⟩ := st
    exact ⟨o, e, fun v z => by rw [d] at z; cases z⟩
  keep := fun i h h' st k => st.at fun o e => k it (by simp) o e
  item := by
    intro X hP hw hK hc i pins s σ H E I hf st hg
    subst hP hw hK
    obtain ⟨xs, x, hq, hx⟩ := hg
    obtain ⟨its, rv, p, hz⟩ := I.list hq
    obtain ⟨u, hu, ru⟩ := rv.get hx
    obtain ⟨f0, f1, f2, f3, f4, f5⟩ := hf it (by simp)
    refine wpAny_pyNext_list_item st p.isList (x := u) (by simpa using hu) fun h' st' sb => ?_
    have I1 : Inv X pins σ H { s with heap := h' } := I.turned (t' := s.toks) (fun b o hb e => (sb.2 b hb).trans e) f0 f1 f3 f4 f5
    obtain ⟨o, e, c, d⟩ := id st'
    exact ⟨u, rfl, go_of (s := { s with heap := h' }) e c d (by decide) ⟨x, H, I1, ru, ⟨rfl, fun ys hy => by rw [I.list_inj hy hq]; exact hx⟩, st', fun b hb => (hf b hb).1⟩⟩
  done := by
    intro X hP hw hK hc i pins s σ H E I hf st hg
    subst hP hw hK
    obtain ⟨xs, hq, hx⟩ := hg
    obtain ⟨its, rv, p, hz⟩ := I.list hq
    obtain ⟨f0, f1, f2, f3, f4, f5⟩ := hf it (by simp)
    have hl := rv.length
    exact wpAny_pyNext_list_end (I.ok.hd hc) st p.isList (by simp; lia) fun h' eb => ⟨rfl, I.turned (t' := s.toks) (fun b o hb e => eb b o hb e) f0 f1 f3 f4 f5⟩
  self := fun _ _ _ _ _ st h => wpAny_pyIter_listiter st h
theorem turn_tuple {P : Program} {w : World} {K : PySem.W.Frag} {tg : Expr} (a it : Addr) : Turn P w K tg (Itt K a) [it] it (fun i h => h.IsTupleIter it a i) where
  mem := by simp
  obj := fun i h st b hb => by
    have e : b = it := by simpa using hb
    subst e
    obtain ⟨o, e, c, d⟩ := st
    exact ⟨o, e, fun v z => by rw [d] at z; cases z⟩
  keep := fun i h h' st k => st.at fun o e => k it (by simp) o e
  item := by
    intro X hP hw hK hc i pins s σ H E I hf st hg
    subst hP hw hK
    obtain ⟨xs, x, hq, hx⟩ := hg
    obtain ⟨its, rv, p, hz⟩ := I.tuple hq
    obtain ⟨u, hu, ru⟩ := rv.get hx
    obtain ⟨f0, f1, f2, f3, f4, f5⟩ := hf it (by simp)
    refine wpAny_pyNext_tuple_item st (show s.heap.IsTuple a its.toArray from p) (x := u) (by simpa using hu) fun h' st' sb => ?_
    have I1 : Inv X pins σ H { s with heap := h' } := I.turned (t' := s.toks) (fun b o hb e => (sb.2 b hb).trans e) f0 f1 f3 f4 f5
    obtain ⟨o, e, c, d⟩ := id st'
    exact ⟨u, rfl, go_of (s := { s with heap := h' }) e c d (by decide) ⟨x, H, I1, ru, ⟨rfl, fun ys hy => by rw [I.tuple_inj hy hq]; exact hx⟩, st', fun b hb => (hf b hb).1⟩⟩
  done := by
    intro X hP hw hK hc i pins s σ H E I hf st hg
    subst hP hw hK
    obtain ⟨xs, hq, hx⟩ := hg
    obtain ⟨its, rv, p, hz⟩ := I.tuple hq
    obtain ⟨f0, f1, f2, f3, f4, f5⟩ := hf it (by simp)
    have hl := rv.length
    exact wpAny_pyNext_tuple_end (I.ok.hd hc) st (show s.heap.IsTuple a its.toArray from p) (by simp; lia) fun h' eb => ⟨rfl, I.turned (t' := s.toks) (fun b o hb e => eb b o hb e) f0 f1 f3 f4 f5⟩
  self := fun _ _ _ _ _ st h => wpAny_pyIter_tupleiter st h
theorem turn_range {P : Program} {w : World} {K : PySem.W.Frag} {tg : Expr} (it : Addr) (lo : Int) (n : Nat) : Turn P w K tg (Itr lo n) [it] it (fun i h => IsRangeIter h it (lo + (i : Nat) * 1) ((n : Int) - (i : Nat)) 1) where
  mem := by simp
  obj := fun i h st b hb => by
    have e : b = it := by simpa using hb
    subst e
    exact ⟨_, st, fun v z => by
      have z' : Data.fields _ = Data.cell v := z
      cases z'⟩
  keep := fun i h h' st k => k it (by simp) _ st
  item := by
    intro X hP hw hK hc i pins s σ H E I hf st hg
    subst hP hw hK
    obtain ⟨f0, f1, f2, f3, f4, f5⟩ := hf it (by simp)
    have W := Walks.range (prog := X.prog) (w := X.w) (I.ok.hd hc) it lo 1 n
    refine W.item i s _ _ hg st fun v h' tk hv st' kk => ?_
    obtain ⟨t, rfl⟩ := hv
    have I1 : Inv X pins σ H { s with heap := h', toks := tk } := I.turned (fun b o hb e => kk b o (by simpa using hb) e) f0 f1 f3 f4 f5
    refine ⟨_, rfl, go_of (s := { s with heap := h', toks := tk }) (n := "range_iterator") st' rfl rfl (by decide) ⟨.int (lo + i), H, I1, ⟨t, ?_⟩, ⟨rfl, rfl⟩, st', fun b hb => (hf b hb).1⟩⟩
    rw [Int.mul_one]
  done := by
    intro X hP hw hK hc i pins s σ H E I hf st hg
    subst hP hw hK
    obtain ⟨f0, f1, f2, f3, f4, f5⟩ := hf it (by simp)
    exact wpAny_pyNext_range_end (I.ok.hd hc) st (by have : n ≤ i := hg; lia) fun h' eb => ⟨rfl, I.turned (t' := s.toks) (fun b o hb e => eb b o hb e) f0 f1 f3 f4 f5⟩
  self := fun _ _ _ _ _ st h => wpAny_pyIter_rangeiter st h
end L2

namespace L2
open PySem PySem.Spec PyProof.Rows
section
variable {X : Cx} {tg : Expr}
/-- a range object just made, walked -/
theorem range_it {pins : List (Addr × Obj)} {σ : St} {H : Hp} {s : Shared} {R : It → Hp → Prop} {E : Value → Shared → Prop} {lo hi : Int} {t u v : Tok} {tk : Nat} (I : Inv X pins σ H s) (h1 : -(2 ^ 62) ≤ lo) (h2 : lo < 2 ^ 62) (h3 : -(2 ^ 62) ≤ hi) (h4 : hi < 2 ^ 62)
    (q : R (Itr lo (hi - lo).toNat) H) : wpAny (model X.prog X.w) X.A (pyIter (.ref s.heap.objs.size)) (PIE X pins σ tg R) E { s with heap := s.heap.push { cls := .type "range", data := .fields #[.int lo t, .int hi u, .int 1 v] }, toks := tk } := by
  refine wpAny_pyIter_range (IsRange.new ..) (small_one h1 h2 h3 h4) ?_
  have I1 : Inv X pins σ H { s with heap := s.heap.push { cls := .type "range", data := .fields #[.int lo t, .int hi u, .int 1 v] }, toks := tk } := I.kept fun b o e => Heap.get?_push_of_some _ e
  refine ⟨(s.heap.push { cls := .type "range", data := .fields #[.int lo t, .int hi u, .int 1 v] }).objs.size, [(s.heap.push { cls := .type "range", data := .fields #[.int lo t, .int hi u, .int 1 v] }).objs.size], _, _, H, rfl,
    I1.kept (t' := tk) fun b o e => Heap.get?_push_of_some _ e, turn_range _ lo (hi - lo).toNat, ?_, fun b hb => ?_, q⟩
  · have e1 : lo + ((0 : Nat) : Int) * 1 = lo := by simp
    have e2 : (((hi - lo).toNat : Nat) : Int) - ((0 : Nat) : Int) = Builtin.Range.rangeSize lo hi 1 := by rw [rangeSize_one]; split <;> lia
    show IsRangeIter _ _ (lo + ((0 : Nat) : Int) * 1) ((((hi - lo).toNat : Nat) : Int) - ((0 : Nat) : Int)) 1
    rw [e1, e2]
    exact Heap.get?_push_size _ rfl
  · have e : b = (s.heap.push { cls := .type "range", data := .fields #[.int lo t, .int hi u, .int 1 v] }).objs.size := by simpa using hb
    subst e
    exact I1.fpOk (Nat.le_refl _) (I1.hok.fresh (Nat.le_refl _))
/-- W: the invariant by the turn and a measure; N: what the body is to reach -/
noncomputable def tFor (wi : TI) (g : TG) (tb : TS) : TS := fun D σ H => wi σ H fun J H1 => ∃ W : Nat → Nat → St → Hp → Prop, (∃ m, W 0 m σ H1) ∧ ∀ i m σ H, W i m σ H →
  (J.stop i H ∧ D.nx σ H) ∨ (J.go i H ∧ ∃ N : St → Hp → Prop, (∀ σ' H', N σ' H' → ∃ m', m' < m ∧ W (i + 1) m' σ' H') ∧ ∀ x H', J.yld i H x H' → g x σ H' fun σ2 H2 => tb { D with nx := N, ct := N, bk := D.nx } σ2 H2)
/-- the records at fp as they stand -/
noncomputable def pinsAt (fp : List Addr) (h : Heap) : List (Addr × Obj) := fp.filterMap fun b => (h.get? b).map fun o => (b, o)
theorem mem_pinsAt {fp : List Addr} {h : Heap} {b : Addr} {o : Obj} (hb : b ∈ fp) (e : h.get? b = some o) : (b, o) ∈ pinsAt fp h := List.mem_filterMap.mpr ⟨b, hb, by rw [e]; rfl⟩
theorem of_pinsAt {fp : List Addr} {h : Heap} {p : Addr × Obj} (hp : p ∈ pinsAt fp h) : p.1 ∈ fp ∧ h.get? p.1 = some p.2 := by
  obtain ⟨b, hb, e⟩ := List.mem_filterMap.mp hp
  cases q : h.get? b with
  | none => rw [q] at e; cases e
  | some o =>
    rw [q] at e
    have e' : (b, o) = p := Option.some.inj e
    subst e'
    exact ⟨hb, q⟩
theorem Inv.pinned {pins : List (Addr × Obj)} {σ : St} {H : Hp} {s : Shared} {fp : List Addr} (I : Inv X pins σ H s) (hf : ∀ b ∈ fp, FpOk X pins H b) (ho : ∀ b ∈ fp, ∃ o, s.heap.get? b = some o ∧ ∀ v, o.data ≠ .cell v) : Inv X (pins ++ pinsAt fp s.heap) σ H s :=
  I.pins_of fun p hp => (List.mem_append.mp hp).elim (fun z => I.pin p (List.mem_append_right _ z)) fun z => by
    obtain ⟨hb, e⟩ := of_pinsAt z
    obtain ⟨f0, f1, f2, _⟩ := hf p.1 hb
    obtain ⟨o, e', d⟩ := ho p.1 hb
    rw [e] at e'; cases e'
    exact ⟨e, f0, f1, f2, d⟩
theorem Inv.unpinned {pins pl : List (Addr × Obj)} {σ : St} {H : Hp} {s : Shared} (I : Inv X (pins ++ pl) σ H s) : Inv X pins σ H s := I.pins_of fun p hp => I.pin p (List.mem_append_right _ (List.mem_append_left _ hp))
theorem ps_for {iter : Expr} {body : List Stmt} {wi : TI} {g : TG} {tb : TS} {pos : Pos} (hp : PassesOwn (model X.prog X.w) X.A X.env X.xe) (hc : X.calm = true) (hi : PI X tg iter wi) (hg : PG X tg g) (hb : PSs X body tb)
    (hs : ∀ x, foldedSetIterable iter X.env x = pure x := by intro _; rfl) : PS X (.For tg iter body [] pos) (tFor wi g tb) := by
  intro pins s σ H D I h
  refine wpAny_For (thn (hi pins s σ H _ I h) fun v s1 h1 => thn h1 fun itv s2 h2 => ?_) hs
  obtain ⟨it, fp, tn, J, H2, e, I2, T, st2, f2, W, ⟨m0, w0⟩, turn⟩ := h2
  subst e
  -- what stays true of the iterator's objects through the loop
  have stat : ∀ {H' : Hp}, (∀ b ∈ fp, H' b = none) → ∀ b ∈ fp, FpOk X pins H' b := fun hn b hb => ⟨hn b hb, (f2 b hb).2⟩
  refine codeAny_forLoop_any (fun n s' => ∃ i σ' H', Inv X pins σ' H' s' ∧ tn i s'.heap ∧ (∀ b ∈ fp, H' b = none) ∧ W i n σ' H') ?_ m0 ⟨0, σ, H2, I2, st2, fun b hb => (f2 b hb).1, w0⟩
  rintro n s3 ⟨i, σ3, H3, I3, st3, fr3, w3⟩
  rcases turn i n σ3 H3 w3 with ⟨stop, qn⟩ | ⟨go, N, hN, step⟩
  · refine wpAny_passesOwn hp (thn (T.done X rfl rfl rfl hc i pins s3 σ3 H3 X.xe I3 (stat fr3) st3 stop) fun r s4 ⟨hr, I4⟩ => ?_)
    subst hr
    exact wpAny_execs_nil ⟨σ3, H3, I4, qn⟩
  · refine wpAny_passesOwn hp (thn (T.item X rfl rfl rfl hc i pins s3 σ3 H3 X.xe I3 (stat fr3) st3 go) fun r s4 ⟨u, hr, h4⟩ => ?_)
    subst hr
    refine wpAny_passesOwn hp (thn h4 fun _ s5 ⟨x, H5, I5, r5, y5, st5, fr5⟩ => ?_)
    have I5' := I5.pinned (stat fr5) (T.obj _ _ st5)
    refine wpAny_passesOwn hp (thn (hg _ s5 σ3 H5 x u _ I5' r5 (step x H5 y5)) fun _ s6 ⟨σ6, H6, I6, q6⟩ => ?_)
    refine wpAny_passesOwn hp (thn (hb _ s6 σ6 H6 _ I6 q6) fun f s7 q7 => ?_)
    have again : ∀ {σ7 : St} {H7 : Hp}, Inv X (pins ++ pinsAt fp s5.heap) σ7 H7 s7 → N σ7 H7 → ∃ m, m < n ∧ ∃ i σ' H', Inv X pins σ' H' s7 ∧ tn i s7.heap ∧ (∀ b ∈ fp, H' b = none) ∧ W i m σ' H' := fun {σ7 H7} I7 n7 => by
      obtain ⟨m', hm, w7⟩ := hN σ7 H7 n7
      refine ⟨m', hm, i + 1, σ7, H7, I7.unpinned, T.keep _ _ _ st5 fun b hb o e => (I7.pin (b, o) (List.mem_append_right _ (List.mem_append_right _ (mem_pinsAt hb e)))).1, fun b hb => ?_, w7⟩
      obtain ⟨o, e, d⟩ := T.obj _ _ st5 b hb
      exact (I7.pin (b, o) (List.mem_append_right _ (List.mem_append_right _ (mem_pinsAt hb e)))).2.1
    cases f with
    | next => obtain ⟨σ7, H7, I7, n7⟩ := q7; exact again I7 n7
    | cont => obtain ⟨σ7, H7, I7, n7⟩ := q7; exact again I7 n7
    | brk => obtain ⟨σ7, H7, I7, q7⟩ := q7; exact ⟨σ7, H7, I7.unpinned, q7⟩
    | ret v => obtain ⟨x7, σ7, H7, I7, r7, q7⟩ := q7; exact ⟨x7, σ7, H7, I7.unpinned, r7, q7⟩
end

/-- over a list that the body leaves as it is -/
theorem for_list {K : PySem.W.Frag} {a : Addr} {xs : List V} {g : TG} {tb : TS} {D : Ends} {σ : St} {H : Hp} (Pv : Nat → St → Hp → Prop) (h0 : Pv 0 σ H) (hl : ∀ i σ H, i ≤ xs.length → Pv i σ H → SqL K H a xs)
    (hs : ∀ i x σ H, xs[i]? = some x → Pv i σ H → g x σ H fun σ2 H2 => tb { D with nx := Pv (i + 1), ct := Pv (i + 1), bk := D.nx } σ2 H2) (hd : ∀ σ H, Pv xs.length σ H → D.nx σ H) :
    ∃ W : Nat → Nat → St → Hp → Prop, (∃ m, W 0 m σ H) ∧ ∀ i m σ H, W i m σ H →
      ((Itl K a).stop i H ∧ D.nx σ H) ∨ ((Itl K a).go i H ∧ ∃ N : St → Hp → Prop, (∀ σ' H', N σ' H' → ∃ m', m' < m ∧ W (i + 1) m' σ' H') ∧ ∀ x H', (Itl K a).yld i H x H' → g x σ H' fun σ2 H2 => tb { D with nx := N, ct := N, bk := D.nx } σ2 H2) := by
  refine ⟨fun i m σ H => m = xs.length - i ∧ i ≤ xs.length ∧ Pv i σ H, ⟨xs.length, by simp, Nat.zero_le _, h0⟩, ?_⟩
  rintro i m σ H ⟨rfl, hi, p⟩
  have q := hl i σ H hi p
  by_cases hlt : i < xs.length
  · refine .inr ⟨⟨xs, xs[i], q, by simp [hlt]⟩, Pv (i + 1), fun σ' H' p' => ⟨xs.length - (i + 1), by lia, rfl, hlt, p'⟩, fun x H' y => ?_⟩
    obtain ⟨e, y⟩ := y
    subst e
    exact hs i x σ _ (y xs q) p
  · have e : i = xs.length := by lia
    subst e
    exact .inl ⟨⟨xs, q, Nat.le_refl _⟩, hd σ H p⟩
theorem for_range {lo : Int} {n : Nat} {g : TG} {tb : TS} {D : Ends} {σ : St} {H : Hp} (Pv : Nat → St → Hp → Prop) (h0 : Pv 0 σ H)
    (hs : ∀ i σ H, i < n → Pv i σ H → g (.int (lo + i)) σ H fun σ2 H2 => tb { D with nx := Pv (i + 1), ct := Pv (i + 1), bk := D.nx } σ2 H2) (hd : ∀ σ H, Pv n σ H → D.nx σ H) :
    ∃ W : Nat → Nat → St → Hp → Prop, (∃ m, W 0 m σ H) ∧ ∀ i m σ H, W i m σ H →
      ((Itr lo n).stop i H ∧ D.nx σ H) ∨ ((Itr lo n).go i H ∧ ∃ N : St → Hp → Prop, (∀ σ' H', N σ' H' → ∃ m', m' < m ∧ W (i + 1) m' σ' H') ∧ ∀ x H', (Itr lo n).yld i H x H' → g x σ H' fun σ2 H2 => tb { D with nx := N, ct := N, bk := D.nx } σ2 H2) := by
  refine ⟨fun i m σ H => m = n - i ∧ i ≤ n ∧ Pv i σ H, ⟨n, by simp, Nat.zero_le _, h0⟩, ?_⟩
  rintro i m σ H ⟨rfl, hi, p⟩
  by_cases hlt : i < n
  · refine .inr ⟨hlt, Pv (i + 1), fun σ' H' p' => ⟨n - (i + 1), by lia, rfl, hlt, p'⟩, fun x H' y => ?_⟩
    obtain ⟨e, y⟩ := y
    subst e y
    exact hs i σ _ hlt p
  · have e : i = n := by lia
    subst e
    exact .inl ⟨Nat.le_refl _, hd σ H p⟩
end L2

namespace L2
open PySem PySem.Spec PyProof.Rows

noncomputable abbrev R2 := V → V → Hp → VK → Prop
/-- a two-place operation on values: f is binaryOp op, inplaceOp op or compareOp op -/
noncomputable def OpR (X : Cx) (f : Value → Value → Sem Value) (r : R2) : Prop :=
  ∀ (pins : List (Addr × Obj)) (s : Shared) (σ : St) (H : Hp) (x y : V) (v u : Value) (Q : VK), Inv X pins σ H s → RelV x v → RelV y u → r x y H Q →
    wpAny (model X.prog X.w) X.A (f v u) (EP X pins σ Q) X.xe s
/-- a one-place operation -/
noncomputable def UnR (X : Cx) (f : Value → Sem Value) (r : V → Hp → VK → Prop) : Prop :=
  ∀ (pins : List (Addr × Obj)) (s : Shared) (σ : St) (H : Hp) (x : V) (v : Value) (Q : VK), Inv X pins σ H s → RelV x v → r x H Q →
    wpAny (model X.prog X.w) X.A (f v) (EP X pins σ Q) X.xe s
/-- a call of a value that is known (a builtin, a type) with values -/
noncomputable def CallR (X : Cx) (f : Value) (r : List V → Hp → VK → Prop) : Prop :=
  ∀ (pins : List (Addr × Obj)) (s : Shared) (σ : St) (H : Hp) (xs : List V) (us : List Value) (Q : VK), Inv X pins σ H s → Vals xs us → r xs H Q →
    wpAny (model X.prog X.w) X.A (call f us) (EP X pins σ Q) X.xe s
noncomputable def tOp (r : R2) (ta tb : TE) : TE := fun σ H Q => ta σ H fun x H1 => tb σ H1 fun y H2 => r x y H2 Q
noncomputable def tUn (r : V → Hp → VK → Prop) (ta : TE) : TE := fun σ H Q => ta σ H fun x H1 => r x H1 Q
/-- ints in, under C, and a value out -/
noncomputable def rI (C : Int → Int → Prop) (g : Int → Int → V) : R2 := fun x y H Q => ∃ i j, x = .int i ∧ y = .int j ∧ C i j ∧ Q (g i j) H
noncomputable def rI0 (g : Int → Int → V) : R2 := fun x y H Q => ∃ i j, x = .int i ∧ y = .int j ∧ Q (g i j) H
noncomputable def rU (g : Int → V) : V → Hp → VK → Prop := fun x H Q => ∃ i, x = .int i ∧ Q (g i) H

section
variable {X : Cx} {a b c : Expr} {ta tb tc : TE} {pos : Pos}

theorem binT (ha : PE X a ta) (hb : PE X b tb) {pins : List (Addr × Obj)} {s : Shared} {σ : St} {H : Hp} {R : V → V → Hp → Prop} (I : Inv X pins σ H s)
    (h : ta σ H fun x H1 => tb σ H1 fun y H2 => R x y H2) {Q : Value → Shared → Prop} {f : Value → Value → Sem Value}
    (hf : ∀ v u s2 x y H2, Inv X pins σ H2 s2 → RelV x v → RelV y u → R x y H2 → wpAny (model X.prog X.w) X.A (f v u) Q X.xe s2) :
    wpAny (model X.prog X.w) X.A (eval a X.env) (fun v s₁ => wpAny (model X.prog X.w) X.A (eval b X.env) (fun u s₂ => wpAny (model X.prog X.w) X.A (f v u) Q X.xe s₂) X.xe s₁) X.xe s := by
  refine thn (ha pins s σ H _ I h) fun v s1 ⟨x, H1, I1, r1, q1⟩ => ?_
  refine thn (hb pins s1 σ H1 _ I1 q1) fun u s2 ⟨y, H2, I2, r2, q2⟩ => ?_
  exact hf v u s2 x y H2 I2 r1 r2 q2

theorem pe_op {op : Operator} {r : R2} (ho : OpR X (binaryOp op) r) (ha : PE X a ta) (hb : PE X b tb) : PE X (.BinOp a op b pos) (tOp r ta tb) := by
  intro pins s σ H Q I h
  exact wpAny_BinOp (binT ha hb I h fun v u s2 x y H2 I2 rx ry q => ho pins s2 σ H2 x y v u Q I2 rx ry q)
theorem pe_un {op : UnaryOp} {r : V → Hp → VK → Prop} (ho : UnR X (unaryOp op) r) (ha : PE X a ta) : PE X (.UnaryOp op a pos) (tUn r ta) := by
  intro pins s σ H Q I h
  exact UnaryOp_ (thn (ha pins s σ H _ I h) fun v s1 ⟨x, H1, I1, r1, q1⟩ => ho pins s1 σ H1 x v Q I1 r1 q1)
theorem opI {f : Value → Value → Sem Value} {C : Int → Int → Prop} {g : Int → Int → Int}
    (rule : ∀ (i j : Int) (t u : Tok) (s : Shared) (Q : Value → Shared → Prop) (E : Value → Shared → Prop), C i j → Q (.int (g i j) s.toks) { s with toks := s.toks + 1 } → wpAny (model X.prog X.w) X.A (f (.int i t) (.int j u)) Q E s) :
    OpR X f (rI C fun i j => .int (g i j)) := by
  intro pins s σ H x y v u Q I rx ry h
  obtain ⟨i, j, rfl, rfl, hc, q⟩ := h
  obtain ⟨t, rfl⟩ := rx
  obtain ⟨t', rfl⟩ := ry
  exact rule i j t t' s _ _ hc ⟨.int (g i j), H, I.tok _, ⟨_, rfl⟩, q⟩
theorem opI0 {f : Value → Value → Sem Value} {g : Int → Int → Int}
    (rule : ∀ (i j : Int) (t u : Tok) (s : Shared) (Q : Value → Shared → Prop) (E : Value → Shared → Prop), Q (.int (g i j) s.toks) { s with toks := s.toks + 1 } → wpAny (model X.prog X.w) X.A (f (.int i t) (.int j u)) Q E s) :
    OpR X f (rI0 fun i j => .int (g i j)) := by
  intro pins s σ H x y v u Q I rx ry h
  obtain ⟨i, j, rfl, rfl, q⟩ := h
  obtain ⟨t, rfl⟩ := rx
  obtain ⟨t', rfl⟩ := ry
  exact rule i j t t' s _ _ ⟨.int (g i j), H, I.tok _, ⟨_, rfl⟩, q⟩
theorem opB0 {f : Value → Value → Sem Value} {g : Int → Int → Bool}
    (rule : ∀ (i j : Int) (t u : Tok) (s : Shared) (Q : Value → Shared → Prop) (E : Value → Shared → Prop), Q (.bool (g i j)) s → wpAny (model X.prog X.w) X.A (f (.int i t) (.int j u)) Q E s) :
    OpR X f (rI0 fun i j => .bl (g i j)) := by
  intro pins s σ H x y v u Q I rx ry h
  obtain ⟨i, j, rfl, rfl, q⟩ := h
  obtain ⟨t, rfl⟩ := rx
  obtain ⟨t', rfl⟩ := ry
  exact rule i j t t' s _ _ ⟨.bl (g i j), H, I, rfl, q⟩

noncomputable def CDiv (i j : Int) : Prop := 0 < j ∧ j < 1073741824
noncomputable def CMul (i j : Int) : Prop := (-(2 ^ 64) < i ∧ i < 2 ^ 64) ∨ (-(2 ^ 64) < j ∧ j < 2 ^ 64)
theorem CMul.ok {i j : Int} (h : CMul i j) : IntMulOk i j := by
  rcases h with ⟨h1, h2⟩ | ⟨h1, h2⟩
  · exact .of_left (intBits_le_64 h1 h2)
  · exact .of_right (intBits_le_64 h1 h2)
theorem op_add : OpR X (binaryOp .Add) (rI0 fun i j => .int (i + j)) := opI0 fun _ _ _ _ _ _ _ q => add_int q
theorem op_sub : OpR X (binaryOp .Sub) (rI0 fun i j => .int (i - j)) := opI0 fun _ _ _ _ _ _ _ q => sub_int q
theorem op_mul : OpR X (binaryOp .Mult) (rI CMul fun i j => .int (i * j)) := opI fun _ _ _ _ _ _ _ hc q => mul_int q hc.ok
/-- // by a positive divisor -/
theorem op_fdiv : OpR X (binaryOp .FloorDiv) (rI CDiv fun i j => .int (i / j)) := opI fun i j _ _ _ _ _ hc q => by
  have h1 : (0 : Int) < j := hc.1
  have h2 : j < 1073741824 := hc.2
  exact floordiv_int (by lia) (by rw [Int.fdiv_eq_ediv_of_nonneg i (by lia)]; exact q) (.inl (PyProof.noPylong_small (by lia)))
/-- % by a positive divisor of any size -/
theorem op_mod : OpR X (binaryOp .Mod) (rI (fun _ j => 0 < j) fun i j => .int (i % j)) := opI fun i j _ _ _ _ _ hc q => by
  have h1 : (0 : Int) < j := hc
  exact mod_int' (by lia) (by rw [Int.fmod_eq_emod_of_nonneg i (by lia)]; exact q)
theorem op_and : OpR X (binaryOp .BitAnd) (rI0 fun i j => .int (Builtin.bitAnd i j)) := opI0 fun _ _ _ _ _ _ _ q => and_int q
theorem op_or : OpR X (binaryOp .BitOr) (rI0 fun i j => .int (Builtin.bitOr i j)) := opI0 fun _ _ _ _ _ _ _ q => or_int q
theorem iop_add : OpR X (inplaceOp .Add) (rI0 fun i j => .int (i + j)) := opI0 fun _ _ _ _ _ _ _ q => iadd_int q
theorem unI {f : Value → Sem Value} {g : Int → Int}
    (rule : ∀ (i : Int) (t : Tok) (s : Shared) (Q : Value → Shared → Prop) (E : Value → Shared → Prop), Q (.int (g i) s.toks) { s with toks := s.toks + 1 } → wpAny (model X.prog X.w) X.A (f (.int i t)) Q E s) :
    UnR X f (rU fun i => .int (g i)) := by
  intro pins s σ H x v Q I rx h
  obtain ⟨i, rfl, q⟩ := h
  obtain ⟨t, rfl⟩ := rx
  exact rule i t s _ _ ⟨.int (g i), H, I.tok _, ⟨_, rfl⟩, q⟩
theorem un_neg : UnR X (unaryOp .USub) (rU fun i => .int (-i)) := unI fun _ _ _ _ _ q => neg_int q
end

/-- the scalars that == tells apart as data does -/
noncomputable def scal : V → V → Bool
  | .non, .non => true | .non, .int _ => true | .int _, .non => true | .non, .bl _ => true | .bl _, .non => true | .non, .str _ => true | .str _, .non => true
  | .int _, .int _ => true | .bl _, .bl _ => true | .str _, .str _ => true | .byt _, .byt _ => true
  | .int _, .str _ => true | .str _, .int _ => true | .bl _, .str _ => true | .str _, .bl _ => true
  | _, _ => false
noncomputable def rEq : R2 := fun x y H Q => scal x y = true ∧ Q (.bl (decide (x = y))) H
noncomputable def rNe : R2 := fun x y H Q => scal x y = true ∧ Q (.bl (!decide (x = y))) H

theorem dec_int {i j : Int} : decide (V.int i = V.int j) = (i == j) := by
  rw [Bool.eq_iff_iff]
  simp
theorem dec_bl {i j : Bool} : decide (V.bl i = V.bl j) = (i == j) := by
  rw [Bool.eq_iff_iff]
  simp
theorem dec_str {i j : Str} : decide (V.str i = V.str j) = (i == j) := by
  rw [Bool.eq_iff_iff]
  simp
theorem dec_byt {i j : Array UInt8} : decide (V.byt i = V.byt j) = (i.toList == j.toList) := by
  rw [Bool.eq_iff_iff]
  cases i
  cases j
  simp

section
variable {X : Cx} {a b c : Expr} {ta tb tc : TE} {pos : Pos}
theorem fin_bl {pins : List (Addr × Obj)} {σ : St} {H : Hp} {s : Shared} {Q : VK} {k k' : Bool} (I : Inv X pins σ H s) (q : Q (.bl k) H) (e : k = k') : EP X pins σ Q (.bool k') s := by
  subst e
  exact ⟨.bl k, H, I, rfl, q⟩
theorem op_eq : OpR X (compareOp .Eq) rEq := by
  intro pins s σ H x y v u Q I rx ry h
  obtain ⟨hs, q⟩ := h
  cases x with
  | non =>
    cases rx
    cases y with
    | non => cases ry; exact PySem.EqNone.eq_none_none (fin_bl I q (by simp))
    | bl j => cases ry; exact PySem.EqNone.eq_none_bool (fin_bl I q (by simp))
    | int j => obtain ⟨t', rfl⟩ := ry; exact PySem.EqNone.eq_none_int (fin_bl I q (by simp))
    | str j => obtain ⟨t', rfl⟩ := ry; exact PySem.EqNone.eq_none_str (fin_bl I q (by simp))
    | _ => exact absurd (show false = true from hs) Bool.false_ne_true
  | bl i =>
    cases rx
    cases y with
    | non => cases ry; exact PySem.EqNone.eq_bool_none (fin_bl I q (by simp))
    | bl j => cases ry; exact eq_bool (fin_bl I q dec_bl)
    | str j => obtain ⟨t', rfl⟩ := ry; exact PySem.EqMixed.eq_bool_str (fin_bl I q (by simp))
    | _ => exact absurd (show false = true from hs) Bool.false_ne_true
  | int i =>
    obtain ⟨t, rfl⟩ := rx
    cases y with
    | non => cases ry; exact PySem.EqNone.eq_int_none (fin_bl I q (by simp))
    | int j => obtain ⟨t', rfl⟩ := ry; exact eq_int (fin_bl I q dec_int)
    | str j => obtain ⟨t', rfl⟩ := ry; exact PySem.EqMixed.eq_int_str (fin_bl I q (by simp))
    | _ => exact absurd (show false = true from hs) Bool.false_ne_true
  | str i =>
    obtain ⟨t, rfl⟩ := rx
    cases y with
    | non => cases ry; exact PySem.EqNone.eq_str_none (fin_bl I q (by simp))
    | bl j => cases ry; exact PySem.EqMixed.eq_str_bool (fin_bl I q (by simp))
    | int j => obtain ⟨t', rfl⟩ := ry; exact PySem.EqMixed.eq_str_int (fin_bl I q (by simp))
    | str j => obtain ⟨t', rfl⟩ := ry; exact eq_str (fin_bl I q dec_str)
    | _ => exact absurd (show false = true from hs) Bool.false_ne_true
  | byt i =>
    obtain ⟨t, rfl⟩ := rx
    cases y with
    | byt j => obtain ⟨t', rfl⟩ := ry; exact PySem.W.eq_bytes (fin_bl I q dec_byt)
    | _ => exact absurd (show false = true from hs) Bool.false_ne_true
  | _ => cases y <;> exact absurd (show false = true from hs) Bool.false_ne_true
theorem op_ne : OpR X (compareOp .NotEq) rNe := by
  intro pins s σ H x y v u Q I rx ry h
  obtain ⟨hs, q⟩ := h
  cases x with
  | non =>
    cases rx
    cases y with
    | non => cases ry; exact PySem.EqNone.ne_none_none (fin_bl I q (by simp))
    | bl j => cases ry; exact PySem.EqNone.ne_none_bool (fin_bl I q (by simp))
    | int j => obtain ⟨t', rfl⟩ := ry; exact PySem.EqNone.ne_none_int (fin_bl I q (by simp))
    | str j => obtain ⟨t', rfl⟩ := ry; exact PySem.EqNone.ne_none_str (fin_bl I q (by simp))
    | _ => exact absurd (show false = true from hs) Bool.false_ne_true
  | bl i =>
    cases rx
    cases y with
    | non => cases ry; exact PySem.EqNone.ne_bool_none (fin_bl I q (by simp))
    | bl j => cases ry; exact ne_bool (fin_bl I q (congrArg not dec_bl))
    | str j => obtain ⟨t', rfl⟩ := ry; exact PySem.EqMixed.ne_bool_str (fin_bl I q (by simp))
    | _ => exact absurd (show false = true from hs) Bool.false_ne_true
  | int i =>
    obtain ⟨t, rfl⟩ := rx
    cases y with
    | non => cases ry; exact PySem.EqNone.ne_int_none (fin_bl I q (by simp))
    | int j => obtain ⟨t', rfl⟩ := ry; exact ne_int (fin_bl I q (congrArg not dec_int))
    | str j => obtain ⟨t', rfl⟩ := ry; exact PySem.EqMixed.ne_int_str (fin_bl I q (by simp))
    | _ => exact absurd (show false = true from hs) Bool.false_ne_true
  | str i =>
    obtain ⟨t, rfl⟩ := rx
    cases y with
    | non => cases ry; exact PySem.EqNone.ne_str_none (fin_bl I q (by simp))
    | bl j => cases ry; exact PySem.EqMixed.ne_str_bool (fin_bl I q (by simp))
    | int j => obtain ⟨t', rfl⟩ := ry; exact PySem.EqMixed.ne_str_int (fin_bl I q (by simp))
    | str j => obtain ⟨t', rfl⟩ := ry; exact ne_str (fin_bl I q (congrArg not dec_str))
    | _ => exact absurd (show false = true from hs) Bool.false_ne_true
  | byt i =>
    obtain ⟨t, rfl⟩ := rx
    cases y with
    | byt j => obtain ⟨t', rfl⟩ := ry; exact PySem.W.ne_bytes (fin_bl I q (congrArg not dec_byt))
    | _ => exact absurd (show false = true from hs) Bool.false_ne_true
  | _ => cases y <;> exact absurd (show false = true from hs) Bool.false_ne_true

theorem op_lt : OpR X (compareOp .Lt) (rI0 fun i j => .bl (decide (i < j))) := opB0 fun _ _ _ _ _ _ _ q => lt_int q
theorem op_gt : OpR X (compareOp .Gt) (rI0 fun i j => .bl (decide (j < i))) := opB0 fun _ _ _ _ _ _ _ q => gt_int q
theorem op_ge : OpR X (compareOp .GtE) (rI0 fun i j => .bl (decide (j ≤ i))) := opB0 fun _ _ _ _ _ _ _ q => ge_int q
/-- is None, is not None: the right side a value none -/
theorem op_isN : OpR X (compareOp .Is) (fun x y H Q => y = .non ∧ Q (.bl (decide (x = .non))) H) := by
  intro pins s σ H x y v u Q I rx ry h
  obtain ⟨rfl, q⟩ := h
  cases ry
  refine is_none_gen (fin_bl I q ?_)
  cases x <;> first
    | (cases rx; rfl)
    | (obtain ⟨t, rfl⟩ := rx; rfl)
theorem op_notN : OpR X (compareOp .IsNot) (fun x y H Q => y = .non ∧ Q (.bl (!decide (x = .non))) H) := by
  intro pins s σ H x y v u Q I rx ry h
  obtain ⟨rfl, q⟩ := h
  cases ry
  refine isnot_none_gen (fin_bl I q ?_)
  cases x <;> first
    | (cases rx; rfl)
    | (obtain ⟨t, rfl⟩ := rx; rfl)

/-- two rules for one operation: by cases -/
theorem OpR.or {f : Value → Value → Sem Value} {r r' : R2} (h : OpR X f r) (h' : OpR X f r') : OpR X f (fun x y H Q => r x y H Q ∨ r' x y H Q) := by
  intro pins s σ H x y v u Q I rx ry q
  rcases q with q | q
  · exact h pins s σ H x y v u Q I rx ry q
  · exact h' pins s σ H x y v u Q I rx ry q

theorem nomark (b : Expr) {op : CmpOp} (h : op ≠ .In := by decide) (h2 : op ≠ .NotIn := by decide) : behindInMarks op b = false := by
  have e1 : (op == CmpOp.In) = false := by cases op <;> first | rfl | exact absurd rfl h
  have e2 : (op == CmpOp.NotIn) = false := by cases op <;> first | rfl | exact absurd rfl h2
  cases b <;> simp [behindInMarks, e1, e2]
/-- a comparison as a value; hm: nomark b, or (for in, not in) by with_unfolding_all rfl -/
theorem pe_cmpR {op : CmpOp} {r : R2} (ho : OpR X (compareOp op) r) (ha : PE X a ta) (hb : PE X b tb) (hm : behindInMarks op b = false) : PE X (.Compare a [op] [b] pos) (tOp r ta tb) := by
  intro pins s σ H Q I h
  exact wpAny_Compare1 (binT ha hb I h fun v u s2 x y H2 I2 rx ry q => ho pins s2 σ H2 x y v u Q I2 rx ry q) hm
/-- a reading of a value as a test -/
noncomputable def tTest (t : TE) : TT := fun σ H Q => t σ H fun x H' => ∃ k, x = .bl k ∧ Q k H'
theorem pt_cmpR {op : CmpOp} {r : R2} (ho : OpR X (compareOp op) r) (ha : PE X a ta) (hb : PE X b tb) (hm : behindInMarks op b = false) : PT X (.Compare a [op] [b] pos) (tTest (tOp r ta tb)) := by
  intro pins s σ H Q I h
  refine wpAny_isTrue_Compare1 (thn (ha pins s σ H _ I h) fun v s1 ⟨x, H1, I1, r1, q1⟩ => thn (hb pins s1 σ H1 _ I1 q1) fun u s2 ⟨y, H2, I2, r2, q2⟩ =>
    thn (ho pins s2 σ H2 x y v u _ I2 r1 r2 q2) fun c s3 ⟨z, H3, I3, r3, k, e, q3⟩ => ?_) hm
  subst e
  cases r3
  exact wpAny_truthy_bool ⟨H3, I3, q3⟩
theorem line63 : (sizeLine : Nat) < 2 ^ 63 := by rw [sizeLine_eq]; decide
theorem op_add_str : OpR X (binaryOp .Add) (fun x y H Q => ∃ i j, x = .str i ∧ y = .str j ∧ i.length + j.length ≤ sizeLine ∧ Q (.str (i ++ j)) H) := by
  intro pins s σ H x y v u Q I rx ry h
  obtain ⟨i, j, rfl, rfl, hz, q⟩ := h
  obtain ⟨t, rfl⟩ := rx
  obtain ⟨t', rfl⟩ := ry
  exact add_str (fun t' tk => ⟨.str (i ++ j), H, I.tok _, ⟨_, rfl⟩, q⟩) hz
theorem vals1 {x : V} {us : List Value} (r : Vals [x] us) : ∃ u, us = [u] ∧ RelV x u := by
  cases r with
  | cons r1 r2 => cases r2; exact ⟨_, rfl, r1⟩
theorem vals2 {x y : V} {us : List Value} (r : Vals [x, y] us) : ∃ u w', us = [u, w'] ∧ RelV x u ∧ RelV y w' := by
  cases r with
  | cons r1 r2 =>
    cases r2 with
    | cons r3 r4 => cases r4; exact ⟨_, _, rfl, r1, r3⟩
theorem call_abs : CallR X (.builtin "abs") (fun xs H Q => ∃ i, xs = [.int i] ∧ Q (.int (if i < 0 then -i else i)) H) := by
  intro pins s σ H xs us Q I r h
  obtain ⟨i, rfl, q⟩ := h
  obtain ⟨u, rfl, t, rfl⟩ := vals1 r
  exact call_abs_int fun u tk => ⟨.int (if i < 0 then -i else i), H, I.tok _, ⟨_, rfl⟩, q⟩
theorem call_max2 (hc : X.calm = true) : CallR X (.builtin "max") (fun xs H Q => ∃ i j, xs = [.int i, .int j] ∧ Q (.int (if j > i then j else i)) H) := by
  intro pins s σ H xs us Q I r h
  obtain ⟨i, j, rfl, q⟩ := h
  obtain ⟨u, w', rfl, ⟨t, rfl⟩, ⟨t', rfl⟩⟩ := vals2 r
  refine max_two_ints (I.ok.hd hc) fun h' tk k => ⟨_, H, I.kept k, ?_, q⟩
  by_cases hj : j > i
  · rw [if_pos hj, if_pos hj]; exact ⟨_, rfl⟩
  · rw [if_neg hj, if_neg hj]; exact ⟨_, rfl⟩
theorem call_min2 (hc : X.calm = true) : CallR X (.builtin "min") (fun xs H Q => ∃ i j, xs = [.int i, .int j] ∧ Q (.int (if j < i then j else i)) H) := by
  intro pins s σ H xs us Q I r h
  obtain ⟨i, j, rfl, q⟩ := h
  obtain ⟨u, w', rfl, ⟨t, rfl⟩, ⟨t', rfl⟩⟩ := vals2 r
  refine min_two_ints (I.ok.hd hc) fun h' tk k => ⟨_, H, I.kept k, ?_, q⟩
  by_cases hj : j < i
  · rw [if_pos hj, if_pos hj]; exact ⟨_, rfl⟩
  · rw [if_neg hj, if_neg hj]; exact ⟨_, rfl⟩
theorem call_str_int : CallR X (.type "str") (fun xs H Q => ∃ i, xs = [.int i] ∧ i.natAbs.log2 < 1920 ∧ Q (.str (toString i)) H) := by
  intro pins s σ H xs us Q I r h
  obtain ⟨i, rfl, hz, q⟩ := h
  obtain ⟨u, rfl, t, rfl⟩ := vals1 r
  exact PySem.P.str_of_int hz ⟨.str _, H, I.tok _, ⟨_, rfl⟩, q⟩
end
end L2

namespace L2
open PySem PySem.Spec PyProof.Rows

structure ObjM (h : Heap) (x dx C : Addr) (mA : Str → Option Value) : Prop where
  obj : h.get? x = some (PySem.W.instObj C dx)
  ns : h.Ns1 dx mA
  ne : dx ≠ x

theorem lookIn_ns {h : Heap} {dx : Addr} {mA : Str → Option Value} (n : h.Ns1 dx mA) : ∃ od, h.get? dx = some od ∧ ∀ name, PySem.W.lookIn name od = some (mA name) := by
  obtain ⟨o, es, ep, ho, hd, hk, _, hm⟩ := n
  refine ⟨o, ho, fun name => ?_⟩
  have e := hm name
  unfold nsFind findBy at e
  rw [← Array.find?_toList] at e
  unfold PySem.W.lookIn
  rw [hd]
  dsimp only
  split
  · rename_i y q
    rw [q] at e
    exact congrArg some e
  · rename_i q
    rw [q] at e
    have a : es.toList.any (·.refKey) = false := by
      rw [List.any_eq_false]
      intro y hy
      obtain ⟨z, t, hkey⟩ := hk y (Array.mem_toList_iff.mp hy)
      simp [DictEntry.refKey, hkey]
    have a' : ¬ es.toList.any (·.refKey) = true := by rw [a]; exact Bool.false_ne_true
    rw [if_neg a']
    exact congrArg some e

theorem ObjM.look {h : Heap} {x dx C : Addr} {mA : Str → Option Value} (I : ObjM h x dx C mA) : ∃ od, PySem.W.InstAt h x (PySem.W.instObj C dx) C (some od) ∧ ∀ name, PySem.W.lookIn name od = some (mA name) :=
  let ⟨od, ho, hl⟩ := lookIn_ns I.ns
  ⟨od, ⟨I.obj, rfl, rfl, ho⟩, hl⟩

section
variable {prog : Program} {w : World} {A : Around} {E : Value → Shared → Prop} {s : Shared} {K : PySem.W.Frag} {x dx C f : Addr} {mA : Str → Option Value} {name : Str} {v : Value}

theorem get_map {expr : Bool} {Q : Value → Shared → Prop} (X : K.In s.heap) (I : ObjM s.heap x dx C mA) (hg : PySem.W.plainGet K C name = true) (hh : PySem.W.hasDictIn K C = true)
    (ha : PySem.W.findIn K (.ref C) name = some none) (hv : mA name = some v) (hv' : PySem.W.handedIn v = true) (h : Q v { s with toks := s.toks + 1 }) :
    wpAny (model prog w) A (getAttr (.ref x) name expr) Q E s := by
  obtain ⟨od, J, hl⟩ := I.look
  exact PySem.W.get_value X J (PySem.W.plainGet_of hg).1 (PySem.W.findObj_own hh ha rfl (by rw [hl, hv])) hv' h

theorem get_meth {pl : Sem Bool} {Q : Value × List Value → Shared → Prop} (X : K.In s.heap) (I : ObjM s.heap x dx C mA) (hg : PySem.W.plainGet K C name = true)
    (hf : PySem.W.findIn K (.ref C) name = some (some (.ref f))) (ht : PySem.W.isFn K (.ref f) = true) (hv : mA name = none) (h : Q (.ref f, [.ref x]) s) :
    wpAny (model prog w) A (getMethod (.ref x) name pl) Q E s := by
  obtain ⟨od, J, hl⟩ := I.look
  exact PySem.W.method_fn X J (PySem.W.plainGet_of hg).1 (PySem.W.plainGet_of hg).2 hf (beq_iff_eq.mp ht) (by show (PySem.W.lookIn name od).map (·.isSome) = some false; rw [hl, hv]; rfl) h

theorem set_map {ns : List Str} {Q : Unit → Shared → Prop} (X : K.In s.heap) (I : ObjM s.heap x dx C mA)
    (hs : PySem.W.findIn K (.ref C) "__setattr__" = some (some (.builtin "object.__setattr__"))) (hp : PySem.W.plainOver K C = true) (ht : PySem.W.takerIn K C name = some none) (hh : PySem.W.hasDictIn K C = true)
    (hw : PySem.Within mA ns) (hsz : ns.length ≤ sizeLine)
    (h : ∀ h', ObjM h' x dx C (fun y => if y = name then some v else mA y) → Heap.SameBut dx s.heap h' → Q () { s with heap := h', toks := s.toks + 2 }) :
    wpAny (model prog w) A (setAttr (.ref x) name v) Q E s := by
  obtain ⟨od, J, hl⟩ := I.look
  refine PySem.W.set_plain X J hs (PySem.W.osa_open (s := { s with toks := s.toks + 1 }) (r := none) X J hp ht fun b => ?_)
  obtain ⟨cd, hc, hd'⟩ := PySem.W.any_some hh
  have hx : s.heap.get? x = some ⟨.ref C, some dx, .plain, #[]⟩ := I.obj
  refine wpAny_bind (wpAny_pure (wpAny_bind (wpAny_bind (wpAny_loadPart hx (wpAny_bind (PySem.W.Looks.here (s := { s with toks := s.toks + 1 }) (PySem.W.looks_clsIn X hc) ?_))))))
  rw [hd']
  refine wpAny_pure (a := some dx) (wpAny_bind (wpAny_pure (wpAny_bind ?_)))
  refine wpAny_nsSet1 (s := { s with toks := s.toks + 1 }) I.ns fun h' hn2 hs2 => ?_
  obtain ⟨oD, esD, epD, hoD, hdD, hcD⟩ := hn2.count (PySem.Within.cons name v hw)
  refine wpAny_bind (wpAny_lookBehind hoD (by rw [hdD]; exact pastItsLine_dict (Nat.le_trans hcD (by rw [List.length_cons]; lia))) ?_)
  exact wpAny_pure (h _ ⟨(hs2.2 _ (Ne.symm I.ne)).trans I.obj, hn2, I.ne⟩ hs2)

/-- C(..): the dict at the heap's end, the instance behind it; then its __init__ -/
theorem make_map {R : Result → Shared → Prop} {vs : List Value} {kw : List (Str × Value)} (X : K.In s.heap) (hm : PySem.W.makesIn K C = true)
    (hi : PySem.W.findIn K (.ref C) "__init__" = some (some (.ref f))) (hf : PySem.W.typeIn K (.ref f) = some (.type "function"))
    (h : codeAny (model prog w) (A.under (.builtin "type.__call__" ⟨.ref C :: vs, kw⟩)) (.call (.ref f) ⟨.ref (s.heap.objs.size + 1) :: vs, kw⟩) (PySem.W.InitBack (s.heap.objs.size + 1) R)
      { s with heap := (s.heap.push PySem.W.emptyDict).push (PySem.W.instObj C s.heap.objs.size) }) :
    codeAny (model prog w) A (.call (.ref C) ⟨vs, kw⟩) R s := by
  obtain ⟨hh, g, d, t, os⟩ := s
  exact PySem.W.make_core (PySem.W.makes_of X hm) (PySem.W.looks_findIn X hi) (fun self => PySem.W.bind_fn X self hf) (.inl rfl) h
end

noncomputable def putF (f : Str) (v : V) : List (Str × V) → List (Str × V)
  | [] => [(f, v)]
  | (g, x) :: r => if g = f then (g, v) :: r else (g, x) :: putF f v r
theorem lookup_putF (f g : Str) (v : V) : ∀ fs : List (Str × V), (putF f v fs).lookup g = if g = f then some v else fs.lookup g
  | [] => by
    show List.lookup g [(f, v)] = _
    by_cases h : g = f
    · have hb : (g == f) = true := beq_iff_eq.mpr h
      simp only [List.lookup, hb, if_pos h]
    · have hb : (g == f) = false := beq_eq_false_iff_ne.mpr h
      simp only [List.lookup, hb, if_neg h]
  | (k, x) :: r => by
    have ih := lookup_putF f g v r
    rw [show putF f v ((k, x) :: r) = (if k = f then (k, v) :: r else (k, x) :: putF f v r) from rfl]
    by_cases hk : k = f
    · rw [if_pos hk]
      by_cases h : g = k
      · have hb : (g == k) = true := beq_iff_eq.mpr h
        simp only [List.lookup, hb, if_pos (h.trans hk)]
      · have hb : (g == k) = false := beq_eq_false_iff_ne.mpr h
        simp only [List.lookup, hb, if_neg (fun e : g = f => h (e.trans hk.symm))]
    · rw [if_neg hk]
      by_cases h : g = k
      · have hb : (g == k) = true := beq_iff_eq.mpr h
        simp only [List.lookup, hb, if_neg (fun e : g = f => hk (h.symm.trans e))]
      · have hb : (g == k) = false := beq_eq_false_iff_ne.mpr h
        simp only [List.lookup, hb]
        exact ih
theorem keys_putF (f : Str) (v : V) : ∀ fs : List (Str × V), f ∈ (putF f v fs).map (·.1) ∧ ∀ g, g ∈ fs.map (·.1) → g ∈ (putF f v fs).map (·.1)
  | [] => ⟨by simp [putF], fun g h => by simp at h⟩
  | (k, x) :: r => by
    obtain ⟨i1, i2⟩ := keys_putF f v r
    rw [show putF f v ((k, x) :: r) = (if k = f then (k, v) :: r else (k, x) :: putF f v r) from rfl]
    by_cases hk : k = f
    · rw [if_pos hk]
      subst hk
      exact ⟨by simp, fun g h => by simpa using h⟩
    · rw [if_neg hk]
      refine ⟨?_, fun g h => ?_⟩
      · rw [List.map_cons]
        exact List.mem_cons_of_mem _ i1
      · rw [List.map_cons] at h ⊢
        rcases List.mem_cons.mp h with e | e
        · exact List.mem_cons.mpr (.inl e)
        · exact List.mem_cons_of_mem _ (i2 g e)
theorem length_putF (f : Str) (v : V) : ∀ fs : List (Str × V), (putF f v fs).length ≤ fs.length + 1
  | [] => by simp [putF]
  | (k, x) :: r => by
    have ih := length_putF f v r
    rw [show putF f v ((k, x) :: r) = (if k = f then (k, v) :: r else (k, x) :: putF f v r) from rfl]
    by_cases hk : k = f
    · rw [if_pos hk, List.length_cons, List.length_cons]; lia
    · rw [if_neg hk, List.length_cons, List.length_cons]; lia

theorem RelO.some_of {v : V} {o : Option Value} (r : RelO (some v) o) : ∃ u, o = some u ∧ RelV v u := by
  cases o with
  | none => exact (show False from r).elim
  | some u => exact ⟨u, rfl, r⟩
theorem RelO.none_of {o : Option Value} (r : RelO none o) : o = none := by
  cases o with
  | none => rfl
  | some u => exact (show False from r).elim
theorem handed_of {v : V} {u : Value} (r : RelV v u) : PySem.W.handedIn u = true := by
  cases v with
  | non => cases (show u = Value.none from r); rfl
  | bl b => cases (show u = Value.bool b from r); rfl
  | int i => obtain ⟨t, e⟩ := (show ∃ t, u = Value.int i t from r); cases e; rfl
  | str x => obtain ⟨t, e⟩ := (show ∃ t, u = Value.str x t from r); cases e; rfl
  | byt b => obtain ⟨t, e⟩ := (show ∃ t, u = Value.bytes b t from r); cases e; rfl
  | flt b => obtain ⟨t, e⟩ := (show ∃ t, u = Value.float b t from r); cases e; rfl
  | ref a => cases (show u = Value.ref a from r); rfl
  | ty n => cases (show u = Value.type n from r); rfl

section
variable {P : Program} {w : World} {H H' : Hp} {h h' : Heap} {a C dx : Addr} {fs fs' : List (Str × V)}
theorem ins_get (hok : HOk P w H h) (e : H a = some (.ins C dx fs)) : ∃ mA, ObjM h a dx C mA ∧ (∀ f, RelO (fs.lookup f) (mA f)) ∧ PySem.Within mA (fs.map (·.1)) ∧ fs.length ≤ 1000 ∧ H dx = some (.own a) := by
  obtain ⟨d, z, ne, ob, mA, n, r, q⟩ := (show ObjOk P w H h a (.ins C dx fs) from hok a _ e)
  exact ⟨mA, ⟨ob, n, ne⟩, r, q, z, d⟩
end

structure Cls (K : PySem.W.Frag) (C : Addr) : Prop where
  pg : PySem.W.plainGet K C Str.empty = true
  hd : PySem.W.hasDictIn K C = true
  po : PySem.W.plainOver K C = true
  sa : PySem.W.findIn K (.ref C) "__setattr__" = some (some (.builtin "object.__setattr__"))
theorem Cls.get {K : PySem.W.Frag} {C : Addr} (c : Cls K C) (f : Str) : PySem.W.plainGet K C f = true := c.pg
/-- no class of it has the name -/
noncomputable def NoAttr (K : PySem.W.Frag) (C : Addr) (f : Str) : Prop := PySem.W.findIn K (.ref C) f = some none
theorem NoAttr.taker {K : PySem.W.Frag} {C : Addr} {f : Str} (n : NoAttr K C f) : PySem.W.takerIn K C f = some none := by
  unfold PySem.W.takerIn
  rw [show PySem.W.findIn K (.ref C) f = some none from n]
  rfl
/-- a constant of the class -/
structure Con (K : PySem.W.Frag) (C : Addr) (f : Str) (v : V) (u : Value) : Prop where
  at_ : PySem.W.findIn K (.ref C) f = some (some u)
  rel : RelV v u
  get : PySem.W.specialIn K u "__get__" = some none
  cp : PySem.W.copiedNames.contains f = false
/-- a method: a plain def of the class or of one above it -/
structure Meth (K : PySem.W.Frag) (C : Addr) (m : Str) (f : Addr) : Prop where
  at_ : PySem.W.findIn K (.ref C) m = some (some (.ref f))
  fn : PySem.W.isFn K (.ref f) = true
  kp : PySem.W.keepIn K (.ref f) = true

section
variable {X : Cx} {pins : List (Addr × Obj)} {σ : St} {H : Hp} {s : Shared} {a C dx : Addr} {fs : List (Str × V)} {f : Str} {v : V} {A : Around} {E : Value → Shared → Prop}

theorem getattr_ok {b : Bool} {Q : Value → Shared → Prop} (I : Inv X pins σ H s) (e : H a = some (.ins C dx fs)) (c : Cls X.K C) (n : NoAttr X.K C f) (l : fs.lookup f = some v)
    (h : ∀ u s', Inv X pins σ H s' → RelV v u → Q u s') : wpAny (model X.prog X.w) A (getAttr (.ref a) f b) Q E s := by
  obtain ⟨mA, O, r, _, _, _⟩ := ins_get I.hok e
  obtain ⟨u, hu, ru⟩ := RelO.some_of (v := v) (o := mA f) (by rw [← l]; exact r f)
  exact get_map I.kIn O (c.get f) c.hd n hu (handed_of ru) (h u _ (I.tok _) ru)

theorem getmeth_ok {m : Str} {g : Addr} {pl : Sem Bool} {Q : Value × List Value → Shared → Prop} (I : Inv X pins σ H s) (e : H a = some (.ins C dx fs)) (c : Cls X.K C) (k : Meth X.K C m g) (l : fs.lookup m = none)
    (h : Q (.ref g, [.ref a]) s) : wpAny (model X.prog X.w) A (getMethod (.ref a) m pl) Q E s := by
  obtain ⟨mA, O, r, _, _, _⟩ := ins_get I.hok e
  have hn : mA m = none := RelO.none_of (by rw [← l]; exact r m)
  exact get_meth I.kIn O (c.get m) k.at_ k.fn hn h

theorem setattr_ok {y : V} {u : Value} {Q : Unit → Shared → Prop} (I : Inv X pins σ H s) (e : H a = some (.ins C dx fs)) (c : Cls X.K C) (n : NoAttr X.K C f) (hl : fs.length < 1000) (ry : RelV y u)
    (h : ∀ s', Inv X pins σ (upd H a (.ins C dx (putF f y fs))) s' → Q () s') : wpAny (model X.prog X.w) A (setAttr (.ref a) f u) Q E s := by
  obtain ⟨mA, O, r, wi, _, ho⟩ := ins_get I.hok e
  have hz : (fs.map (·.1)).length ≤ sizeLine := by rw [List.length_map, sizeLine_eq]; lia
  refine set_map I.kIn O c.sa c.po n.taker c.hd wi hz fun h' O' sb => h _ ?_
  have hd : ∃ o, h'.get? dx = some o := let ⟨o, _, _, e', _⟩ := O'.ns; ⟨o, e'⟩
  refine I.write (x := a) (e := dx) (by rw [e]; exact True.intro) (.inr ho) (fun b q hb z => (sb.2 b hb).trans z) hd ?_
  refine ⟨by rw [upd_ne O.ne]; exact ho, ?_, O.ne, O'.obj, _, O'.ns, fun g => ?_, fun g hg => ?_⟩
  · have := length_putF f y fs; lia
  · show RelO ((putF f y fs).lookup g) (if g = f then some u else mA g)
    rw [lookup_putF]
    by_cases q : g = f
    · rw [if_pos q, if_pos q]; exact ry
    · rw [if_neg q, if_neg q]; exact r g
  · by_cases q : g = f
    · rw [q]; exact (keys_putF f y fs).1
    · refine (keys_putF f y fs).2 g (wi g fun z => hg ?_)
      show (if g = f then some u else mA g) = none
      rw [if_neg q]; exact z

/-- a new instance, tracked, without attributes -/
theorem Inv.made (I : Inv X pins σ H s) : Inv X pins σ (upd (upd H s.heap.objs.size (.own (s.heap.objs.size + 1))) (s.heap.objs.size + 1) (.ins C s.heap.objs.size []))
    { s with heap := (s.heap.push PySem.W.emptyDict).push (PySem.W.instObj C s.heap.objs.size) } := by
  have e1 : (s.heap.push PySem.W.emptyDict).get? s.heap.objs.size = some PySem.W.emptyDict := Heap.get?_push_size s.heap rfl
  have e2 : ((s.heap.push PySem.W.emptyDict).push (PySem.W.instObj C s.heap.objs.size)).get? (s.heap.objs.size + 1) = some (PySem.W.instObj C s.heap.objs.size) := by
    have := Heap.get?_push_size (s.heap.push PySem.W.emptyDict) (o := PySem.W.instObj C s.heap.objs.size) rfl
    rwa [Heap.size_push] at this
  have e3 : (s.heap.push PySem.W.emptyDict).Ns s.heap.objs.size (fun _ => none) := ⟨PySem.W.emptyDict, #[], _, e1, rfl, (fun e he => absurd he (by simp)), fun _ => rfl⟩
  have I1 := I.laid (a := s.heap.objs.size) (o := .own (s.heap.objs.size + 1)) (h' := s.heap.push PySem.W.emptyDict) (t' := s.toks) (fun b u q => Heap.get?_push_of_some _ q) (Nat.le_refl _) ⟨_, e1⟩
  refine I1.laid (a := s.heap.objs.size + 1) (o := .ins C s.heap.objs.size []) (t' := s.toks) (fun b u q => Heap.get?_push_of_some _ q) (Nat.le_of_eq (Heap.size_push _ _)) ?_
  have ne : s.heap.objs.size ≠ s.heap.objs.size + 1 := Nat.ne_of_lt (Nat.lt_succ_self _)
  refine ⟨by rw [upd_ne ne, upd_same], Nat.zero_le _, ne, e2, fun _ => none, (Heap.Ns1.of_empty e3).at fun o q => Heap.get?_push_of_some _ q, fun _ => True.intro, fun y hy => absurd rfl hy⟩

/-- e.f where nothing but the object is asked: through attributeBase (super) and the last hold -/
theorem attr_of {prog : Program} {w : World} {env : Env} {e : Expr} {f : Str} {pos : Pos} {s : Shared} {Q : Value → Shared → Prop} (hb : attributeBase e f env (eval e env) = eval e env)
    (h : wpAny (model prog w) A (eval e env) (fun o s₁ => wpAny (model prog w) A (getAttr o f true) Q E s₁) E s) : wpAny (model prog w) A (eval (.Attribute e f pos) env) Q E s :=
  Attribute_any_ h (by rw [arm_eval_Attribute, hb])
end

section
variable {X : Cx} {o e value : Expr} {f : Str} {pos pos' tpos : Pos} {ta tv : TE}
end

section
variable {X : Cx} {pins : List (Addr × Obj)} {σ : St} {H : Hp} {s : Shared} {A : Around} {E : Value → Shared → Prop} {Q : Value → Shared → Prop} {c : Value} {b : Bool}
/-- the type of a value, as the fragment's deciders take it; for an instance its class -/
inductive TyOf (K : PySem.W.Frag) (H : Hp) : V → Value → Prop where
  | non : TyOf K H .non (.type "NoneType")
  | bl (x : Bool) : TyOf K H (.bl x) (.type "bool")
  | int (i : Int) : TyOf K H (.int i) (.type "int")
  | str (x : Str) : TyOf K H (.str x) (.type "str")
  | flt (x : UInt64) : TyOf K H (.flt x) (.type "float")
  | lst {a : Addr} {xs : List V} (e : H a = some (.lst xs)) : TyOf K H (.ref a) (.type "list")
  | frz {a : Addr} {o : Obj} {xs : List V} (e : H a = some (.frz o (.lst xs))) : TyOf K H (.ref a) (.type "list")
  | tup {a : Addr} {xs : List V} (e : H a = some (.tup xs)) : TyOf K H (.ref a) (.type "tuple")
  | dK {a : Addr} {kvs : List (Key × V)} (e : H a = some (.dK kvs)) : TyOf K H (.ref a) (.type "dict")
  | dT {a : Addr} {kvs : List (List Key × V)} (e : H a = some (.dT kvs)) : TyOf K H (.ref a) (.type "dict")
  | ins {a C dx : Addr} {fs : List (Str × V)} (e : H a = some (.ins C dx fs)) (cl : Cls K C) (ha : PySem.W.findIn K (.ref C) "__class__" = some (some (.builtin "object.__class__")))
      (hn : PySem.W.specialIn K (.builtin "object.__class__") "__get__" = some (some (.builtin "getset_descriptor.__get__"))) (htk : PySem.W.takesIn K (.builtin "object.__class__") = some true)
      (hm : PySem.W.mroIn K C (.type "object") = some true) : TyOf K H (.ref a) (.ref C)
/-- isinstance(x, c) for one class c, a built-in or an own one: kitOne's answer -/
theorem isinst_ok {x : V} {u t : Value} (I : Inv X pins σ H s) (rx : RelV x u) (ty : TyOf X.K H x t) (e : PySem.W.kitOne X.K t c = some b) (h : ∀ tk, Q (.bool b) { s with toks := tk }) :
    wpAny (model X.prog X.w) A (call (.builtin "isinstance") [u, c]) Q E s := by
  cases ty with
  | non => cases (show u = Value.none from rx); exact PySem.W.kia_one PySem.W.kitx_none I.kIn True.intro e (fun z => nomatch z) h
  | bl y => cases (show u = Value.bool y from rx); exact PySem.W.kia_one PySem.W.kitx_bool I.kIn True.intro e (fun z => nomatch z) h
  | int i => obtain ⟨t, q⟩ := (show ∃ t, u = Value.int i t from rx); cases q; exact PySem.W.kia_one PySem.W.kitx_int I.kIn True.intro e (fun z => nomatch z) h
  | str y => obtain ⟨t, q⟩ := (show ∃ t, u = Value.str y t from rx); cases q; exact PySem.W.kia_one PySem.W.kitx_str I.kIn True.intro e (fun z => nomatch z) h
  | flt y => obtain ⟨t, q⟩ := (show ∃ t, u = Value.float y t from rx); cases q; exact PySem.W.kia_one PySem.W.kitx_float I.kIn True.intro e (fun z => nomatch z) h
  | @lst a xs ea =>
    cases (show u = Value.ref a from rx)
    obtain ⟨_, _, n, _, h1⟩ := (show ObjOk X.prog X.w H s.heap a (.lst xs) from I.hok a _ ea)
    exact PySem.W.kia_one PySem.W.kitx_list I.kIn ⟨_, h1, rfl⟩ e (fun z => nomatch z) h
  | @frz a ob xs ea =>
    cases (show u = Value.ref a from rx)
    obtain ⟨_, _, _, n, _, h1⟩ := (show ObjOk X.prog X.w H s.heap a (.frz ob (.lst xs)) from I.hok a _ ea)
    exact PySem.W.kia_one PySem.W.kitx_list I.kIn ⟨_, h1, rfl⟩ e (fun z => nomatch z) h
  | @tup a xs ea =>
    cases (show u = Value.ref a from rx)
    obtain ⟨_, _, _, p⟩ := (show ObjOk X.prog X.w H s.heap a (.tup xs) from I.hok a _ ea)
    obtain ⟨o, h1, h2, _⟩ := p
    exact PySem.W.kia_one PySem.W.kitx_tuple I.kIn ⟨o, h1, h2⟩ e (fun z => nomatch z) h
  | @dK a kvs ea =>
    cases (show u = Value.ref a from rx)
    obtain ⟨_, _, vs, _, p⟩ := (show ObjOk X.prog X.w H s.heap a (.dK kvs) from I.hok a _ ea)
    obtain ⟨o, es, ep, h1, h2, _⟩ := p
    exact PySem.W.kia_one PySem.W.kitx_dict I.kIn ⟨o, h1, h2.1⟩ e (fun z => nomatch z) h
  | @dT a kvs ea =>
    cases (show u = Value.ref a from rx)
    obtain ⟨_, _, xs, _, o, es, ep, h1, h2, _⟩ := (show ObjOk X.prog X.w H s.heap a (.dT kvs) from I.hok a _ ea)
    exact PySem.W.kia_one PySem.W.kitx_dict I.kIn ⟨o, h1, h2.1⟩ e (fun z => nomatch z) h
  | @ins a C dx fs ea cl ha hn htk hm =>
    cases (show u = Value.ref a from rx)
    obtain ⟨mA, O, _⟩ := ins_get I.hok ea
    obtain ⟨od, J, _⟩ := O.look
    exact PySem.W.kia_one (PySem.W.kitx_own (cl.get _) cl.hd ha hn htk hm) I.kIn J e (fun z => nomatch z) h
end
end L2

namespace L2
open PySem PySem.Spec PyProof.Rows

structure Room (k : Nat) (A : Around) : Prop where
  hd : A.handled = none
  dp : A.depth + 3 * k + 5 < recursionLimit
  un : A.units + 16 * k + 200 < cLine
theorem Room.mono {j k : Nat} {A : Around} (r : Room k A) (h : j ≤ k) : Room j A := ⟨r.hd, by have := r.dp; lia, by have := r.un; lia⟩
theorem Room.deeper {k : Nat} {A : Around} (r : Room (k + 1) A) (env : Env) : Room k (A.deeper env) :=
  ⟨r.hd, by have := r.dp; show A.depth + 1 + 3 * k + 5 < _; lia, by have := r.un; show A.units + 3 + 16 * k + 200 < _; lia⟩
theorem make_depth {A : Around} {C : Addr} {us : List Value} {kw : List (Str × Value)} : (A.under (.builtin "type.__call__" ⟨.ref C :: us, kw⟩)).depth = A.depth + 1 := by
  first | rfl | simp [Around.under, Code.weight, Code.isCreation, Code.isGuard, Code.isCaller, Code.frames, Code.isFrame, guardIds]
theorem make_units {A : Around} {C : Addr} {us : List Value} {kw : List (Str × Value)} : (A.under (.builtin "type.__call__" ⟨.ref C :: us, kw⟩)).units = A.units + 1 := by
  first | rfl | simp [Around.under, Code.cUnits, Code.frames, Code.isFrame]
theorem Room.make {k : Nat} {A : Around} (r : Room (k + 1) A) (C : Addr) (us : List Value) (kw : List (Str × Value)) : Room k (A.under (.builtin "type.__call__" ⟨.ref C :: us, kw⟩)) :=
  ⟨r.hd, by have := r.dp; rw [make_depth]; lia, by have := r.un; rw [make_units]; lia⟩
theorem Room.depth {k : Nat} {A : Around} (r : Room k A) : A.depth < recursionLimit := by have := r.dp; lia
theorem Room.units {k : Nat} {A : Around} (r : Room k A) : A.units + 64 < cLine := by have := r.un; lia
noncomputable def tNil : TA := fun _ H Q => Q [] H
noncomputable def tCons (ta : TE) (tr : TA) : TA := fun σ H Q => ta σ H fun x H1 => tr σ H1 fun xs H2 => Q (x :: xs) H2
section
variable {X : Cx} {e : Expr} {es : List Expr} {te : TE} {t : TA} {pos : Pos}
theorem pa_nil : PA X [] tNil := fun _ _ _ _ H Q I h => Calls.spliced_nil ⟨[], H, I, .nil, h⟩
theorem pa_cons (ha : PE X e te) (hr : PA X es t) (hs : starEach (e :: es) X.env = (false, eval e X.env) :: starEach es X.env := by rfl) : PA X (e :: es) (tCons te t) := by
  intro pos pins s σ H Q I h
  rw [hs]
  show wpAny _ _ (spliced ((false, eval e X.env) :: backTo pos (starEach es X.env))) _ _ s
  refine Calls.spliced_cons (thn (ha pins s σ H _ I h) fun u s1 ⟨x, H1, I1, r1, q1⟩ => ?_)
  exact thn (hr pos pins s1 σ H1 _ I1 q1) fun us s2 ⟨xs, H2, I2, r2, q2⟩ => ⟨x :: xs, H2, I2, .cons r1 r2, q2⟩

/-- a tuple, a list of written items -/
noncomputable def tTup (t : TA) : TE := fun σ H Q => t σ H fun xs H1 => xs.length ≤ sizeLine ∧ ∀ p, H1 p = none → Q (.ref p) (upd H1 p (.tup xs))
noncomputable def tLst (t : TA) : TE := fun σ H Q => t σ H fun xs H1 => xs.length ≤ sizeLine ∧ ∀ p, H1 p = none → Q (.ref p) (upd H1 p (.lst xs))
theorem pe_tup {x1} (h : PA X es t) : PE X (.Tuple es x1 pos) (tTup t) := by
  intro pins s σ H Q I hq
  refine wpAny_Tuple_spliced (thn (h pos pins s σ H _ I hq) fun us s1 ⟨xs, H1, I1, r, z, q⟩ => ⟨by rw [← r.length]; exact z, ?_⟩)
  have hf : H1 s1.heap.objs.size = none := I1.hok.fresh (Nat.le_refl _)
  refine ⟨.ref s1.heap.objs.size, upd H1 s1.heap.objs.size (.tup xs), I1.laid (t' := s1.toks) (fun b u e => Heap.get?_push_of_some _ e) (Nat.le_refl _) ?_, rfl, q _ hf⟩
  exact ⟨z, us, r, ⟨_, Heap.get?_push_size _ rfl, rfl, _, rfl⟩⟩
theorem pe_lst (h : PA X es t) : PE X (.List es pos) (tLst t) := by
  intro pins s σ H Q I hq
  refine wpAny_List_spliced (thn (h pos pins s σ H _ I hq) fun us s1 ⟨xs, H1, I1, r, z, q⟩ => ⟨by rw [← r.length]; exact z, ?_⟩)
  have hf : H1 s1.heap.objs.size = none := I1.hok.fresh (Nat.le_refl _)
  refine ⟨.ref s1.heap.objs.size, upd H1 s1.heap.objs.size (.lst xs), I1.laid (t' := s1.toks) (fun b u e => Heap.get?_push_of_some _ e) (Nat.le_refl _) ?_, rfl, q _ hf⟩
  exact ⟨z, us, 0, r, Heap.get?_push_size _ rfl⟩
end

/-- a def's promise: the bound arguments in the parameters' order, the heap, the wanted end, the wanted exception -/
noncomputable abbrev Sp := List V → Hp → VK → XK → Prop
/-- how an exception lies behind a call (file 08 gives it): the callers' frames, abstract heap and state ahead of the call, the wish, the exception, the state -/
noncomputable abbrev CXT := List Env → Hp → Shared → XK → Value → Shared → Prop

/-- the state at a call -/
structure Env0 (P : Program) (w : World) (K : PySem.W.Frag) (mg : Str → Option Value) (base : Heap) (A : Around) (outer : List Env) (s : Shared) (H : Hp) : Prop where
  frames : A.frames = some outer
  mod : Mod K mg base
  bs : ∀ b o, base.get? b = some o → s.heap.get? b = some o ∧ H b = none
  bsz : base.objs.size ≤ s.heap.objs.size
  funs : s.heap.FunFrames base outer
  frf : ∀ b ∈ frs outer, H b = none
  hok : HOk P w H s.heap
  bare : AllBare s.gens
/-- a call's end -/
noncomputable def CE (outer : List Env) (P : Program) (w : World) (H : Hp) (s : Shared) (Q : VK) (u : Value) (s' : Shared) : Prop :=
  ∃ v H', s'.os = s.os ∧ AllBare s'.gens ∧ Un (frs outer) [] H H' s.heap s'.heap ∧ HOk P w H' s'.heap ∧ RelV v u ∧ Q v H'
noncomputable def CR (CX : CXT) (outer : List Env) (P : Program) (w : World) (H : Hp) (s : Shared) (Q : VK) (E : XK) (r : Result) (s' : Shared) : Prop :=
  match r with
  | .ok (.ret u) => CE outer P w H s Q u s'
  | .ok _ => False
  | .error e => CX outer H s E e s'
structure FnOk (P : Program) (w : World) (K : PySem.W.Frag) (mg : Str → Option Value) (base : Heap) (CX : CXT) (k : Nat) (f : Addr) (fd : FuncData) (ps : List Str) (sp : Sp) : Prop where
  len : ∀ vs H Q E, sp vs H Q E → vs.length = ps.length
  run : ∀ (A : Around) (outer : List Env) (s : Shared) (H : Hp) (args : Args) (us : List Value) (vs : List V) (Q : VK) (E : XK), Room k A → Env0 P w K mg base A outer s H → BindsTo s fd args (ps.zip us) → Vals vs us → sp vs H Q E →
    codeAny (model P w) A (.call (.ref f) args) (CR CX outer P w H s Q E) s
theorem Env0.make {P : Program} {w : World} {K : PySem.W.Frag} {mg : Str → Option Value} {base : Heap} {A : Around} {outer : List Env} {s : Shared} {H : Hp} (e : Env0 P w K mg base A outer s H) (C : Addr) (us : List Value) (kw : List (Str × Value)) :
    Env0 P w K mg base (A.under (.builtin "type.__call__" ⟨.ref C :: us, kw⟩)) outer s H := ⟨by first | exact e.frames | (simpa [Around.under, Code.envs, Code.isFrame, pushEnvs] using e.frames), e.mod, e.bs, e.bsz, e.funs, e.frf, e.hok, e.bare⟩
section
variable {X : Cx} {pins : List (Addr × Obj)} {σ : St} {H : Hp} {s s' : Shared}
/-- from a body: what a callee wants -/
theorem Inv.env0 (I : Inv X pins σ H s) : Env0 X.prog X.w X.K X.mg X.base X.A X.stack s H :=
  ⟨I.ok.frames, I.ok.mod, I.bs, Nat.le_trans I.ok.bsz I.sz, I.stack, I.stkFree, I.hok, I.bare⟩
/-- behind a call -/
theorem Inv.after {Q : VK} {u : Value} (I : Inv X pins σ H s) (h : CE X.stack X.prog X.w H s Q u s') : EP X pins σ Q u s' := by
  obtain ⟨v, H', os, bare, un, hok, r, q⟩ := h
  obtain ⟨hh, g, d, t, os'⟩ := s'
  obtain rfl : os' = s.os := os
  exact ⟨v, H', I.call (h' := hh) (g' := g) (d' := d) (t' := t) (ch := []) un hok bare (fun b z => absurd z (by simp)), r, q⟩
end

/-- f(..): the written arguments, then the defaults dvs; E: what is wanted of an exception -/
noncomputable def tCall (sp : Sp) (dvs : List V) (E : XK) (t : TA) : TE := fun σ H Q => t σ H fun vs H1 => sp (vs ++ dvs) H1 Q E
/-- C(..): a new instance and its dict, then __init__ -/
noncomputable def tMake (C : Addr) (sp : Sp) (dvs : List V) (E : XK) (t : TA) : TE := fun σ H Q => t σ H fun vs H1 => ∀ x dx, H1 x = none → H1 dx = none → dx ≠ x →
  sp (.ref x :: (vs ++ dvs)) (upd (upd H1 dx (.own x)) x (.ins C dx [])) (fun v H2 => v = .non ∧ Q (.ref x) H2) E

/-- how the parameters are bound: us the positional arguments, kw the keywords' values by name, ds the defaults that fill up -/
noncomputable def Binds (K : PySem.W.Frag) (fd : FuncData) (ps : List Str) (ds : List Value) : Prop :=
  ∀ (s : Shared) (us : List Value), K.In s.heap → (us ++ ds).length = ps.length → BindsTo s fd ⟨us, []⟩ (ps.zip (us ++ ds))
/-- every parameter is given -/
theorem Binds.all {K : PySem.W.Frag} {fd : FuncData} {ps : List Str} (h : ∀ us : List Value, us.length = ps.length → bindArgs fd ⟨us, []⟩ = pure (ps.zip us)) : Binds K fd ps [] := fun s us _ hl => by
  rw [List.append_nil] at hl ⊢
  exact .of_eq (h us hl)

/-- an exception of a callee reaches what this body wants of exceptions -/
noncomputable def Passes (CX : CXT) (X : Cx) (E : XK) : Prop := ∀ (pins : List (Addr × Obj)) (σ : St) (H : Hp) (s : Shared) (e : Value) (s' : Shared), Inv X pins σ H s → CX X.stack H s E e s' → X.xe e s'

section
variable {X : Cx} {CX : CXT} {k : Nat} {f C : Addr} {fd : FuncData} {ps : List Str} {sp : Sp} {dvs : List V} {ds : List Value} {E : XK} {x m : Str} {p pos apos : Pos} {e o : Expr} {es : List Expr} {ta : TE} {t : TA}

/-- the callee runs -/
theorem run_fn {pins : List (Addr × Obj)} {σ : St} {H : Hp} {s : Shared} {Q : VK} {us : List Value} {vs : List V} (F : FnOk X.prog X.w X.K X.mg X.base CX k f fd ps sp) (hr : Room k X.A) (hb : Binds X.K fd ps ds) (hd : Vals dvs ds) (hx : Passes CX X E)
    (I : Inv X pins σ H s) (r : Vals vs us) (h : sp (vs ++ dvs) H Q E) : wpAny (model X.prog X.w) X.A (call (.ref f) us) (EP X pins σ Q) X.xe s := by
  have r2 : Vals (vs ++ dvs) (us ++ ds) := r.append hd
  have hl : (us ++ ds).length = ps.length := by rw [← r2.length]; exact F.len _ _ _ _ h
  refine wpAny_call (codeAny_mono (F.run X.A X.stack s H ⟨us, []⟩ (us ++ ds) (vs ++ dvs) Q E hr I.env0 (hb s us I.kIn hl) r2 h) fun r s' hq => ?_)
  cases r with
  | error e => exact hx pins σ H s e s' I hq
  | ok fl =>
    cases fl with
    | ret u => exact I.after hq
    | next => exact False.elim hq
    | brk => exact False.elim hq
    | cont => exact False.elim hq

theorem pe_call (F : FnOk X.prog X.w X.K X.mg X.base CX k f fd ps sp) (hr : Room k X.A) (hg : Gl X x) (hm : X.mg x = some (.ref f)) (hk : PySem.W.keepIn X.K (.ref f) = true) (hb : Binds X.K fd ps ds) (hd : Vals dvs ds) (hx : Passes CX X E)
    (ha : PA X (e :: es) t) (hdb : (x == ("__debug__" : Str)) = false := by decide) (he : starEach (e :: es) X.env = (false, eval e X.env) :: starEach es X.env := by rfl) (hpl : (backTo pos (starEach es X.env)).any (·.1) = false := by rfl) :
    PE X (.Call (.Name x p) (e :: es) [] pos) (tCall sp dvs E t) := by
  intro pins s σ H Q I h
  refine wpAny_Call_Name_kw (ld_glob I hg hm ?_ hdb)
  refine PySem.W.callWith_K (h₀ := X.base) I.ok.mod.kin hk (thn (ha pos pins s σ H _ I h) fun us s1 ⟨vs, H1, I1, r, q⟩ => ⟨I1.kIn, ?_⟩) he hpl
  exact run_fn F hr hb hd hx I1 r q
/-- what a class must have to be made -/
structure Mk (K : PySem.W.Frag) (C f : Addr) : Prop where
  makes : PySem.W.makesIn K C = true
  init : PySem.W.findIn K (.ref C) "__init__" = some (some (.ref f))
  fn : PySem.W.isFn K (.ref f) = true
  kp : PySem.W.keepIn K (.ref C) = true

theorem run_make {pins : List (Addr × Obj)} {σ : St} {H : Hp} {s : Shared} {Q : VK} {us : List Value} {vs : List V} (M : Mk X.K C f) (F : FnOk X.prog X.w X.K X.mg X.base CX k f fd ps sp) (hr : Room (k + 1) X.A) (hb : Binds X.K fd ps ds) (hd : Vals dvs ds)
    (hx : Passes CX X E) (I : Inv X pins σ H s) (r : Vals vs us)
    (h : ∀ x dx, H x = none → H dx = none → dx ≠ x → sp (.ref x :: (vs ++ dvs)) (upd (upd H dx (.own x)) x (.ins C dx [])) (fun v H2 => v = .non ∧ Q (.ref x) H2) E) :
    wpAny (model X.prog X.w) X.A (call (.ref C) us) (EP X pins σ Q) X.xe s := by
  have hq := h (s.heap.objs.size + 1) s.heap.objs.size (I.hok.fresh (Nat.le_succ _)) (I.hok.fresh (Nat.le_refl _)) (Nat.ne_of_lt (Nat.lt_succ_self _))
  have I2 := Inv.made (C := C) I
  have r2 : Vals (V.ref (s.heap.objs.size + 1) :: (vs ++ dvs)) (Value.ref (s.heap.objs.size + 1) :: (us ++ ds)) := .cons rfl (r.append hd)
  have hl : (Value.ref (s.heap.objs.size + 1) :: us ++ ds).length = ps.length := by
    have e := r2.length
    rw [F.len _ _ _ _ hq] at e
    exact e.symm
  refine wpAny_call (make_map (f := f) I.kIn M.makes M.init (beq_iff_eq.mp M.fn) (codeAny_mono (F.run _ X.stack _ _ ⟨Value.ref (s.heap.objs.size + 1) :: us, []⟩ (Value.ref (s.heap.objs.size + 1) :: (us ++ ds)) _ _ E (hr.make C us [])
    (I2.env0.make C us []) (hb _ (Value.ref (s.heap.objs.size + 1) :: us) I2.kIn hl) r2 hq) fun r s' hq' => ?_))
  cases r with
  | error e => exact hx pins σ _ _ e s' I2 hq'
  | ok fl =>
    cases fl with
    | ret u =>
      obtain ⟨v, H', I3, rv, ev, q3⟩ := I2.after hq'
      subst ev
      exact ⟨rv, ⟨V.ref (s.heap.objs.size + 1), H', I3, rfl, q3⟩⟩
    | next => exact False.elim hq'
    | brk => exact False.elim hq'
    | cont => exact False.elim hq'
theorem pe_make (M : Mk X.K C f) (F : FnOk X.prog X.w X.K X.mg X.base CX k f fd ps sp) (hr : Room (k + 1) X.A) (hg : Gl X x) (hm : X.mg x = some (.ref C)) (hb : Binds X.K fd ps ds) (hd : Vals dvs ds) (hx : Passes CX X E)
    (ha : PA X (e :: es) t) (hdb : (x == ("__debug__" : Str)) = false := by decide) (he : starEach (e :: es) X.env = (false, eval e X.env) :: starEach es X.env := by rfl) (hpl : (backTo pos (starEach es X.env)).any (·.1) = false := by rfl) :
    PE X (.Call (.Name x p) (e :: es) [] pos) (tMake C sp dvs E t) := by
  intro pins s σ H Q I h
  refine wpAny_Call_Name_kw (ld_glob I hg hm ?_ hdb)
  refine PySem.W.callWith_K (h₀ := X.base) I.ok.mod.kin M.kp (thn (ha pos pins s σ H _ I h) fun us s1 ⟨vs, H1, I1, r, q⟩ => ⟨I1.kIn, ?_⟩) he hpl
  exact run_make M F hr hb hd hx I1 r q
end

section
variable {X : Cx} {CX : CXT} {k : Nat} {f C : Addr} {fd : FuncData} {ps ks : List Str} {sp : Sp} {E : XK} {x m : Str} {p pos apos kpos : Pos} {e o : Expr} {es : List Expr} {kws : List Keyword} {te ta : TE} {t tk : TA} {nm : Option Str}
/-- how a call with keywords binds: g puts the positional values us and the keywords' values ws (names ks) in the parameters' order, defaults among them -/
structure KBinds (K : PySem.W.Frag) (fd : FuncData) (ps ks : List Str) (g : List Value → List Value → List Value) (gV : List V → List V → List V) : Prop where
  to : ∀ (s : Shared) (us ws : List Value), K.In s.heap → (g us ws).length = ps.length → BindsTo s fd ⟨us, ks.zip ws⟩ (ps.zip (g us ws))
  rel : ∀ {vs : List V} {us : List Value} {zs : List V} {ws : List Value}, Vals vs us → Vals zs ws → Vals (gV vs zs) (g us ws)
variable {g : List Value → List Value → List Value} {gV : List V → List V → List V}
end

/-- names: the parameters first -/
structure FnScope (N P : List Str) (sc : Scope) : Prop where
  kind : sc.kind = .function
  co : sc.isCoroutine = false
  gen : sc.isGenerator = false
  nd : N.Nodup
  pre : N.take P.length = P
  par : ∀ x ∈ P, sc.names.lookup x = some .local ∨ sc.names.lookup x = some .cell
  nofree : ∀ y ∈ sc.names, y.2 ≠ .free

theorem bindL_out {kindOf : Str → Option NameKind} {x : Str} : ∀ {binds : List (Str × Value)} {m : Str → Option Value}, (∀ v, (x, v) ∉ binds) → bindL kindOf binds m x = m x
  | [], _, _ => rfl
  | (n, v) :: r, m, h => by
    unfold bindL
    rw [bindL_out fun w hw => h w (List.mem_cons_of_mem _ hw)]
    split
    · have : x ≠ n := by rintro rfl; exact h v List.mem_cons_self
      simp [this]
    · rfl
theorem bindC_out {kindOf : Str → Option NameKind} {x : Str} : ∀ {binds : List (Str × Value)} {m : Str → Option Value}, (∀ v, (x, v) ∉ binds) → bindC kindOf binds m x = m x
  | [], _, _ => rfl
  | (n, v) :: r, m, h => by
    unfold bindC
    rw [bindC_out fun w hw => h w (List.mem_cons_of_mem _ hw)]
    split
    · rfl
    · have : x ≠ n := by rintro rfl; exact h v List.mem_cons_self
      simp [this]
theorem bindL_get {kindOf : Str → Option NameKind} {x : Str} {v : Value} : ∀ {P : List Str} {vs : List Value} {i : Nat} {m : Str → Option Value}, P.Nodup → P[i]? = some x → vs[i]? = some v → kindOf x = some .local →
    bindL kindOf (P.zip vs) m x = some v
  | [], _, _, _, _, h, _, _ => by simp at h
  | _ :: _, [], _, _, _, _, h, _ => by simp at h
  | p :: P, w :: vs, 0, m, nd, h1, h2, hk => by
    simp at h1 h2; subst h1; subst h2
    show bindL kindOf ((p, w) :: P.zip vs) m p = _
    unfold bindL
    rw [bindL_out fun v hv => (List.nodup_cons.mp nd).1 (List.of_mem_zip hv).1, if_pos hk]
    simp
  | p :: P, w :: vs, i + 1, m, nd, h1, h2, hk => by
    show bindL kindOf ((p, w) :: P.zip vs) m x = _
    unfold bindL
    exact bindL_get (i := i) (List.nodup_cons.mp nd).2 (by simpa using h1) (by simpa using h2) hk
theorem bindC_get {kindOf : Str → Option NameKind} {x : Str} {v : Value} : ∀ {P : List Str} {vs : List Value} {i : Nat} {m : Str → Option Value}, P.Nodup → P[i]? = some x → vs[i]? = some v → kindOf x ≠ some .local →
    bindC kindOf (P.zip vs) m x = some v
  | [], _, _, _, _, h, _, _ => by simp at h
  | _ :: _, [], _, _, _, _, h, _ => by simp at h
  | p :: P, w :: vs, 0, m, nd, h1, h2, hk => by
    simp at h1 h2; subst h1; subst h2
    show bindC kindOf ((p, w) :: P.zip vs) m p = _
    unfold bindC
    rw [bindC_out fun v hv => (List.nodup_cons.mp nd).1 (List.of_mem_zip hv).1, if_neg hk]
    simp
  | p :: P, w :: vs, i + 1, m, nd, h1, h2, hk => by
    show bindC kindOf ((p, w) :: P.zip vs) m x = _
    unfold bindC
    exact bindC_get (i := i) (List.nodup_cons.mp nd).2 (by simpa using h1) (by simpa using h2) hk

/-- the names' values at the entry -/
noncomputable def start (N : List Str) (vs : List V) : St := vs.map some ++ List.replicate (N.length - vs.length) none

/-- the context of a def's body, at its entry; an exception leaves the frame, then lies as CX says -/
noncomputable def cxOf (CX : CXT) (P : Program) (w : World) (K : PySem.W.Frag) (mg : Str → Option Value) (base : Heap) (N : List Str) (qual : Str) (scope : Scope) (f : Addr) (cd : Value) (A : Around) (outer : List Env) (s : Shared) (H : Hp) (E : XK) : Cx where
  prog := P
  w := w
  K := K
  mg := mg
  base := base
  A := A.deeper (envOfC qual scope s.heap.objs.size f cd)
  N := N
  s₀ := s
  H₀ := H
  env := envOfC qual scope s.heap.objs.size f cd
  outer := outer
  stack := envOfC qual scope s.heap.objs.size f cd :: outer
  ex := []
  calm := true
  fn := fun _ => true
  pn := []
  xe := fun e s' => wpAny (model P w) (A.deeper (envOfC qual scope s.heap.objs.size f cd)) (leaving (envOfC qual scope s.heap.objs.size f cd) e) (fun _ s'' => CX outer H s E e s'') (fun e' s'' => CX outer H s E e' s'') s'

theorem cell_has {sc : Scope} {n : Nat} {x : Str} (h : sc.names.lookup x = some .cell) : ∃ c, (cellsFrom n sc.names []).lookup x = some c := by
  have q := PySem.W.cellsFrom_some sc.names n [] (.inl h)
  exact Option.isSome_iff_exists.mp q

theorem inv_start {CX : CXT} {P : Program} {w : World} {K : PySem.W.Frag} {mg : Str → Option Value} {base : Heap} {N ps : List Str} {qual : Str} {scope : Scope} {f : Addr} {cd : Value} {A : Around} {outer : List Env} {s s1 : Shared} {H : Hp} {E : XK} {us : List Value} {vs : List V}
    (S : FnScope N ps scope) (hd : A.handled = none) (e0 : Env0 P w K mg base A outer s H) (hl : vs.length = ps.length) (r : Vals vs us)
    (x : InCallC s s.heap.objs.size (bindL (envOfC qual scope s.heap.objs.size f cd).kindOf (ps.zip us) fun _ => none) (cellsFrom (s.heap.objs.size + 1) scope.names []) (bindC (envOfC qual scope s.heap.objs.size f cd).kindOf (ps.zip us) fun _ => none) s1) :
    Inv (cxOf CX P w K mg base N qual scope f cd A outer s H E) [] (start N vs) H s1 := by
  have hpl : ps.length ≤ N.length := by have := congrArg List.length S.pre; rw [List.length_take] at this; lia
  obtain ⟨h1, tk, rfl, hk⟩ := x.done
  have noA : ∀ b : Addr, b ∉ (cxOf CX P w K mg base N qual scope f cd A outer s H E).ex := fun b z => absurd (show b ∈ ([] : List Addr) from z) (by simp)
  refine ⟨⟨e0.mod, S.kind, rfl, rfl, Nat.le_refl _, fun y z c h1 h2 => ?_, fun y hy => ?_, fun y c _ h => ?_, fun _ => hd, Around.frames_deeper e0.frames, .inr ⟨rfl, rfl⟩, fun b z => absurd z (noA b), e0.bs, e0.bsz, fun b _ _ => noA b, fun b z => absurd z (noA b), e0.funs, e0.frf⟩,
    rfl, e0.bare, Un.kept hk, ⟨_, x.toInCall.ns, fun i y v h1 h2 h3 => ?_⟩, fun y c h => ⟨_, x.cell y c h⟩, e0.hok.fresh (Nat.le_refl _), fun y c h => ?_, fun p hp => absurd (show p ∈ ([] : List (Addr × Obj)) from hp) (by simp), e0.hok.kept hk, ?_⟩
  · exact name_of_addr x.apart (PySem.mem_of_lookup h1) (PySem.mem_of_lookup h2)
  · have hy : scope.names.lookup y = some .cell ∨ scope.names.lookup y = some .free := hy
    rcases hy with hy | hy
    · exact cell_has hy
    · exact absurd rfl (S.nofree _ (PySem.mem_of_lookup hy))
  · exact Nat.le_of_lt (x.above y c (PySem.mem_of_lookup h))
  · have hi : i < vs.length := by
      unfold start at h2
      by_cases hi : i < vs.length
      · exact hi
      · rw [List.getElem?_append_right (by simpa using hi)] at h2
        rw [List.getElem?_replicate] at h2
        split at h2 <;> cases h2
    have ha : vs[i]? = some v := by
      unfold start at h2
      rw [List.getElem?_append_left (by simpa using hi), List.getElem?_map] at h2
      cases e : vs[i]? with
      | none => rw [e] at h2; cases h2
      | some a => rw [e] at h2; cases h2; rfl
    obtain ⟨u, hu, rv⟩ := r.get ha
    have hp : ps[i]? = some y := by
      rw [← S.pre, List.getElem?_take_of_lt (by lia)]; exact h1
    have ndP : ps.Nodup := by rw [← S.pre]; exact S.nd.sublist (List.take_sublist _ _)
    refine ⟨u, rv, ?_⟩
    rcases S.par y (List.mem_of_getElem? hp) with k | k
    · exact .inl ⟨k, bindL_get ndP hp hu k⟩
    · obtain ⟨c, e⟩ := cell_has (n := s.heap.objs.size + 1) k
      refine .inr ⟨.inl k, c, e, ?_⟩
      have q := x.cell y c e
      rw [bindC_get ndP hp hu (by show scope.names.lookup y ≠ _; rw [k]; decide)] at q
      exact q
  · exact e0.hok.fresh (Nat.le_of_lt (x.above y c (PySem.mem_of_lookup h)))
  · unfold start
    show _ = N.length
    rw [List.length_append, List.length_map, List.length_replicate]
    lia

/-- THE RULE: a def (or a method) of the text, by its body. The body's reading t is chosen for each entry; it is run at the parameters' values -/
theorem fn_of {CX : CXT} {P : Program} {w : World} {K : PySem.W.Frag} {mg : Str → Option Value} {base : Heap} {k : Nat} {f : Addr} {name qual : Str} {params : Arguments} {body : List Stmt} {scope : Scope} {dV kV doc pm cdv ct oc : Value} {an od : Option Addr}
    {osl : Array (Option Value)} {N ps : List Str} {sp : Sp} (lk : K.lookup f = some ⟨oc, od, .func (PySem.W.fnOf name qual params body scope dV kV doc pm an cdv ct), osl⟩) (hcd : PySem.W.codeIn K cdv qual = true) (S : FnScope N ps scope)
    (len : ∀ vs H Q E, sp vs H Q E → vs.length = ps.length)
    (hbody : ∀ (A : Around) (outer : List Env) (s : Shared) (H : Hp) (vs : List V) (Q : VK) (E : XK), Room k (A.deeper (envOfC qual scope s.heap.objs.size f cdv)) → sp vs H Q E →
      ∃ t, PSs (cxOf CX P w K mg base N qual scope f cdv A outer s H E) body t ∧ t { nx := fun _ H' => Q .non H', rt := Q } (start N vs) H) :
    FnOk P w K mg base CX (k + 1) f (PySem.W.fnOf name qual params body scope dV kV doc pm an cdv ct) ps sp := by
  refine ⟨len, fun A outer s H args us vs Q E hr e0 hb r hsp => ?_⟩
  have hl := len _ _ _ _ hsp
  have KX : K.In s.heap := e0.mod.kin.keeps fun b o e => (e0.bs b o e).1
  have lim : s.heap.NoLimit := e0.mod.nolimit.keeps fun b o e => (e0.bs b o e).1
  have hkind : ∀ y ∈ ps.zip us, scope.names.lookup y.1 = some .local ∨ (scope.names.lookup y.1 = some .cell ∧ ((cellsFrom (s.heap.objs.size + 1) scope.names []).lookup y.1).isSome = true) := fun ⟨n, v⟩ hy => by
    rcases S.par n (List.of_mem_zip hy).1 with q | q
    · exact .inl q
    · exact .inr ⟨q, PySem.W.cellsFrom_some _ _ _ (.inl q)⟩
  refine codeAny_call_function hr.depth (KX _ _ lk) rfl S.co S.gen rfl (PySem.W.codeRec_of KX hcd) (hb _ _ _ _ ?_)
  refine wpAny_newFunctionEnv_cells S.kind hkind fun env he s1 x => ?_
  subst he
  refine ⟨lim.keeps x.toInCall.keep, codeAny_func ?_⟩
  obtain ⟨t, ht, hq⟩ := hbody A outer s H vs Q E (hr.deeper _) hsp
  have I : Inv (cxOf CX P w K mg base N qual scope f cdv A outer s H E) [] (start N vs) H s1 := inv_start S hr.hd e0 hl r x
  refine wpAny_mono (ht [] s1 (start N vs) H _ I hq) (fun fl s' hs => ?_) fun e s' hs => hs
  have fin : ∀ {σ' : St} {H' : Hp} {v : V} {u : Value}, Inv (cxOf CX P w K mg base N qual scope f cdv A outer s H E) [] σ' H' s' → RelV v u → Q v H' → CE outer P w H s Q u s' :=
    fun {σ' H' v u} J rv q => ⟨v, H', J.os, J.bare, J.base, J.hok, rv, q⟩
  cases fl with
  | ret u =>
    obtain ⟨v, σ', H', J, rv, q⟩ := hs
    exact fin J rv q
  | next =>
    obtain ⟨σ', H', J, q⟩ := hs
    exact fin (v := V.non) (u := Value.none) J rfl q
  | brk =>
    obtain ⟨_, _, _, q⟩ := hs
    exact False.elim q
  | cont =>
    obtain ⟨_, _, _, q⟩ := hs
    exact False.elim q
end L2

namespace L2
open PySem PySem.Spec PyProof.Rows
section
variable {X : Cx} {x : Str} {p pos : Pos} {e : Expr} {es : List Expr} {t : TA} {id T : String} {r : List V → Hp → VK → Prop}

noncomputable def tCB (r : List V → Hp → VK → Prop) (t : TA) : TE := fun σ H Q => t σ H fun vs H1 => r vs H1 Q
/-- f(e, ..), f a built-in function -/
theorem pe_callB (hc : CallR X (.builtin id) r) (hg : Gl X x) (hm : X.mg x = none) (hv : bootBuiltins x = some (.builtin id)) (ha : PA X (e :: es) t) (hn : x ≠ "__name__" := by decide) (hdb : (x == ("__debug__" : Str)) = false := by decide)
    (he : starEach (e :: es) X.env = (false, eval e X.env) :: starEach es X.env := by rfl) (hpl : (backTo pos (starEach es X.env)).any (·.1) = false := by rfl) : PE X (.Call (.Name x p) (e :: es) [] pos) (tCB r t) := by
  intro pins s σ H Q I h
  refine wpAny_Call_Name_kw (ld_blt I hg hm hv ?_ hn hdb)
  exact PyProof.Rows.callWith_builtin1 (thn (ha pos pins s σ H _ I h) fun us s1 ⟨vs, H1, I1, r1, q1⟩ => hc pins s1 σ H1 vs us Q I1 r1 q1) he hpl
/-- T(e, ..), T a built-in type -/
theorem pe_callTy (hc : CallR X (.type T) r) (hg : Gl X x) (hm : X.mg x = none) (hv : bootBuiltins x = some (.type T)) (ha : PA X (e :: es) t) (hn : x ≠ "__name__" := by decide) (hdb : (x == ("__debug__" : Str)) = false := by decide)
    (he : starEach (e :: es) X.env = (false, eval e X.env) :: starEach es X.env := by rfl) (hpl : (backTo pos (starEach es X.env)).any (·.1) = false := by rfl) : PE X (.Call (.Name x p) (e :: es) [] pos) (tCB r t) := by
  intro pins s σ H Q I h
  refine wpAny_Call_Name_kw (ld_blt I hg hm hv ?_ hn hdb)
  exact PyProof.Rows.callWith_type1 (thn (ha pos pins s σ H _ I h) fun us s1 ⟨vs, H1, I1, r1, q1⟩ => hc pins s1 σ H1 vs us Q I1 r1 q1) he hpl
end
end L2

namespace HT
open PySem PyProof.Rows

section
open PySem.SeqAt
open PySem.AutoSeq1 (wpAny_loadPart')
open PySem.MeetsSeq PySem.MeetsSeq2 PySem.MeetsSeq3

end

section
variable {prog : Program} {w : World} {A : Around} {E : Value → Shared → Prop} {s : Shared}

/-- t + u, t not empty -/
theorem cat_tup {t b : Addr} {vs ws : List Value} {Q : Value → Shared → Prop} (ht : IsTup s.heap t vs.toArray) (hb : IsTup s.heap b ws.toArray) (hv : vs ≠ [])
    (h1 : ws = [] → Q (.ref t) s) (h2 : ws ≠ [] → Q (.ref s.heap.objs.size) { s with heap := s.heap.push { cls := .type "tuple", data := .seq (vs ++ ws).toArray } })
    (hsz : vs.length + ws.length ≤ sizeLine) : wpAny (model prog w) A (binaryOp .Add (.ref t) (.ref b)) Q E s := by
  obtain ⟨⟨cls, dd, data, sl⟩, ho, hc, n, hd⟩ := id ht
  obtain ⟨⟨cls2, dd2, data2, sl2⟩, ho2, hc2, n2, hd2⟩ := id hb
  simp only at hc hd hc2 hd2
  subst hc hd hc2 hd2
  have e : vs.toArray ++ ws.toArray = (vs ++ ws).toArray := by simp
  by_cases hw : ws = []
  · exact concat_meets ⟨_, ho, rfl⟩ ⟨_, ho2, rfl⟩ noFill_tuple_add seq_tuple_add PySem.F.slot_tuple_add PySem.F.entry_tuple_add (PySem.F.args_tuple_add_2 _ _)
      (tuple_addW1 t b vs.toArray ws.toArray n n2 dd dd2 sl sl2 (by simpa using hv) (by simp [hw])) ⟨ho, ho2, h1 hw⟩
  · refine concat_meets ⟨_, ho, rfl⟩ ⟨_, ho2, rfl⟩ noFill_tuple_add seq_tuple_add PySem.F.slot_tuple_add PySem.F.entry_tuple_add (PySem.F.args_tuple_add_2 _ _)
      (tuple_addW2 t b vs.toArray ws.toArray n n2 dd dd2 sl sl2 (by simpa using hv) (by simpa using hw) (by rw [List.size_toArray, List.size_toArray]; exact hsz)) ⟨ho, ho2, ?_⟩
    rw [e]
    exact h2 hw

/-- a slice's bound as a place among n (d where it is left out) -/
noncomputable def sIx (n d : Nat) : Option Int → Nat
  | none => d
  | some v => if v < 0 then (v + (n : Int)).toNat else min v.toNat n
theorem sIx_le (n d : Nat) (hd : d ≤ n) (o : Option Int) : sIx n d o ≤ n := by
  cases o with
  | none => exact hd
  | some v =>
    show (if v < 0 then (v + (n : Int)).toNat else min v.toNat n) ≤ n
    by_cases hv : v < 0
    · rw [if_pos hv]; lia
    · rw [if_neg hv]; exact Nat.min_le_right _ _
theorem clip_eq (v : Int) (n d : Nat) : (if v < 0 then max (v + (n : Int)) 0 else min v (n : Int)) = ((sIx n d (some v) : Nat) : Int) := by
  show (if v < 0 then max (v + (n : Int)) 0 else min v (n : Int)) = (((if v < 0 then (v + (n : Int)).toNat else min v.toNat n) : Nat) : Int)
  by_cases hv : v < 0
  · simp only [if_pos hv]; lia
  · simp only [if_neg hv]; lia
theorem adjust_gen (lo hi : Option Int) (n : Nat) : Builtin.Slice.sliceAdjust lo hi 1 (n : Int) = (((sIx n 0 lo : Nat) : Int), ((sIx n n hi : Nat) : Int)) := by
  have h1 : ¬ ((1 : Int) < 0) := by lia
  unfold Builtin.Slice.sliceAdjust
  simp only [h1, if_false]
  refine Prod.ext ?_ ?_
  · cases lo with
    | none => rfl
    | some v => exact clip_eq v n 0
  · cases hi with
    | none => rfl
    | some v => exact clip_eq v n n
theorem places_gen (i j : Nat) : Builtin.Slice.slicePlaces (i : Int) (j : Int) 1 = j - i := by
  unfold Builtin.Slice.slicePlaces
  have h1 : (1 : Int) > 0 := by lia
  simp only [h1, if_true, Int.ediv_one]
  split <;> lia
theorem slicePart_ {v : Value} {o : Option Int} {Q : Option Int → Shared → Prop} (p : IsPart v o) (h : Q o s) : wpAny (model prog w) A (Builtin.Slice.slicePartIndex v) Q E s := by
  cases p with
  | none => exact slicePart_none h
  | int i t => exact slicePart_int h
theorem sliceApplied_gen {sl : Addr} {vl vu : Value} {lo hi : Option Int} {n : Nat} {Q : Int × Int × Nat → Shared → Prop} (hs : s.heap.IsSliceOf sl vl vu .none) (pl : IsPart vl lo) (pu : IsPart vu hi)
    (h : Q (((sIx n 0 lo : Nat) : Int), 1, sIx n n hi - sIx n 0 lo) s) : wpAny (model prog w) A (Builtin.Slice.sliceApplied (.ref sl) (pure (n : Int))) Q E s := by
  obtain ⟨os, hos, hcs, hds⟩ := id hs
  unfold Builtin.Slice.sliceApplied Builtin.Slice.sliceFields
  refine wpAny_bind (wpAny_bind (wpAny_field hos hds (x := vl) rfl (wpAny_bind (wpAny_field hos hds (x := vu) rfl (wpAny_bind (wpAny_field hos hds (x := .none) rfl (wpAny_pure ?_)))))))
  refine wpAny_bind (slicePart_none ?_)
  show wpAny _ _ (if ((1 : Int) == 0) = true then _ else _) _ _ s
  rw [if_neg (by decide)]
  refine wpAny_bind (slicePart_ pl (wpAny_bind (slicePart_ pu (wpAny_bind (wpAny_pure ?_)))))
  show wpAny _ _ (match Builtin.Slice.sliceAdjust lo hi 1 (n : Int) with | (lo, hi) => pure (lo, (1 : Int), Builtin.Slice.slicePlaces lo hi 1)) _ _ s
  rw [adjust_gen lo hi n]
  show wpAny _ _ (pure (((sIx n 0 lo : Nat) : Int), (1 : Int), Builtin.Slice.slicePlaces ((sIx n 0 lo : Nat) : Int) ((sIx n n hi : Nat) : Int) 1)) _ _ s
  rw [places_gen]
  exact wpAny_pure h
theorem pick_gen (xs : Array Value) (i k : Nat) : ((List.range k).filterMap fun (m : Nat) => xs[((i : Int) + (m : Int) * 1).toNat]?).toArray = ((xs.toList.drop i).take k).toArray := by
  have e : (fun (m : Nat) => xs[((i : Int) + (m : Int) * 1).toNat]?) = fun m => xs[i + m]? := by
    funext m
    have : ((i : Int) + (m : Int) * 1).toNat = i + m := by lia
    rw [this]
  rw [e]
  have := pick_run xs i k
  rw [List.filterMap_map] at this
  have e2 : ((fun x => xs[x]?) ∘ fun x => i + x) = fun m => xs[i + m]? := rfl
  rw [e2] at this
  rw [this]

theorem getItem_tuple_cut {t sl : Addr} {items : Array Value} {vl vu : Value} {lo hi : Option Int} {Q : Value → Shared → Prop} (ht : IsTup s.heap t items) (hs : s.heap.IsSliceOf sl vl vu .none) (pl : IsPart vl lo) (pu : IsPart vu hi)
    (hw : ¬ (sIx items.size 0 lo = 0 ∧ sIx items.size items.size hi = items.size))
    (h : Q (.ref s.heap.objs.size) { s with heap := s.heap.push { cls := .type "tuple", data := .seq ((items.toList.drop (sIx items.size 0 lo)).take (sIx items.size items.size hi - sIx items.size 0 lo)).toArray } })
    (hsz : items.size ≤ sizeLine) : wpAny (model prog w) A (getItem (.ref t) (.ref sl)) Q E s := by
  have htake : sizeOk (.seq ((items.toList.drop (sIx items.size 0 lo)).take (sIx items.size items.size hi - sIx items.size 0 lo)).toArray) := by
    show ((items.toList.drop (sIx items.size 0 lo)).take (sIx items.size items.size hi - sIx items.size 0 lo)).toArray.size ≤ sizeLine
    rw [List.size_toArray, List.length_take, List.length_drop, Array.length_toList]
    lia
  have hj : sIx items.size items.size hi ≤ items.size := sIx_le _ _ (Nat.le_refl _) hi
  obtain ⟨os, hos, hcs, hds⟩ := id hs
  have hTs : s.TypeIs (.ref sl) "slice" := ⟨os, hos, hcs⟩
  unfold getItem
  try with_reducible refine wpAny_holding ?_
  first | refine wpAny_bind (wpAny_pure ?_) | skip
  refine wpAny_bind (wpAny_sequenceKey ht.typeIs (by decide) ?_)
  refine wpAny_bind (wpAny_callSpecial?_slot (name := Str.ofString "__getitem__") ht.typeIs PyProof.Rows.slot_tuple_getitem
    (wpAny_call_entry PyProof.Rows.slot_tuple_getitem ht.typeIs entry_tuple_getitem ?_ (args_tuple_getitem _ _)))
  show wpAny _ _ (Builtin.Tuple.tupleItemsOf (.ref t) >>= _) _ _ s
  refine wpAny_bind (tupleItemsOf_ ht ?_)
  refine wpAny_bind (wpAny_typeOf hTs ?_)
  rw [if_pos (by decide)]
  refine wpAny_bind (sliceApplied_gen hs pl pu ?_)
  have hno : ¬ ((((sIx items.size 0 lo : Nat) : Int) == 0 && (1 : Int) == 1 && (sIx items.size items.size hi - sIx items.size 0 lo) == items.size) = true) := by
    intro q
    rw [Bool.and_eq_true, Bool.and_eq_true] at q
    have q1 : ((sIx items.size 0 lo : Nat) : Int) = 0 := eq_of_beq q.1.1
    have q2 : sIx items.size items.size hi - sIx items.size 0 lo = items.size := eq_of_beq q.2
    exact hw ⟨by lia, by lia⟩
  show wpAny _ _ (if (((sIx items.size 0 lo : Nat) : Int) == 0 && (1 : Int) == 1 && (sIx items.size items.size hi - sIx items.size 0 lo) == items.size) = true then _ else _) _ _ s
  rw [if_neg hno, pick_gen]
  first
    | exact wpAny_bind (m := Builtin.Tuple.tupleExact _) (wpAny_newObj_type (wpAny_pure ⟨_, rfl, wpAny_pure h⟩) htake)
    | exact wpAny_bind (m := Builtin.Tuple.tupleExact _) (wpAny_newObj_type (wpAny_bind (wpAny_pure (wpAny_pure ⟨_, rfl, wpAny_pure h⟩))) htake)
    | exact wpAny_bind (wpAny_bind (m := Builtin.Tuple.tupleExact _) (wpAny_newObj_type (wpAny_pure (wpAny_pure ⟨_, rfl, wpAny_pure h⟩)) htake))
    | exact wpAny_bind (wpAny_bind (m := Builtin.Tuple.tupleExact _) (wpAny_newObj_type (wpAny_pure ⟨_, rfl, wpAny_pure h⟩) htake))
end
end HT

namespace L2
open PySem PySem.Spec PyProof.Rows

noncomputable abbrev TO := St → Hp → (Option Int → Hp → Prop) → Prop
/-- a slice's part (left out, or an int) -/
noncomputable def PO (X : Cx) (e : Option Expr) (t : TO) : Prop :=
  ∀ (pins : List (Addr × Obj)) (s : Shared) (σ : St) (H : Hp) (Q : Option Int → Hp → Prop), Inv X pins σ H s → t σ H Q →
    wpAny (model X.prog X.w) X.A (evalPart e X.env) (fun u s' => ∃ o H', Inv X pins σ H' s' ∧ IsPart u o ∧ Q o H') X.xe s
noncomputable def tPart (t : TE) : TO := fun σ H Q => t σ H fun x H1 => ∃ i, x = .int i ∧ Q (some i) H1

section
variable {X : Cx} {e : Expr} {te : TE} {lo hi : Option Expr} {tl th : TO} {pos p2 : Pos}

theorem po_some (h : PE X e te) : PO X (some e) (tPart te) := by
  intro pins s σ H Q I hw
  rw [evalPart_some]
  refine thn (h pins s σ H _ I hw) fun u s1 ⟨x, H1, I1, r1, q1⟩ => ?_
  obtain ⟨i, rfl, q⟩ := q1
  obtain ⟨t, rfl⟩ := r1
  exact ⟨some i, H1, I1, .int i t, q⟩

/-- what a slice of a value is, by values: the slice object stands at sl -/
noncomputable def SlR (X : Cx) (r : V → Option Int → Option Int → Hp → VK → Prop) : Prop :=
  ∀ (pins : List (Addr × Obj)) (s : Shared) (σ : St) (H : Hp) (x : V) (v vl vu : Value) (lo hi : Option Int) (sl : Addr) (Q : VK), Inv X pins σ H s → RelV x v → s.heap.IsSliceOf sl vl vu .none → IsPart vl lo → IsPart vu hi → r x lo hi H Q →
    ∃ T id, typeLookup (.type T) "__getitem__" = pure (some (.builtin id)) ∧ s.TypeIs v T ∧ wpAny (model X.prog X.w) X.A (getItem v (.ref sl)) (EP X pins σ Q) X.xe s
theorem SlR.or {r r' : V → Option Int → Option Int → Hp → VK → Prop} (h : SlR X r) (h' : SlR X r') : SlR X (fun x lo hi H Q => r x lo hi H Q ∨ r' x lo hi H Q) := by
  intro pins s σ H x v vl vu lo hi sl Q I rx hs pl pu q
  rcases q with q | q
  · exact h pins s σ H x v vl vu lo hi sl Q I rx hs pl pu q
  · exact h' pins s σ H x v vl vu lo hi sl Q I rx hs pl pu q
noncomputable def tSl (r : V → Option Int → Option Int → Hp → VK → Prop) (te : TE) (tl th : TO) : TE := fun σ H Q => te σ H fun x H1 => tl σ H1 fun l H2 => th σ H2 fun u H3 => r x l u H3 Q
/-- a[lo:hi], any a -/
theorem pe_slice {r : V → Option Int → Option Int → Hp → VK → Prop} (hr : SlR X r) (he : PE X e te) (hl : PO X lo tl) (hu : PO X hi th) : PE X (.Subscript e (.Slice lo hi none p2) pos) (tSl r te tl th) := by
  intro pins s σ H Q I h
  refine Subscript_ (thn (he pins s σ H _ I h) fun v s1 ⟨x, H1, I1, r1, q1⟩ => ?_)
  refine wpAny_Slice (thn (hl pins s1 σ H1 _ I1 q1) fun vl s2 ⟨l, H2, I2, pl, q2⟩ => thn (hu pins s2 σ H2 _ I2 q2) fun vu s3 ⟨u, H3, I3, pu, q3⟩ => ?_)
  rw [evalPart_none]
  refine wpAny_pure ?_
  have I4 : Inv X pins σ H3 { s3 with heap := s3.heap.push { cls := .type "slice", data := .fields #[vl, vu, .none] } } := I3.kept (t' := s3.toks) fun b ob q => Heap.get?_push_of_some _ q
  obtain ⟨T, id, hT, ht, hg⟩ := hr pins { s3 with heap := s3.heap.push { cls := .type "slice", data := .fields #[vl, vu, .none] } } σ H3 x v vl vu l u s3.heap.objs.size Q I4 r1 (Heap.IsSliceOf.new ..) pl pu q3
  show wpAny (model X.prog X.w) X.A (subscriptTail e (.Slice lo hi none p2) v (.ref s3.heap.objs.size)) (EP X pins σ Q) X.xe { s3 with heap := s3.heap.push { cls := .type "slice", data := .fields #[vl, vu, .none] } }
  exact tail_any (ops := [.ref s3.heap.objs.size, v]) ht hT hg (by with_unfolding_all rfl)

/-- the items of xs[lo:hi] -/
noncomputable def cutV (xs : List V) (lo hi : Option Int) : List V := (xs.drop (HT.sIx xs.length 0 lo)).take (HT.sIx xs.length xs.length hi - HT.sIx xs.length 0 lo)
theorem cutV_length (xs : List V) (lo hi : Option Int) : (cutV xs lo hi).length ≤ xs.length := by
  unfold cutV
  rw [List.length_take, List.length_drop]
  lia
/-- t[lo:hi], not the whole of it (the whole would be t itself) -/
noncomputable def rSlT (K : PySem.W.Frag) : V → Option Int → Option Int → Hp → VK → Prop := fun x lo hi H Q => ∃ a xs, x = .ref a ∧ SqT K H a xs ∧
  ¬ (HT.sIx xs.length 0 lo = 0 ∧ HT.sIx xs.length xs.length hi = xs.length) ∧ ∀ p, H p = none → Q (.ref p) (upd H p (.tup (cutV xs lo hi)))
theorem sl_tup : SlR X (rSlT X.K) := by
  intro pins s σ H x v vl vu lo hi sl Q I rx hs pl pu h
  obtain ⟨a, xs, rfl, hx, hw, q⟩ := h
  cases rx
  obtain ⟨its, r, ht, hz⟩ := I.tuple hx
  have hlen : its.toArray.size = xs.length := by rw [List.size_toArray]; exact r.length.symm
  refine ⟨"tuple", _, PyProof.Rows.slot_tuple_getitem.lookup, ht.typeIs, ?_⟩
  refine HT.getItem_tuple_cut ht hs pl pu (by rw [hlen]; exact hw) ?_ (by rw [hlen]; exact hz)
  rw [hlen]
  refine ⟨.ref s.heap.objs.size, _, I.laid (t' := s.toks) (o := .tup (cutV xs lo hi)) (fun b ob q => Heap.get?_push_of_some _ q) (Nat.le_refl _) ?_, rfl, q _ (I.hok.fresh (Nat.le_refl _))⟩
  exact ⟨Nat.le_trans (cutV_length xs lo hi) hz, _, (r.drop (HT.sIx xs.length 0 lo)).take (HT.sIx xs.length xs.length hi - HT.sIx xs.length 0 lo), IsTup.new _ _⟩

/-- t + u, t not empty: u empty gives t itself -/
noncomputable def rCatT (K : PySem.W.Frag) : R2 := fun x y H Q => ∃ a b xs ys, x = .ref a ∧ y = .ref b ∧ SqT K H a xs ∧ SqT K H b ys ∧ xs ≠ [] ∧ xs.length + ys.length ≤ sizeLine ∧
  (ys = [] → Q (.ref a) H) ∧ (ys ≠ [] → ∀ p, H p = none → Q (.ref p) (upd H p (.tup (xs ++ ys))))
theorem Vals.nil_iff {xs : List V} {us : List Value} (r : Vals xs us) : us = [] ↔ xs = [] := by
  cases r with
  | nil => simp
  | cons _ _ => simp
theorem op_catT : OpR X (binaryOp .Add) (rCatT X.K) := by
  intro pins s σ H x y v u Q I rx ry h
  obtain ⟨a, b, xs, ys, rfl, rfl, ha, hb, hx, hz, q1, q2⟩ := h
  cases rx
  cases ry
  obtain ⟨its, r1, p1, _⟩ := I.tuple ha
  obtain ⟨its2, r2, p2, _⟩ := I.tuple hb
  refine HT.cat_tup p1 p2 (fun z => hx (r1.nil_iff.mp z)) (fun z => ⟨.ref a, H, I, rfl, q1 (r2.nil_iff.mp z)⟩) (fun z => ?_) (by rw [← r1.length, ← r2.length]; exact hz)
  refine ⟨.ref s.heap.objs.size, _, I.laid (t' := s.toks) (o := .tup (xs ++ ys)) (fun b ob q => Heap.get?_push_of_some _ q) (Nat.le_refl _) ?_, rfl, q2 (fun w => z (r2.nil_iff.mpr w)) _ (I.hok.fresh (Nat.le_refl _))⟩
  exact ⟨by rw [List.length_append]; exact hz, _, r1.append r2, IsTup.new _ _⟩
end
end L2

namespace L2
open PySem PySem.Spec PyProof.Rows

/-- the place that an index of any sign means -/
noncomputable def ixN (n : Nat) (i : Int) : Option Nat := if 0 ≤ i then (if i < n then some i.toNat else none) else if -(n : Int) ≤ i then some (i + n).toNat else none
noncomputable def atI {α : Type} (xs : List α) (i : Int) : Option α := (ixN xs.length i).bind fun j => xs[j]?
theorem ixN_seq {n : Nat} {i : Int} {j : Nat} (h : ixN n i = some j) : seqIndex? i n = some j ∧ j < n ∧ -(n : Int) ≤ i ∧ i < n := by
  unfold ixN at h
  by_cases h0 : 0 ≤ i
  · rw [if_pos h0] at h
    by_cases h1 : i < n
    · rw [if_pos h1] at h
      have e : i.toNat = j := Option.some.inj h
      exact ⟨by rw [seqIndex_of h0 h1, e], by lia, by lia, h1⟩
    · rw [if_neg h1] at h; cases h
  · rw [if_neg h0] at h
    by_cases h1 : -(n : Int) ≤ i
    · rw [if_pos h1] at h
      have e : (i + n).toNat = j := Option.some.inj h
      exact ⟨by rw [seqIndex_neg (by lia) h1, e], by lia, h1, by lia⟩
    · rw [if_neg h1] at h; cases h
theorem atI_get {α : Type} {xs : List α} {i : Int} {v : α} (h : atI xs i = some v) : ∃ j, seqIndex? i xs.length = some j ∧ xs[j]? = some v ∧ j < xs.length ∧ -(xs.length : Int) ≤ i ∧ i < xs.length := by
  unfold atI at h
  cases e : ixN xs.length i with
  | none => rw [e] at h; cases h
  | some j =>
    rw [e] at h
    obtain ⟨h1, h2, h3, h4⟩ := ixN_seq e
    exact ⟨j, h1, h, h2, h3, h4⟩
theorem atI_nat {α : Type} {xs : List α} {j : Nat} {v : α} (h : xs[j]? = some v) : atI xs (j : Int) = some v := by
  have hj : j < xs.length := (List.getElem?_eq_some_iff.mp h).1
  have e : ixN xs.length (j : Int) = some j := by
    unfold ixN
    rw [if_pos (by lia), if_pos (by lia)]; simp
  unfold atI; rw [e]; exact h
/-- what stands as an index of a plain subscript -/
noncomputable def PlainIx (b : Expr) : Prop := ∀ o i, subscripted b false o i = operate [o, i] (getItem o i)
/-- a subscript by values -/
noncomputable def IxR (X : Cx) (r : R2) : Prop :=
  ∀ (value slice : Expr) (pins : List (Addr × Obj)) (s : Shared) (σ : St) (H : Hp) (x y : V) (v u : Value) (Q : VK), Inv X pins σ H s → RelV x v → RelV y u → r x y H Q →
    subscripted slice false v u = operate [v, u] (getItem v u) → wpAny (model X.prog X.w) X.A (subscriptTail value slice v u) (EP X pins σ Q) X.xe s
/-- a call of a builtin's method by values: the receiver, the arguments -/
noncomputable def MtR (X : Cx) (id : String) (r : V → List V → Hp → VK → Prop) : Prop :=
  ∀ (pins : List (Addr × Obj)) (s : Shared) (σ : St) (H : Hp) (x : V) (xs : List V) (v : Value) (us : List Value) (Q : VK), Inv X pins σ H s → RelV x v → Vals xs us → r x xs H Q →
    wpAny (model X.prog X.w) X.A (call (.builtin id) (v :: us)) (EP X pins σ Q) X.xe s
section
variable {X : Cx} {a b : Expr} {ta tb : TE} {pos : Pos}
theorem IxR.or {r r' : R2} (h : IxR X r) (h' : IxR X r') : IxR X (fun x y H Q => r x y H Q ∨ r' x y H Q) := by
  intro value slice pins s σ H x y v u Q I rx ry q hs
  rcases q with q | q
  · exact h value slice pins s σ H x y v u Q I rx ry q hs
  · exact h' value slice pins s σ H x y v u Q I rx ry q hs
/-- a[b] -/
theorem pe_ix {r : R2} (hr : IxR X r) (ha : PE X a ta) (hb : PE X b tb) (hs : PlainIx b) : PE X (.Subscript a b pos) (tOp r ta tb) := by
  intro pins s σ H Q I h
  exact Subscript_ (binT ha hb I h fun v u s2 x y H2 I2 rx ry q => hr a b pins s2 σ H2 x y v u Q I2 rx ry q (hs _ _))

noncomputable def rIxL (K : PySem.W.Frag) : R2 := fun x y H Q => ∃ p xs i v, x = .ref p ∧ y = .int i ∧ SqL K H p xs ∧ atI xs i = some v ∧ Q v H
noncomputable def rIxT (K : PySem.W.Frag) : R2 := fun x y H Q => ∃ p xs i v, x = .ref p ∧ y = .int i ∧ SqT K H p xs ∧ atI xs i = some v ∧ Q v H
noncomputable def rIxS : R2 := fun x y H Q => ∃ z i c, x = .str z ∧ y = .int i ∧ z.length ≤ sizeLine ∧ atI z.cps.toList i = some c ∧ Q (.str ⟨#[c]⟩) H
theorem ix_list : IxR X (rIxL X.K) := by
  intro value slice pins s σ H x y v u Q I rx ry h hs
  obtain ⟨p, xs, i, z, rfl, rfl, hq, he, q⟩ := h
  cases rx
  obtain ⟨t, rfl⟩ := ry
  obtain ⟨its, r, pl, hz⟩ := I.list hq
  obtain ⟨j, h1, h2, h3, h4, h5⟩ := atI_get he
  obtain ⟨w, ew, rw'⟩ := r.get h2
  have hl := r.length
  have hn := line63
  have fin : EP X pins σ Q w s := ⟨z, H, I, rw', q⟩
  by_cases h0 : 0 ≤ i
  · have hj : i.toNat = j := by
      rw [seqIndex_of h0 h5] at h1
      exact Option.some.inj h1
    exact item_listR pl.isList h0 (by lia) (by rw [hj]; simpa using ew) fin hs
  · have hj : (i + (its.toArray.size : Int)).toNat = j := by
      rw [seqIndex_neg (by lia) h4] at h1
      rw [List.size_toArray, ← hl]
      exact Option.some.inj h1
    exact subscriptTail_builtinR (x := w) pl.isList.typeIs slot_list_getitem.lookup
      (wpAny_getItem_list_neg (Q := fun r s' => r = w ∧ EP X pins σ Q r s') pl.isList (by lia) (by rw [List.size_toArray] <;> lia) (by lia) (by rw [hj]; simpa using ew) ⟨rfl, fin⟩) hs
theorem ix_tup : IxR X (rIxT X.K) := by
  intro value slice pins s σ H x y v u Q I rx ry h hs
  obtain ⟨p, xs, i, z, rfl, rfl, hq, he, q⟩ := h
  cases rx
  obtain ⟨t, rfl⟩ := ry
  obtain ⟨its, r, pl, hz⟩ := I.tuple hq
  obtain ⟨j, h1, h2, h3, h4, h5⟩ := atI_get he
  obtain ⟨w, ew, rw'⟩ := r.get h2
  have hl := r.length
  have hn := line63
  have fin : EP X pins σ Q w s := ⟨z, H, I, rw', q⟩
  exact subscriptTail_builtinR (x := w) pl.typeIs slot_tuple_getitem.lookup
    (getItem_tuple (j := j) (Q := fun r s' => r = w ∧ EP X pins σ Q r s') pl (by lia) (by lia) (by rw [List.size_toArray, ← hl]; exact h1) (by simpa using ew) ⟨rfl, fin⟩) hs
theorem ix_str : IxR X rIxS := by
  intro value slice pins s σ H x y v u Q I rx ry h hs
  obtain ⟨z, i, c, rfl, rfl, hz, he, q⟩ := h
  obtain ⟨t, rfl⟩ := rx
  obtain ⟨t', rfl⟩ := ry
  obtain ⟨j, h1, h2, h3, h4, h5⟩ := atI_get he
  have hl : z.cps.toList.length = z.length := by simp [Str.length]
  rw [hl] at h1 h4 h5
  have hn := line63
  exact tail_any (typeIs_str s z t) slot_str_getitem.lookup (getItem_str (c := c) (by
    have e1 : decide (i < -(2 ^ 63 : Int)) = false := decide_eq_false (by lia)
    have e2 : decide (i ≥ 2 ^ 63) = false := decide_eq_false (by lia)
    rw [e1, e2, Bool.or_false]) (by rw [h1]; simpa using h2) ⟨.str ⟨#[c]⟩, H, I.tok _, ⟨_, rfl⟩, q⟩) hs
/-- list, tuple or str -/
noncomputable def rIx (K : PySem.W.Frag) : R2 := fun x y H Q => rIxL K x y H Q ∨ rIxT K x y H Q ∨ rIxS x y H Q
theorem ix_seq : IxR X (rIx X.K) := ix_list.or (ix_tup.or ix_str)

theorem slice_bounds (lo hi : Option Int) (n : Nat) : (sliceBounds lo hi none n).1 = ((HT.sIx n 0 lo : Nat) : Int) ∧ (sliceBounds lo hi none n).2.1 = ((HT.sIx n n hi : Nat) : Int) ∧ (sliceBounds lo hi none n).2.2 = 1 := by
  refine ⟨?_, ?_, rfl⟩
  · cases lo with
    | none => simp [sliceBounds, HT.sIx]
    | some i =>
      simp only [sliceBounds, HT.sIx, Option.getD_none, show (1 : Int) > 0 by decide, if_true]
      by_cases h : i < 0
      · simp only [h, if_true] <;> lia
      · simp only [h, if_false] <;> lia
  · cases hi with
    | none => simp [sliceBounds, HT.sIx]
    | some i =>
      simp only [sliceBounds, HT.sIx, Option.getD_none, show (1 : Int) > 0 by decide, if_true]
      by_cases h : i < 0
      · simp only [h, if_true] <;> lia
      · simp only [h, if_false] <;> lia
theorem slicePick_cut (its : List Value) (lo hi : Option Int) : slicePick its.toArray lo hi none = ((its.drop (HT.sIx its.length 0 lo)).take (HT.sIx its.length its.length hi - HT.sIx its.length 0 lo)).toArray := by
  obtain ⟨h1, h2, h3⟩ := slice_bounds lo hi its.toArray.size
  unfold slicePick
  rw [h1, h2, h3]
  simp only [sliceRange_one, pick_run, List.size_toArray] <;> rfl
/-- xs[lo:hi] of a list: a new list -/
noncomputable def rSlL (K : PySem.W.Frag) : V → Option Int → Option Int → Hp → VK → Prop := fun x lo hi H Q => ∃ a xs, x = .ref a ∧ SqL K H a xs ∧ ∀ p, H p = none → Q (.ref p) (upd H p (.lst (cutV xs lo hi)))
theorem sl_list : SlR X (rSlL X.K) := by
  intro pins s σ H x v vl vu lo hi sl Q I rx hs pl pu h
  obtain ⟨a, xs, rfl, hx, q⟩ := h
  cases rx
  obtain ⟨its, r, ht, hz⟩ := I.list hx
  have hlen := r.length
  refine ⟨"list", _, slot_list_getitem.lookup, ht.isList.typeIs, ?_⟩
  refine wpAny_getItem_list_slice ht.isList hs pl pu .none (by simp) ?_ (by rw [List.size_toArray] <;> lia)
  rw [slicePick_cut, ← hlen]
  refine ⟨.ref s.heap.objs.size, _, I.laid (t' := s.toks) (o := .lst (cutV xs lo hi)) (fun b ob q => Heap.get?_push_of_some _ q) (Nat.le_refl _) ?_, rfl, q _ (I.hok.fresh (Nat.le_refl _))⟩
  exact ⟨Nat.le_trans (cutV_length xs lo hi) hz, _, 0, (r.drop (HT.sIx xs.length 0 lo)).take (HT.sIx xs.length xs.length hi - HT.sIx xs.length 0 lo), Heap.get?_push_size _ rfl⟩

theorem call_len_seq : CallR X (.builtin "len") (fun xs H Q => ∃ p ys, xs = [.ref p] ∧ (SqL X.K H p ys ∨ SqT X.K H p ys) ∧ Q (.int ys.length) H) := by
  intro pins s σ H xs us Q I r h
  obtain ⟨p, ys, rfl, hq, q⟩ := h
  obtain ⟨u, rfl, rx⟩ := vals1 r
  cases rx
  have hn := line63
  rcases hq with hq | hq
  · obtain ⟨its, r', pl, hz⟩ := I.list hq
    have hlen := r'.length
    exact Calls.call_len_list pl.isList (by simp only [List.size_toArray] <;> lia) ⟨.int ys.length, H, I.tok _, ⟨s.toks + 1, by rw [List.size_toArray, hlen]⟩, q⟩
  · obtain ⟨its, r', pl, hz⟩ := I.tuple hq
    have hlen := r'.length
    exact len_tuple pl (by simp only [List.size_toArray] <;> lia) ⟨.int ys.length, H, I.tok _, ⟨s.toks + 1, by rw [List.size_toArray, hlen]⟩, q⟩
theorem call_len_str : CallR X (.builtin "len") (fun xs H Q => ∃ z, xs = [.str z] ∧ z.length ≤ sizeLine ∧ Q (.int z.length) H) := by
  intro pins s σ H xs us Q I r h
  obtain ⟨z, rfl, hz, q⟩ := h
  obtain ⟨u, rfl, t, rfl⟩ := vals1 r
  have hn := line63
  exact len_str (by lia) ⟨.int z.length, H, I.tok _, ⟨_, rfl⟩, q⟩
theorem CallR.or {f : Value} {r r' : List V → Hp → VK → Prop} (h : CallR X f r) (h' : CallR X f r') : CallR X f (fun xs H Q => r xs H Q ∨ r' xs H Q) := by
  intro pins s σ H xs us Q I rs q
  rcases q with q | q
  · exact h pins s σ H xs us Q I rs q
  · exact h' pins s σ H xs us Q I rs q
theorem call_list_of : CallR X (.type "list") (fun xs H Q => ∃ p ys, xs = [.ref p] ∧ (SqL X.K H p ys ∨ SqT X.K H p ys) ∧ ∀ l, H l = none → Q (.ref l) (upd H l (.lst ys))) := by
  intro pins s σ H xs us Q I r h
  obtain ⟨p, ys, rfl, hq, q⟩ := h
  obtain ⟨u, rfl, rx⟩ := vals1 r
  cases rx
  have fin : ∀ (its : List Value), Vals ys its → ys.length ≤ sizeLine → ∀ (h' : Heap) (c' : Nat), (∀ b o', s.heap.get? b = some o' → h'.get? b = some o') →
      h'.get? s.heap.objs.size = some { cls := .type "list", dict := none, data := .seq its.toArray c', slots := #[] } → EP X pins σ Q (.ref s.heap.objs.size) { s with heap := h' } := fun its r' hz h' c' kp e =>
    ⟨.ref s.heap.objs.size, _, I.laid (t' := s.toks) kp (Nat.le_refl _) (show ObjOk X.prog X.w _ h' _ (.lst ys) from ⟨hz, its, c', r', e⟩), rfl, q _ (I.hok.fresh (Nat.le_refl _))⟩
  rcases hq with hq | hq
  · obtain ⟨its, r', pl, hz⟩ := I.list hq
    have hlen := r'.length
    obtain ⟨o, ho, hc, n, hd⟩ := pl.isList
    exact call_list_seq p (.inl rfl) ho hc hd (fun h' c' kp e => fin its r' hz h' c' kp e) (by simp only [List.size_toArray] <;> lia)
  · obtain ⟨its, r', pl, hz⟩ := I.tuple hq
    have hlen := r'.length
    obtain ⟨o, ho, hc, n, hd⟩ := pl
    exact call_list_seq p (.inr rfl) ho hc hd (fun h' c' kp e => fin its r' hz h' c' kp e) (by simp only [List.size_toArray] <;> lia)
/-- the value is of that builtin type -/
noncomputable def tyV (K : PySem.W.Frag) (T : String) (x : V) (H : Hp) : Prop := match x with
  | .str _ => T = "str"
  | .int _ => T = "int"
  | .ref p => (T = "list" ∧ ∃ xs, SqL K H p xs) ∨ (T = "tuple" ∧ ∃ o, K.lookup p = some o ∧ o.cls = .type "tuple" ∧ o.dict = none) ∨
      (T = "dict" ∧ ((∃ kvs, H p = some (.dK kvs)) ∨ ∃ kvs, H p = some (.dT kvs))) ∨ (T = "set" ∧ ∃ S n, H p = some (.set S n))
  | _ => False
theorem tyV_is {pins : List (Addr × Obj)} {σ : St} {H : Hp} {s : Shared} {T : String} {x : V} {v : Value} (I : Inv X pins σ H s) (r : RelV x v) (ty : tyV X.K T x H) :
    s.TypeIs v T ∧ ∀ a, v = .ref a → ∃ ob, s.heap.get? a = some ob ∧ ob.dict = none := by
  cases x with
  | str z =>
    obtain ⟨t, rfl⟩ := r
    cases (show T = "str" from ty)
    exact ⟨typeIs_str s z t, fun _ e => nomatch e⟩
  | int i =>
    obtain ⟨t, rfl⟩ := r
    cases (show T = "int" from ty)
    exact ⟨typeIs_int s i t, fun _ e => nomatch e⟩
  | ref p =>
    cases r
    rcases ty with ⟨rfl, xs, hq⟩ | ⟨rfl, o, hk, hc, hd⟩ | ⟨rfl, hk⟩ | ⟨rfl, S, n, hk⟩
    · obtain ⟨its, _, pl, _⟩ := I.list hq
      refine ⟨pl.isList.typeIs, fun a e => ?_⟩
      cases e
      obtain ⟨o, n, e, c, hd, _⟩ := pl
      exact ⟨o, e, hd⟩
    · refine ⟨⟨o, I.kIn p o hk, hc⟩, fun a e => ?_⟩
      cases e
      exact ⟨o, I.kIn _ o hk, hd⟩
    · have z : ∃ o, s.heap.get? p = some o ∧ o.ExactDict := by
        rcases hk with ⟨kvs, hk⟩ | ⟨kvs, hk⟩
        · obtain ⟨_, _, _, _, o, _, _, e, ex, _⟩ := I.hok p _ hk
          exact ⟨o, e, ex⟩
        · obtain ⟨_, _, _, _, o, _, _, e, ex, _⟩ := I.hok p _ hk
          exact ⟨o, e, ex⟩
      obtain ⟨o, e, ex⟩ := z
      refine ⟨⟨o, e, ex.1⟩, fun a e2 => ?_⟩
      cases e2
      exact ⟨o, e, ex.2.1⟩
    · obtain ⟨o, _, _, _, e, ex, _⟩ := I.hok p _ hk
      refine ⟨⟨o, e, ex.1⟩, fun a e2 => ?_⟩
      cases e2
      exact ⟨o, e, ex.2.1⟩
  | _ => exact False.elim ty
noncomputable def tBM (K : PySem.W.Frag) (T : String) (r : V → List V → Hp → VK → Prop) (to : TE) (t : TA) : TE := fun σ H Q => to σ H fun x H1 => tyV K T x H1 ∧ t σ H1 fun xs H2 => r x xs H2 Q
variable {o e : Expr} {es : List Expr} {to : TE} {t : TA} {name : Str} {apos cpos : Pos} {T id : String} {r : V → List V → Hp → VK → Prop}
theorem pe_bm (pa : PlainAttrs T) (slot : Slot T name id) (hty : typeOf (.builtin id) = pure (.type "method_descriptor")) (hm : MtR X id r) (ho : PE X o to) (ha : PA X (e :: es) t)
    (hbase : attributeBase o name X.env (eval o X.env) = eval o X.env := by rfl)
    (hfew : ((backTo cpos (starEach (e :: es) X.env)).all (fun x => !x.1) && (backToKw cpos (keywordEach [] X.env)).all (fun x => x.1.isSome)
      && decide ((e :: es).length + ([] : List Keyword).length + (if ([] : List Keyword).isEmpty then 0 else 1) < 30)) = true := by rfl)
    (hline : (apos.endLine == cpos.line) = true := by rfl) (hs : starEach (e :: es) X.env = (false, eval e X.env) :: starEach es X.env := by rfl) (hplain : (backTo cpos (starEach es X.env)).any (·.1) = false := by rfl) :
    PE X (.Call (.Attribute o name apos) (e :: es) [] cpos) (tBM X.K T r to t) := by
  intro pins s σ H Q I h
  refine wpAny_Call_method_late hbase hfew hline rfl (thn (ho pins s σ H _ I h) fun v s1 ⟨x, H1, I1, r1, ty, q1⟩ => ?_)
  obtain ⟨h1, h2⟩ := tyV_is I1 r1 ty
  refine ⟨T, id, pa, slot, hty, h1, h2, ?_⟩
  have hA := ha cpos pins s1 σ H1 _ I1 q1
  rw [hs] at hA ⊢
  refine Calls.callWith_builtin (by show (false || (backTo cpos (starEach es X.env)).any (·.1)) = false; rw [hplain] <;> rfl) (Calls.evalArgs_plain ?_)
  exact thn hA fun us s2 ⟨vs, H2, I2, r2, q2⟩ => hm pins s2 σ H2 x vs v us Q I2 r1 r2 q2
/- xs.append(e), list.index on a module's tuple .. are MtR facts of 06m -/
end
end L2

namespace L2
open PySem PySem.Spec PyProof.Rows

noncomputable def MtM (X : Cx) (id : String) (r : V → List V → Hp → VK → Prop) : Prop :=
  ∀ (pins : List (Addr × Obj)) (s : Shared) (σ : St) (H : Hp) (x : V) (xs : List V) (v : Value) (us : List Value) (Q : VK), Inv X pins σ H s → RelV x v → Vals xs us → r x xs H Q →
    wpAny (model X.prog X.w) X.A (call (.builtin id) (v :: us)) (EP X pins σ Q) X.xe s

theorem Vals.one : ∀ {x : V} {us : List Value}, Vals [x] us → ∃ u, us = [u] ∧ RelV x u
  | _, _, .cons r .nil => ⟨_, rfl, r⟩
section
variable {X : Cx} {pins : List (Addr × Obj)} {σ : St} {H : Hp} {s : Shared} {l b : Addr} {xs ys zs : List V}

theorem Inv.lset {its its' : List Value} {n : Nat} {f : Array Value → Array Value} {t' : Nat} (I : Inv X pins σ H s) (hH : H l = some (.lst xs))
    (e : s.heap.get? l = some { cls := .type "list", data := .seq its.toArray n }) (hf : f its.toArray = its'.toArray) (hv : Vals ys its') (hz : ys.length ≤ sizeLine) :
    Inv X pins σ (upd H l (.lst ys)) { s with heap := s.heap.update l (Obj.mapSeq f), toks := t' } := by
  have q := PySem.IsL.update e f
  rw [hf] at q
  refine I.write (x := l) (e := l) (by rw [hH]; exact trivial) (.inl rfl) (fun b' u hb hu => (Heap.get?_update_other s.heap (Obj.mapSeq f) (Ne.symm hb)).trans hu) ⟨_, q⟩ ?_
  exact ⟨hz, its', _, hv, q⟩
theorem Inv.lnew {its : List Value} {t' : Nat} (I : Inv X pins σ H s) (hv : Vals ys its) (hz : ys.length ≤ sizeLine) :
    Inv X pins σ (upd H s.heap.objs.size (.lst ys)) { s with heap := s.heap.push { cls := .type "list", data := .seq its.toArray }, toks := t' } :=
  I.laid (fun _ _ q => Heap.get?_push_of_some _ q) (Nat.le_refl _) ⟨hz, its, 0, hv, Heap.get?_push_size _ rfl⟩
theorem Inv.fresh (I : Inv X pins σ H s) : H s.heap.objs.size = none := I.hok.fresh (Nat.le_refl _)
theorem Inv.lstM (I : Inv X pins σ H s) (hH : H l = some (.lst xs)) : xs.length ≤ sizeLine ∧ ∃ (its : List Value) (n : Nat), Vals xs its ∧ xs.length = its.length ∧ s.heap.get? l = some { cls := .type "list", data := .seq its.toArray n } := by
  obtain ⟨z, its, n, r, e⟩ := I.hok l _ hH
  exact ⟨z, its, n, r, r.length, e⟩

end

section
variable {X : Cx}

noncomputable def rAppend : V → List V → Hp → VK → Prop := fun x vs H Q => ∃ l xs y, x = .ref l ∧ vs = [y] ∧ H l = some (.lst xs) ∧ xs.length < sizeLine ∧ Q .non (upd H l (.lst (xs ++ [y])))
theorem mt_append : MtM X "list.append" rAppend := by
  intro pins s σ H x vs v us Q I rx rv h
  obtain ⟨l, xs, y, rfl, rfl, hH, hz, q⟩ := h
  cases rx
  obtain ⟨u, rfl, ru⟩ := rv.one
  obtain ⟨z, its, n, r, hl, e⟩ := I.lstM hH
  refine call_meets F.slot_list_append ⟨_, e, rfl⟩ F.entry_list_append (F.args_list_append_2 _ _) (PySem.list_append l its.toArray n u (by rw [List.size_toArray]; lia)) ⟨e, ?_⟩
  refine ⟨.non, _, I.lset (its' := its ++ [u]) hH e (by simp) (r.append (.cons ru .nil)) ?_, rfl, q⟩
  rw [List.length_append, List.length_singleton]
  lia

noncomputable def rCat : R2 := fun x y H Q => ∃ l b xs zs, x = .ref l ∧ y = .ref b ∧ H l = some (.lst xs) ∧ H b = some (.lst zs) ∧ xs.length + zs.length ≤ sizeLine ∧ ∀ p, H p = none → Q (.ref p) (upd H p (.lst (xs ++ zs)))
theorem op_cat : OpR X (binaryOp .Add) rCat := by
  intro pins s σ H x y v u Q I rx ry h
  obtain ⟨l, b, xs, zs, rfl, rfl, hH, hB, hz, q⟩ := h
  cases rx
  cases ry
  obtain ⟨z, its, n, r, hl, e⟩ := I.lstM hH
  obtain ⟨z2, its2, n2, r2, hl2, e2⟩ := I.lstM hB
  refine PySem.P.add_list e e2 ?_ (by rw [List.size_toArray, List.size_toArray]; lia)
  have ea : its.toArray ++ its2.toArray = (its ++ its2).toArray := by simp
  rw [ea]
  exact ⟨.ref _, _, I.lnew (t' := s.toks) (r.append r2) (by rw [List.length_append]; lia), rfl, q _ I.fresh⟩
end

section
variable {prog : Program} {w : World} {A : Around} {E : Value → Shared → Prop} {s : Shared}
end

section
variable {X : Cx}
end
end L2

namespace Att
open PySem PySem.W PySem.Calls PyProof.Rows

theorem ints_of_wellAll {P : Params} {h : Heap} : ∀ (ns : List Int) (vs : List Value), WellAll P h vs (ns.map WData.int) → IntsAre vs ns := by
  intro ns
  induction ns with
  | nil =>
    intro vs w
    rw [List.map_nil] at w
    cases w
    exact .nil
  | cons n ns ih =>
    intro vs w
    rw [List.map_cons] at w
    cases w with
    | cons a b =>
      cases a
      exact .cons _ _ (ih _ b)

theorem script_of {l : OpenLaw} {n : Nat} (hn : l.most = some n) {P : Params} {h : Heap} {args : List WData} {vals : List Value}
    (hpre : l.row.toRowW.claim.pre args = true) (hwl : WellAll P h vals args) :
    ∃ a vs ns, vals = [Value.ref a] ∧ args = [WData.list (ns.map WData.int)] ∧ h.get? a = some { cls := .type "list", data := .seq vs.toArray } ∧ IntsAre vs ns ∧ ns.length ≤ n := by
  have hsh : WShape.hasAll [] args [.list .int] = true := (pre_splitW hpre).1
  have hc : l.pre.holds [] { args := args } = true := (pre_splitW hpre).2
  obtain ⟨d, r, rfl, h1, h2⟩ := hasAllW_cons hsh
  obtain rfl := hasAllW_nil h2
  obtain ⟨xs, rfl, h3⟩ := hasW_list h1
  obtain ⟨ns, rfl⟩ := items_int h3
  have hlen : ns.length ≤ n := by
    unfold OpenLaw.pre at hc
    have h4 : (WTm.not (.lt (.lit (.int (n : Int))) (.len (.arg 0)))).holds [] { args := [.list (ns.map .int)] } = true := by
      have h4 := (holds_andW hc).1
      rw [hn] at h4
      exact h4
    have h5 := condW_of h4 (w_not (w_lt w_lit (w_len_list (w_arg rfl))))
    rw [List.length_map] at h5
    refine Nat.le_of_not_lt fun q => ?_
    have q' : (n : Int) < ((ns.length : Nat) : Int) := by lia
    first
      | (rw [decide_eq_true q'] at h5; exact absurd h5 (by decide))
      | (simp at h5; lia)
  cases hwl with
  | cons w1 w2 =>
    cases w2
    cases w1 with
    | list ho hall => exact ⟨_, _, ns, rfl, rfl, ho, ints_of_wellAll ns _ hall, hlen⟩

theorem post_true (l : OpenLaw) (args : List WData) : l.row.toRowW.claim.post args (.bool true) args = true :=
  postW_of (r := l.row.toRowW) (X := (true == true))
    (show WShape.has [] (.bool true) .bool = true by first | rfl | decide | simp [WShape.has, WShape.arms, WShape.armsAll])
    (show (WTm.eq .res (.lit (.bool true))).value [] { args := args, res := some (.bool true), after := args } = some (.bool (true == true)) from w_eq_bool (w_res rfl) w_lit) rfl

/-- the same from a codeAny of the CALL (for a layer whose function contracts speak of calls) -/
theorem attach_call {l : OpenLaw} {n : Nat} {q : Program} {loose : List Str} {XP : (Str → Option Value) → Heap → Prop} {YP : World → Heap → Prop} {d : DefRec}
    (hn : l.most = some n) (hdf : d.params.defaults = [])
    (call : ∀ (w : World) (s₀ s₁ : Shared) (mg mb : Str → Option Value) (fa : Addr) (o : Obj) (pm cd doc : Value) (a : Addr) (vs : List Value) (ns : List Int),
      Ground q loose [] XP w s₀ mg mb s₁.heap → YP w s₁.heap →
      s₁.heap.get? fa = some o → o.data = .func (docDef d.name d.params d.body d.scope pm cd doc) → s₁.heap.CodeRec cd d.name → mg d.name = some (.ref fa) →
      s₁.heap.get? a = some { cls := .type "list", data := .seq vs.toArray } → IntsAre vs ns → ns.length ≤ n → s₁.gens = #[] →
      codeAny (model l.prog w) callerA (.call (.ref fa) ⟨[.ref a], []⟩) (fun r s' => r = .ok (.ret (.bool true)) ∧ OldK s₁.heap s'.heap ∧ s'.os = s₁.os ∧ AllBare s'.gens) s₁) :
    WalkO q loose XP YP l.row.toRowW d [] (fun f vs => PySem.call f vs) := by
  intro w s₀ s₁ mg mb G Y fa o pm cd doc dV kV ho hd hcd hD hmg hg args vals as hpre hlay hrd hwl hlo
  obtain rfl : dV = .none := Dflts.none hD hdf
  obtain rfl : kV = .none := Dflts.noKw hD
  obtain ⟨a, vs, ns, rfl, rfl, hobj, hints, hlen⟩ := script_of hn hpre hwl
  refine enter_call (codeAny_mono (call w s₀ s₁ mg mb fa o pm cd doc a vs ns G Y ho (fd_plain hd) hcd hmg hobj hints hlen hg) fun r s' hq => ?_)
  obtain ⟨rfl, h2, h3, h4⟩ := hq
  exact ⟨.inl ⟨.bool true, .bool true, [], rfl, fun _ => rfl, .bool true, post_true l _, fun _ => ⟨List.Pairwise.nil, fun _ hm => (nomatch hm)⟩⟩, h2, h3, h4⟩

section
variable {prog : Program} {w : World} {A : Around} {E : Value → Shared → Prop} {s : Shared} {K : Frag}

end
end Att

namespace L2
open PySem PySem.Spec PyProof.Rows

theorem vals_ints : ∀ {vs : List Value} {ns : List Int}, IntsAre vs ns → Vals (ns.map V.int) vs
  | _, _, .nil => .nil
  | _, _, .cons n t h => .cons ⟨t, rfl⟩ (vals_ints h)

/-- nothing is tracked but the script, known to the object (or it is an object of the module) -/
noncomputable def Only (H : Hp) : Prop := ∀ b, H b = none ∨ ∃ o xs, H b = some (.frz o (.lst xs))

/-- THE HEAD: the law's promise, at the heap behind the top. F, the promise of the law's def, may use that base is part of the heap (so K.In base, base.Ns mainGlobals mg stand in Mod) -/
theorem law_call {P : Program} {w : World} {K : PySem.W.Frag} {mg mb : Str → Option Value} {CX : CXT} {k : Nat} {fa a : Addr} {fd : FuncData} {x : Str} {sp : Sp} {s₁ : Shared} {vs : List Value} {ns : List Int}
    (KX : K.In s₁.heap) (hns : s₁.heap.Ns mainGlobals mg) (hb : s₁.heap.Ns builtinsNs mb) (hbb : ∀ x : Str, x ≠ "__name__" → mb x = bootBuiltins x) (hlim : s₁.heap.NoLimit) (hg : s₁.gens = #[])
    (ha : s₁.heap.get? a = some { cls := .type "list", data := .seq vs.toArray }) (hi : IntsAre vs ns) (hl : ns.length ≤ sizeLine) (hr : Room k callerA)
    (F : ∀ base : Heap, K.In base → base.Ns mainGlobals mg → FnOk P w K mg base CX k fa fd [x] sp) (hbind : ∀ (s : Shared) (u : Value), BindsTo s fd ⟨[u], []⟩ [(x, u)])
    (hsp : ∀ H : Hp, Only H → SqL K H a (ns.map V.int) → sp [.ref a] H (fun v _ => v = .bl true) fun _ _ _ => False)
    (hCX : ∀ H e s', CX [] H s₁ (fun _ _ _ => False) e s' → False) :
    codeAny (model P w) callerA (.call (.ref fa) ⟨[.ref a], []⟩) (fun r s' => r = .ok (.ret (.bool true)) ∧ OldK s₁.heap s'.heap ∧ s'.os = s₁.os ∧ AllBare s'.gens) s₁ := by
  have rv := vals_ints hi
  have lenV := hi.length
  -- from an abstract heap in which nothing but the script may be tracked
  have core : ∀ H : Hp, Only H → SqL K H a (ns.map V.int) → HOk P w H s₁.heap → (∀ b, H b ≠ none → b = a) → (H a ≠ none → K.lookup a = none) →
      codeAny (model P w) callerA (.call (.ref fa) ⟨[.ref a], []⟩) (fun r s' => r = .ok (.ret (.bool true)) ∧ OldK s₁.heap s'.heap ∧ s'.os = s₁.os ∧ AllBare s'.gens) s₁ := by
    intro H hO hS hok hA hK
    have base_of : ∀ {b : Addr} {o : Obj}, s₁.heap.get? b = some o → H b = none → (hidT s₁.heap H).get? b = some o := fun e n => hidT_get e n
    have noA : ∀ {b : Addr} {o : Obj} {es : Array DictEntry} {ep : Nat}, s₁.heap.get? b = some o → o.data = .dict es ep → H b = none := fun {b o es ep} e d => by
      cases q : H b with
      | none => rfl
      | some u =>
        have e' : b = a := hA b (by rw [q]; simp)
        subst e'
        rw [ha] at e; cases e
        have d' : Data.seq vs.toArray _ = Data.dict es ep := d
        cases d'
    have nsK : ∀ {b : Addr} {m : Str → Option Value}, s₁.heap.Ns b m → (hidT s₁.heap H).Ns b m := fun {b m} ⟨o, es, ep, e, d, r⟩ => ⟨o, es, ep, base_of e (noA e d), d, r⟩
    have hKb : K.In (hidT s₁.heap H) := fun b o e => base_of (KX b o e) (by
      cases q : H b with
      | none => rfl
      | some u =>
        have e' : b = a := hA b (by rw [q]; simp)
        subst e'
        rw [hK (by rw [q]; simp)] at e; cases e)
    have hM : Mod K mg (hidT s₁.heap H) := ⟨hKb, nsK hns, ⟨mb, nsK hb, hbb⟩, let ⟨mc, h1, h2⟩ := hlim; ⟨mc, nsK h1, h2⟩⟩
    have e0 : Env0 P w K mg (hidT s₁.heap H) callerA [] s₁ H := ⟨rfl, hM, fun b o e => of_hidT e, Nat.le_of_eq (hidT_size _ _), trivial, fun b hb => absurd (show b ∈ ([] : List Addr) from hb) (by simp), hok, .of_eq hg⟩
    refine codeAny_mono ((F _ hKb (nsK hns)).run callerA [] s₁ H ⟨[.ref a], []⟩ [.ref a] [.ref a] _ _ hr e0 (hbind s₁ (.ref a)) (.cons rfl .nil) (hsp H hO hS)) fun r s' h => ?_
    cases r with
    | error e => exact (hCX H e s' h).elim
    | ok fl =>
      cases fl with
      | next => exact False.elim h
      | brk => exact False.elim h
      | cont => exact False.elim h
      | ret u =>
        obtain ⟨v, H', os, bare, un, hok', r', q⟩ := h
        have q' : v = .bl true := q
        subst q'
        obtain rfl : u = Value.bool true := r'
        refine ⟨rfl, OldK.of_keep fun b o e => ?_, os, bare⟩
        cases q : H b with
        | none => exact un.keep b o e q (by intro z; exact absurd (show b ∈ ([] : List Addr) from z) (by simp)) (by simp)
        | some u =>
          rcases hO b with z | ⟨ob, xs, z⟩
          · rw [q] at z; cases z
          · have z2 := un.frzs b ob _ z
            obtain ⟨e1, _⟩ := hok b _ z
            obtain ⟨e2, _⟩ := hok' b _ z2
            rw [e] at e1; cases e1
            exact e2
  cases hk : K.lookup a with
  | some o =>
    -- the script is one of the module's own objects
    have e := KX a o hk
    rw [ha] at e
    cases e
    refine core (fun _ => none) (fun _ => .inl rfl) (.inr ⟨_, vs.toArray, _, hk, rfl, rfl, rfl, by rw [List.size_toArray, lenV]; exact hl, by simpa using rv⟩) (fun b u z => by have z' : (none : Option HO) = some u := z; cases z') (fun b z => absurd rfl z) fun z => absurd rfl z
  | none =>
    refine core (fun b => if b = a then some (.frz { cls := .type "list", data := .seq vs.toArray } (.lst (ns.map V.int))) else none) (fun b => ?_) (.inl (.inr ⟨{ cls := .type "list", data := .seq vs.toArray }, if_pos rfl⟩)) (fun b u z => ?_) (fun b z => ?_) fun _ => hk
    · by_cases hb : b = a
      · exact .inr ⟨_, _, if_pos hb⟩
      · exact .inl (if_neg hb)
    · by_cases hb : b = a
      · have z' := (if_pos hb).symm.trans z
        cases z'
        subst hb
        exact ⟨ha, by rw [List.length_map]; exact hl, vs, _, rv, ha⟩
      · have z' := (if_neg hb).symm.trans z
        cases z'
    · by_cases hb : b = a
      · exact hb
      · exact absurd (if_neg hb) z
end L2

namespace L2
open PySem PySem.Spec PyProof.Rows

/-- the goal that k_head leaves (case hc), from the law's promise. F gives the function object fd (K's own) once, then the promise over every base -/
theorem walk_of {l : PySem.W.OpenLaw} {n k : Nat} {q : Program} {loose : List Str} {XP : (Str → Option Value) → Heap → Prop} {YP : World → Heap → Prop} {d : DefRec} {K : Params → PySem.W.Frag} {CX : World → CXT} {sp : World → Sp} {x : Str}
    (hn : l.most = some n) (hn2 : n ≤ sizeLine) (hdf : d.params.defaults = []) (hr : Room k callerA)
    (hY : ∀ (w : World) (h : Heap), YP w h → (K w.params).In h)
    (F : ∀ (w : World) (mg : Str → Option Value) (fa : Addr) (h : Heap), (K w.params).In h → h.Ns mainGlobals mg → mg d.name = some (.ref fa) →
      ∃ fd : FuncData, (∀ (s : Shared) (u : Value), BindsTo s fd ⟨[u], []⟩ [(x, u)]) ∧
        ∀ base : Heap, (K w.params).In base → base.Ns mainGlobals mg → FnOk l.prog w (K w.params) mg base (CX w) k fa fd [x] (sp w))
    (hsp : ∀ (w : World) (H : Hp) (a : Addr) (ns : List Int), ns.length ≤ n → Only H → SqL (K w.params) H a (ns.map V.int) → sp w [.ref a] H (fun v _ => v = .bl true) fun _ _ _ => False)
    (hCX : ∀ (w : World) (H : Hp) (s : Shared) (e : Value) (s' : Shared), CX w [] H s (fun _ _ _ => False) e s' → False) :
    PySem.W.WalkO q loose XP YP l.row.toRowW d [] (fun f vs => PySem.call f vs) := by
  refine Att.attach_call hn hdf fun w s₀ s₁ mg mb fa o pm cd doc a vs ns G Y ho hd hcd hmg hobj hints hlen hg => ?_
  have KX := hY w _ Y
  obtain ⟨fd, hb, hF⟩ := F w mg fa _ KX G.T.g hmg
  exact law_call KX G.T.g G.T.b G.T.builtins G.T.nolimit hg hobj hints (Nat.le_trans hlen hn2) hr hF hb (fun H hO hS => hsp w H a ns hlen hO hS) fun H e s' => hCX w H s₁ e s'
/-- the same where the promise hangs on the written part alone: (sp := My.sp_law), no hole under a binder -/
theorem walk_ofK {l : PySem.W.OpenLaw} {n k : Nat} {q : Program} {loose : List Str} {XP : (Str → Option Value) → Heap → Prop} {YP : World → Heap → Prop} {d : DefRec} {K : Params → PySem.W.Frag} {CX : CXT} {sp : PySem.W.Frag → Sp} {x : Str}
    (hn : l.most = some n) (hn2 : n ≤ sizeLine) (hdf : d.params.defaults = []) (hr : Room k callerA)
    (hY : ∀ (w : World) (h : Heap), YP w h → (K w.params).In h)
    (F : ∀ (w : World) (mg : Str → Option Value) (fa : Addr) (h : Heap), (K w.params).In h → h.Ns mainGlobals mg → mg d.name = some (.ref fa) →
      ∃ fd : FuncData, (∀ (s : Shared) (u : Value), BindsTo s fd ⟨[u], []⟩ [(x, u)]) ∧
        ∀ base : Heap, (K w.params).In base → base.Ns mainGlobals mg → FnOk l.prog w (K w.params) mg base CX k fa fd [x] (sp (K w.params)))
    (hsp : ∀ (K : PySem.W.Frag) (H : Hp) (a : Addr) (ns : List Int), ns.length ≤ n → Only H → SqL K H a (ns.map V.int) → sp K [.ref a] H (fun v _ => v = .bl true) fun _ _ _ => False)
    (hCX : ∀ (H : Hp) (s : Shared) (e : Value) (s' : Shared), CX [] H s (fun _ _ _ => False) e s' → False) :
    PySem.W.WalkO q loose XP YP l.row.toRowW d [] (fun f vs => PySem.call f vs) :=
  walk_of (K := K) (CX := fun _ => CX) (sp := fun w => sp (K w.params)) hn hn2 hdf hr hY F (fun w H a ns h1 h2 h3 => hsp (K w.params) H a ns h1 h2 h3) fun _ H s e s' => hCX H s e s'
end L2

/- THE LAST THEOREM (shape; LID, My.* are yours):
   My.Adr: a structure of the addresses that your layer names (classes, functions); My.Txt K t: a structure (Prop) of the equations over K;
   My.txt_mk : {K} {implicit addresses ..} (e1 : nsIn K mainGlobals "law" = some (some (.ref f))) (e2 : K.lookup f = some ⟨oc, od, .func (fnOf "law" "law" params body scope dV kV doc pm an cdv ct), sl⟩) (e3 : codeIn K cdv "law" = true) .. : ∃ t, My.Txt K t

set_option maxRecDepth 100000 in
set_option maxHeartbeats 0 in
theorem PySem.Challenge.cw_LID_holds : PySem.Challenge.rw_LID.Holds := by
  w_on; o_law; k_head; (case hw => w_witness2)
  k_fill
  refine L2.walk_of (l := PySem.Challenge.rw_LID) (n := 63) (k := 40) (x := "script") (CX := fun w => ..) (sp := fun _ => My.sp_law) rfl (by decide) rfl ⟨rfl, by decide, by decide⟩ (fun w h Y => PySem.W.kIn_of Y) ?F ?S ?C
  case F =>
    intro w mg fa h KX G hmg
    have T : ∃ t, My.Txt (L2.KOf KX) t := by
      dsimp only []                          -- K must stand as «<heap const> w.params» for k_is
      refine' My.txt_mk ?e1 ?e2 ?e3 ..
      (case e1 => PySem.W.k_is)                    -- in the order: a name -> its address -> its object -> its parts
      (case e2 => PySem.W.k_is)
      ..
    obtain ⟨t, T⟩ := T
    have e0 := hmg.symm.trans (PySem.W.mg_of KX G T.law)
    cases e0                                       -- fa is the law's own address
    exact ⟨_, fun s u => .of_eq rfl, fun base kb nb => My.law_fn T kb nb⟩     -- if «.of_eq rfl» comes too early: refine' ⟨_, ?b, fun base kb nb => My.law_fn T kb nb⟩; exact fun s u => .of_eq rfl
  case S => exact fun w H a ns hl hO hS => ..
  case C => exact ..
(the tactic k_is has no namespace: write k_is) -/

namespace L2
open PySem PySem.Spec PyProof.Rows

/-- the j-th statement of a class's body -/
noncomputable def inClass (s : Stmt) (j : Nat) : Stmt := match s with
  | .ClassDef _ _ _ body _ _ _ _ _ _ _ => body.getD j (.Pass ⟨0, 0, 0, 0⟩)
  | _ => .Pass ⟨0, 0, 0, 0⟩
noncomputable def defArgs (s : Stmt) : Arguments := match s with
  | .FunctionDef _ a _ _ _ _ _ _ _ _ => a
  | _ => { posonlyargs := [], args := [], vararg := none, kwonlyargs := [], kw_defaults := [], kwarg := none, defaults := [] }
noncomputable def defBody (s : Stmt) : List Stmt := match s with
  | .FunctionDef _ _ b _ _ _ _ _ _ _ => b
  | _ => []
noncomputable def defScope (s : Stmt) : Scope := match s with
  | .FunctionDef _ _ _ _ _ _ sc _ _ _ => sc
  | _ => { kind := .function, names := [], isGenerator := false, isCoroutine := false }

noncomputable abbrev CX0 : CXT := fun _ _ _ _ _ _ => False
noncomputable abbrev E0 : XK := fun _ _ _ => False
theorem pass0 {X : Cx} : Passes CX0 X E0 := fun _ _ _ _ _ _ _ h => h.elim

structure Fun (K : PySem.W.Frag) (x qual : Str) (st : Stmt) (f : Addr) (fd : FuncData) : Prop where
  ex : ∃ (oc : Value) (od : Option Addr) (kV doc pm : Value) (an : Option Addr) (cdv ct : Value) (osl : Array (Option Value)),
    fd = PySem.W.fnOf x qual (defArgs st) (defBody st) (defScope st) .none kV doc pm an cdv ct ∧ K.lookup f = some ⟨oc, od, .func fd, osl⟩ ∧ PySem.W.codeIn K cdv qual = true
  kp : PySem.W.keepIn K (.ref f) = true
section
variable {P : Program} {w : World} {K : PySem.W.Frag} {mg : Str → Option Value} {base : Heap}
/-- how its arguments bind (no defaults): h is «fun _ _ _ _ _ _ us hl => match us, hl with | [_, _], _ => rfl», one _ a parameter -/
theorem Fun.binds {x qual : Str} {st : Stmt} {f : Addr} {fd : FuncData} {ps : List Str} (F : Fun K x qual st f fd)
    (h : ∀ (kV doc pm : Value) (an : Option Addr) (cdv ct : Value) (us : List Value), us.length = ps.length → bindArgs (PySem.W.fnOf x qual (defArgs st) (defBody st) (defScope st) .none kV doc pm an cdv ct) ⟨us, []⟩ = pure (ps.zip us)) : Binds K fd ps [] := by
  obtain ⟨oc, od, kV, doc, pm, an, cdv, ct, osl, rfl, lk, hcd⟩ := F.ex
  exact .all (h kV doc pm an cdv ct)
theorem fun_mk {x qual : Str} {st : Stmt} {f : Addr} {oc : Value} {od an : Option Addr} {osl : Array (Option Value)} {kV doc pm cdv ct : Value} (l : K.lookup f = some ⟨oc, od, .func (PySem.W.fnOf x qual (defArgs st) (defBody st) (defScope st) .none kV doc pm an cdv ct), osl⟩)
    (c : PySem.W.codeIn K cdv qual = true) (k : PySem.W.keepIn K (.ref f) = true) : Fun K x qual st f (PySem.W.fnOf x qual (defArgs st) (defBody st) (defScope st) .none kV doc pm an cdv ct) := ⟨⟨oc, od, kV, doc, pm, an, cdv, ct, osl, rfl, l, c⟩, k⟩
end
section
variable {X : Cx}
theorem pv (i : Nat) {x : Str} {pos : Pos} (hN : X.N[i]? = some x := by rfl) (hv : Vis X.env.scope x := by first | exact Or.inl rfl | exact Or.inr (Or.inl rfl) | exact Or.inr (Or.inr rfl)) (hd : (x == ("__debug__" : Str)) = false := by decide)
    (hcd : (x == ("__classdict__" : Str)) = false := by decide) : PE X (.Name x pos) (tVar i) := pe_var hN hv hd hcd
end

/-- all that was tracked is as it was -/
noncomputable def Same (H H' : Hp) : Prop := ∀ b o, H b = some o → H' b = some o
theorem Same.refl (H : Hp) : Same H H := fun _ _ h => h
theorem Same.seq {K : PySem.W.Frag} {H H' : Hp} {a : Addr} {xs : List V} (e : Same H H') (h : SqL K H a xs) : SqL K H' a xs := by
  rcases h with (h | ⟨o, h⟩) | h
  · exact .inl (.inl (e _ _ h))
  · exact .inl (.inr ⟨o, e _ _ h⟩)
  · exact .inr h

end L2


set_option maxRecDepth 100000
namespace L2
open PySem PySem.Spec PyProof.Rows

section
variable {κ : Type} [DecidableEq κ]
noncomputable def valV (kvs : List (κ × V)) (k : κ) : Option V := (kvs.find? fun kv => decide (kv.1 = k)).map (·.2)
/-- in its place, or at the end -/
noncomputable def putK (kvs : List (κ × V)) (k : κ) (v : V) : List (κ × V) :=
  if (kvs.any fun kv => decide (kv.1 = k)) = true then kvs.map (fun kv => if kv.1 = k then (kv.1, v) else kv) else kvs ++ [(k, v)]
theorem valV_nil {k : κ} : valV ([] : List (κ × V)) k = none := rfl
theorem valV_pos {p : κ × V} {r : List (κ × V)} {k : κ} (e : p.1 = k) : valV (p :: r) k = some p.2 := by simp [valV, List.find?_cons, e]
theorem valV_neg {p : κ × V} {r : List (κ × V)} {k : κ} (e : ¬ p.1 = k) : valV (p :: r) k = valV r k := by simp [valV, List.find?_cons, e]
theorem valV_any (k : κ) : ∀ kvs : List (κ × V), (kvs.any fun kv => decide (kv.1 = k)) = (valV kvs k).isSome
  | [] => rfl
  | p :: r => by
    rw [List.any_cons]
    by_cases e : p.1 = k
    · simp only [valV_pos e, decide_eq_true e, Bool.true_or, Option.isSome_some]
    · rw [valV_neg e, decide_eq_false e, Bool.false_or]; exact valV_any k r
theorem valV_map (k j : κ) (y : V) : ∀ kvs : List (κ × V), valV (kvs.map fun kv => if kv.1 = k then (kv.1, y) else kv) j = (valV kvs j).map fun x => if j = k then y else x
  | [] => rfl
  | p :: r => by
    have ih := valV_map k j y r
    rw [List.map_cons]
    by_cases h : p.1 = k
    · rw [if_pos h]
      by_cases e : p.1 = j
      · rw [valV_pos (p := (p.1, y)) e, valV_pos e, Option.map_some, if_pos (e.symm.trans h)]
      · rw [valV_neg (p := (p.1, y)) e, valV_neg e, ih]
    · rw [if_neg h]
      by_cases e : p.1 = j
      · rw [valV_pos (p := p) e, valV_pos e, Option.map_some, if_neg (fun z => h (e.trans z))]
      · rw [valV_neg (p := p) e, valV_neg e, ih]
theorem valV_snoc (k j : κ) (y : V) : ∀ kvs : List (κ × V), valV kvs k = none → valV (kvs ++ [(k, y)]) j = if j = k then some y else valV kvs j
  | [], _ => by
    by_cases e : k = j
    · rw [if_pos e.symm]; exact valV_pos (p := (k, y)) e
    · rw [if_neg (fun z => e z.symm)]; exact valV_neg (p := (k, y)) e
  | p :: r, hn => by
    rw [List.cons_append]
    have hk : ¬ p.1 = k := fun z => by rw [valV_pos z] at hn; cases hn
    rw [valV_neg hk] at hn
    have ih := valV_snoc k j y r hn
    by_cases e : p.1 = j
    · rw [valV_pos e, valV_pos e, if_neg (fun z => hk (e.trans z))]
    · rw [valV_neg e, valV_neg e, ih]
theorem valV_put (kvs : List (κ × V)) (k j : κ) (y : V) : valV (putK kvs k y) j = if j = k then some y else valV kvs j := by
  unfold putK
  by_cases a : (kvs.any fun kv => decide (kv.1 = k)) = true
  · rw [if_pos a, valV_map]
    rw [valV_any] at a
    by_cases e : j = k
    · obtain ⟨x, hx⟩ := Option.isSome_iff_exists.mp a
      rw [if_pos e, e, hx, Option.map_some, if_pos rfl]
    · rw [if_neg e]
      cases valV kvs j with
      | none => rfl
      | some x => rw [Option.map_some, if_neg e]
  · rw [if_neg a]
    refine valV_snoc k j y kvs ?_
    rw [valV_any] at a
    cases q : valV kvs k with
    | none => rfl
    | some x => rw [q] at a; exact (a rfl).elim
theorem length_putK (kvs : List (κ × V)) (k : κ) (v : V) : (putK kvs k v).length ≤ kvs.length + 1 := by
  unfold putK
  split
  · rw [List.length_map]; lia
  · rw [List.length_append, List.length_cons, List.length_nil]; lia
theorem RelO.isSome_eq {o : Option V} {u : Option Value} (r : RelO o u) : o.isSome = u.isSome := by
  cases o with
  | none => cases u with
    | none => rfl
    | some _ => exact (show False from r).elim
  | some _ => cases u with
    | none => exact (show False from r).elim
    | some _ => rfl
/-- raw tables of the same keys -/
theorem KV.val {kvs : List (κ × V)} {vs : List (κ × Value)} (r : KV kvs vs) (k : κ) : RelO (valV kvs k) (valueAt vs k) := by
  unfold KV at r
  induction r with
  | nil => exact True.intro
  | @cons p q ps qs h t ih =>
    obtain ⟨h1, h2⟩ := h
    by_cases e : p.1 = k
    · have e' : q.1 = k := h1.symm.trans e
      have b : valueAt (q :: qs) k = some q.2 := by simp [valueAt, List.find?_cons, e']
      rw [valV_pos e, b]; exact h2
    · have e' : ¬ q.1 = k := fun z => e (h1.trans z)
      have b : valueAt (q :: qs) k = valueAt qs k := by simp [valueAt, List.find?_cons, e']
      rw [valV_neg e, b]; exact ih
theorem KV.any {kvs : List (κ × V)} {vs : List (κ × Value)} (r : KV kvs vs) (k : κ) : (kvs.any fun kv => decide (kv.1 = k)) = vs.any fun kv => decide (kv.1 = k) := by
  unfold KV at r
  induction r with
  | nil => rfl
  | cons h t ih => rw [List.any_cons, List.any_cons, ih, h.1]
theorem KV.repl {kvs : List (κ × V)} {vs : List (κ × Value)} (r : KV kvs vs) (k : κ) {y : V} {u : Value} (ry : RelV y u) :
    KV (kvs.map fun kv => if kv.1 = k then (kv.1, y) else kv) (vs.map fun kv => if kv.1 = k then (kv.1, u) else kv) := by
  unfold KV at r ⊢
  induction r with
  | nil => exact .nil
  | @cons p q ps qs h t ih =>
    rw [List.map_cons, List.map_cons]
    refine .cons ?_ ih
    obtain ⟨h1, h2⟩ := h
    by_cases e : p.1 = k
    · rw [if_pos e, if_pos (h1.symm.trans e)]; exact ⟨h1, ry⟩
    · rw [if_neg e, if_neg (fun z => e (h1.trans z))]; exact ⟨h1, h2⟩
theorem KV.put {kvs : List (κ × V)} {vs : List (κ × Value)} (r : KV kvs vs) (k : κ) {y : V} {u : Value} (ry : RelV y u) : KV (putK kvs k y) (stored vs k u) := by
  unfold putK stored
  rw [r.any k]
  by_cases e : (vs.any fun kv => decide (kv.1 = k)) = true
  · rw [if_pos e, if_pos e]; exact r.repl k ry
  · rw [if_neg e, if_neg e]; exact Paired.snoc r ⟨rfl, ry⟩
theorem KV.length {kvs : List (κ × V)} {vs : List (κ × Value)} (r : KV kvs vs) : kvs.length = vs.length := Paired.length r
end


theorem kV_is {P : Program} {w : World} {k : Key} {u : Value} (r : RelV (kV k) u) : (mixKind P w).is k u = true := by
  cases k with
  | inl i => obtain ⟨t, e⟩ := (show ∃ t, u = Value.int i t from r); subst e; exact mixKind_int P w i t
  | inr x => obtain ⟨t, e⟩ := (show ∃ t, u = Value.str x t from r); subst e; exact mixKind_str P w x t
theorem items_are {P : Program} {w : World} : ∀ {ks : List Key} {us : List Value}, Vals (ks.map kV) us → ItemsAre (mixKind P w) ks us
  | [], _, r => by rw [List.map_nil] at r; cases r; exact .nil
  | k :: ks, _, r => by
    rw [List.map_cons] at r
    cases r with
    | cons h t => exact .cons (kV_is h) (items_are t)

/-- raw entries of a dict with tuple keys -/
noncomputable abbrev KT (H : Hp) : List (List Key × V) → List (List Key × Addr × Value) → Prop := Paired fun p q => p.1 = q.1 ∧ H q.2.1 = some (.tup (p.1.map kV)) ∧ RelV p.2 q.2.2
theorem KT.val {H : Hp} {kvs : List (List Key × V)} {xs : List (List Key × Addr × Value)} (r : KT H kvs xs) (k : List Key) : RelO (valV kvs k) ((atKey xs k).map (·.2)) := by
  induction r with
  | nil => exact True.intro
  | @cons p q ps qs h t ih =>
    obtain ⟨h1, _, h2⟩ := h
    by_cases e : p.1 = k
    · have e' : q.1 = k := h1.symm.trans e
      have b : atKey (q :: qs) k = some q.2 := by simp [atKey, List.find?_cons, e']
      rw [valV_pos e, b]; exact h2
    · have e' : ¬ q.1 = k := fun z => e (h1.trans z)
      have b : atKey (q :: qs) k = atKey qs k := by simp [atKey, List.find?_cons, e']
      rw [valV_neg e, b]; exact ih
theorem KT.repl {H : Hp} {kvs : List (List Key × V)} {xs : List (List Key × Addr × Value)} (r : KT H kvs xs) (k : List Key) {y : V} {u : Value} (ry : RelV y u) :
    KT H (kvs.map fun kv => if kv.1 = k then (kv.1, y) else kv) (xs.map (putAt k u)) := by
  induction r with
  | nil => exact .nil
  | @cons p q ps qs h t ih =>
    rw [List.map_cons, List.map_cons]
    refine .cons ?_ ih
    obtain ⟨h1, h2, h3⟩ := h
    unfold putAt
    by_cases e : p.1 = k
    · rw [if_pos e, if_pos (h1.symm.trans e)]; exact ⟨h1, h2, ry⟩
    · rw [if_neg e, if_neg (fun z => e (h1.trans z))]; exact ⟨h1, h2, h3⟩
theorem KT.put {H : Hp} {kvs : List (List Key × V)} {xs : List (List Key × Addr × Value)} (r : KT H kvs xs) (k : List Key) {b : Addr} {y : V} {u : Value} (hb : H b = some (.tup (k.map kV))) (ry : RelV y u) :
    KT H (putK kvs k y) (storedH xs k b u) := by
  have e : (kvs.any fun kv => decide (kv.1 = k)) = (atKey xs k).isSome := by
    rw [valV_any, (r.val k).isSome_eq, Option.isSome_map]
  unfold putK storedH
  rw [e]
  by_cases q : (atKey xs k).isSome = true
  · rw [if_pos q, if_pos q]; exact r.repl k ry
  · rw [if_neg q, if_neg q]; exact Paired.snoc r ⟨rfl, hb, ry⟩
theorem KT.keeps {H H' : Hp} {kvs : List (List Key × V)} {xs : List (List Key × Addr × Value)} (r : KT H kvs xs) (ht : ∀ b ys, H b = some (.tup ys) → H' b = some (.tup ys)) : KT H' kvs xs :=
  Paired.mapP r fun _ _ z => ⟨z.1, ht _ _ z.2.1, z.2.2⟩

section
variable {P : Program} {w : World} {H : Hp} {h : Heap} {a : Addr}
theorem rd_of {u : HO} (ok : HOk P w H h) (e : Rd H a u) : ObjOk P w H h a u := e.ok ok
theorem dk_rd {kvs : List (Key × V)} (ok : HOk P w H h) (e : Rd H a (.dK kvs)) : kvs.length ≤ sizeLine ∧ (a == sysModules) = false ∧ ∃ vs, KV kvs vs ∧ h.DictOf (mixKind P w) a vs :=
  show ObjOk P w H h a (.dK kvs) from rd_of ok e
theorem dk_of {kvs : List (Key × V)} (ok : HOk P w H h) (e : H a = some (.dK kvs)) : kvs.length ≤ sizeLine ∧ (a == sysModules) = false ∧ ∃ vs, KV kvs vs ∧ h.DictOf (mixKind P w) a vs := dk_rd ok (.inl e)
/-- a tracked tuple of ints and texts is a key -/
theorem key_of {ks : List Key} (ok : HOk P w H h) (e : H a = some (.tup (ks.map kV))) : (tupleKind (mixKind P w)).is h ks a := by
  obtain ⟨_, its, r, o, h1, h2, n, h3⟩ := (show ObjOk P w H h a (.tup (ks.map kV)) from ok a _ e)
  exact ⟨o, its.toArray, n, h1, h2, h3, by simpa using items_are r⟩
theorem dt_rd {kvs : List (List Key × V)} (ok : HOk P w H h) (e : Rd H a (.dT kvs)) : kvs.length ≤ sizeLine ∧ (a == sysModules) = false ∧
    ∃ xs, KT H kvs xs ∧ h.DictOfH (tupleKind (mixKind P w)) a xs := by
  obtain ⟨z, y, xs, r, o, es, ep, h1, h2, h3, h4, h5⟩ := (show ObjOk P w H h a (.dT kvs) from rd_of ok e)
  refine ⟨z, y, xs, r, o, es, ep, h1, h2, h3, h4, fun x hx => ?_, h5⟩
  have all : ∀ {l : List (List Key × V)} {m : List (List Key × Addr × Value)}, KT H l m → ∀ x ∈ m, (tupleKind (mixKind P w)).is h x.1 x.2.1 := by
    intro l m q
    induction q with
    | nil => intro x hx; exact nomatch hx
    | @cons p q ps qs hq t ih =>
      intro x hx
      rcases List.mem_cons.mp hx with e | hx
      · subst e
        exact key_of ok (by rw [← hq.1]; exact hq.2.1)
      · exact ih x hx
  exact all r x hx
theorem dt_of {kvs : List (List Key × V)} (ok : HOk P w H h) (e : H a = some (.dT kvs)) : kvs.length ≤ sizeLine ∧ (a == sysModules) = false ∧
    ∃ xs, KT H kvs xs ∧ h.DictOfH (tupleKind (mixKind P w)) a xs := dt_rd ok (.inl e)
end

/-- what the dict at a holds at the key y -/
noncomputable def DGet (H : Hp) (a : Addr) (y : V) (r : Option V) : Prop :=
  (∃ kvs k, Rd H a (.dK kvs) ∧ y = kV k ∧ r = valV kvs k) ∨ ∃ kvs k b, Rd H a (.dT kvs) ∧ y = .ref b ∧ H b = some (.tup (k.map kV)) ∧ r = valV kvs k
/-- the heap behind a[y] = v -/
noncomputable def DPut (H : Hp) (a : Addr) (y v : V) (H' : Hp) : Prop :=
  (∃ kvs k, H a = some (.dK kvs) ∧ y = kV k ∧ kvs.length < sizeLine ∧ H' = upd H a (.dK (putK kvs k v))) ∨
  ∃ kvs k b, H a = some (.dT kvs) ∧ y = .ref b ∧ H b = some (.tup (k.map kV)) ∧ kvs.length < sizeLine ∧ H' = upd H a (.dT (putK kvs k v))
theorem DGet.k {H : Hp} {a : Addr} {kvs : List (Key × V)} {k : Key} (e : H a = some (.dK kvs)) : DGet H a (kV k) (valV kvs k) := .inl ⟨kvs, k, .inl e, rfl, rfl⟩
theorem DPut.k {H : Hp} {a : Addr} {kvs : List (Key × V)} {k : Key} {v : V} (e : H a = some (.dK kvs)) (hl : kvs.length < sizeLine) : DPut H a (kV k) v (upd H a (.dK (putK kvs k v))) := .inl ⟨kvs, k, e, rfl, hl, rfl⟩
section
variable {X : Cx} {pins : List (Addr × Obj)} {σ : St} {H : Hp} {s : Shared} {a : Addr} {y v : V} {u r : Value} {o : Option V} {A : Around} {E : Value → Shared → Prop}

theorem Inv.big (I : Inv X pins σ H s) : sysModules < s.heap.objs.size := by
  have h : mainGlobals < s.heap.objs.size := (I.mod.glob.keeps I.bk).lt
  exact Nat.lt_trans (by decide) h

/-- d[y], there -/
theorem d_getItem {Q : Value → Shared → Prop} (hu : A.units + 1 < cLine) (I : Inv X pins σ H s) (g : DGet H a y (some v)) (ry : RelV y u) (h : ∀ w' s', Inv X pins σ H s' → RelV v w' → Q w' s') :
    wpAny (model X.prog X.w) A (getItem (.ref a) u) Q E s := by
  rcases g with ⟨kvs, k, e, ey, l⟩ | ⟨kvs, k, b, e, ey, eb, l⟩
  · subst ey
    obtain ⟨z, hd, vs, rel, dd⟩ := dk_rd I.hok e
    obtain ⟨w', hw, rw'⟩ := RelO.some_of (v := v) (o := valueAt vs k) (by rw [l]; exact rel.val k)
    exact wpAny_getItem_of (kV_is ry) dd.mapOf hw (h w' _ (I.tok _) rw')
  · subst ey
    cases (show u = Value.ref b from ry)
    obtain ⟨z, hd, xs, rel, dd⟩ := dt_rd I.hok e
    obtain ⟨w', hw, rw'⟩ := RelO.some_of (v := v) (o := (atKey xs k).map (·.2)) (by rw [l]; exact rel.val k)
    obtain ⟨p, hp, hp2⟩ := Option.map_eq_some_iff.mp hw
    refine wpAny_getItem_heap (tupleKind_room_in1 hu) (key_of I.hok eb) dd hp ?_
    rw [hp2]
    exact h w' _ (I.tok _) rw'
/-- y in d -/
theorem d_in {Q : Value → Shared → Prop} (hu : A.units + 1 < cLine) (I : Inv X pins σ H s) (g : DGet H a y o) (ry : RelV y u) (h : ∀ s', Inv X pins σ H s' → Q (.bool o.isSome) s') :
    wpAny (model X.prog X.w) A (compareOp .In u (.ref a)) Q E s := by
  rcases g with ⟨kvs, k, e, ey, l⟩ | ⟨kvs, k, b, e, ey, eb, l⟩
  · subst ey
    obtain ⟨z, hd, vs, rel, dd⟩ := dk_rd I.hok e
    refine wpAny_in_of (kV_is ry) hd dd.mapOf ?_
    rw [← (rel.val k).isSome_eq, ← l]
    exact h _ (I.tok _)
  · subst ey
    cases (show u = Value.ref b from ry)
    obtain ⟨z, hd, xs, rel, dd⟩ := dt_rd I.hok e
    refine wpAny_in_heap (tupleKind_room_in1 hu) (key_of I.hok eb) hd dd ?_
    have q := (rel.val k).isSome_eq
    rw [Option.isSome_map] at q
    rw [← q, ← l]
    exact h _ (I.tok _)
theorem d_notIn {Q : Value → Shared → Prop} (hu : A.units + 1 < cLine) (I : Inv X pins σ H s) (g : DGet H a y o) (ry : RelV y u) (h : ∀ s', Inv X pins σ H s' → Q (.bool (!o.isSome)) s') :
    wpAny (model X.prog X.w) A (compareOp .NotIn u (.ref a)) Q E s := by
  rcases g with ⟨kvs, k, e, ey, l⟩ | ⟨kvs, k, b, e, ey, eb, l⟩
  · subst ey
    obtain ⟨z, hd, vs, rel, dd⟩ := dk_rd I.hok e
    refine wpAny_notIn_of (kV_is ry) hd dd.mapOf ?_
    rw [← (rel.val k).isSome_eq, ← l]
    exact h _ (I.tok _)
  · subst ey
    cases (show u = Value.ref b from ry)
    obtain ⟨z, hd, xs, rel, dd⟩ := dt_rd I.hok e
    refine wpAny_notIn_heap (tupleKind_room_in1 hu) (key_of I.hok eb) hd dd ?_
    have q := (rel.val k).isSome_eq
    rw [Option.isSome_map] at q
    rw [← q, ← l]
    exact h _ (I.tok _)
/-- a dict's object is replaced -/
theorem d_write {h' : Heap} {t' : Nat} {ob : HO} (I : Inv X pins σ H s) (mu : Mut (H a)) (hs : Heap.SameBut a s.heap h') (he : ∃ q, h'.get? a = some q) (new : ObjOk X.prog X.w (upd H a ob) h' a ob) :
    Inv X pins σ (upd H a ob) { s with heap := h', toks := t' } :=
  I.write (x := a) (e := a) mu (.inl rfl) (fun b q hb z => (hs.2 b hb).trans z) he new
theorem dk_new {P : Program} {w : World} {H' : Hp} {h' : Heap} {kvs : List (Key × V)} {vs : List (Key × Value)} (z : kvs.length ≤ sizeLine) (hd : (a == sysModules) = false) (rel : KV kvs vs) (dd : h'.DictOf (mixKind P w) a vs) :
    ObjOk P w H' h' a (.dK kvs) := ⟨z, hd, vs, rel, dd⟩
/-- d[y] = v -/
theorem d_setItem {H' : Hp} {Q : Unit → Shared → Prop} (hu : A.units + 1 < cLine) (I : Inv X pins σ H s) (g : DPut H a y v H') (ry : RelV y u) (rv : RelV v r) (h : ∀ s', Inv X pins σ H' s' → Q () s') :
    wpAny (model X.prog X.w) A (setItem (.ref a) u r) Q E s := by
  rcases g with ⟨kvs, k, e, ey, l, eH⟩ | ⟨kvs, k, b, e, ey, eb, l, eH⟩
  · subst ey eH
    obtain ⟨z, hd, vs, rel, dd⟩ := dk_of I.hok e
    have hz : vs.length ≤ sizeLine := by rw [← rel.length]; exact z
    have hl : (putK kvs k v).length ≤ sizeLine := by have := length_putK kvs k v; lia
    refine wpAny_setItem_pairs (hsz := hz) (kV_is ry) dd fun h' dd' hs => h _ ?_
    have he : ∃ q, h'.get? a = some q := let ⟨q, _, _, hq, _⟩ := dd'; ⟨q, hq⟩
    exact d_write I (by rw [e]; exact True.intro) hs he (dk_new hl hd (rel.put k rv) dd')
  · subst ey eH
    cases (show u = Value.ref b from ry)
    obtain ⟨z, hd, xs, rel, dd⟩ := dt_of I.hok e
    have hz : xs.length ≤ sizeLine := by rw [← Paired.length rel]; exact z
    have hl : (putK kvs k v).length ≤ sizeLine := by have := length_putK kvs k v; lia
    refine wpAny_setItem_heap (hsz := hz) (tupleKind_room_in1 hu) (key_of I.hok eb) dd fun h' dd' hs => h _ ?_
    obtain ⟨q, es, ep, hq, h2, h3, h4, _, h5⟩ := dd'
    refine d_write I (by rw [e]; exact True.intro) hs ⟨q, hq⟩ ⟨hl, hd, _, (rel.put k eb rv).keeps fun c ys ec => ?_, q, es, ep, hq, h2, h3, h4, h5⟩
    rw [upd_ne (ne_of ec e (fun z => nomatch z))]
    exact ec
end

section
variable {X : Cx} {pins : List (Addr × Obj)} {σ : St} {H : Hp} {s : Shared} {a : Addr} {kvs : List (Key × V)} {k : Key} {u : Value} {A : Around} {E : Value → Shared → Prop}
end


/-- the element of a subscription, not a slice -/
noncomputable def NoSl (i : Expr) : Prop := ∀ ov iv, subscripted i false ov iv = operate [ov, iv] (getItem ov iv)
theorem subD_of {prog : Program} {w : World} {A : Around} {E : Value → Shared → Prop} {s : Shared} {env : Env} {value slice : Expr} {pos : Pos} {T id : String} {Q : Value → Shared → Prop}
    (hl : typeLookup (.type T) "__getitem__" = pure (some (.builtin id))) (hs : NoSl slice)
    (h : wpAny (model prog w) A (eval value env) (fun o s₁ => wpAny (model prog w) A (eval slice env) (fun i s₂ => s₂.TypeIs o T ∧ wpAny (model prog w) A (getItem o i) Q E s₂) E s₁) E s) :
    wpAny (model prog w) A (eval (.Subscript value slice pos) env) Q E s := by
  refine Subscript_ (wpAny_mono h (fun o s₁ h₁ => wpAny_mono h₁ (fun i s₂ h₂ => ?_) fun _ _ x => x) fun _ _ x => x)
  obtain ⟨hT, h₂⟩ := h₂
  unfold subscriptTail
  refine wpAny_bind ?_
  rw [getitemInPython_of_ne hT.not_modules]
  refine wpAny_bind (wpAny_specialOf hT hl ?_)
  have fin : wpAny (model prog w) A (subscripted slice false o i) (fun r s₃ => wpAny (model prog w) A (letTemporaryGo value o r >>= fun _ => pure r) Q E s₃) E s₂ := by
    rw [hs o i]
    exact wpAny_operating (wpAny_mono h₂ (fun r s₃ h₃ => wpAny_bind (wpAny_letTemporaryGo (wpAny_pure h₃))) fun _ _ x => x)
  first
    | exact wpAny_pure (wpAny_bind fin)
    | exact wpAny_bind (wpAny_pure (wpAny_bind fin))
    | exact wpAny_bind fin

theorem dict_typeIs {X : Cx} {pins : List (Addr × Obj)} {σ : St} {H : Hp} {s : Shared} {a : Addr} {y : V} {o : Option V} (I : Inv X pins σ H s) (g : DGet H a y o) : s.TypeIs (.ref a) "dict" := by
  rcases g with ⟨kvs, k, e, _, _⟩ | ⟨kvs, k, b, e, _, _, _⟩
  · obtain ⟨_, _, vs, _, dd⟩ := dk_rd I.hok e
    exact dd.typeIs
  · obtain ⟨_, _, xs, _, dd⟩ := dt_rd I.hok e
    exact dd.typeIs
section
variable {X : Cx} {o i e value : Expr} {pos pos' tpos : Pos} {td ty tv : TE}
end


theorem dk_empty {P : Program} {w : World} {H : Hp} (h : Heap) (hb : sysModules < h.objs.size) : ObjOk P w H (h.push { cls := .type "dict", data := .dict #[] }) h.objs.size (.dK []) :=
  ⟨Nat.zero_le _, beq_eq_false_iff_ne.mpr (Ne.symm (Nat.ne_of_lt hb)), [], .nil, Heap.DictOf.new h⟩
/-- {}, to be a dict of the kind that is wanted -/
noncomputable def tDNewK : TE := fun _ H Q => ∀ p, H p = none → Q (.ref p) (upd H p (.dK []))
section
variable {X : Cx} {pos : Pos}
theorem pe_dnewK : PE X (.Dict [] [] pos) tDNewK := fun pins s σ H Q I h =>
  wpAny_Dict_empty ⟨.ref s.heap.objs.size, _, I.laid (a := s.heap.objs.size) (o := .dK []) (t' := s.toks) (fun _ _ q => Heap.get?_push_of_some _ q) (Nat.le_refl _) (dk_empty s.heap I.big), rfl, h _ (I.hok.fresh (Nat.le_refl _))⟩
end

/-- a method call o.m(e) of a built-in, with one argument: what must be seen of the text -/
structure M1 (X : Cx) (o : Expr) (m : Str) (apos : Pos) (e : Expr) (cpos : Pos) : Prop where
  base : attributeBase o m X.env (eval o X.env) = eval o X.env
  few : ((backTo cpos (starEach [e] X.env)).all (fun x => !x.1) && (backToKw cpos (keywordEach [] X.env)).all (fun x => x.1.isSome)
    && decide (([e] : List Expr).length + ([] : List Keyword).length + (if ([] : List Keyword).isEmpty then 0 else 1) < 30)) = true
  line : (apos.endLine == cpos.line) = true
  trees : backTo cpos (starEach [e] X.env) = [(false, eval e X.env)]
structure M2 (X : Cx) (o : Expr) (m : Str) (apos : Pos) (e f : Expr) (cpos : Pos) : Prop where
  base : attributeBase o m X.env (eval o X.env) = eval o X.env
  few : ((backTo cpos (starEach [e, f] X.env)).all (fun x => !x.1) && (backToKw cpos (keywordEach [] X.env)).all (fun x => x.1.isSome)
    && decide (([e, f] : List Expr).length + ([] : List Keyword).length + (if ([] : List Keyword).isEmpty then 0 else 1) < 30)) = true
  line : (apos.endLine == cpos.line) = true
  trees : backTo cpos (starEach [e, f] X.env) = [(false, eval e X.env), (false, eval f X.env)]

section
variable {X : Cx} {pins : List (Addr × Obj)} {σ : St} {H : Hp} {s : Shared} {a : Addr} {y d : V} {u r : Value} {o : Option V} {A : Around} {E : Value → Shared → Prop}
end

section
variable {X : Cx} {o e f : Expr} {apos cpos : Pos} {td ty tx : TE}
end

section
variable {X : Cx} {pins : List (Addr × Obj)} {σ : St} {H : Hp} {s : Shared} {a : Addr} {kvs : List (Key × V)} {A : Around} {E : Value → Shared → Prop}
end


section
variable {X : Cx} {pins : List (Addr × Obj)} {σ : St} {H : Hp} {s : Shared} {a : Addr} {y : V} {u : Value} {A : Around} {E : Value → Shared → Prop}
end
end L2
namespace L2
open PySem PySem.Spec PyProof.Rows
section
variable {X : Cx}
end
section
variable {κ : Type} [DecidableEq κ]
end
end L2


set_option maxRecDepth 100000
namespace L2
open PySem PySem.Spec PyProof.Rows

noncomputable def FnAt (P : Program) (w : World) (K : PySem.W.Frag) (mg : Str → Option Value) (base : Heap) (CX : CXT) (x : Str) (k : Nat) (ps : List Str) (sp : Sp) : Prop :=
  ∃ f fd, FnOk P w K mg base CX k f fd ps sp ∧ mg x = some (.ref f) ∧ PySem.W.keepIn K (.ref f) = true ∧ Binds K fd ps [] ∧ ∃ oc od osl, K.lookup f = some ⟨oc, od, .func fd, osl⟩
noncomputable def DefAt (K : PySem.W.Frag) (mg : Str → Option Value) (x : Str) (st : Stmt) : Prop := ∃ f fd, Fun K x x st f fd ∧ mg x = some (.ref f)
/-- exceptions that nobody wants do not come -/
class Quiet (CX : CXT) : Prop where
  pass : ∀ (X : Cx), Passes CX X E0
noncomputable instance : Quiet CX0 := ⟨fun _ => pass0⟩
theorem defat_mk {K : PySem.W.Frag} {h : Heap} {mg : Str → Option Value} {x : Str} {st : Stmt} {f : Addr} {oc : Value} {od an : Option Addr} {osl : Array (Option Value)} {kV doc pm cdv ct : Value} (X : K.In h) (G : h.Ns mainGlobals mg)
    (a : PySem.W.nsIn K mainGlobals x = some (some (.ref f)))
    (l : K.lookup f = some ⟨oc, od, .func (PySem.W.fnOf x x (defArgs st) (defBody st) (defScope st) .none kV doc pm an cdv ct), osl⟩) (c : PySem.W.codeIn K cdv x = true) (k : PySem.W.keepIn K (.ref f) = true) : DefAt K mg x st :=
  ⟨f, _, fun_mk l c k, PySem.W.mg_of X G a⟩
section
variable {P : Program} {w : World} {K : PySem.W.Frag} {mg : Str → Option Value} {base : Heap} {CX : CXT}
/-- a def whose body lets no exception out -/
theorem DefAt.fn {x : Str} {st : Stmt} {N ps : List Str} {k : Nat} {sp : Sp} (F : DefAt K mg x st) (S : FnScope N ps (defScope st))
    (hb : ∀ (kV doc pm : Value) (an : Option Addr) (cdv ct : Value) (us : List Value), us.length = ps.length → bindArgs (PySem.W.fnOf x x (defArgs st) (defBody st) (defScope st) .none kV doc pm an cdv ct) ⟨us, []⟩ = pure (ps.zip us))
    (len : ∀ vs H Q E, sp vs H Q E → vs.length = ps.length)
    (hbody : ∀ (f : Addr) (cdv : Value) (A : Around) (outer : List Env) (s : Shared) (H : Hp) (vs : List V) (Q : VK) (E : XK), Room k (A.deeper (envOfC x (defScope st) s.heap.objs.size f cdv)) → sp vs H Q E →
      ∃ t, PSs (cxOf CX P w K mg base N x (defScope st) f cdv A outer s H E).nox (defBody st) t ∧ t { nx := fun _ H' => Q .non H', rt := Q } (start N vs) H) : FnAt P w K mg base CX x (k + 1) ps sp := by
  obtain ⟨f, fd, F, hm⟩ := F
  have bd := F.binds hb
  have kp := F.kp
  obtain ⟨oc, od, kV, doc, pm, an, cdv, ct, osl, rfl, lk, hcd⟩ := F.ex
  refine ⟨f, _, fn_of lk hcd S len fun A outer s H vs Q E hr hsp => ?_, hm, kp, bd, oc, od, osl, lk⟩
  obtain ⟨t, h, q⟩ := hbody f cdv A outer s H vs Q E hr hsp
  exact ⟨t, h.nox, q⟩
end
section
variable {X : Cx} {CX : CXT} {k n : Nat} {ps : List Str} {sp : Sp} {x : Str} {p pos : Pos} {e : Expr} {es : List Expr} {t : TA}
theorem pe_fn [Quiet CX] (G : FnAt X.prog X.w X.K X.mg X.base CX x k ps sp) (hr : Room n X.A) (hk : k ≤ n) (hg : Gl X x) (ha : PA X (e :: es) t)
    (hdb : (x == ("__debug__" : Str)) = false := by decide) (he : starEach (e :: es) X.env = (false, eval e X.env) :: starEach es X.env := by rfl) (hpl : (backTo pos (starEach es X.env)).any (·.1) = false := by rfl) :
    PE X (.Call (.Name x p) (e :: es) [] pos) (tCall sp [] E0 t) := by
  obtain ⟨f, fd, F, hm, kp, b, _⟩ := G
  exact pe_call F (hr.mono hk) hg hm kp b .nil (Quiet.pass X) ha hdb he hpl
/-- a constant of the module -/
noncomputable def CstAt (mg : Str → Option Value) (x : Str) (v : V) : Prop := ∃ u, mg x = some u ∧ RelV v u
theorem pe_cst {v : V} (hg : Gl X x) (h : CstAt X.mg x v) (hd : (x == ("__debug__" : Str)) = false := by decide) : PE X (.Name x pos) (tC v) := by
  obtain ⟨u, hm, r⟩ := h
  exact pe_glob hg hm r hd
end

section
variable {X : Cx} {tg : Expr}
end
end L2


set_option maxRecDepth 100000
namespace L2
open PySem PySem.Spec PyProof.Rows

section
variable {g : Int → Int → V} {C : Int → Int → Prop} {i j : Int} {H : Hp} {Q : VK}
theorem rI0_int : rI0 g (.int i) (.int j) H Q = Q (g i j) H := by
  apply propext
  constructor
  · rintro ⟨a, b, e1, e2, q⟩
    cases e1; cases e2; exact q
  · intro q; exact ⟨i, j, rfl, rfl, q⟩
theorem rI_int : rI C g (.int i) (.int j) H Q = (C i j ∧ Q (g i j) H) := by
  apply propext
  constructor
  · rintro ⟨a, b, e1, e2, q⟩
    cases e1; cases e2; exact q
  · intro q; exact ⟨i, j, rfl, rfl, q⟩
theorem rU_int {f : Int → V} : rU f (.int i) H Q = Q (f i) H := by
  apply propext
  constructor
  · rintro ⟨a, e1, q⟩
    cases e1; exact q
  · intro q; exact ⟨i, rfl, q⟩
theorem ex_bl {b : Bool} {P : Bool → Prop} : (∃ k, V.bl b = .bl k ∧ P k) = P b := by
  apply propext
  constructor
  · rintro ⟨k, e, q⟩
    cases e; exact q
  · intro q; exact ⟨b, rfl, q⟩
theorem ex_sv {v : V} {P : V → Prop} : (∃ u, some (some v) = some (some u) ∧ P u) = P v := by
  apply propext
  constructor
  · rintro ⟨k, e, q⟩
    cases e; exact q
  · intro q; exact ⟨v, rfl, q⟩
theorem rEq_int : rEq (.int i) (.int j) H Q = Q (.bl (decide (i = j))) H := by
  have e : decide (V.int i = V.int j) = decide (i = j) := by
    by_cases h : i = j
    · subst h; simp
    · rw [decide_eq_false h, decide_eq_false (fun q => h (V.int.inj q))]
  unfold rEq
  rw [e]
  apply propext
  exact ⟨fun h => h.2, fun h => ⟨rfl, h⟩⟩
theorem rNe_int : rNe (.int i) (.int j) H Q = Q (.bl (!decide (i = j))) H := by
  have e : decide (V.int i = V.int j) = decide (i = j) := by
    by_cases h : i = j
    · subst h; simp
    · rw [decide_eq_false h, decide_eq_false (fun q => h (V.int.inj q))]
  unfold rNe
  rw [e]
  apply propext
  exact ⟨fun h => h.2, fun h => ⟨rfl, h⟩⟩
end

theorem OpR.imp {X : Cx} {f : Value → Value → Sem Value} {r r' : R2} (h : OpR X f r) (i : ∀ x y H Q, r' x y H Q → r x y H Q) : OpR X f r' :=
  fun pins s σ H x y v u Q I rx ry q => h pins s σ H x y v u Q I rx ry (i _ _ _ _ q)
theorem CallR.imp {X : Cx} {f : Value} {r r' : List V → Hp → VK → Prop} (h : CallR X f r) (i : ∀ xs H Q, r' xs H Q → r xs H Q) : CallR X f r' :=
  fun pins s σ H xs us Q I rs q => h pins s σ H xs us Q I rs (i _ _ _ q)
noncomputable def rAddA (K : PySem.W.Frag) : R2 := fun x y H Q => match x, y with
  | .int i, .int j => Q (.int (i + j)) H
  | .str a, .str b => a.length + b.length ≤ sizeLine ∧ Q (.str (a ++ b)) H
  | .ref l, .ref b => rCat (.ref l) (.ref b) H Q ∨ rCatT K (.ref l) (.ref b) H Q
  | _, _ => False
section
variable {X : Cx}
theorem op_addA : OpR X (binaryOp .Add) (rAddA X.K) := by
  refine OpR.imp (op_add.or (op_add_str.or (op_cat.or op_catT))) fun x y H Q h => ?_
  unfold rAddA at h
  split at h
  · exact .inl ⟨_, _, rfl, rfl, h⟩
  · exact .inr (.inl ⟨_, _, rfl, rfl, h⟩)
  · exact .inr (.inr h)
  · exact h.elim
end
noncomputable def CPowA (i j : Int) : Prop := (0 ≤ j ∧ j ≤ 1000000) ∧ -(2 ^ 64) < i ∧ i < 2 ^ 64
theorem op_powA {X : Cx} : OpR X (binaryOp .Pow) (rI CPowA fun i j => .int (i ^ j.toNat)) := opI fun _ _ _ _ _ _ _ hc q => pow_int_small hc.1.1 hc.1.2 (by have := hc.2; lia) q
noncomputable def rLenA (K : PySem.W.Frag) : List V → Hp → VK → Prop := fun xs H Q => match xs with
  | [.str z] => z.length ≤ sizeLine ∧ Q (.int z.length) H
  | [.ref p] => ∃ ys, (SqL K H p ys ∨ SqT K H p ys) ∧ Q (.int ys.length) H
  | _ => False
section
variable {X : Cx}
theorem call_lenA : CallR X (.builtin "len") (rLenA X.K) := by
  refine CallR.imp (call_len_seq.or call_len_str) fun xs H Q h => ?_
  unfold rLenA at h
  split at h
  · exact .inr ⟨_, rfl, h.1, h.2⟩
  · obtain ⟨ys, h1, h2⟩ := h
    exact .inl ⟨_, ys, rfl, h1, h2⟩
  · exact h.elim
noncomputable def rMinA : List V → Hp → VK → Prop := fun xs H Q => match xs with
  | [.int i, .int j] => Q (.int (if j < i then j else i)) H
  | _ => False
noncomputable def rMaxA : List V → Hp → VK → Prop := fun xs H Q => match xs with
  | [.int i, .int j] => Q (.int (if i < j then j else i)) H
  | _ => False
theorem call_minA (hc : X.calm = true) : CallR X (.builtin "min") rMinA := by
  refine CallR.imp (call_min2 hc) fun xs H Q h => ?_
  unfold rMinA at h
  split at h
  · exact ⟨_, _, rfl, h⟩
  · exact h.elim
theorem call_maxA (hc : X.calm = true) : CallR X (.builtin "max") rMaxA := by
  refine CallR.imp (call_max2 hc) fun xs H Q h => ?_
  unfold rMaxA at h
  split at h
  · exact ⟨_, _, rfl, h⟩
  · exact h.elim
/-- isinstance(x, T), T a built-in type, x a scalar -/
noncomputable def isiF : V → String → Option Bool
  | .int _, "int" => some true
  | .int _, "bool" => some false
  | .int _, "str" => some false
  | .bl _, "int" => some true
  | .bl _, "bool" => some true
  | .str _, "str" => some true
  | .str _, "int" => some false
  | _, _ => none
noncomputable def rIsi (K : PySem.W.Frag) : List V → Hp → VK → Prop := fun xs H Q => match xs with
  | [x, .ty T] => (match isiF x T with
    | some b => Q (.bl b) H
    | none => ∃ t b, TyOf K H x t ∧ PySem.W.kitOne K t (.type T) = some b ∧ Q (.bl b) H)
  | _ => False
theorem kit_ii (K : PySem.W.Frag) : PySem.W.kitOne K (.type "int") (.type "int") = some true := by first | rfl | kernel_rfl
theorem kit_ib (K : PySem.W.Frag) : PySem.W.kitOne K (.type "int") (.type "bool") = some false := by first | rfl | kernel_rfl
theorem kit_is (K : PySem.W.Frag) : PySem.W.kitOne K (.type "int") (.type "str") = some false := by first | rfl | kernel_rfl
theorem kit_bi (K : PySem.W.Frag) : PySem.W.kitOne K (.type "bool") (.type "int") = some true := by first | rfl | kernel_rfl
theorem kit_bb (K : PySem.W.Frag) : PySem.W.kitOne K (.type "bool") (.type "bool") = some true := by first | rfl | kernel_rfl
theorem kit_ss (K : PySem.W.Frag) : PySem.W.kitOne K (.type "str") (.type "str") = some true := by first | rfl | kernel_rfl
theorem kit_si (K : PySem.W.Frag) : PySem.W.kitOne K (.type "str") (.type "int") = some false := by first | rfl | kernel_rfl
theorem kit_ll (K : PySem.W.Frag) : PySem.W.kitOne K (.type "list") (.type "list") = some true := by first | rfl | kernel_rfl
theorem kit_tt (K : PySem.W.Frag) : PySem.W.kitOne K (.type "tuple") (.type "tuple") = some true := by first | rfl | kernel_rfl
theorem call_isi : CallR X (.builtin "isinstance") (rIsi X.K) := by
  intro pins s σ H xs us Q I rs q
  unfold rIsi at q
  split at q
  · rename_i x T
    obtain ⟨u, c, rfl, ru, rc⟩ := vals2 rs
    obtain rfl : c = Value.type T := rc
    have key : ∀ {t b}, TyOf X.K H x t → PySem.W.kitOne X.K t (.type T) = some b → Q (.bl b) H → wpAny (model X.prog X.w) X.A (call (.builtin "isinstance") [u, .type T]) (EP X pins σ Q) X.xe s := fun {t b} ty e h =>
      isinst_ok I ru ty e fun tk => ⟨.bl b, H, I.tok tk, rfl, h⟩
    split at q
    · rename_i b e
      have h := q
      unfold isiF at e
      split at e <;> cases e
      · exact key (.int _) (kit_ii _) h
      · exact key (.int _) (kit_ib _) h
      · exact key (.int _) (kit_is _) h
      · exact key (.bl _) (kit_bi _) h
      · exact key (.bl _) (kit_bb _) h
      · exact key (.str _) (kit_ss _) h
      · exact key (.str _) (kit_si _) h
    · obtain ⟨t, b, ty, e, h⟩ := q
      exact key ty e h
  · exact q.elim
theorem pe_ty {x : Str} {T : String} {pos : Pos} (hg : Gl X x) (hm : X.mg x = none) (hv : bootBuiltins x = some (.type T)) (hn : x ≠ "__name__" := by decide) (hd : (x == ("__debug__" : Str)) = false := by decide) : PE X (.Name x pos) (tC (.ty T)) :=
  pe_bltn hg hm hv rfl hn hd
end
theorem bt_len : bootBuiltins "len" = some (.builtin "len") := by decide +kernel
theorem bt_min : bootBuiltins "min" = some (.builtin "min") := by decide +kernel
theorem bt_max : bootBuiltins "max" = some (.builtin "max") := by decide +kernel
theorem bt_abs : bootBuiltins "abs" = some (.builtin "abs") := by decide +kernel
theorem bt_all : bootBuiltins "all" = some (.builtin "all") := by decide +kernel
theorem bt_isinstance : bootBuiltins "isinstance" = some (.builtin "isinstance") := by decide +kernel
theorem bt_int : bootBuiltins "int" = some (.type "int") := by decide +kernel
theorem bt_bool : bootBuiltins "bool" = some (.type "bool") := by decide +kernel
theorem bt_str : bootBuiltins "str" = some (.type "str") := by decide +kernel
theorem bt_list : bootBuiltins "list" = some (.type "list") := by decide +kernel
section
variable {K : PySem.W.Frag} {H : Hp} {Q : VK}
theorem rAddA_int {i j : Int} : rAddA K (.int i) (.int j) H Q = Q (.int (i + j)) H := rfl
theorem rAddA_str {i j : Str} : rAddA K (.str i) (.str j) H Q = (i.length + j.length ≤ sizeLine ∧ Q (.str (i ++ j)) H) := rfl
theorem rLenA_ref {p : Addr} : rLenA K [.ref p] H Q = (∃ ys, (SqL K H p ys ∨ SqT K H p ys) ∧ Q (.int ys.length) H) := rfl
theorem rIsi_ii {i : Int} : rIsi K [.int i, .ty "int"] H Q = Q (.bl true) H := rfl
theorem rIsi_ib {i : Int} : rIsi K [.int i, .ty "bool"] H Q = Q (.bl false) H := rfl
theorem rMinA_int {i j : Int} : rMinA [.int i, .int j] H Q = Q (.int (if j < i then j else i)) H := rfl
theorem rMaxA_int {i j : Int} : rMaxA [.int i, .int j] H Q = Q (.int (if i < j then j else i)) H := rfl
end
theorem cxOf_K {CX : CXT} {P : Program} {w : World} {K : PySem.W.Frag} {mg : Str → Option Value} {base : Heap} {N : List Str} {qual : Str} {scope : Scope} {f : Addr} {cd : Value} {A : Around} {outer : List Env} {s : Shared} {H : Hp} {E : XK} :
    (cxOf CX P w K mg base N qual scope f cd A outer s H E).K = K := rfl
end L2


set_option maxRecDepth 100000
namespace L2
open PySem PySem.Spec PyProof.Rows

section
variable {ta : TA} {tl : TE} {K : PySem.W.Frag} {g : TG} {tb : TS} {D : Ends} {σ : St} {H : Hp}
end
theorem law_fin {P : Program} {w : World} {K : PySem.W.Frag} {mg : Str → Option Value} {CX : CXT} {k : Nat} {fa : Addr} {x nm : Str} {st : Stmt} {sp : Sp} (hmg : mg nm = some (.ref fa)) (D : DefAt K mg nm st)
    (hb : ∀ (kV doc pm : Value) (an : Option Addr) (cdv ct : Value) (us : List Value), us.length = ([x] : List Str).length → bindArgs (PySem.W.fnOf nm nm (defArgs st) (defBody st) (defScope st) .none kV doc pm an cdv ct) ⟨us, []⟩ = pure (([x] : List Str).zip us))
    (ok : ∀ base : Heap, FnAt P w K mg base CX nm k [x] sp) :
    ∃ fd : FuncData, (∀ (s : Shared) (u : Value), BindsTo s fd ⟨[u], []⟩ [(x, u)]) ∧ ∀ base : Heap, K.In base → base.Ns mainGlobals mg → FnOk P w K mg base CX k fa fd [x] sp := by
  obtain ⟨f, fd, F, hm⟩ := D
  rw [hmg] at hm
  cases hm
  obtain ⟨oc, od, kV, doc, pm, an, cdv, ct, osl, e, lk, hcd⟩ := F.ex
  refine ⟨fd, fun s u => ?_, fun base _ _ => ?_⟩
  · rw [e]
    exact .of_eq (hb kV doc pm an cdv ct [u] rfl)
  · obtain ⟨f', fd', h, hm', _, _, oc', od', osl', lk'⟩ := ok base
    rw [hmg] at hm'
    cases hm'
    rw [lk] at lk'
    cases lk'
    exact h
/-- a law takes a list of at most 63 ints and gives True -/
noncomputable def spLaw (K : PySem.W.Frag) : Sp := fun vs H Q _ => match vs with
  | [.ref a] => ∃ ns : List Int, SqL K H a (ns.map V.int) ∧ ns.length ≤ 63 ∧ Only H ∧ ∀ H', Q (.bl true) H'
  | _ => False
theorem law_walk {l : PySem.W.OpenLaw} {k : Nat} {q : Program} {loose : List Str} {XP : (Str → Option Value) → Heap → Prop} {YP : World → Heap → Prop} {d : DefRec} {K : Params → PySem.W.Frag} {x : Str} (hn : l.most = some 63) (hdf : d.params.defaults = [])
    (hr : Room k callerA) (hY : ∀ (w : World) (h : Heap), YP w h → (K w.params).In h)
    (F : ∀ (w : World) (mg : Str → Option Value) (fa : Addr) (h : Heap), (K w.params).In h → h.Ns mainGlobals mg → mg d.name = some (.ref fa) →
      ∃ fd : FuncData, (∀ (s : Shared) (u : Value), BindsTo s fd ⟨[u], []⟩ [(x, u)]) ∧ ∀ base : Heap, (K w.params).In base → base.Ns mainGlobals mg → FnOk l.prog w (K w.params) mg base CX0 k fa fd [x] (spLaw (K w.params))) :
    PySem.W.WalkO q loose XP YP l.row.toRowW d [] (fun f vs => PySem.call f vs) :=
  L2.walk_ofK (n := 63) (CX := CX0) (sp := spLaw) hn (by decide) hdf hr hY F (fun K H a ns hl hO hS => ⟨ns, hS, hl, hO, fun _ => rfl⟩) fun _ _ _ _ z => z
end L2


set_option maxRecDepth 100000
namespace L2
open PySem PySem.Spec PyProof.Rows

noncomputable def Cx.comp (X : Cx) (scope : Scope) (cl : List (Str × Addr)) (C : Addr) (N : List Str) (s : Shared) (H : Hp) (ex : List Addr) : Cx :=
  { prog := X.prog, w := X.w, K := X.K, mg := X.mg, base := X.base, A := X.A, N := N, s₀ := s, H₀ := H, env := compEnvC scope cl C X.env, outer := X.stack, stack := X.stack, ex := ex, fn := fun _ => false, calm := X.calm, pn := [], xe := fun _ _ => False }

/-- the free names of a block are cells of the frame -/
theorem closure_ok {env : Env} {scope : Scope} (h : ∀ y ∈ scope.names, y.2 = .free → ∃ c, env.cells.lookup y.1 = some c) :
    ∃ cl, closureFor scope env = pure cl ∧ (∀ y c, cl.lookup y = some c → env.cells.lookup y = some c) ∧ ∀ y ∈ scope.names, y.2 = .free → ∃ c, cl.lookup y.1 = some c := by
  have key : ∀ (l : List (Str × NameKind)) (acc : List (Str × Addr)), (∀ y ∈ l, y.2 = .free → ∃ c, env.cells.lookup y.1 = some c) → (∀ y c, acc.lookup y = some c → env.cells.lookup y = some c) →
      ∃ cl, (forIn l acc fun (x : Str × NameKind) (cs : List (Str × Addr)) => if (x.2 == NameKind.free) = true then do let a ← cellOf env x.1; pure (ForInStep.yield ((x.1, a) :: cs)) else pure (ForInStep.yield cs)) = (pure cl : Sem (List (Str × Addr))) ∧
        (∀ y c, cl.lookup y = some c → env.cells.lookup y = some c) ∧ (∀ y c, acc.lookup y = some c → ∃ c, cl.lookup y = some c) ∧ ∀ y ∈ l, y.2 = .free → ∃ c, cl.lookup y.1 = some c := by
    intro l
    induction l with
    | nil => intro acc _ ha; exact ⟨acc, rfl, ha, fun y c e => ⟨c, e⟩, fun y hy => nomatch hy⟩
    | cons x r ih =>
      intro acc hl ha
      obtain ⟨n, k⟩ := x
      by_cases hk : k = .free
      · subst hk
        obtain ⟨c, hc⟩ := hl (n, .free) List.mem_cons_self rfl
        have ha' : ∀ y d, ((n, c) :: acc).lookup y = some d → env.cells.lookup y = some d := fun y d e => by
          simp only [List.lookup_cons] at e
          cases q : y == n with
          | true => rw [q] at e; cases e; rw [beq_iff_eq.mp q]; exact hc
          | false => rw [q] at e; exact ha y d e
        obtain ⟨cl, e, h1, h2, h3⟩ := ih ((n, c) :: acc) (fun y hy => hl y (List.mem_cons_of_mem _ hy)) ha'
        have top : ∃ d, cl.lookup n = some d := h2 n c (by simp [List.lookup_cons])
        refine ⟨cl, ?_, h1, fun y d q => ?_, fun y hy hf => ?_⟩
        · rw [List.forIn_cons]
          have ec : cellOf env n = pure c := by unfold cellOf; rw [hc]
          show ((if (NameKind.free == NameKind.free) = true then (do let a ← cellOf env n; pure (ForInStep.yield ((n, a) :: acc))) else _) >>= _) = _
          rw [if_pos (by decide), ec]
          exact e
        · cases z : y == n with
          | true => rw [beq_iff_eq.mp z]; exact top
          | false => exact h2 y d (by simp only [List.lookup_cons, z]; exact q)
        · rcases List.mem_cons.mp hy with rfl | hy
          · exact top
          · exact h3 y hy hf
      · have hb : (k == NameKind.free) = false := by simpa using hk
        obtain ⟨cl, e, h1, h2, h3⟩ := ih acc (fun y hy => hl y (List.mem_cons_of_mem _ hy)) ha
        refine ⟨cl, ?_, h1, h2, fun y hy hf => ?_⟩
        · rw [List.forIn_cons]
          show ((if (k == NameKind.free) = true then _ else pure (ForInStep.yield acc)) >>= _) = _
          rw [hb, if_neg Bool.false_ne_true]
          exact e
        · rcases List.mem_cons.mp hy with rfl | hy
          · exact absurd hf hk
          · exact h3 y hy hf
  obtain ⟨cl, e, h1, _, h3⟩ := key scope.names [] h (fun y c q => by simp at q)
  refine ⟨cl, ?_, h1, h3⟩
  unfold closureFor
  exact (bind_congr (fun _ => rfl)).trans (by rw [e]; rfl)

theorem relabel_look {scope : Scope} {env : Env} {x : Str} {k : NameKind} (h : (relabel scope env).names.lookup x = some k) : scope.names.lookup x = some k ∨ (scope.names.lookup x = some .free ∧ k = .cell) := by
  unfold relabel at h
  have key : ∀ l : List (Str × NameKind), (l.map fun (n, k) => if (k == NameKind.free && env.scope.kind == .function && env.kindOf n == some .cell) then (n, NameKind.cell) else (n, k)).lookup x = some k → l.lookup x = some k ∨ (l.lookup x = some .free ∧ k = .cell) := by
    intro l
    induction l with
    | nil => intro h; simp at h
    | cons y r ih =>
      obtain ⟨n, j⟩ := y
      intro h
      rw [List.map_cons] at h
      simp only [List.lookup_cons]
      cases q : x == n with
      | true =>
        by_cases hc : (j == NameKind.free && env.scope.kind == .function && env.kindOf n == some .cell) = true
        · simp only [hc, if_true, List.lookup_cons, q] at h
          cases h
          have : j = .free := by
            simp only [Bool.and_eq_true, beq_iff_eq] at hc
            exact hc.1.1
          subst this
          exact .inr ⟨rfl, rfl⟩
        · have hc' : (j == NameKind.free && env.scope.kind == .function && env.kindOf n == some .cell) = false := by simpa using hc
          simp only [hc', Bool.false_eq_true, if_false, List.lookup_cons, q] at h
          exact .inl h
      | false =>
        by_cases hc : (j == NameKind.free && env.scope.kind == .function && env.kindOf n == some .cell) = true
        · simp only [hc, if_true, List.lookup_cons, q] at h
          exact ih h
        · have hc' : (j == NameKind.free && env.scope.kind == .function && env.kindOf n == some .cell) = false := by simpa using hc
          simp only [hc', Bool.false_eq_true, if_false, List.lookup_cons, q] at h
          exact ih h
  exact key _ h

theorem lt_ne {h : Heap} {b n : Addr} {o : Obj} (e : h.get? b = some o) (hn : h.objs.size ≤ n) : b ≠ n := Nat.ne_of_lt (Nat.lt_of_lt_of_le (Heap.lt_size e) hn)
/-- what of its scope a comprehension must have; nv: its own names, ix: the places of the frame's names that it reads -/
structure CScope (X : Cx) (scope : Scope) (N : List Str) (nv : Nat) (ix : List Nat) : Prop where
  kind : scope.kind = .function
  nocell : ∀ y ∈ scope.names, y.2 ≠ .cell
  names : ∀ y ∈ scope.names, y.2 = .local → scope.names.lookup y.1 = some .local
  fre : ∀ y ∈ scope.names, y.2 = .free → X.env.kindOf y.1 = some .cell ∨ X.env.kindOf y.1 = some .free
  len : N.length = nv + ix.length
  at_ : ∀ j y, N[nv + j]? = some y → ∃ i, ix[j]? = some i ∧ X.N[i]? = some y ∧ (X.env.kindOf y = some .cell ∨ X.env.kindOf y = some .free) ∧ scope.names.lookup y = some .free
noncomputable def compSt (nv : Nat) (ix : List Nat) (σ : St) : St := List.replicate nv none ++ ix.map fun i => (σ[i]?).join

section
variable {X : Cx} {pins : List (Addr × Obj)} {σ : St} {H : Hp} {s : Shared} {scope : Scope} {N : List Str} {nv : Nat} {ix : List Nat}
theorem comp_start {h1 : Heap} {tk : Nat} {cl : List (Str × Addr)} {fp : List Addr} {C D : Addr} {oD : Obj} (S : CScope X scope N nv ix) (I : Inv X pins σ H s) (hcl : ∀ y c, cl.lookup y = some c → X.env.cells.lookup y = some c)
    (hcl2 : ∀ y ∈ scope.names, y.2 = .free → ∃ c, cl.lookup y.1 = some c) (hfp : ∀ b ∈ fp, FpOk X pins H b) (hob : ∀ b ∈ fp, b < s.heap.objs.size)
    (hC : s.heap.objs.size ≤ C) (hD : s.heap.objs.size ≤ D) (hDC : D ≠ C) (old : ∀ b o, s.heap.get? b = some o → h1.get? b = some o) {m : Str → Option Value} (hm : h1.Ns C m) (hoD : h1.get? D = some oD) (hdat : ∀ v, oD.data ≠ .cell v) :
    Inv (X.comp scope cl C N s H fp) [(D, oD)] (compSt nv ix σ) H { s with heap := h1, toks := tk } := by
  refine ⟨⟨I.ok.mod, S.kind, I.ok.glob, I.ok.blt, hC, fun x y c e1 e2 => I.ok.inj x y c (hcl x c e1) (hcl y c e2), fun x hx => ?_, fun _ _ z => absurd z Bool.false_ne_true, I.ok.hd, I.ok.frames, .inl rfl, fun b hb => ⟨fun z => ?_, fun x c e => (hfp b hb).2.2.2.2.1 x c (hcl x c e)⟩, I.bs,
    Nat.le_trans I.ok.bsz I.sz, fun b o e hb => ?_, fun b hb z => ?_, I.stack, I.stkFree⟩, rfl, I.bare, Un.kept old, ⟨m, hm, fun i x v e1 e2 e3 => ?_⟩, fun x c e => ?_, I.hok.fresh hC, fun x c e => I.freeC x c (hcl x c e), fun p hp => ?_, I.hok.kept old, ?_⟩
  · have hx' : (relabel scope X.env).names.lookup x = some .cell ∨ (relabel scope X.env).names.lookup x = some .free := hx
    have fr : scope.names.lookup x = some .free := by
      rcases hx' with z | z
      · rcases relabel_look z with q | q
        · exact absurd rfl (S.nocell _ (PySem.mem_of_lookup q))
        · exact q.1
      · rcases relabel_look z with q | q
        · exact q
        · cases q.2
    exact hcl2 (x, .free) (PySem.mem_of_lookup fr) rfl
  · exact Nat.ne_of_lt (Nat.lt_of_lt_of_le (hob b hb) hC) z
  · rcases (hfp b hb).2.2.2.1 with z | z
    · exact I.ok.noex b o e z
    · exact lt_ne e (Nat.le_trans I.ok.bsz z) rfl
  · rcases List.mem_cons.mp (I.stkSub b z) with q | q
    · exact (hfp b hb).2.1 q
    · exact (hfp b hb).2.2.1 q
  · have e1' : N[i]? = some x := e1
    by_cases hi : i < nv
    · have e2' : (compSt nv ix σ)[i]? = some (some v) := e2
      unfold compSt at e2'
      rw [List.getElem?_append_left (by simpa using hi), List.getElem?_replicate, if_pos hi] at e2'
      cases e2'
    · obtain ⟨j, rfl⟩ : ∃ j, i = nv + j := ⟨i - nv, by lia⟩
      obtain ⟨k, hk, hN, hkd, hsc⟩ := S.at_ j x e1'
      have e2' : (compSt nv ix σ)[nv + j]? = some (some v) := e2
      unfold compSt at e2'
      rw [List.getElem?_append_right (by simp), List.length_replicate, Nat.add_sub_cancel_left, List.getElem?_map, hk] at e2'
      have e4 : σ[k]? = some (some v) := by
        have e5 : (σ[k]?).join = some v := by simpa using e2'
        cases q : σ[k]? with
        | none => rw [q] at e5; cases e5
        | some z => rw [q] at e5; have : z = some v := e5; rw [this]
      obtain ⟨m0, _, hl⟩ := I.loc
      have vis : Vis X.env.scope x := by
        rcases hkd with z | z
        · exact .inr (.inl z)
        · exact .inr (.inr z)
      obtain ⟨u, r, l⟩ := hl k x v hN e4 vis
      refine ⟨u, r, ?_⟩
      rcases l with ⟨z, _⟩ | ⟨_, c, hc, hcell⟩
      · rcases hkd with q | q <;> rw [q] at z <;> cases z
      · obtain ⟨c', hc'⟩ := hcl2 (x, .free) (PySem.mem_of_lookup hsc) rfl
        have := hcl x c' hc'
        rw [hc] at this
        cases this
        refine .inr ⟨?_, c, hc', hcell.keeps old⟩
        rcases e3 with z | z | z
        · rcases relabel_look z with q | q
          · rw [hsc] at q; cases q
          · cases q.2
        · exact .inl z
        · exact .inr z
  · obtain ⟨v, q⟩ := I.cell x c (hcl x c e)
    exact ⟨v, q.keeps old⟩
  · have hp' : p ∈ [(D, oD)] := hp
    have e : p = (D, oD) := by simpa using hp'
    subst e
    refine ⟨hoD, I.hok.fresh hD, hDC, fun z => ?_, hdat⟩
    rcases List.mem_cons.mp (I.stkSub D z) with q | q
    · exact Nat.ne_of_gt (Nat.lt_of_lt_of_le I.lt hD) q
    · exact I.nofs hD q
  · show (compSt nv ix σ).length = N.length
    unfold compSt
    rw [List.length_append, List.length_replicate, List.length_map, S.len]
/-- out of the block -/
theorem comp_end {cl : List (Str × Addr)} {fp : List Addr} {C D : Addr} {its : List Value} {ys : List V} {n : Nat} {σ' : St} {H' : Hp} {s' : Shared} (I : Inv X pins σ H s) (hfp : ∀ b ∈ fp, FpOk X pins H b) (hD : s.heap.objs.size ≤ D)
    (J : Inv (X.comp scope cl C N s H fp) [(D, { cls := .type "list", data := .seq its.toArray n })] σ' H' s') (r : Vals ys its) (hl : ys.length ≤ sizeLine) : Inv X pins σ (upd H' D (.lst ys)) s' := by
  obtain ⟨eD, fD, _⟩ := J.pin (D, { cls := .type "list", data := .seq its.toArray n }) (by simp [Cx.comp])
  have U : Un (frs X.stack) fp H H' s.heap s'.heap := J.base
  have neD : ∀ b o, s.heap.get? b = some o → b ≠ D := fun b o e => lt_ne e hD
  refine I.call' (ch := fp) J.os ⟨U.keep, U.slot, fun b o e n hx => ?_, U.there, fun b xs e => ?_, fun b o xs e => ?_, fun b ps e => ?_⟩ (fun b u e => ?_) J.bare fun b hb => (hfp b hb).2.2.2 |> fun z => ⟨z.1, (hfp b hb).2.1, z.2.1, z.2.2⟩
  · rw [upd_ne (neD b o e)]; exact U.free b o e n hx
  · have q := U.tups b xs e
    rw [upd_ne (ne_of_none q fD)]; exact q
  · have q := U.frzs b o xs e
    rw [upd_ne (ne_of_none q fD)]; exact q
  · obtain ⟨more, q⟩ := U.tbls b ps e
    exact ⟨more, by rw [upd_ne (ne_of_none q fD)]; exact q⟩
  · by_cases hb : b = D
    · subst hb
      rw [upd_same] at e
      cases e
      exact ⟨hl, its, n, r, eD⟩
    · rw [upd_ne hb] at e
      exact (J.hok b u e).stay (fun c v _ q => q) (fun c q => by rw [upd_ne (ne_of_none q fD)]; exact q) fun c xs q => by rw [upd_ne (ne_of_none q fD)]; exact q
end

section
variable {prog : Program} {w : World} {A : Around} {E : Value → Shared → Prop} {R : Result → Shared → Prop} {s : Shared}
/-- the loop, the step ahead of the store within -/
theorem compLoop_own {elt target iter : Expr} {ifs : List Expr} {scope : Scope} {pos : Pos} {it acc : Value} {env : Env} (I : Nat → Shared → Prop)
    (turn : ∀ n s, I n s → wpAny (model prog w) A (pyNext it) (fun r s₁ => match r with
      | none => R (.ok .next) s₁
      | some v => wpAny (model prog w) A (letOwnedTupleGo target it v) (fun _ s₀ => wpAny (model prog w) A (assign target env v) (fun _ s₂ =>
          wpAny (model prog w) A (forIn ifs true fun c r => if r = true then do let ok ← isTrue c env (eval c env); pure (ForInStep.yield ok) else pure (ForInStep.yield r)) (fun ok s₃ =>
            if ok = true then wpAny (model prog w) A (eval elt env) (fun x s₄ =>
              wpAny (model prog w) A (call (.builtin "list.append") [acc, x]) (fun _ s₅ => ∃ m, m < n ∧ I m s₅) (fun _ _ => False) s₄) (fun _ _ => False) s₃
            else ∃ m, m < n ∧ I m s₃) (fun _ _ => False) s₂) (fun _ _ => False) s₀) (fun _ _ => False) s₁) (fun _ _ => False) s)
    (n : Nat) (h : I n s) :
    codeAny (model prog w) A (.compLoop (.ListComp elt [⟨target, iter, ifs, 0⟩] scope pos) 0 it acc env) R s := by
  refine codeAny_loop rfl I (fun n s hI => ?_) n h
  show wpAny _ A ((compTurn (.ListComp elt [⟨target, iter, ifs, 0⟩] scope pos) 0 it acc env).onRaise (fun x => do noteFrame x env; theTreesLotGoes x)) _ _ s
  refine wpAny_noted ?_
  rw [compTurn_list]
  refine wpAny_bind (wpAny_standAt (wpAny_bind (wpAny_mono (turn n s hI) (fun r s₁ h₁ => ?_) fun _ _ h' => h'.elim)))
  cases r with
  | none => exact wpAny_pure h₁
  | some v =>
    refine wpAny_bind (wpAny_mono h₁ (fun _ s₀ h₀ => ?_) fun _ _ h' => h'.elim)
    refine wpAny_bind (wpAny_mono h₀ (fun _ s₂ h₂ => wpAny_bind (wpAny_mono h₂ (fun ok s₃ h₃ => ?_) fun _ _ h' => h'.elim)) fun _ _ h' => h'.elim)
    cases ok with
    | false => exact wpAny_pure ⟨rfl, h₃⟩
    | true =>
      exact wpAny_bind (wpAny_bind (wpAny_mono h₃ (fun x s₄ h₄ => wpAny_bind (wpAny_mono h₄ (fun _ s₅ h₅ => wpAny_pure (wpAny_pure ⟨rfl, h₅⟩)) fun _ _ h' => h'.elim)) fun _ _ h' => h'.elim))
end

/-- tests of a comprehension -/
noncomputable def tYes : TT := fun _ H Q => Q true H
/-- the reading -/
noncomputable def compR (J : It) (g : TG) (tt : TT) (te : TE) (σ₀ : St) (H1 : Hp) (Q : List V → Hp → Prop) : Prop :=
  ∃ W : Nat → Nat → List V → St → Hp → Prop, (∃ m, W 0 m [] σ₀ H1) ∧ ∀ i m ys σ' H', W i m ys σ' H' →
    (J.stop i H' ∧ Q ys H') ∨ (J.go i H' ∧ ys.length < sizeLine ∧ ∃ N : List V → St → Hp → Prop, (∀ ys' σ'' H'', N ys' σ'' H'' → ∃ m', m' < m ∧ W (i + 1) m' ys' σ'' H'') ∧
      ∀ x H'', J.yld i H' x H'' → g x σ' H'' fun σ2 H2 => tt σ2 H2 fun b H3 => if b = true then te σ2 H3 fun y H4 => N (ys ++ [y]) σ2 H4 else N ys σ2 H3)
noncomputable def tComp (nv : Nat) (ix : List Nat) (wi : TI) (g : TG) (tt : TT) (te : TE) : TE := fun σ H Q => wi σ H fun J H1 => compR J g tt te (compSt nv ix σ) H1 fun ys H' => ys.length ≤ sizeLine ∧ ∀ D, H' D = none → Q (.ref D) (upd H' D (.lst ys))

section
variable {X : Cx} {tg elt iter : Expr} {ifs : List Expr} {scope : Scope} {N : List Str} {nv : Nat} {ix : List Nat} {pos spos : Pos} {wi : TI} {g : TG} {tt : TT} {te : TE}
/-- the tests of a block -/
noncomputable def PTs (X : Cx) (ifs : List Expr) (tt : TT) : Prop :=
  ∀ (pins : List (Addr × Obj)) (s : Shared) (σ : St) (H : Hp) (Q : Bool → Hp → Prop), Inv X pins σ H s → tt σ H Q →
    wpAny (model X.prog X.w) X.A (forIn ifs true fun c r => if r = true then do let ok ← isTrue c X.env (eval c X.env); pure (ForInStep.yield ok) else pure (ForInStep.yield r)) (TP X pins σ Q) X.xe s
theorem pts_nil : PTs X [] tYes := fun _ _ _ H _ I h => wpAny_tests_nil ⟨H, I, h⟩
theorem pts_one {c : Expr} (h : PT X c tt) : PTs X [c] tt := fun pins s σ H Q I hw => wpAny_tests_one (h pins s σ H Q I hw)

theorem comp_core {use : Option (Value → Sem Unit)} {Qv : Value → Shared → Prop} {pins : List (Addr × Obj)} {s : Shared} {σ : St} {H : Hp} {Q : List V → Hp → Prop} (hc : X.calm = true) (S : CScope X scope N nv ix) (hi : PI X tg iter wi)
    (hg : ∀ cl C s H ex, PG (X.comp scope cl C N s H ex) tg g) (ht : ∀ cl C s H ex, PTs (X.comp scope cl C N s H ex) ifs tt) (he : ∀ cl C s H ex, PE (X.comp scope cl C N s H ex) elt te) (I : Inv X pins σ H s)
    (h : wi σ H fun J H1 => compR J g tt te (compSt nv ix σ) H1 fun ys H' => ys.length ≤ sizeLine ∧ Q ys H')
    (fin : ∀ ys D C H' s' (s2 : Shared) (σ2 : St), Q ys H' → H' D = none → D ≠ C → Inv X pins σ (upd H' D (.lst ys)) s' → (∃ m, s'.heap.Ns C m) → (∀ H'', H'' C = none → FpOk X pins H'' C) → H' C = none → compPost (model X.prog X.w) X.A X.xe use Qv (.ref D) C (.ok .next) s')
    (hs : ∀ x, foldedSetIterable iter X.env x = pure x) :
    wpAny (model X.prog X.w) X.A (comprehension (.ListComp elt [⟨tg, iter, ifs, 0⟩] scope pos) scope X.env (firstIterPos [⟨tg, iter, ifs, 0⟩] pos) (newList []) false (eval iter X.env) use) Qv X.xe s := by
  obtain ⟨cl, hclos, hcl, hcl2⟩ := closure_ok (env := X.env) (scope := scope) fun y hy hf => I.ok.has y.1 (S.fre y hy hf)
  refine wpAny_comprehension_free (use := use) rfl hs hclos S.kind S.names (thn (hi pins s σ H _ I h) fun v s1 h1 => thn h1 fun itv s2 h2 => ?_)
  obtain ⟨it, fp, tn, J, H2, e, I2, T, st2, f2, W, ⟨m0, w0⟩, turn⟩ := h2
  subst e
  refine wpAny_newObj_type (wpAny_newFunctionEnv S.nocell (by intro y hy; simp at hy) (fun h₁ hns₁ hsb₁ => ?_) S.kind)
  dsimp only at hns₁ hsb₁ ⊢
  generalize hH2 : s2.heap.push { cls := .type "list", dict := none, data := .seq ([] : List Value).toArray } = G2 at hns₁ hsb₁ ⊢
  have hC : G2.objs.size = s2.heap.objs.size + 1 := by rw [← hH2, Heap.size_push]
  have hDC : s2.heap.objs.size ≠ G2.objs.size := by rw [hC]; exact Nat.ne_of_lt (Nat.lt_succ_self _)
  have old : ∀ b o, s2.heap.get? b = some o → h₁.get? b = some o := fun b o e => hsb₁.extBut b o (lt_ne e (by rw [hC]; exact Nat.le_succ _)) (Heap.get?_push_of_some _ (hH2 ▸ Heap.get?_push_of_some _ e))
  have hacc : h₁.get? s2.heap.objs.size = some { cls := .type "list", data := .seq ([] : List Value).toArray 0 } := hsb₁.extBut _ _ hDC (Heap.get?_push_of_some _ (hH2 ▸ Heap.get?_push_size _ rfl))
  have hob : ∀ b ∈ fp, b < s2.heap.objs.size := fun b hb => by
    obtain ⟨o, e, _⟩ := T.obj _ _ st2 b hb
    exact Heap.lt_size e
  have hCle : s2.heap.objs.size ≤ G2.objs.size := by rw [hC]; exact Nat.le_succ _
  have I4 : ∀ tk, Inv (X.comp scope cl G2.objs.size N s2 H2 fp) [(s2.heap.objs.size, { cls := .type "list", data := .seq ([] : List Value).toArray 0 })] (compSt nv ix σ) H2 { s2 with heap := h₁, toks := tk } := fun tk =>
    comp_start S I2 hcl hcl2 f2 hob hCle (Nat.le_refl _) hDC old hns₁ hacc (fun v z => by cases z)
  have hst₁ : tn 0 h₁ := T.keep _ _ _ st2 fun b _ o e => old b o e
  have stat : ∀ {H' : Hp} {pns : List (Addr × Obj)}, (∀ p ∈ pns, p.1 = s2.heap.objs.size) → (∀ b ∈ fp, H' b = none) → ∀ b ∈ fp, FpOk (X.comp scope cl G2.objs.size N s2 H2 fp) pns H' b := fun {H' pns} hp hn b hb => by
    obtain ⟨f0, f1, f3, f4, f5, f6⟩ := f2 b hb
    have hlt := hob b hb
    refine ⟨hn b hb, fun z => ?_, fun z => ?_, .inl hb, fun x c e => f5 x c (hcl x c e), fun p hp' z => ?_⟩
    · exact Nat.ne_of_lt (Nat.lt_of_lt_of_le hlt hCle) z
    · rcases List.mem_cons.mp (I2.stkSub b z) with q | q
      · exact f1 q
      · exact f3 q
    · have hp'' : p ∈ pns := by simpa [Cx.comp] using hp'
      exact Nat.ne_of_gt (by rw [hp p hp'']; exact hlt) z
  have loop : ∀ s₃ : Shared, s₃ = { s2 with heap := h₁, toks := s2.toks + ([] : List (Str × Value)).length } →
      codeAny (model X.prog X.w) X.A (.compLoop (.ListComp elt [⟨tg, iter, ifs, 0⟩] scope pos) 0 (.ref it) (.ref s2.heap.objs.size) (compEnvC scope cl G2.objs.size X.env))
        (compPost (model X.prog X.w) X.A X.xe use Qv (.ref s2.heap.objs.size) G2.objs.size) s₃ := by
    rintro s₃ rfl
    refine compLoop_own (fun n s' => ∃ i ys its σ' H', Inv (X.comp scope cl G2.objs.size N s2 H2 fp) [(s2.heap.objs.size, { cls := .type "list", data := .seq its.toArray its.length })] σ' H' s' ∧ tn i s'.heap ∧ (∀ b ∈ fp, H' b = none) ∧ Vals ys its ∧ W i n ys σ' H') ?_ m0
      ⟨0, [], [], _, H2, I4 _, hst₁, fun b hb => (f2 b hb).1, .nil, w0⟩
    rintro n s' ⟨i, ys, its, σ', H', I', st', fr', rv, w'⟩
    have pin1 : ∀ {o : Obj}, ∀ p ∈ [(s2.heap.objs.size, o)], p.1 = s2.heap.objs.size := fun {o} p hp => by
      exact congrArg Prod.fst (List.mem_singleton.mp hp)
    rcases turn i n ys σ' H' w' with ⟨stop, hl, qn⟩ | ⟨go, hlen, Nx, hN, step⟩
    · refine thn (T.done (X.comp scope cl G2.objs.size N s2 H2 fp) rfl rfl rfl hc i _ s' σ' H' (fun _ _ => False) I' (stat pin1 fr') st' stop) fun r s4 ⟨hr, I5⟩ => ?_
      subst hr
      obtain ⟨m5, hm5, _⟩ := I5.loc
      have fD := (I5.pin (s2.heap.objs.size, { cls := .type "list", data := .seq its.toArray its.length }) (List.mem_append_right _ (by simp))).2.1
      exact fin ys _ _ H' s4 s2 σ' qn fD hDC (comp_end I2 f2 (Nat.le_refl _) I5 rv hl) ⟨m5, hm5⟩ (fun H'' hn => I2.fpOk hCle hn) I5.free
    · refine thn (T.item (X.comp scope cl G2.objs.size N s2 H2 fp) rfl rfl rfl hc i _ s' σ' H' (fun _ _ => False) I' (stat pin1 fr') st' go) fun r s4 ⟨u, hr, h4⟩ => ?_
      subst hr
      refine thn h4 fun _ s5 ⟨x, H5, I5, r5, y5, st5, fr5⟩ => ?_
      have I5' := I5.pinned (stat pin1 fr5) (T.obj _ _ st5)
      refine thn (hg _ _ _ _ _ _ s5 σ' H5 x u _ I5' r5 (step x H5 y5)) fun _ s6 ⟨σ6, H6, I6, q6⟩ => ?_
      refine thn (ht _ _ _ _ _ _ s6 σ6 H6 _ I6 q6) fun b s7 ⟨H7, I7, q7⟩ => ?_
      have back : ∀ {σ8 : St} {H8 : Hp} {s8 : Shared}, Inv (X.comp scope cl G2.objs.size N s2 H2 fp) ([(s2.heap.objs.size, { cls := .type "list", data := .seq its.toArray its.length })] ++ pinsAt fp s5.heap) σ8 H8 s8 → tn (i + 1) s8.heap ∧ ∀ b ∈ fp, H8 b = none := fun {σ8 H8 s8} J =>
        ⟨T.keep _ _ _ st5 fun b hb o e => (J.pin (b, o) (List.mem_append_right _ (List.mem_append_right _ (mem_pinsAt hb e)))).1, fun b hb => by
          obtain ⟨o, e, d⟩ := T.obj _ _ st5 b hb
          exact (J.pin (b, o) (List.mem_append_right _ (List.mem_append_right _ (mem_pinsAt hb e)))).2.1⟩
      cases b with
      | false =>
        rw [if_neg Bool.false_ne_true] at q7
        obtain ⟨m', hm, w7⟩ := hN _ _ _ q7
        exact ⟨m', hm, i + 1, ys, its, σ6, H7, I7.unpinned, (back I7).1, (back I7).2, rv, w7⟩
      | true =>
        rw [if_pos rfl] at q7
        refine thn (he _ _ _ _ _ _ s7 σ6 H7 _ I7 q7) fun y s8 ⟨yv, H8, I8, r8, q8⟩ => ?_
        obtain ⟨eD, fD, nD, nfD, dD⟩ := I8.pin (s2.heap.objs.size, { cls := .type "list", data := .seq its.toArray its.length }) (List.mem_append_right _ (by simp))
        refine append_at (hsz := by rw [List.size_toArray, ← rv.length]; exact Nat.le_of_lt hlen) eD fun h₅ hs₅ hD₅ => ?_
        obtain ⟨m', hm, w8⟩ := hN _ _ _ q8
        have fpD : s2.heap.objs.size ∉ fp := fun z => Nat.lt_irrefl _ (hob _ z)
        have I9 : Inv (X.comp scope cl G2.objs.size N s2 H2 fp) [] σ6 H8 s8 := I8.pins_of fun p hp => absurd hp (by simp)
        have fk := I2.fpOk (H' := H8) (Nat.le_refl _) fD
        have I10 : Inv (X.comp scope cl G2.objs.size N s2 H2 fp) [] σ6 H8 { s8 with heap := h₅, toks := s8.toks } :=
          I9.turned (it := s2.heap.objs.size) (fun b o hb e => hs₅.extBut b o hb e) fD nD (.inr (Nat.le_refl _)) (fun x c e => fk.2.2.2.2.1 x c (hcl x c e)) (fun p hp => absurd hp (by simp [Cx.comp]))
        refine ⟨m', hm, i + 1, ys ++ [yv], its ++ [y], σ6, H8, I10.pins_of fun p hp => ?_, ?_, (back I8).2, rv.append (.cons r8 .nil), w8⟩
        · have e : p = (s2.heap.objs.size, { cls := .type "list", data := .seq (its ++ [y]).toArray (its ++ [y]).length }) := by simpa using hp
          subst e
          refine ⟨?_, fD, nD, nfD, fun v z => by cases z⟩
          show h₅.get? s2.heap.objs.size = _
          rw [hD₅, List.push_toArray, List.length_append, List.length_singleton]
        · exact T.keep _ _ _ (back I8).1 fun b hb o e => hs₅.extBut b o (fun z => fpD (by have z' : b = s2.heap.objs.size := z; rw [← z']; exact hb)) e
  exact codeAny_compStart_list (loop _ rfl) (T.self _ 0 _ _ _ hst₁ (loop _ rfl))

theorem pe_comp (hc : X.calm = true) (S : CScope X scope N nv ix) (hi : PI X tg iter wi)
    (hg : ∀ cl C s H ex, PG (X.comp scope cl C N s H ex) tg g) (ht : ∀ cl C s H ex, PTs (X.comp scope cl C N s H ex) ifs tt) (he : ∀ cl C s H ex, PE (X.comp scope cl C N s H ex) elt te)
    (hs : ∀ x, foldedSetIterable iter X.env x = pure x := by intro _; rfl) : PE X (.ListComp elt [⟨tg, iter, ifs, 0⟩] scope pos) (tComp nv ix wi g tt te) := by
  intro pins s σ H Q I h
  rw [eval_ListComp]
  refine comp_core (Q := fun ys H' => ∀ D, H' D = none → Q (.ref D) (upd H' D (.lst ys))) (use := none) hc S hi hg ht he I ?_ (fun ys D C H' s' s2 σ2 q fD hDC J hm fk fC => ?_) hs
  · exact h
  · obtain ⟨m, hm⟩ := hm
    refine ⟨m, hm, fun h' sb => ⟨.ref D, _, ?_, rfl, q D fD⟩⟩
    have fC' : upd H' D (.lst ys) C = none := by rw [upd_ne (Ne.symm hDC)]; exact fC
    obtain ⟨f0, f1, f2, f3, f4, f5⟩ := fk _ fC'
    exact J.turned (t' := s'.toks) (it := C) (fun b o hb e => sb.extBut b o hb e) f0 f1 f3 f4 f5
/-- name = a comprehension (the store ahead of the block's own names being let go) -/
theorem ps_setc {i : Nat} {x : Str} {px : Pos} (hc : X.calm = true) (hN : X.N.Nodup) (hi' : X.N[i]? = some x) (hx : X.env.scope.names.lookup x = some .local) (S : CScope X scope N nv ix) (hi : PI X tg iter wi)
    (hg : ∀ cl C s H ex, PG (X.comp scope cl C N s H ex) tg g) (ht : ∀ cl C s H ex, PTs (X.comp scope cl C N s H ex) ifs tt) (he : ∀ cl C s H ex, PE (X.comp scope cl C N s H ex) elt te)
    (hsw : swapsWith (.ListComp elt [⟨tg, iter, ifs, 0⟩] scope pos) (some (.Name x px)) spos.line X.env = pure true := by rfl)
    (hs : ∀ x, foldedSetIterable iter X.env x = pure x := by intro _; rfl) : PS X (.Assign [.Name x px] (.ListComp elt [⟨tg, iter, ifs, 0⟩] scope pos) spos) (tAsg (tComp nv ix wi g tt te) (gName i)) := by
  intro pins s σ H D I h
  rw [exec_Assign_Name_used _ _ _ _ hsw]
  refine wpAny_bind (wpAny_standAt (wpAny_bind ?_))
  show wpAny _ _ (do let _ ← comprehension (.ListComp elt [⟨tg, iter, ifs, 0⟩] scope pos) scope X.env (firstIterPos [⟨tg, iter, ifs, 0⟩] pos) (newList []) false (eval iter X.env) (some (assign (.Name x px) X.env))) _ _ s
  refine wpAny_bind (thn (comp_core (Q := fun ys H' => ∀ l, H' l = none → D.nx (σ.set i (some (.ref l))) (upd H' l (.lst ys))) (use := some (assign (.Name x px) X.env)) (Qv := fun _ s' => SP X pins D .next s') hc S hi hg ht he I h (fun ys l C H' s' s2 σ2 q fD hDC J hm fk fC => ?_) hs)
    fun _ s' hq => wpAny_pure (wpAny_pure hq))
  obtain ⟨m, hm⟩ := hm
  have fC' : upd H' l (.lst ys) C = none := by rw [upd_ne (Ne.symm hDC)]; exact fC
  obtain ⟨f0, f1, f2, f3, f4, f5⟩ := fk _ fC'
  show wpAny _ _ (assign (.Name x px) X.env (.ref l)) _ _ s'
  refine wpAny_assign_Name (store_ok2 J hN hi' (.inl hx) (v := .ref l) (u := .ref l) rfl (fun s'' J' ⟨a, sb, ha⟩ => ?_) (.inr hx))
  have hCa : C ≠ a := by
    rcases ha with z | z
    · rw [z]; exact f1
    · exact Ne.symm (f4 x a z)
  refine ⟨m, hm.sameBut sb hCa, fun h' sb' => ⟨_, _, ?_, q l fD⟩⟩
  exact J'.turned (t' := s''.toks) (it := C) (fun b o hb e => sb'.extBut b o hb e) f0 f1 f3 f4 f5
end
end L2


set_option maxRecDepth 100000
namespace L2
open PySem PySem.Spec PyProof.Rows

noncomputable def Its (x : Str) : It := ⟨fun i _ => i < x.cps.size, fun i H v H' => H' = H ∧ ∃ c, x.cps[i]? = some c ∧ v = .str ⟨#[c]⟩, fun i _ => x.cps.size ≤ i⟩
theorem turn_str {P : Program} {w : World} {K : PySem.W.Frag} {tg : Expr} (it : Addr) (x : Str) (t : Tok) (T : String) (hT : T = "str_ascii_iterator" ∨ T = "str_iterator") : Turn P w K tg (Its x) [it] it (fun i h => h.IsStrIter it T x t i) where
  mem := by simp
  obj := fun i h st b hb => by
    have e : b = it := by simpa using hb
    subst e
    obtain ⟨o, e, c, d⟩ := st
    exact ⟨o, e, fun v z => by rw [d] at z; cases z⟩
  keep := fun i h h' st k => by
    obtain ⟨o, e, r⟩ := st
    exact ⟨o, k it (by simp) o e, r⟩
  item := by
    intro X hP hw hK hc i pins s σ H E I hf st hg
    subst hP hw hK
    obtain ⟨f0, f1, f2, f3, f4, f5⟩ := hf it (by simp)
    have hg' : i < x.cps.size := hg
    have W : Walks X.prog X.w X.A it [it] [it] x.cps.size (SignAt x) (fun i h => h.IsStrIter it T x t i) := by
      rcases hT with rfl | rfl
      · exact Walks.strAscii (I.ok.hd hc) it x t
      · exact Walks.strWide (I.ok.hd hc) it x t
    refine W.item i s _ _ hg' st fun v h' tk hv st' kk => ?_
    obtain ⟨c, u, hcx, rfl⟩ := hv
    have I1 : Inv X pins σ H { s with heap := h', toks := tk } := I.turned (fun b o hb e => kk b o (by simpa using hb) e) f0 f1 f3 f4 f5
    obtain ⟨o, e, c', d⟩ := id st'
    refine ⟨_, rfl, go_of (s := { s with heap := h', toks := tk }) e c' d (by rcases hT with rfl | rfl <;> decide) ⟨.str ⟨#[c]⟩, H, I1, ⟨u, rfl⟩, ⟨rfl, c, hcx, rfl⟩, st', fun b hb => (hf b hb).1⟩⟩
  done := by
    intro X hP hw hK hc i pins s σ H E I hf st hg
    subst hP hw hK
    obtain ⟨f0, f1, f2, f3, f4, f5⟩ := hf it (by simp)
    have hg' : x.cps.size ≤ i := hg
    have he : x.cps[i]? = none := by simp [hg']
    rcases hT with rfl | rfl
    · exact wpAny_pyNext_ascii_end (I.ok.hd hc) st he fun h' eb => ⟨rfl, I.turned (t' := s.toks) (fun b o hb e => eb b o hb e) f0 f1 f3 f4 f5⟩
    · exact wpAny_pyNext_wide_end (I.ok.hd hc) st he fun h' eb => ⟨rfl, I.turned (t' := s.toks) (fun b o hb e => eb b o hb e) f0 f1 f3 f4 f5⟩
  self := fun _ _ _ _ _ st h => by
    rcases hT with rfl | rfl
    · exact wpAny_pyIter_striter_ascii st h
    · exact wpAny_pyIter_striter_wide st h

noncomputable def seqR (K : PySem.W.Frag) (x : V) (H1 : Hp) (R : It → Hp → Prop) : Prop := match x with
  | .ref a => (∃ xs, SqL K H1 a xs ∧ R (Itl K a) H1) ∨ (∃ xs, SqT K H1 a xs ∧ R (Itt K a) H1)
  | .str z => R (Its z) H1
  | _ => False
noncomputable def iSeq (K : PySem.W.Frag) (tl : TE) : TI := fun σ H R => tl σ H fun x H1 => seqR K x H1 R
theorem pi_seq {X : Cx} {tg l : Expr} {tl : TE} (hl : PE X l tl) : PI X tg l (iSeq X.K tl) := by
  intro pins s σ H R I h
  refine thn (hl pins s σ H _ I h) fun v s1 ⟨x, H1, I1, r1, q1⟩ => ?_
  cases x with
  | ref a =>
    cases r1
    rcases q1 with ⟨xs, hq, q⟩ | ⟨xs, hq, q⟩
    · obtain ⟨its, rv, p, hz⟩ := I1.list hq
      refine wpAny_pyIter_list p.isList ?_
      refine ⟨s1.heap.objs.size, [s1.heap.objs.size], _, _, H1, rfl, I1.kept (t' := s1.toks) fun b o e => Heap.get?_push_of_some _ e, turn_list a _, ⟨_, Heap.get?_push_size _ rfl, rfl, rfl⟩, fun b hb => ?_, q⟩
      have e : b = s1.heap.objs.size := by simpa using hb
      subst e
      exact I1.fpOk (Nat.le_refl _) (I1.hok.fresh (Nat.le_refl _))
    · obtain ⟨its, rv, p, hz⟩ := I1.tuple hq
      refine wpAny_pyIter_tuple (show s1.heap.IsTuple a its.toArray from p) ?_
      refine ⟨s1.heap.objs.size, [s1.heap.objs.size], _, _, H1, rfl, I1.kept (t' := s1.toks) fun b o e => Heap.get?_push_of_some _ e, turn_tuple a _, ⟨_, Heap.get?_push_size _ rfl, rfl, rfl⟩, fun b hb => ?_, q⟩
      have e : b = s1.heap.objs.size := by simpa using hb
      subst e
      exact I1.fpOk (Nat.le_refl _) (I1.hok.fresh (Nat.le_refl _))
  | str z =>
    obtain ⟨t, rfl⟩ := r1
    have fp : ∀ b ∈ [s1.heap.objs.size], FpOk X pins H1 b := fun b hb => by
      have e : b = s1.heap.objs.size := by simpa using hb
      subst e
      exact I1.fpOk (Nat.le_refl _) (I1.hok.fresh (Nat.le_refl _))
    cases ha : z.cps.all (· < 128)
    · exact wpAny_pyIter_wide ha ⟨s1.heap.objs.size, [s1.heap.objs.size], _, _, H1, rfl, I1.kept (t' := s1.toks) fun b o e => Heap.get?_push_of_some _ e, turn_str _ z t _ (.inr rfl), ⟨_, Heap.get?_push_size _ rfl, rfl, rfl⟩, fp, q1⟩
    · exact wpAny_pyIter_ascii ha ⟨s1.heap.objs.size, [s1.heap.objs.size], _, _, H1, rfl, I1.kept (t' := s1.toks) fun b o e => Heap.get?_push_of_some _ e, turn_str _ z t _ (.inl rfl), ⟨_, Heap.get?_push_size _ rfl, rfl, rfl⟩, fp, q1⟩
  | _ => exact q1.elim

noncomputable def forR (J : It) (g : TG) (tb : TS) (D : Ends) (σ : St) (H : Hp) : Prop := ∃ W : Nat → Nat → St → Hp → Prop, (∃ m, W 0 m σ H) ∧ ∀ i m σ H, W i m σ H →
  (J.stop i H ∧ D.nx σ H) ∨ (J.go i H ∧ ∃ N : St → Hp → Prop, (∀ σ' H', N σ' H' → ∃ m', m' < m ∧ W (i + 1) m' σ' H') ∧ ∀ x H', J.yld i H x H' → g x σ H' fun σ2 H2 => tb { D with nx := N, ct := N, bk := D.nx } σ2 H2)
section
variable {K : PySem.W.Frag} {tl : TE} {g : TG} {tb : TS} {D : Ends} {σ : St} {H : Hp} {tt : TT} {te : TE} {nv : Nat} {ix : List Nat} {Q : VK} {ta : TA}
theorem tFor_seq : tFor (iSeq K tl) g tb D σ H = tl σ H fun x H1 => seqR K x H1 fun J H2 => forR J g tb D σ H2 := rfl
theorem tComp_seq : tComp nv ix (iSeq K tl) g tt te σ H Q = tl σ H fun x H1 => seqR K x H1 fun J H2 => compR J g tt te (compSt nv ix σ) H2 fun ys H' => ys.length ≤ sizeLine ∧ ∀ l, H' l = none → Q (.ref l) (upd H' l (.lst ys)) := rfl
noncomputable def rngR1 (vs : List V) (H1 : Hp) (R : It → Hp → Prop) : Prop := match vs with
  | [.int j] => (-(2 ^ 62) ≤ j ∧ j < 2 ^ 62) ∧ R (Itr 0 j.toNat) H1
  | _ => False
noncomputable def rngR2 (vs : List V) (H1 : Hp) (R : It → Hp → Prop) : Prop := match vs with
  | [.int i, .int j] => (-(2 ^ 62) ≤ i ∧ i < 2 ^ 62 ∧ -(2 ^ 62) ≤ j ∧ j < 2 ^ 62) ∧ R (Itr i (j - i).toNat) H1
  | _ => False
noncomputable def jRng1 (ta : TA) : TI := fun σ H R => ta σ H fun vs H1 => rngR1 vs H1 R
noncomputable def jRng2 (ta : TA) : TI := fun σ H R => ta σ H fun vs H1 => rngR2 vs H1 R
theorem tFor_rng1 : tFor (jRng1 ta) g tb D σ H = ta σ H fun vs H1 => rngR1 vs H1 fun J H2 => forR J g tb D σ H2 := rfl
theorem tComp_rng2 : tComp nv ix (jRng2 ta) g tt te σ H Q = ta σ H fun vs H1 => rngR2 vs H1 fun J H2 => compR J g tt te (compSt nv ix σ) H2 fun ys H' => ys.length ≤ sizeLine ∧ ∀ l, H' l = none → Q (.ref l) (upd H' l (.lst ys)) := rfl
theorem rngR1_int {j : Int} {R : It → Hp → Prop} : rngR1 [.int j] H R = ((-(2 ^ 62) ≤ j ∧ j < 2 ^ 62) ∧ R (Itr 0 j.toNat) H) := rfl
theorem rngR2_int {i j : Int} {R : It → Hp → Prop} : rngR2 [.int i, .int j] H R = ((-(2 ^ 62) ≤ i ∧ i < 2 ^ 62 ∧ -(2 ^ 62) ≤ j ∧ j < 2 ^ 62) ∧ R (Itr i (j - i).toNat) H) := rfl
end
section
variable {X : Cx} {tg : Expr}
theorem pj_range1 {a : Expr} {ta : TA} {p pos : Pos} (hg : Gl X "range") (hm : X.mg "range" = none) (ha : PA X [a] ta) (hs : starEach [a] X.env = [(false, eval a X.env)] := by rfl) : PI X tg (.Call (.Name "range" p) [a] [] pos) (jRng1 ta) := by
  intro pins s σ H R I h
  refine Call_ (ld_blt I hg hm boot_range (PyProof.Rows.callWith_type1 (thn (ha pos pins s σ H _ I h) fun us s1 ⟨vs, H1, I1, r1, q1⟩ => ?_) hs rfl))
  replace q1 : rngR1 vs H1 R := q1
  unfold rngR1 at q1
  split at q1
  · obtain ⟨⟨q1, q2⟩, q⟩ := q1
    cases r1 with
    | cons r rr =>
      cases rr
      obtain ⟨t, rfl⟩ := r
      exact call_range_1 (range_it I1 (by lia) (by lia) q1 q2 (by simpa using q))
  · exact q1.elim
theorem pj_range2 {a b : Expr} {ta : TA} {p pos : Pos} (hg : Gl X "range") (hm : X.mg "range" = none) (ha : PA X [a, b] ta) (hs : starEach [a, b] X.env = [(false, eval a X.env), (false, eval b X.env)] := by rfl) (hs2 : starEach [b] X.env = [(false, eval b X.env)] := by rfl) :
    PI X tg (.Call (.Name "range" p) [a, b] [] pos) (jRng2 ta) := by
  intro pins s σ H R I h
  refine Call_ (ld_blt I hg hm boot_range (PyProof.Rows.callWith_type1 (thn (ha pos pins s σ H _ I h) fun us s1 ⟨vs, H1, I1, r1, q1⟩ => ?_) (by rw [hs, hs2]) (by rw [hs2]; rfl)))
  replace q1 : rngR2 vs H1 R := q1
  unfold rngR2 at q1
  split at q1
  · obtain ⟨⟨q1, q2, q3, q4⟩, q⟩ := q1
    cases r1 with
    | cons r rr =>
      cases rr with
      | cons r' rr =>
        cases rr
        obtain ⟨t, rfl⟩ := r
        obtain ⟨t', rfl⟩ := r'
        exact call_range_2 (range_it I1 q1 q2 q3 q4 q)
  · exact q1.elim
end
section
variable {K : PySem.W.Frag} {g : TG} {tb : TS} {D : Ends} {σ : St} {H : Hp}
/-- over a list -/
theorem fo_list {a : Addr} {xs : List V} (hS : SqL K H a xs) (Pv : Nat → St → Hp → Prop) (h0 : Pv 0 σ H) (hl : ∀ i σ H, i ≤ xs.length → Pv i σ H → SqL K H a xs)
    (hs : ∀ i x σ H, xs[i]? = some x → Pv i σ H → g x σ H fun σ2 H2 => tb { D with nx := Pv (i + 1), ct := Pv (i + 1), bk := D.nx } σ2 H2) (hd : ∀ σ H, Pv xs.length σ H → D.nx σ H) :
    seqR K (.ref a) H fun J H2 => forR J g tb D σ H2 := .inl ⟨xs, hS, for_list Pv h0 hl hs hd⟩
theorem fo_rng {lo : Int} {n : Nat} (Pv : Nat → St → Hp → Prop) (h0 : Pv 0 σ H)
    (hs : ∀ (i : Nat) σ H, i < n → Pv i σ H → g (.int (lo + i)) σ H fun σ2 H2 => tb { D with nx := Pv (i + 1), ct := Pv (i + 1), bk := D.nx } σ2 H2) (hd : ∀ σ H, Pv n σ H → D.nx σ H) :
    forR (Itr lo n) g tb D σ H := for_range Pv h0 hs hd
end

section
variable {K : PySem.W.Frag} {tt : TT} {te : TE} {H : Hp} {tail : St} {Q : List V → Hp → Prop} {p : V → Bool} {f : V → V}
/-- n items, got by x; the target is the one name in slot 0 -/
theorem comp_pure {J : It} {n : Nat} {xs : List V} (hn : xs.length = n) (hz : n ≤ sizeLine) (go : ∀ i, i < n → J.go i H) (stop : J.stop n H) (yl : ∀ i x H', i < n → J.yld i H x H' → H' = H ∧ xs[i]? = some x)
    (ht : ∀ x ∈ xs, ∀ Q : Bool → Hp → Prop, Q (p x) H → tt (some x :: tail) H Q) (he : ∀ x ∈ xs, p x = true → ∀ Q : VK, Q (f x) H → te (some x :: tail) H Q) (q : Q ((xs.filter p).map f) H) :
    compR J (gName 0) tt te (none :: tail) H Q := by
  refine ⟨fun i m ys σ' H' => i ≤ n ∧ m = n - i ∧ ys = ((xs.take i).filter p).map f ∧ (∃ v, σ' = v :: tail) ∧ H' = H, ⟨n, Nat.zero_le _, rfl, by simp, ⟨_, rfl⟩, rfl⟩, ?_⟩
  rintro i m ys σ' H' ⟨hi, rfl, rfl, ⟨v, rfl⟩, rfl⟩
  by_cases e : i = n
  · subst e
    refine .inl ⟨stop, ?_⟩
    rw [List.take_of_length_le (by lia)]
    exact q
  · have hlt : i < n := by lia
    refine .inr ⟨go i hlt, ?_, fun ys' σ'' H'' => ys' = ((xs.take (i + 1)).filter p).map f ∧ (∃ v, σ'' = v :: tail) ∧ H'' = H', fun ys' σ'' H'' ⟨a, b, c⟩ => ⟨n - (i + 1), by lia, by lia, rfl, a, b, c⟩, fun x H'' y => ?_⟩
    · have h1 : (((xs.take i).filter p).map f).length ≤ i := by
        rw [List.length_map]
        exact Nat.le_trans (List.length_filter_le _ _) (by rw [List.length_take]; lia)
      lia
    · obtain ⟨rfl, hx⟩ := yl i x H'' hlt y
      have hm : x ∈ xs := List.mem_of_getElem? hx
      have tk : xs.take (i + 1) = xs.take i ++ [x] := by
        rw [List.take_succ, hx]; rfl
      show tt _ _ _
      refine ht x hm _ ?_
      cases hp : p x with
      | true =>
        rw [if_pos rfl]
        refine he x hm hp _ ⟨?_, ⟨_, rfl⟩, rfl⟩
        rw [tk, List.filter_append, List.map_append]
        simp [hp]
      | false =>
        rw [if_neg Bool.false_ne_true]
        refine ⟨?_, ⟨_, rfl⟩, rfl⟩
        rw [tk, List.filter_append, List.map_append]
        simp [hp]
theorem co_list {a : Addr} {xs : List V} (hS : SqL K H a xs) (hz : xs.length ≤ sizeLine) (ht : ∀ x ∈ xs, ∀ Q : Bool → Hp → Prop, Q (p x) H → tt (some x :: tail) H Q) (he : ∀ x ∈ xs, p x = true → ∀ Q : VK, Q (f x) H → te (some x :: tail) H Q) (q : Q ((xs.filter p).map f) H) :
    seqR K (.ref a) H fun J H2 => compR J (gName 0) tt te (none :: tail) H2 Q :=
  .inl ⟨xs, hS, comp_pure (n := xs.length) rfl hz (fun i hi => ⟨xs, xs[i], hS, by simp [hi]⟩) ⟨xs, hS, Nat.le_refl _⟩ (fun i x H' hi y => ⟨y.1, y.2 xs hS⟩) ht he q⟩
theorem co_tup {a : Addr} {xs : List V} (hS : SqT K H a xs) (hz : xs.length ≤ sizeLine) (ht : ∀ x ∈ xs, ∀ Q : Bool → Hp → Prop, Q (p x) H → tt (some x :: tail) H Q) (he : ∀ x ∈ xs, p x = true → ∀ Q : VK, Q (f x) H → te (some x :: tail) H Q) (q : Q ((xs.filter p).map f) H) :
    seqR K (.ref a) H fun J H2 => compR J (gName 0) tt te (none :: tail) H2 Q :=
  .inr ⟨xs, hS, comp_pure (n := xs.length) rfl hz (fun i hi => ⟨xs, xs[i], hS, by simp [hi]⟩) ⟨xs, hS, Nat.le_refl _⟩ (fun i x H' hi y => ⟨y.1, y.2 xs hS⟩) ht he q⟩
/-- lo, lo + 1, .. -/
noncomputable def rngV (lo : Int) (n : Nat) : List V := (List.range n).map fun i : Nat => .int (lo + (i : Int))
theorem co_rng {lo : Int} {n : Nat} (hz : n ≤ sizeLine) (ht : ∀ i : Nat, i < n → ∀ Q : Bool → Hp → Prop, Q (p (.int (lo + i))) H → tt (some (.int (lo + i)) :: tail) H Q) (he : ∀ i : Nat, i < n → p (.int (lo + i)) = true → ∀ Q : VK, Q (f (.int (lo + i))) H → te (some (.int (lo + i)) :: tail) H Q)
    (q : Q (((rngV lo n).filter p).map f) H) : compR (Itr lo n) (gName 0) tt te (none :: tail) H Q := by
  refine comp_pure (n := n) (xs := rngV lo n) (by simp [rngV]) hz (fun i hi => hi) (Nat.le_refl _) (fun i x H' hi y => ?_) (fun x hx => ?_) (fun x hx => ?_) q
  · obtain ⟨e, rfl⟩ := y
    refine ⟨e, ?_⟩
    unfold rngV
    rw [List.getElem?_map, List.getElem?_range hi]
    rfl
  · obtain ⟨i, hi, rfl⟩ := List.mem_map.mp hx
    exact ht i (List.mem_range.mp hi)
  · obtain ⟨i, hi, rfl⟩ := List.mem_map.mp hx
    exact he i (List.mem_range.mp hi)
theorem compSt_one {ix : List Nat} {σ : St} : compSt 1 ix σ = none :: ix.map fun i => (σ[i]?).join := rfl
end
end L2


set_option maxRecDepth 100000
namespace L2
open PySem PySem.Spec PyProof.Rows

section
variable {X : Cx}
noncomputable def rIsN (neg : Bool) : R2 := fun x y H Q => match y with
  | .non => Q (.bl (if neg then !decide (x = .non) else decide (x = .non))) H
  | _ => False
theorem op_isNA : OpR X (compareOp .Is) (rIsN false) := OpR.imp op_isN fun x y H Q h => by
  unfold rIsN at h
  split at h
  · exact ⟨rfl, h⟩
  · exact h.elim
theorem op_notNA : OpR X (compareOp .IsNot) (rIsN true) := OpR.imp op_notN fun x y H Q h => by
  unfold rIsN at h
  split at h
  · exact ⟨rfl, h⟩
  · exact h.elim
theorem rIsN_f {x : V} {H : Hp} {Q : VK} : rIsN false x .non H Q = Q (.bl (decide (x = .non))) H := rfl
theorem rIsN_t {x : V} {H : Hp} {Q : VK} : rIsN true x .non H Q = Q (.bl (!decide (x = .non))) H := rfl

noncomputable def rSlS : V → Option Int → Option Int → Hp → VK → Prop := fun x lo hi H Q => ∃ z, x = .str z ∧ z.length ≤ sizeLine ∧ Q (.str (Txt.slice z lo hi)) H
theorem part_val {v : Value} {o : Option Int} (h : IsPart v o) : ∃ l : Option (Int × Tok), v = partValue l ∧ l.map (·.1) = o := by
  cases h with
  | none => exact ⟨none, rfl, rfl⟩
  | int i t => exact ⟨some (i, t), rfl, rfl⟩
theorem sl_str : SlR X rSlS := by
  intro pins s σ H x v vl vu lo hi sl Q I rx hs pl pu h
  obtain ⟨z, rfl, hz, q⟩ := h
  obtain ⟨t, rfl⟩ := rx
  obtain ⟨l, rfl, el⟩ := part_val pl
  obtain ⟨u, rfl, eu⟩ := part_val pu
  refine ⟨"str", _, F.slot_str_getitem.lookup, typeIs_str _ _ _, wpAny_getItem_str_slice (l := l) (u := u) (st := none) hs rfl ?_⟩
  unfold sliceMade
  have e : slicePicked z l u none = Builtin.Str.strSliceIndices lo hi 1 z.length := by
    unfold slicePicked
    rw [el, eu]
    rfl
  rw [e]
  have hq : Txt.slice z lo hi = if ((1 : Int) == 1 && (Builtin.Str.strSliceIndices lo hi 1 z.length).length == z.length) = true then z else ⟨((Builtin.Str.strSliceIndices lo hi 1 z.length).filterMap (z.cps[·]?)).toArray⟩ := rfl
  have hle := Txt.slice_le z lo hi
  rw [hq] at q hle
  show (if ((1 : Int) == 1 && (Builtin.Str.strSliceIndices lo hi 1 z.length).length == z.length) = true then Made.val (.str z t) else _).post _ s
  by_cases c : ((1 : Int) == 1 && (Builtin.Str.strSliceIndices lo hi 1 z.length).length == z.length) = true
  · rw [if_pos c] at q ⊢
    exact ⟨.str z, H, I, ⟨t, rfl⟩, q⟩
  · rw [if_neg c] at q hle ⊢
    exact ⟨Nat.le_trans hle hz, .str _, H, I.tok _, ⟨_, rfl⟩, q⟩
noncomputable def rSlA (K : PySem.W.Frag) : V → Option Int → Option Int → Hp → VK → Prop := fun x lo hi H Q => match x with
  | .ref a => (∃ xs, SqL K H a xs ∧ ∀ p, H p = none → Q (.ref p) (upd H p (.lst (cutV xs lo hi)))) ∨ rSlT K (.ref a) lo hi H Q
  | .str z => z.length ≤ sizeLine ∧ Q (.str (Txt.slice z lo hi)) H
  | _ => False
theorem SlR.imp {r r' : V → Option Int → Option Int → Hp → VK → Prop} (h : SlR X r) (i : ∀ x lo hi H Q, r' x lo hi H Q → r x lo hi H Q) : SlR X r' :=
  fun pins s σ H x v vl vu lo hi sl Q I rx hs pl pu q => h pins s σ H x v vl vu lo hi sl Q I rx hs pl pu (i _ _ _ _ _ q)
theorem sl_A : SlR X (rSlA X.K) := by
  refine SlR.imp (sl_list.or (sl_tup.or sl_str)) fun x lo hi H Q h => ?_
  unfold rSlA at h
  split at h
  · rcases h with ⟨xs, h1, h2⟩ | h
    · exact .inl ⟨_, xs, rfl, h1, h2⟩
    · exact .inr (.inl h)
  · exact .inr (.inr ⟨_, rfl, h.1, h.2⟩)
  · exact h.elim
theorem rSlA_list {K : PySem.W.Frag} {a : Addr} {xs : List V} {lo hi : Option Int} {H : Hp} {Q : VK} (hS : SqL K H a xs) (h : ∀ p, H p = none → Q (.ref p) (upd H p (.lst (cutV xs lo hi)))) : rSlA K (.ref a) lo hi H Q := .inl ⟨xs, hS, h⟩
end

inductive Dt where
  | non | int (i : Int) | str (z : Str) | l (ds : List Dt) | t (ds : List Dt)
/-- the value stands for the datum; n bounds the depth -/
noncomputable def Den (K : PySem.W.Frag) (H : Hp) : Nat → V → Dt → Prop
  | 0, x, d => (x = .non ∧ d = .non) ∨ (∃ i, x = .int i ∧ d = .int i) ∨ (∃ z, x = .str z ∧ d = .str z)
  | n + 1, x, d => Den K H n x d ∨ (∃ a xs ds, x = .ref a ∧ d = .l ds ∧ SqL K H a xs ∧ Paired (Den K H n) xs ds) ∨ (∃ a xs ds, x = .ref a ∧ d = .t ds ∧ SqT K H a xs ∧ Paired (Den K H n) xs ds)
theorem Paired.get {α β : Type} {F : α → β → Prop} : ∀ {xs : List α} {ys : List β} {i : Nat} {x : α}, Paired F xs ys → xs[i]? = some x → ∃ y, ys[i]? = some y ∧ F x y
  | _, _, _, _, .nil, e => by simp at e
  | _, _, 0, _, .cons r _, e => by simp at e; subst e; exact ⟨_, rfl, r⟩
  | _, _, i + 1, x, .cons _ t, e => by
    obtain ⟨u, h1, h2⟩ := Paired.get (i := i) (x := x) t (by simpa using e)
    exact ⟨u, by simpa using h1, h2⟩
open Classical in
theorem all_range_eq {α : Type} {xs ys : List α} {e : Nat → Bool} (hl : xs.length = ys.length) (h : ∀ j a b, xs[j]? = some a → ys[j]? = some b → e j = decide (a = b)) : (List.range xs.length).all e = decide (xs = ys) := by
  rw [Bool.eq_iff_iff, List.all_eq_true, decide_eq_true_eq]
  constructor
  · intro q
    refine List.ext_getElem hl fun j h1 h2 => ?_
    have := q j (List.mem_range.mpr h1)
    rw [h j xs[j] ys[j] (by simp [h1]) (by simp [h2]), decide_eq_true_eq] at this
    exact this
  · rintro rfl j hj
    have hj' := List.mem_range.mp hj
    rw [h j xs[j] xs[j] (by simp [hj']) (by simp [hj']), decide_eq_true_eq]
section
variable {X : Cx} {pins : List (Addr × Obj)} {σ : St} {H : Hp} {s : Shared}
open Classical in
theorem den_scal {A : Around} {x y : V} {u v : Value} {d e : Dt} (rx : RelV x u) (ry : RelV y v) (hx : Den X.K H 0 x d) (hy : Den X.K H 0 y e) : SeqAt.EqAt A s u v (decide (d = e)) := by
  rcases hx with ⟨rfl, rfl⟩ | ⟨i, rfl, rfl⟩ | ⟨i, rfl, rfl⟩ <;> rcases hy with ⟨rfl, rfl⟩ | ⟨j, rfl, rfl⟩ | ⟨j, rfl, rfl⟩
  · cases rx; cases ry; rw [decide_eq_true rfl]; exact SeqAt.EqAt.same _
  · cases rx; obtain ⟨t, rfl⟩ := ry; rw [decide_eq_false (fun z => nomatch z)]; exact SeqAt.EqAt.none_int _ _
  · cases rx; obtain ⟨t, rfl⟩ := ry; rw [decide_eq_false (fun z => nomatch z)]; exact SeqAt.EqAt.none_str _ _
  · obtain ⟨t, rfl⟩ := rx; cases ry; rw [decide_eq_false (fun z => nomatch z)]; exact SeqAt.EqAt.int_none _ _
  · obtain ⟨t, rfl⟩ := rx; obtain ⟨t', rfl⟩ := ry
    have e : decide (Dt.int i = Dt.int j) = (i == j) := by
      rw [Bool.eq_iff_iff, decide_eq_true_eq, beq_iff_eq]
      exact ⟨fun q => Dt.int.inj q, fun q => by rw [q]⟩
    rw [e]; exact SeqAt.EqAt.int_int _ _ _ _
  · obtain ⟨t, rfl⟩ := rx; obtain ⟨t', rfl⟩ := ry; rw [decide_eq_false (fun z => nomatch z)]; exact SeqAt.EqAt.int_str _ _ _ _
  · obtain ⟨t, rfl⟩ := rx; cases ry; rw [decide_eq_false (fun z => nomatch z)]; exact SeqAt.EqAt.str_none _ _
  · obtain ⟨t, rfl⟩ := rx; obtain ⟨t', rfl⟩ := ry; rw [decide_eq_false (fun z => nomatch z)]; exact SeqAt.EqAt.str_int _ _ _ _
  · obtain ⟨t, rfl⟩ := rx; obtain ⟨t', rfl⟩ := ry
    have e : decide (Dt.str i = Dt.str j) = (i == j) := by
      rw [Bool.eq_iff_iff, decide_eq_true_eq, beq_iff_eq]
      exact ⟨fun q => Dt.str.inj q, fun q => by rw [q]⟩
    rw [e]; exact SeqAt.EqAt.str_str _ _ _ _
/-- the depth's parts -/
theorem Den.cases {K : PySem.W.Frag} {H : Hp} : ∀ {n : Nat} {x : V} {d : Dt}, Den K H n x d → Den K H 0 x d ∨ (∃ m, m < n ∧ ∃ a xs ds, x = .ref a ∧ d = .l ds ∧ SqL K H a xs ∧ Paired (Den K H m) xs ds) ∨ (∃ m, m < n ∧ ∃ a xs ds, x = .ref a ∧ d = .t ds ∧ SqT K H a xs ∧ Paired (Den K H m) xs ds)
  | 0, _, _, h => .inl h
  | n + 1, _, _, h => by
    rcases h with h | h | h
    · rcases Den.cases h with q | ⟨m, hm, q⟩ | ⟨m, hm, q⟩
      · exact .inl q
      · exact .inr (.inl ⟨m, by lia, q⟩)
      · exact .inr (.inr ⟨m, by lia, q⟩)
    · exact .inr (.inl ⟨n, by lia, h⟩)
    · exact .inr (.inr ⟨n, by lia, h⟩)
theorem Den.up {K : PySem.W.Frag} {H : Hp} {n m : Nat} {x : V} {d : Dt} (h : Den K H n x d) (hm : n ≤ m) : Den K H m x d := by
  induction m with
  | zero => have : n = 0 := by lia
            subst this; exact h
  | succ m ih =>
    by_cases e : n = m + 1
    · subst e; exact h
    · exact .inl (ih (by lia))
theorem paired_det {F G : V → Dt → Prop} : ∀ {xs : List V} {ds es : List Dt}, Paired F xs ds → Paired G xs es → (∀ x d e, F x d → G x e → d = e) → ds = es
  | _, _, _, .nil, .nil, _ => rfl
  | _, _, _, .cons r t, .cons r' t', f => by rw [f _ _ _ r r', paired_det t t' f]
theorem list_not_tuple {a : Addr} {xs ys : List V} (I : Inv X pins σ H s) (h : SqL X.K H a xs) (h' : SqT X.K H a ys) : False := by
  obtain ⟨its, _, p, _⟩ := I.list h
  obtain ⟨its', _, p', _⟩ := I.tuple h'
  obtain ⟨o, n, e, c, _⟩ := p
  obtain ⟨o', e', c', _⟩ := p'
  rw [e] at e'
  cases e'
  rw [c] at c'
  injection c' with z
  exact absurd z (by decide)
theorem den_det (n : Nat) : ∀ {m : Nat} {x : V} {d e : Dt}, Inv X pins σ H s → Den X.K H n x d → Den X.K H m x e → d = e := by
  induction n using Nat.strongRecOn with
  | _ n ih =>
  intro m x d e I hx hy
  rcases hx.cases with hx | ⟨m1, hm, a, xs, ds, rfl, rfl, ha, pa⟩ | ⟨m1, hm, a, xs, ds, rfl, rfl, ha, pa⟩
  · rcases hy.cases with hy | ⟨k, hk, b, ys, es, rfl, rfl, hb, pb⟩ | ⟨k, hk, b, ys, es, rfl, rfl, hb, pb⟩
    · rcases hx with ⟨rfl, rfl⟩ | ⟨i, rfl, rfl⟩ | ⟨i, rfl, rfl⟩ <;> rcases hy with ⟨z, rfl⟩ | ⟨j, z, rfl⟩ | ⟨j, z, rfl⟩ <;> first | rfl | (cases z; rfl) | cases z
    · rcases hx with ⟨z, _⟩ | ⟨i, z, _⟩ | ⟨i, z, _⟩ <;> cases z
    · rcases hx with ⟨z, _⟩ | ⟨i, z, _⟩ | ⟨i, z, _⟩ <;> cases z
  · rcases hy.cases with hy | ⟨k, hk, b, ys, es, e1, rfl, hb, pb⟩ | ⟨k, hk, b, ys, es, e1, rfl, hb, pb⟩
    · rcases hy with ⟨z, _⟩ | ⟨i, z, _⟩ | ⟨i, z, _⟩ <;> cases z
    · cases e1
      have := I.list_inj ha hb
      subst this
      rw [paired_det pa pb fun x d e h1 h2 => ih m1 hm I h1 h2]
    · cases e1
      exact (list_not_tuple I ha hb).elim
  · rcases hy.cases with hy | ⟨k, hk, b, ys, es, e1, rfl, hb, pb⟩ | ⟨k, hk, b, ys, es, e1, rfl, hb, pb⟩
    · rcases hy with ⟨z, _⟩ | ⟨i, z, _⟩ | ⟨i, z, _⟩ <;> cases z
    · cases e1
      exact (list_not_tuple I hb ha).elim
    · cases e1
      have := I.tuple_inj ha hb
      subst this
      rw [paired_det pa pb fun x d e h1 h2 => ih m1 hm I h1 h2]
theorem size_ne {its its2 : List Value} (h : ¬ its.length = its2.length) : (its.toArray.size != its2.toArray.size) = true := by
  rw [List.size_toArray, List.size_toArray, bne_iff_ne]
  exact h
open Classical in
/-- the items' answers -/
theorem den_items {n : Nat} {A : Around} {xs ys : List V} {its its2 : List Value} {ds es : List Dt} {m k : Nat} (r1 : Vals xs its) (r2 : Vals ys its2) (pa : Paired (Den X.K H m) xs ds) (pb : Paired (Den X.K H k) ys es)
    (ih : ∀ x y u v d e, RelV x u → RelV y v → Den X.K H m x d → Den X.K H k y e → SeqAt.EqAt A s u v (decide (d = e))) :
    ∀ j (h1 : j < its.toArray.size) (h2 : j < its2.toArray.size), SeqAt.EqAt A s its.toArray[j] its2.toArray[j] (decide (ds[j]? = es[j]?)) := by
  intro j h1 h2
  have h1' : j < its.length := by simpa using h1
  have h2' : j < its2.length := by simpa using h2
  have l1 := r1.length
  have l2 := r2.length
  have x1 : xs[j]? = some xs[j] := by simp
  have y1 : ys[j]? = some ys[j] := by simp
  obtain ⟨d', hd', pd⟩ := Paired.get pa x1
  obtain ⟨e', he', pe⟩ := Paired.get pb y1
  obtain ⟨u', hu1, ru⟩ := r1.get x1
  obtain ⟨v', hv1, rv⟩ := r2.get y1
  have e1 : its.toArray[j] = u' := by
    have : its[j]? = some its[j] := by simp
    rw [hu1] at this
    simpa using (Option.some.inj this).symm
  have e2 : its2.toArray[j] = v' := by
    have : its2[j]? = some its2[j] := by simp
    rw [hv1] at this
    simpa using (Option.some.inj this).symm
  have e3 : decide (ds[j]? = es[j]?) = decide (d' = e') := by
    rw [hd', he', Bool.eq_iff_iff, decide_eq_true_eq, decide_eq_true_eq]
    exact ⟨fun q => Option.some.inj q, fun q => by rw [q]⟩
  rw [e1, e2, e3]
  exact ih _ _ _ _ _ _ ru rv pd pe
open Classical in
theorem all_items {ds es : List Dt} {n : Nat} (hn : n = ds.length) (hl : ds.length = es.length) : (List.range n).all (fun j => decide (ds[j]? = es[j]?)) = decide (ds = es) := by
  subst hn
  exact all_range_eq hl fun j a b ha hb => by
    rw [ha, hb, Bool.eq_iff_iff, decide_eq_true_eq, decide_eq_true_eq]
    exact ⟨fun q => Option.some.inj q, fun q => by rw [q]⟩
open Classical in
theorem den_rc (n : Nat) : ∀ {A : Around} {x y : V} {u v : Value} {d e : Dt}, Inv X pins σ H s → A.units + n < cLine → RelV x u → RelV y v → Den X.K H n x d → Den X.K H n y e → SeqAt.EqAt A s u v (decide (d = e)) ∧ ∀ a b, x = .ref a → y = .ref b → SeqAt.RcAt A s (.ref a) (.ref b) (decide (d = e)) := by
  induction n using Nat.strongRecOn with
  | _ n ih =>
  intro A x y u v d e I hu rx ry hx hy
  have lift : ∀ {a b : Addr}, x = .ref a → y = .ref b → SeqAt.RcAt A s (.ref a) (.ref b) (decide (d = e)) → SeqAt.EqAt A s (.ref a) (.ref b) (decide (d = e)) := fun {a b} ea eb q => by
    by_cases hab : a = b
    · subst hab
      subst ea
      subst eb
      rw [decide_eq_true (den_det n I hx hy)]
      exact SeqAt.EqAt.same _
    · exact SeqAt.EqAt.of_refs hab q
  have hu' : A.units < cLine := by lia
  rcases hx.cases with hx' | ⟨m, hm, a, xs, ds, rfl, rfl, ha, pa⟩ | ⟨m, hm, a, xs, ds, rfl, rfl, ha, pa⟩
  · rcases hy.cases with hy' | ⟨k, hk, b, ys, es, rfl, rfl, hb, pb⟩ | ⟨k, hk, b, ys, es, rfl, rfl, hb, pb⟩
    · refine ⟨den_scal rx ry hx' hy', fun a b e1 e2 => ?_⟩
      subst e1
      rcases hx' with ⟨z, _⟩ | ⟨i, z, _⟩ | ⟨i, z, _⟩ <;> cases z
    · cases ry
      obtain ⟨its, _, p, _⟩ := I.list hb
      rcases hx' with ⟨rfl, rfl⟩ | ⟨i, rfl, rfl⟩ | ⟨i, rfl, rfl⟩
      · cases rx; rw [decide_eq_false (fun z => nomatch z)]; exact ⟨SeqAt.EqAt.none_list p.isList hu', fun a b z => nomatch z⟩
      · obtain ⟨t, rfl⟩ := rx; rw [decide_eq_false (fun z => nomatch z)]; exact ⟨SeqAt.EqAt.int_list _ _ p.isList hu', fun a b z => nomatch z⟩
      · obtain ⟨t, rfl⟩ := rx; rw [decide_eq_false (fun z => nomatch z)]; exact ⟨SeqAt.EqAt.str_list _ _ p.isList hu', fun a b z => nomatch z⟩
    · cases ry
      obtain ⟨its, _, p, _⟩ := I.tuple hb
      rcases hx' with ⟨rfl, rfl⟩ | ⟨i, rfl, rfl⟩ | ⟨i, rfl, rfl⟩
      · cases rx; rw [decide_eq_false (fun z => nomatch z)]; exact ⟨SeqAt.EqAt.none_tuple p hu', fun a b z => nomatch z⟩
      · obtain ⟨t, rfl⟩ := rx; rw [decide_eq_false (fun z => nomatch z)]; exact ⟨SeqAt.EqAt.int_tuple _ _ p hu', fun a b z => nomatch z⟩
      · obtain ⟨t, rfl⟩ := rx; rw [decide_eq_false (fun z => nomatch z)]; exact ⟨SeqAt.EqAt.str_tuple _ _ p hu', fun a b z => nomatch z⟩
  · cases rx
    obtain ⟨its, r1, p, hz⟩ := I.list ha
    rcases hy.cases with hy' | ⟨k, hk, b, ys, es, rfl, rfl, hb, pb⟩ | ⟨k, hk, b, ys, es, rfl, rfl, hb, pb⟩
    · rcases hy' with ⟨rfl, rfl⟩ | ⟨i, rfl, rfl⟩ | ⟨i, rfl, rfl⟩
      · cases ry; rw [decide_eq_false (fun z => nomatch z)]; exact ⟨SeqAt.EqAt.list_none p.isList hu', fun a b _ z => nomatch z⟩
      · obtain ⟨t, rfl⟩ := ry; rw [decide_eq_false (fun z => nomatch z)]; exact ⟨SeqAt.EqAt.list_int _ _ p.isList hu', fun a b _ z => nomatch z⟩
      · obtain ⟨t, rfl⟩ := ry; rw [decide_eq_false (fun z => nomatch z)]; exact ⟨SeqAt.EqAt.list_str _ _ p.isList hu', fun a b _ z => nomatch z⟩
    · cases ry
      obtain ⟨its2, r2, p2, hz2⟩ := I.list hb
      have l1 := r1.length
      have l2 := r2.length
      have l3 := Paired.length pa
      have l4 := Paired.length pb
      have eqd : decide (Dt.l ds = Dt.l es) = decide (ds = es) := by
        rw [Bool.eq_iff_iff, decide_eq_true_eq, decide_eq_true_eq]
        exact ⟨fun q => Dt.l.inj q, fun q => by rw [q]⟩
      have rc : SeqAt.RcAt A s (.ref a) (.ref b) (decide (Dt.l ds = Dt.l es)) := by
        rw [eqd]
        by_cases hl : its.length = its2.length
        · have key := SeqAt.RcAt.lists (e := fun j => decide (ds[j]? = es[j]?)) p.isList p2.isList (by simpa using hl) hu' (den_items (n := n) r1 r2 pa pb fun x y u v d e rx ry h1 h2 =>
            (ih (max m k) (by lia) (A := A.in1) I (by show A.units + 1 + max m k < cLine; lia) rx ry (h1.up (Nat.le_max_left _ _)) (h2.up (Nat.le_max_right _ _))).1)
          rw [all_items (by rw [List.size_toArray]; lia) (by lia)] at key
          exact key
        · have hne : ds ≠ es := fun q => hl (by rw [q] at l3; lia)
          rw [decide_eq_false hne]
          exact SeqAt.RcAt.lists_lengths p.isList p2.isList (size_ne hl) hu'
      exact ⟨lift rfl rfl rc, fun a' b' e1 e2 => by cases e1; cases e2; exact rc⟩
    · cases ry
      obtain ⟨its2, r2, p2, _⟩ := I.tuple hb
      rw [decide_eq_false (fun z => nomatch z)]
      exact ⟨SeqAt.EqAt.list_tuple p.isList p2 hu', fun a' b' e1 e2 => by cases e1; cases e2; exact SeqAt.RcAt.list_tuple p.isList p2 hu'⟩
  · cases rx
    obtain ⟨its, r1, p, hz⟩ := I.tuple ha
    rcases hy.cases with hy' | ⟨k, hk, b, ys, es, rfl, rfl, hb, pb⟩ | ⟨k, hk, b, ys, es, rfl, rfl, hb, pb⟩
    · rcases hy' with ⟨rfl, rfl⟩ | ⟨i, rfl, rfl⟩ | ⟨i, rfl, rfl⟩
      · cases ry; rw [decide_eq_false (fun z => nomatch z)]; exact ⟨SeqAt.EqAt.tuple_none p hu', fun a b _ z => nomatch z⟩
      · obtain ⟨t, rfl⟩ := ry; rw [decide_eq_false (fun z => nomatch z)]; exact ⟨SeqAt.EqAt.tuple_int _ _ p hu', fun a b _ z => nomatch z⟩
      · obtain ⟨t, rfl⟩ := ry; rw [decide_eq_false (fun z => nomatch z)]; exact ⟨SeqAt.EqAt.tuple_str _ _ p hu', fun a b _ z => nomatch z⟩
    · cases ry
      obtain ⟨its2, r2, p2, _⟩ := I.list hb
      rw [decide_eq_false (fun z => nomatch z)]
      exact ⟨SeqAt.EqAt.tuple_list p p2.isList hu', fun a' b' e1 e2 => by cases e1; cases e2; exact SeqAt.RcAt.tuple_list p p2.isList hu'⟩
    · cases ry
      obtain ⟨its2, r2, p2, hz2⟩ := I.tuple hb
      have l1 := r1.length
      have l2 := r2.length
      have l3 := Paired.length pa
      have l4 := Paired.length pb
      have eqd : decide (Dt.t ds = Dt.t es) = decide (ds = es) := by
        rw [Bool.eq_iff_iff, decide_eq_true_eq, decide_eq_true_eq]
        exact ⟨fun q => Dt.t.inj q, fun q => by rw [q]⟩
      have rc : SeqAt.RcAt A s (.ref a) (.ref b) (decide (Dt.t ds = Dt.t es)) := by
        rw [eqd]
        have key := SeqAt.RcAt.tuples (e := fun j => decide (ds[j]? = es[j]?)) p p2 hu' (den_items (n := n) r1 r2 pa pb fun x y u v d e rx ry h1 h2 =>
            (ih (max m k) (by lia) (A := A.in1) I (by show A.units + 1 + max m k < cLine; lia) rx ry (h1.up (Nat.le_max_left _ _)) (h2.up (Nat.le_max_right _ _))).1)
        by_cases hl : its.length = its2.length
        · rw [show min its.toArray.size its2.toArray.size = ds.length by rw [List.size_toArray, List.size_toArray]; lia, all_items rfl (by lia), show (its.toArray.size == its2.toArray.size) = true by rw [List.size_toArray, List.size_toArray, beq_iff_eq]; exact hl, Bool.and_true] at key
          exact key
        · have hne : ds ≠ es := fun q => hl (by rw [q] at l3; lia)
          rw [decide_eq_false hne]
          rw [show (its.toArray.size == its2.toArray.size) = false by rw [List.size_toArray, List.size_toArray, beq_eq_false_iff_ne]; exact hl, Bool.and_false] at key
          exact key
      exact ⟨lift rfl rfl rc, fun a' b' e1 e2 => by cases e1; cases e2; exact rc⟩
end

noncomputable def rEqA (K : PySem.W.Frag) (neg : Bool) : R2 := fun x y H Q => match x, y with
  | .ref a, .ref b => ∃ n d e, n ≤ 60 ∧ Den K H n (.ref a) d ∧ Den K H n (.ref b) e ∧ ((d = e ∧ Q (.bl (!neg)) H) ∨ (d ≠ e ∧ Q (.bl neg) H))
  | x, y => scal x y = true ∧ Q (.bl (if neg then !decide (x = y) else decide (x = y))) H
section
variable {X : Cx}
open Classical in
theorem op_eqA (hu : X.A.units + 64 < cLine) : OpR X (compareOp .Eq) (rEqA X.K false) := by
  intro pins s σ H x y v u Q I rx ry h
  unfold rEqA at h
  split at h
  · obtain ⟨n, d, e, hn, hd, he, q⟩ := h
    obtain ⟨_, rc⟩ := den_rc n (A := X.A) I (by lia) rx ry hd he
    cases rx
    cases ry
    have := rc _ _ rfl rfl
    refine (this X.prog X.w _ _ ?_ : wpAny (model X.prog X.w) X.A (richCompare .Eq _ _) (EP X pins σ Q) X.xe s)
    rcases q with ⟨c, q⟩ | ⟨c, q⟩
    · rw [decide_eq_true c]; exact ⟨.bl true, H, I, rfl, q⟩
    · rw [decide_eq_false c]; exact ⟨.bl false, H, I, rfl, q⟩
  · exact op_eq pins s σ H _ _ v u Q I rx ry ⟨h.1, by simpa using h.2⟩
open Classical in
theorem op_neA (hu : X.A.units + 64 < cLine) : OpR X (compareOp .NotEq) (rEqA X.K true) := by
  intro pins s σ H x y v u Q I rx ry h
  unfold rEqA at h
  split at h
  · rename_i a b
    obtain ⟨n, d, e, hn, hd, he, q⟩ := h
    cases rx
    cases ry
    have hu' : X.A.units < cLine := by lia
    have fin : SeqAt.RcNeAt X.A s (.ref a) (.ref b) (!decide (d = e)) → wpAny (model X.prog X.w) X.A (compareOp .NotEq (.ref a) (.ref b)) (EP X pins σ Q) X.xe s := fun rc => by
      refine (rc X.prog X.w _ _ ?_ : wpAny (model X.prog X.w) X.A (richCompare .NotEq _ _) (EP X pins σ Q) X.xe s)
      rcases q with ⟨c, q⟩ | ⟨c, q⟩
      · rw [decide_eq_true c]; exact ⟨.bl false, H, I, rfl, q⟩
      · rw [decide_eq_false c]; exact ⟨.bl true, H, I, rfl, q⟩
    apply fin
    clear fin q
    rcases hd.cases with hx' | ⟨m, hm, a', xs, ds, e1, rfl, ha, pa⟩ | ⟨m, hm, a', xs, ds, e1, rfl, ha, pa⟩
    · rcases hx' with ⟨z, _⟩ | ⟨i, z, _⟩ | ⟨i, z, _⟩ <;> cases z
    · cases e1
      obtain ⟨its, r1, p, hz⟩ := I.list ha
      rcases he.cases with hy' | ⟨k, hk, b', ys, es, e2, rfl, hb, pb⟩ | ⟨k, hk, b', ys, es, e2, rfl, hb, pb⟩
      · rcases hy' with ⟨z, _⟩ | ⟨i, z, _⟩ | ⟨i, z, _⟩ <;> cases z
      · cases e2
        obtain ⟨its2, r2, p2, hz2⟩ := I.list hb
        have l1 := r1.length
        have l2 := r2.length
        have l3 := Paired.length pa
        have l4 := Paired.length pb
        have eqd : decide (Dt.l ds = Dt.l es) = decide (ds = es) := by
          rw [Bool.eq_iff_iff, decide_eq_true_eq, decide_eq_true_eq]
          exact ⟨fun q => Dt.l.inj q, fun q => by rw [q]⟩
        rw [eqd]
        by_cases hl : its.length = its2.length
        · have key := SeqAt.RcNeAt.lists (e := fun j => decide (ds[j]? = es[j]?)) p.isList p2.isList (by simpa using hl) hu' (den_items (n := n) r1 r2 pa pb fun x y u v d e rx ry h1 h2 =>
            (den_rc (max m k) (A := X.A.in1) I (by show X.A.units + 1 + max m k < cLine; lia) rx ry (h1.up (Nat.le_max_left _ _)) (h2.up (Nat.le_max_right _ _))).1)
          rw [all_items (by rw [List.size_toArray]; lia) (by lia)] at key
          exact key
        · have hne : ds ≠ es := fun q => hl (by rw [q] at l3; lia)
          rw [decide_eq_false hne]
          exact SeqAt.RcNeAt.lists_lengths p.isList p2.isList (size_ne hl) hu'
      · cases e2
        obtain ⟨its2, r2, p2, _⟩ := I.tuple hb
        rw [decide_eq_false (fun z => nomatch z)]
        exact SeqAt.RcNeAt.list_tuple p.isList p2 hu'
    · cases e1
      obtain ⟨its, r1, p, hz⟩ := I.tuple ha
      rcases he.cases with hy' | ⟨k, hk, b', ys, es, e2, rfl, hb, pb⟩ | ⟨k, hk, b', ys, es, e2, rfl, hb, pb⟩
      · rcases hy' with ⟨z, _⟩ | ⟨i, z, _⟩ | ⟨i, z, _⟩ <;> cases z
      · cases e2
        obtain ⟨its2, r2, p2, _⟩ := I.list hb
        rw [decide_eq_false (fun z => nomatch z)]
        exact SeqAt.RcNeAt.tuple_list p p2.isList hu'
      · cases e2
        obtain ⟨its2, r2, p2, hz2⟩ := I.tuple hb
        have l1 := r1.length
        have l2 := r2.length
        have l3 := Paired.length pa
        have l4 := Paired.length pb
        have eqd : decide (Dt.t ds = Dt.t es) = decide (ds = es) := by
          rw [Bool.eq_iff_iff, decide_eq_true_eq, decide_eq_true_eq]
          exact ⟨fun q => Dt.t.inj q, fun q => by rw [q]⟩
        rw [eqd]
        have key := SeqAt.RcNeAt.tuples (e := fun j => decide (ds[j]? = es[j]?)) p p2 hu' (den_items (n := n) r1 r2 pa pb fun x y u v d e rx ry h1 h2 =>
            (den_rc (max m k) (A := X.A.in1) I (by show X.A.units + 1 + max m k < cLine; lia) rx ry (h1.up (Nat.le_max_left _ _)) (h2.up (Nat.le_max_right _ _))).1)
        by_cases hl : its.length = its2.length
        · rw [show min its.toArray.size its2.toArray.size = ds.length by rw [List.size_toArray, List.size_toArray]; lia, all_items rfl (by lia), show (its.toArray.size == its2.toArray.size) = true by rw [List.size_toArray, List.size_toArray, beq_iff_eq]; exact hl, Bool.and_true] at key
          exact key
        · have hne : ds ≠ es := fun q => hl (by rw [q] at l3; lia)
          rw [decide_eq_false hne]
          rw [show (its.toArray.size == its2.toArray.size) = false by rw [List.size_toArray, List.size_toArray, beq_eq_false_iff_ne]; exact hl, Bool.and_false] at key
          exact key
  · exact op_ne pins s σ H _ _ v u Q I rx ry ⟨h.1, by simpa using h.2⟩
end
section
variable {K : PySem.W.Frag} {H : Hp} {Q : VK}
theorem rEqA_int {i j : Int} : rEqA K false (.int i) (.int j) H Q = Q (.bl (decide (i = j))) H := by
  show (scal (.int i) (.int j) = true ∧ Q (.bl (if false = true then _ else decide (V.int i = V.int j))) H) = _
  rw [if_neg Bool.false_ne_true]
  exact rEq_int
theorem rNeA_int {i j : Int} : rEqA K true (.int i) (.int j) H Q = Q (.bl (!decide (i = j))) H := by
  show (scal (.int i) (.int j) = true ∧ Q (.bl (if true = true then !decide (V.int i = V.int j) else _)) H) = _
  rw [if_pos rfl]
  exact rNe_int
/-- lists and tuples of ints -/
theorem den_ints {n : Nat} : ∀ {ns : List Int}, Paired (Den K H n) (ns.map V.int) (ns.map Dt.int)
  | [] => .nil
  | i :: ns => .cons (Den.up (n := 0) (.inr (.inl ⟨i, rfl, rfl⟩)) (Nat.zero_le _)) den_ints
theorem den_list {a : Addr} {ns : List Int} (h : SqL K H a (ns.map V.int)) : Den K H 1 (.ref a) (.l (ns.map Dt.int)) := .inr (.inl ⟨a, _, _, rfl, rfl, h, den_ints⟩)
end
end L2


set_option maxRecDepth 100000
namespace L2
open PySem PySem.Spec PyProof.Rows

noncomputable def csOk (osc scope : Scope) (ON N : List Str) (nv : Nat) (ix : List Nat) : Bool :=
  scope.kind == .function && scope.names.all (fun y => y.2 != .cell && (y.2 != .local || scope.names.lookup y.1 == some .local) && (y.2 != .free || (osc.names.lookup y.1 == some .cell || osc.names.lookup y.1 == some .free))) &&
    N.length == nv + ix.length && (List.range ix.length).all fun j => match N[nv + j]?, ix[j]? with
      | some y, some i => ON[i]? == some y && (osc.names.lookup y == some .cell || osc.names.lookup y == some .free) && scope.names.lookup y == some .free
      | _, _ => false
theorem cs_of {X : Cx} {scope : Scope} {N : List Str} {nv : Nat} {ix : List Nat} (h : csOk X.env.scope scope X.N N nv ix = true) : CScope X scope N nv ix := by
  unfold csOk at h
  simp only [Bool.and_eq_true, beq_iff_eq, List.all_eq_true, List.mem_range, Bool.or_eq_true, bne_iff_ne, ne_eq] at h
  obtain ⟨⟨⟨h1, h2⟩, h3⟩, h4⟩ := h
  refine ⟨h1, fun y hy => (h2 y hy).1.1, fun y hy hl => ?_, fun y hy hf => ?_, h3, fun j y e => ?_⟩
  · rcases (h2 y hy).1.2 with z | z
    · exact absurd hl z
    · exact z
  · rcases (h2 y hy).2 with z | z
    · exact absurd hf z
    · exact z
  · have hj : j < ix.length := by
      have := (List.getElem?_eq_some_iff.mp e).1
      lia
    have q := h4 j hj
    rw [e, List.getElem?_eq_getElem hj] at q
    simp only [Bool.and_eq_true, beq_iff_eq, Bool.or_eq_true] at q
    exact ⟨ix[j], List.getElem?_eq_getElem hj, q.1.1, q.1.2, q.2⟩

theorem all_range_bools (bs : List Bool) : (List.range bs.length).all (fun i => bs.getD i false) = bs.all id := by
  rw [Bool.eq_iff_iff, List.all_eq_true, List.all_eq_true]
  constructor
  · intro h b hb
    obtain ⟨i, hi, rfl⟩ := List.getElem_of_mem hb
    have := h i (List.mem_range.mpr hi)
    simpa [List.getD, hi] using this
  · intro h i hi
    have hi' := List.mem_range.mp hi
    have := h bs[i] (List.getElem_mem hi')
    simpa [List.getD, hi'] using this
section
variable {X : Cx}
noncomputable def rAll (K : PySem.W.Frag) (any : Bool) : List V → Hp → VK → Prop := fun xs H Q => match xs with
  | [.ref p] => ∃ bs : List Bool, SqL K H p (bs.map V.bl) ∧ Q (.bl (if any then bs.any id else bs.all id)) H
  | _ => False
theorem truth_bools {prog : Program} {w : World} {A : Around} {bs : List Bool} {its : List Value} (r : Vals (bs.map V.bl) its) : TruthOf prog w A (fun i v => its.toArray[i]? = some v) (fun i => bs.getD i false) := by
  intro i v s Q E hP hQ
  have hP' : its[i]? = some v := by simpa using hP
  have hi : i < bs.length := by
    have := (List.getElem?_eq_some_iff.mp hP').1
    have l := r.length
    rw [List.length_map] at l
    lia
  obtain ⟨u, hu, ru⟩ := r.get (i := i) (x := .bl bs[i]) (by rw [List.getElem?_map, List.getElem?_eq_getElem hi]; rfl)
  rw [hP'] at hu
  cases hu
  cases ru
  have e : bs.getD i false = bs[i] := by simp [List.getD, hi]
  replace hQ : Q (bs.getD i false) s := hQ
  rw [e] at hQ
  exact wpAny_truthy_bool hQ
theorem call_all (hc : X.calm = true) : CallR X (.builtin "all") (rAll X.K false) := by
  intro pins s σ H xs us Q I rs q
  unfold rAll at q
  split at q
  · rename_i p
    obtain ⟨u, rfl, ru⟩ := vals1 rs
    cases ru
    obtain ⟨bs, hS, q⟩ := q
    obtain ⟨its, r, pl, hz⟩ := I.list hS
    have hlt : p < s.heap.objs.size := by obtain ⟨o, e, _⟩ := pl.isList; exact Heap.lt_size e
    have hlen := r.length
    rw [List.length_map] at hlen
    refine call_all_walk (wpAny_pyIter_list pl.isList ⟨s.heap.objs.size, _, _, _, _, _, _, rfl, Walks.list (A := X.A.in1) (I.ok.hd hc) s.heap.objs.size p (Nat.ne_of_lt hlt) its.toArray, ⟨⟨_, Heap.get?_push_size _ rfl, rfl, rfl⟩, pl.isList.push _⟩, truth_bools r, fun h' tk hk => ?_⟩)
    refine ⟨.bl _, H, I.kept (h' := h') (t' := tk) fun b o e => hk b o (fun z => lt_ne e (Nat.le_refl _) (List.mem_singleton.mp z)) (Heap.get?_push_of_some _ e), ?_, q⟩
    rw [List.size_toArray, ← hlen, all_range_bools]
    rfl
  · exact q.elim
theorem rAll_ref {K : PySem.W.Frag} {p : Addr} {H : Hp} {Q : VK} : rAll K false [.ref p] H Q = (∃ bs : List Bool, SqL K H p (bs.map V.bl) ∧ Q (.bl (bs.all id)) H) := rfl
noncomputable def rListA (K : PySem.W.Frag) : List V → Hp → VK → Prop := fun xs H Q => match xs with
  | [.ref p] => ∃ ys, (SqL K H p ys ∨ SqT K H p ys) ∧ ∀ l, H l = none → Q (.ref l) (upd H l (.lst ys))
  | _ => False
theorem call_listA : CallR X (.type "list") (rListA X.K) := CallR.imp call_list_of fun xs H Q h => by
  unfold rListA at h
  split at h
  · obtain ⟨ys, h1, h2⟩ := h
    exact ⟨_, ys, rfl, h1, h2⟩
  · exact h.elim
noncomputable def rAppendA : V → List V → Hp → VK → Prop := fun x vs H Q => match x, vs with
  | .ref l, [y] => ∃ xs, H l = some (.lst xs) ∧ xs.length < sizeLine ∧ Q .non (upd H l (.lst (xs ++ [y])))
  | _, _ => False
theorem mt_appendA : MtR X "list.append" rAppendA := by
  intro pins s σ H x xs v us Q I rx rs q
  unfold rAppendA at q
  split at q
  · obtain ⟨ys, h1, h2, h3⟩ := q
    exact mt_append pins s σ H _ _ v us Q I rx rs ⟨_, ys, _, rfl, rfl, h1, h2, h3⟩
  · exact q.elim
theorem pe_append {o e : Expr} {to te : TE} {apos cpos : Pos} (ho : PE X o to) (he : PE X e te) (hbase : attributeBase o "append" X.env (eval o X.env) = eval o X.env := by rfl)
    (hfew : ((backTo cpos (starEach [e] X.env)).all (fun x => !x.1) && (backToKw cpos (keywordEach [] X.env)).all (fun x => x.1.isSome)
      && decide ([e].length + ([] : List Keyword).length + (if ([] : List Keyword).isEmpty then 0 else 1) < 30)) = true := by rfl)
    (hline : (apos.endLine == cpos.line) = true := by rfl) (hs : starEach [e] X.env = (false, eval e X.env) :: starEach [] X.env := by rfl) (hplain : (backTo cpos (starEach [] X.env)).any (·.1) = false := by rfl) :
    PE X (.Call (.Attribute o "append" apos) [e] [] cpos) (tBM X.K "list" rAppendA to (tCons te tNil)) :=
  pe_bm F.plainAttrs_list F.slot_list_append F.type_list_append mt_appendA ho (pa_cons he pa_nil hs) hbase hfew hline hs hplain
theorem tyV_list {K : PySem.W.Frag} {a : Addr} {xs : List V} {H : Hp} (h : SqL K H a xs) : tyV K "list" (.ref a) H := .inl ⟨rfl, xs, h⟩
theorem rAppendA_ref {l : Addr} {y : V} {H : Hp} {Q : VK} : rAppendA (.ref l) [y] H Q = (∃ xs, H l = some (.lst xs) ∧ xs.length < sizeLine ∧ Q .non (upd H l (.lst (xs ++ [y])))) := rfl
/-- xs[i] -/
noncomputable def rIxA (K : PySem.W.Frag) : R2 := fun x y H Q => match x, y with
  | .ref p, .int i => ∃ xs v, (SqL K H p xs ∨ SqT K H p xs) ∧ atI xs i = some v ∧ Q v H
  | .str z, .int i => ∃ c, z.length ≤ sizeLine ∧ atI z.cps.toList i = some c ∧ Q (.str ⟨#[c]⟩) H
  | _, _ => False
theorem IxR.imp {r r' : R2} (h : IxR X r) (i : ∀ x y H Q, r' x y H Q → r x y H Q) : IxR X r' := fun value slice pins s σ H x y v u Q I rx ry q hs => h value slice pins s σ H x y v u Q I rx ry (i _ _ _ _ q) hs
theorem ix_A : IxR X (rIxA X.K) := IxR.imp ix_seq fun x y H Q h => by
  unfold rIxA at h
  split at h
  · obtain ⟨xs, v, h1, h2, h3⟩ := h
    rcases h1 with h1 | h1
    · exact .inl ⟨_, xs, _, v, rfl, rfl, h1, h2, h3⟩
    · exact .inr (.inl ⟨_, xs, _, v, rfl, rfl, h1, h2, h3⟩)
  · obtain ⟨c, h1, h2, h3⟩ := h
    exact .inr (.inr ⟨_, _, c, rfl, rfl, h1, h2, h3⟩)
  · exact h.elim
theorem ixA_list {K : PySem.W.Frag} {p : Addr} {i : Int} {H : Hp} {Q : VK} {xs : List V} {v : V} (h : SqL K H p xs) (e : atI xs i = some v) (q : Q v H) : rIxA K (.ref p) (.int i) H Q := ⟨xs, v, .inl h, e, q⟩
theorem ixA_tup {K : PySem.W.Frag} {p : Addr} {i : Int} {H : Hp} {Q : VK} {xs : List V} {v : V} (h : SqT K H p xs) (e : atI xs i = some v) (q : Q v H) : rIxA K (.ref p) (.int i) H Q := ⟨xs, v, .inr h, e, q⟩
theorem ixA_ints {K : PySem.W.Frag} {H : Hp} {a : Addr} {ns : List Int} {k : Int} {Q : VK} (hS : SqL K H a (ns.map V.int)) (h0 : 0 ≤ k) (h1 : k < (ns.length : Int)) (q : Q (.int (ns.getD k.toNat 0)) H) : rIxA K (.ref a) (.int k) H Q := by
  refine ixA_list hS ?_ q
  obtain ⟨j, rfl⟩ : ∃ j : Nat, k = (j : Int) := ⟨k.toNat, by lia⟩
  refine atI_nat ?_
  have hj : j < ns.length := by lia
  rw [List.getElem?_map, List.getElem?_eq_getElem hj]
  simp [List.getD, hj]
end
section
variable {K : PySem.W.Frag} {H : Hp} {σ : St}
theorem ex_int {i : Int} {P : Int → Prop} : (∃ k, V.int i = .int k ∧ P k) = P i := by
  apply propext
  constructor
  · rintro ⟨k, e, q⟩
    cases e; exact q
  · intro q; exact ⟨i, rfl, q⟩
theorem small_line {n : Nat} (h : n ≤ 1000) : (n ≤ sizeLine) = True := by
  have := sizeLine_eq
  simp only [eq_iff_iff, iff_true]
  lia
end
end L2


set_option maxRecDepth 100000
namespace L2
open PySem PySem.Spec PyProof.Rows
section
variable {X : Cx} (K : PySem.W.Frag) (h : X.K = K)
theorem op_addK (h : X.K = K) : OpR X (binaryOp .Add) (rAddA K) := h ▸ op_addA
theorem call_lenK (h : X.K = K) : CallR X (.builtin "len") (rLenA K) := h ▸ call_lenA
theorem call_isiK (h : X.K = K) : CallR X (.builtin "isinstance") (rIsi K) := h ▸ call_isi
theorem sl_K (h : X.K = K) : SlR X (rSlA K) := h ▸ sl_A
theorem ix_K (h : X.K = K) : IxR X (rIxA K) := h ▸ ix_A
theorem pi_seqK {tg l : Expr} {tl : TE} (h : X.K = K) (hl : PE X l tl) : PI X tg l (iSeq K tl) := h ▸ pi_seq hl
theorem op_eqK (h : X.K = K) (hu : X.A.units + 64 < cLine) : OpR X (compareOp .Eq) (rEqA K false) := h ▸ op_eqA hu
theorem op_neK (h : X.K = K) (hu : X.A.units + 64 < cLine) : OpR X (compareOp .NotEq) (rEqA K true) := h ▸ op_neA hu
theorem call_allK (h : X.K = K) (hc : X.calm = true) : CallR X (.builtin "all") (rAll K false) := h ▸ call_all hc
theorem call_listK (h : X.K = K) : CallR X (.type "list") (rListA K) := h ▸ call_listA
theorem pe_appendK {o e : Expr} {to te : TE} {apos cpos : Pos} (h : X.K = K) (ho : PE X o to) (he : PE X e te) (hbase : attributeBase o "append" X.env (eval o X.env) = eval o X.env := by rfl)
    (hfew : ((backTo cpos (starEach [e] X.env)).all (fun x => !x.1) && (backToKw cpos (keywordEach [] X.env)).all (fun x => x.1.isSome)
      && decide ([e].length + ([] : List Keyword).length + (if ([] : List Keyword).isEmpty then 0 else 1) < 30)) = true := by rfl)
    (hline : (apos.endLine == cpos.line) = true := by rfl) (hs : starEach [e] X.env = (false, eval e X.env) :: starEach [] X.env := by rfl) (hplain : (backTo cpos (starEach [] X.env)).any (·.1) = false := by rfl) :
    PE X (.Call (.Attribute o "append" apos) [e] [] cpos) (tBM K "list" rAppendA to (tCons te tNil)) := h ▸ pe_append ho he hbase hfew hline hs hplain
end
noncomputable def tMid (t u : TS) : TS := fun D σ H => ∃ M : St → Hp → Prop, t { D with nx := M } σ H ∧ ∀ σ' H', M σ' H' → u D σ' H'
theorem pss_mid {X : Cx} {st : Stmt} {rest : List Stmt} {t u : TS} (h1 : PS X st t) (h2 : PSs X rest u) : PSs X (st :: rest) (tMid t u) := by
  intro pins s σ H D I ⟨M, h, k⟩
  refine wpAny_execs_cons (thn (h1 pins s σ H { D with nx := M } I h) fun f s1 q => ?_)
  cases f with
  | next =>
    obtain ⟨σ', H', I', q⟩ := q
    exact h2 pins s1 σ' H' D I' (k σ' H' q)
  | ret v => exact q
  | brk => exact q
  | cont => exact q
end L2


set_option maxRecDepth 100000
namespace L2
open PySem PySem.Spec PyProof.Rows
noncomputable def isStar : Expr → Bool
  | .Starred .. => true
  | _ => false
theorem starEach_of {e : Expr} {es : List Expr} {env : Env} (h : isStar e = false) : starEach (e :: es) env = (false, eval e env) :: starEach es env := by
  cases e <;> first | rfl | exact absurd h (by simp [isStar])
theorem noStars {pos : Pos} {env : Env} : ∀ {es : List Expr}, es.any isStar = false → (backTo pos (starEach es env)).any (·.1) = false
  | [], _ => rfl
  | e :: es, h => by
    rw [List.any_cons, Bool.or_eq_false_iff] at h
    rw [starEach_of h.1]
    show (false || (backTo pos (starEach es env)).any (·.1)) = false
    rw [noStars h.2]
    rfl
/-- a test that is asked for its value's truth -/
noncomputable def plainTest : Expr → Bool
  | .UnaryOp .Not _ _ => false
  | .BoolOp .. => false
  | .IfExp .. => false
  | .Compare .. => false
  | _ => true
theorem isTrue_of {e : Expr} {env : Env} (h : plainTest e = true) (whole : Sem Value) : isTrue e env whole = (do let v ← whole; standAt e.pos; holding [v] (truthy v)) := by
  cases e with
  | UnaryOp op a p => cases op <;> first | rfl | exact absurd h (by simp [plainTest])
  | BoolOp => exact absurd h (by simp [plainTest])
  | IfExp => exact absurd h (by simp [plainTest])
  | Compare => exact absurd h (by simp [plainTest])
  | _ => rfl
section
variable {X : Cx} {CX : CXT} {k n : Nat} {ps : List Str} {sp : Sp} {x : Str} {p pos : Pos} {e : Expr} {es : List Expr} {t : TA} {te : TE} {id T : String} {r : List V → Hp → VK → Prop}
theorem pa_q (ha : PE X e te) (hr : PA X es t) (h : isStar e = false := by rfl) : PA X (e :: es) (tCons te t) := pa_cons ha hr (starEach_of h)
theorem pe_fnQ [Quiet CX] (G : FnAt X.prog X.w X.K X.mg X.base CX x k ps sp) (hr : Room n X.A) (hk : k ≤ n) (hg : Gl X x) (ha : PA X (e :: es) t)
    (hdb : (x == ("__debug__" : Str)) = false := by decide) (h : (e :: es).any isStar = false := by rfl) : PE X (.Call (.Name x p) (e :: es) [] pos) (tCall sp [] E0 t) := by
  rw [List.any_cons, Bool.or_eq_false_iff] at h
  exact pe_fn G hr hk hg ha hdb (starEach_of h.1) (noStars h.2)
theorem pe_callBQ (hc : CallR X (.builtin id) r) (hg : Gl X x) (hm : X.mg x = none) (hv : bootBuiltins x = some (.builtin id)) (ha : PA X (e :: es) t) (hn : x ≠ "__name__" := by decide) (hdb : (x == ("__debug__" : Str)) = false := by decide)
    (h : (e :: es).any isStar = false := by rfl) : PE X (.Call (.Name x p) (e :: es) [] pos) (tCB r t) := by
  rw [List.any_cons, Bool.or_eq_false_iff] at h
  exact pe_callB hc hg hm hv ha hn hdb (starEach_of h.1) (noStars h.2)
theorem pe_callTyQ (hc : CallR X (.type T) r) (hg : Gl X x) (hm : X.mg x = none) (hv : bootBuiltins x = some (.type T)) (ha : PA X (e :: es) t) (hn : x ≠ "__name__" := by decide) (hdb : (x == ("__debug__" : Str)) = false := by decide)
    (h : (e :: es).any isStar = false := by rfl) : PE X (.Call (.Name x p) (e :: es) [] pos) (tCB r t) := by
  rw [List.any_cons, Bool.or_eq_false_iff] at h
  exact pe_callTy hc hg hm hv ha hn hdb (starEach_of h.1) (noStars h.2)
theorem pt_q (he : PE X e te) (h : plainTest e = true := by rfl) : PT X e (tB te) := pt_val he (isTrue_of h)
end
end L2
namespace L2
open PySem PySem.Spec PyProof.Rows
noncomputable def isComp : Expr → Bool
  | .ListComp .. => true
  | .SetComp .. => true
  | .DictComp .. => true
  | _ => false
noncomputable def isSetE : Expr → Bool
  | .Set .. => true
  | _ => false
theorem swaps_of {e : Expr} {tg : Option Expr} {l : Nat} {env : Env} (h : isComp e = false) : swapsWith e tg l env = pure false := by
  cases e <;> first | rfl | exact absurd h (by simp [isComp])
theorem nomarkQ {op : CmpOp} {b : Expr} (h : isSetE b = false) : behindInMarks op b = false := by
  cases b <;> first | rfl | exact absurd h (by simp [isSetE])
section
variable {X : Cx} {pos : Pos}
theorem ps_setQ {i : Nat} {x : Str} {e : Expr} {te : TE} {pos' : Pos} (hN : X.N.Nodup) (hi : X.N[i]? = some x) (hx : Loc X.env.scope x) (he : PE X e te) (h : isComp e = false := by rfl) (hf : X.fn x = true ∨ X.env.scope.names.lookup x = some .local := by first | exact .inl rfl | exact .inr rfl | assumption) :
    PS X (.Assign [.Name x pos'] e pos) (tAsg te (gName i)) := ps_set hN hi hx he (swaps_of h) hf
theorem ps_exprQ {e : Expr} {te : TE} (he : PE X e te) (h : isComp e = false := by rfl) : PS X (.Expr e pos) (tDrop te) := ps_expr he (swaps_of h)
end
end L2
namespace L2
open PySem PySem.Spec PyProof.Rows
end L2
namespace L2
open PySem PySem.Spec PyProof.Rows
end L2


namespace BitM
end BitM


namespace Rem
end Rem


namespace BitI
open PySem L2
theorem not_eq (x : Int) : Builtin.bitNot x = -x - 1 := by unfold Builtin.bitNot; lia
theorem or_nat (a b : Nat) : Builtin.bitOr (a : Int) (b : Int) = ((a ||| b : Nat) : Int) := by
  unfold Builtin.bitOr
  rw [PyProof.Rows.bitAnd_nn (by rw [not_eq]; lia) (by rw [not_eq]; lia)]
  have e : ∀ n : Nat, (Builtin.bitNot (Builtin.bitNot (n : Int))) = (n : Int) := fun n => by rw [not_eq, not_eq]; lia
  rw [e a, e b, e]
  simp
end BitI


namespace Com
open PySem L2
theorem same_upd {H : Hp} {p : Addr} {o : HO} (h : H p = none) : Same H (upd H p o) := fun b u e => by rw [upd_ne (ne_of_none e h)]; exact e
theorem same_lst {K : PySem.W.Frag} {H H' : Hp} {a : Addr} {xs : List V} (e : Same H H') (h : SqL K H a xs) : SqL K H' a xs := e.seq h
theorem cut_ints {ns : List Int} {lo hi : Option Int} : cutV (ns.map V.int) lo hi = ((ns.drop (HT.sIx ns.length 0 lo)).take (HT.sIx ns.length ns.length hi - HT.sIx ns.length 0 lo)).map V.int := by
  unfold cutV
  rw [List.length_map, List.map_take, List.map_drop]
theorem upd_old {H : Hp} {p q : Addr} {o x : HO} (h : H p = some x) (hn : H q = none) : upd H q o p = some x := by rw [upd_ne (ne_of_none h hn)]; exact h
theorem addA_lists {K : PySem.W.Frag} {H : Hp} {Q : VK} {l b : Addr} {xs zs : List V} (h1 : H l = some (.lst xs)) (h2 : H b = some (.lst zs)) (hz : xs.length + zs.length ≤ sizeLine) (q : ∀ p, H p = none → Q (.ref p) (upd H p (.lst (xs ++ zs)))) : rAddA K (.ref l) (.ref b) H Q :=
  .inl ⟨l, b, xs, zs, rfl, rfl, h1, h2, hz, q⟩
theorem map_int_get {ns : List Int} {i : Nat} {x : V} (h : (ns.map V.int)[i]? = some x) : ∃ c, x = .int c ∧ ns[i]? = some c := by
  rw [List.getElem?_map] at h
  cases e : ns[i]? with
  | none => rw [e] at h; cases h
  | some c => rw [e] at h; cases h; exact ⟨c, rfl, rfl⟩
theorem small_ok {n : Nat} (h : n ≤ 1000) : n ≤ sizeLine := by rw [sizeLine_eq]; lia
theorem isi_list {K : PySem.W.Frag} {H : Hp} {a : Addr} {xs : List V} {Q : VK} (h : H a = some (.lst xs)) (q : Q (.bl true) H) : rIsi K [.ref a, .ty "list"] H Q := ⟨_, true, .lst h, kit_ll K, q⟩
theorem isi_tup {K : PySem.W.Frag} {H : Hp} {a : Addr} {xs : List V} {Q : VK} (h : H a = some (.tup xs)) (q : Q (.bl true) H) : rIsi K [.ref a, .ty "tuple"] H Q := ⟨_, true, .tup h, kit_tt K, q⟩
theorem fresh_ne {H : Hp} {p q : Addr} {o : HO} (h : upd H p o q = none) : q ≠ p := fun e => by
  subst e
  rw [upd_same] at h
  cases h
theorem cut_le {ns : List Int} {lo hi : Option Int} : ∃ ms : List Int, cutV (ns.map V.int) lo hi = ms.map V.int ∧ ms.length ≤ ns.length := by
  refine ⟨_, cut_ints, ?_⟩
  rw [List.length_take, List.length_drop]
  lia
end Com


set_option maxRecDepth 100000
namespace L2
open PySem PySem.Spec PyProof.Rows

structure KlsAt (K : PySem.W.Frag) (mg : Str → Option Value) (x : Str) (C : Addr) : Prop where
  mgC : mg x = some (.ref C)
  cl : Cls K C
  mks : PySem.W.makesIn K C = true
  kp : PySem.W.keepIn K (.ref C) = true
noncomputable def MethAt (K : PySem.W.Frag) (C : Addr) (m q : Str) (st : Stmt) : Prop := ∃ f fd, Fun K m q st f fd ∧ Meth K C m f
noncomputable def MtAt (P : Program) (w : World) (K : PySem.W.Frag) (mg : Str → Option Value) (base : Heap) (CX : CXT) (C : Addr) (m : Str) (k : Nat) (ps : List Str) (sp : Sp) : Prop :=
  ∃ f fd, FnOk P w K mg base CX k f fd ps sp ∧ Meth K C m f ∧ Binds K fd ps []
theorem klsat_mk {K : PySem.W.Frag} {h : Heap} {mg : Str → Option Value} {x : Str} {C : Addr} (X : K.In h) (G : h.Ns mainGlobals mg) (a : PySem.W.nsIn K mainGlobals x = some (some (.ref C)))
    (pg : PySem.W.plainGet K C Str.empty = true) (hd : PySem.W.hasDictIn K C = true) (po : PySem.W.plainOver K C = true) (sa : PySem.W.findIn K (.ref C) "__setattr__" = some (some (.builtin "object.__setattr__"))) (mk : PySem.W.makesIn K C = true) (kc : PySem.W.keepIn K (.ref C) = true) : KlsAt K mg x C :=
  ⟨PySem.W.mg_of X G a, ⟨pg, hd, po, sa⟩, mk, kc⟩
theorem methat_mk {K : PySem.W.Frag} {C : Addr} {m q : Str} {st : Stmt} {f : Addr} {oc : Value} {od an : Option Addr} {osl : Array (Option Value)} {kV doc pm cdv ct : Value}
    (a : PySem.W.findIn K (.ref C) m = some (some (.ref f))) (i : PySem.W.isFn K (.ref f) = true)
    (l : K.lookup f = some ⟨oc, od, .func (PySem.W.fnOf m q (defArgs st) (defBody st) (defScope st) .none kV doc pm an cdv ct), osl⟩) (c : PySem.W.codeIn K cdv q = true) (k : PySem.W.keepIn K (.ref f) = true) : MethAt K C m q st :=
  ⟨f, _, fun_mk l c k, ⟨a, i, k⟩⟩
section
variable {P : Program} {w : World} {K : PySem.W.Frag} {mg : Str → Option Value} {base : Heap} {CX : CXT}
theorem MethAt.fn {C : Addr} {m q : Str} {st : Stmt} {N ps : List Str} {k : Nat} {sp : Sp} (F : MethAt K C m q st) (S : FnScope N ps (defScope st))
    (hb : ∀ (kV doc pm : Value) (an : Option Addr) (cdv ct : Value) (us : List Value), us.length = ps.length → bindArgs (PySem.W.fnOf m q (defArgs st) (defBody st) (defScope st) .none kV doc pm an cdv ct) ⟨us, []⟩ = pure (ps.zip us))
    (len : ∀ vs H Q E, sp vs H Q E → vs.length = ps.length)
    (hbody : ∀ (f : Addr) (cdv : Value) (A : Around) (outer : List Env) (s : Shared) (H : Hp) (vs : List V) (Q : VK) (E : XK), Room k (A.deeper (envOfC q (defScope st) s.heap.objs.size f cdv)) → sp vs H Q E →
      ∃ t, PSs (cxOf CX P w K mg base N q (defScope st) f cdv A outer s H E).nox (defBody st) t ∧ t { nx := fun _ H' => Q .non H', rt := Q } (start N vs) H) : MtAt P w K mg base CX C m (k + 1) ps sp := by
  obtain ⟨f, fd, F, hm⟩ := F
  have bd := F.binds hb
  obtain ⟨oc, od, kV, doc, pm, an, cdv, ct, osl, rfl, lk, hcd⟩ := F.ex
  refine ⟨f, _, fn_of lk hcd S len fun A outer s H vs Q E hr hsp => ?_, hm, bd⟩
  obtain ⟨t, h, q⟩ := hbody f cdv A outer s H vs Q E hr hsp
  exact ⟨t, h.nox, q⟩
end

noncomputable def rFld (C : Addr) (f : Str) (x : V) (H : Hp) (Q : VK) : Prop := ∃ a, x = .ref a ∧ ∃ dx fs, H a = some (.ins C dx fs) ∧ ∃ v, fs.lookup f = some v ∧ Q v H
noncomputable def tFldC (C : Addr) (f : Str) (ta : TE) : TE := fun σ H Q => ta σ H fun x H1 => rFld C f x H1 Q
noncomputable def rSetF (C : Addr) (f : Str) (y x : V) (H : Hp) (N : Hp → Prop) : Prop := ∃ a, x = .ref a ∧ ∃ dx fs, H a = some (.ins C dx fs) ∧ fs.length < 1000 ∧ N (upd H a (.ins C dx (putF f y fs)))
noncomputable def sFldC (C : Addr) (f : Str) (ta tv : TE) : TS := fun D σ H => tv σ H fun y H1 => ta σ H1 fun x H2 => rSetF C f y x H2 (D.nx σ)
noncomputable def rAugF (C : Addr) (f : Str) (x : V) (H : Hp) (K : V → (V → Hp → Prop) → Prop) (N : Hp → Prop) : Prop := ∃ a, x = .ref a ∧ ∃ dx fs, H a = some (.ins C dx fs) ∧ ∃ v, fs.lookup f = some v ∧
  K v fun z H3 => ∃ dx' fs', H3 a = some (.ins C dx' fs') ∧ fs'.length < 1000 ∧ N (upd H3 a (.ins C dx' (putF f z fs')))
noncomputable def sAugC (C : Addr) (f : Str) (ta tv : TE) (rd : R2) : TS := fun D σ H => ta σ H fun x H1 => rAugF C f x H1 (fun v R => tv σ H1 fun y H2 => rd v y H2 R) (D.nx σ)
noncomputable def rMt (C : Addr) (m : Str) (x : V) (H : Hp) (N : Prop) : Prop := ∃ a, x = .ref a ∧ ∃ dx fs, H a = some (.ins C dx fs) ∧ fs.lookup m = none ∧ N
noncomputable def tMtC (C : Addr) (m : Str) (sp : Sp) (ta : TE) (t : TA) : TE := fun σ H Q => ta σ H fun x H1 => rMt C m x H1 (t σ H1 fun vs H2 => sp (x :: vs) H2 Q E0)
theorem rFld_ref {C a : Addr} {f : Str} {H : Hp} {Q : VK} : rFld C f (.ref a) H Q = ∃ dx fs, H a = some (.ins C dx fs) ∧ ∃ v, fs.lookup f = some v ∧ Q v H := by
  apply propext; unfold rFld; constructor
  · rintro ⟨b, e, h⟩; cases e; exact h
  · exact fun h => ⟨a, rfl, h⟩
theorem rSetF_ref {C a : Addr} {f : Str} {y : V} {H : Hp} {N : Hp → Prop} : rSetF C f y (.ref a) H N = ∃ dx fs, H a = some (.ins C dx fs) ∧ fs.length < 1000 ∧ N (upd H a (.ins C dx (putF f y fs))) := by
  apply propext; unfold rSetF; constructor
  · rintro ⟨b, e, h⟩; cases e; exact h
  · exact fun h => ⟨a, rfl, h⟩
theorem rAugF_ref {C a : Addr} {f : Str} {H : Hp} {K : V → (V → Hp → Prop) → Prop} {N : Hp → Prop} : rAugF C f (.ref a) H K N = ∃ dx fs, H a = some (.ins C dx fs) ∧ ∃ v, fs.lookup f = some v ∧
    K v fun z H3 => ∃ dx' fs', H3 a = some (.ins C dx' fs') ∧ fs'.length < 1000 ∧ N (upd H3 a (.ins C dx' (putF f z fs'))) := by
  apply propext; unfold rAugF; constructor
  · rintro ⟨b, e, h⟩; cases e; exact h
  · exact fun h => ⟨a, rfl, h⟩
theorem rMt_ref {C a : Addr} {m : Str} {H : Hp} {N : Prop} : rMt C m (.ref a) H N = ∃ dx fs, H a = some (.ins C dx fs) ∧ fs.lookup m = none ∧ N := by
  apply propext; unfold rMt; constructor
  · rintro ⟨b, e, h⟩; cases e; exact h
  · exact fun h => ⟨a, rfl, h⟩
theorem ex_ins {C d : Addr} {l : List (Str × V)} {N : Addr → List (Str × V) → Prop} : (∃ dx fs, some (HO.ins C d l) = some (HO.ins C dx fs) ∧ N dx fs) = N d l := by
  apply propext; constructor
  · rintro ⟨dx, fs, e, h⟩; cases e; exact h
  · exact fun h => ⟨d, l, rfl, h⟩
theorem ex_som {x : V} {N : V → Prop} : (∃ v, some x = some v ∧ N v) = N x := by
  apply propext; constructor
  · rintro ⟨v, e, h⟩; cases e; exact h
  · exact fun h => ⟨x, rfl, h⟩
theorem noattr_mk {K : PySem.W.Frag} {C : Addr} {f : Str} (h : PySem.W.findIn K (.ref C) f = some none) : NoAttr K C f := h
theorem same_new {H : Hp} {x dx C : Addr} {fs : List (Str × V)} (nx : H x = none) (nd : H dx = none) : Same H (upd (upd H dx (.own x)) x (.ins C dx fs)) := fun b o e => by
  rw [upd_ne (ne_of_none e nx), upd_ne (ne_of_none e nd)]; exact e
theorem upd_id {H : Hp} {p : Addr} {o : HO} (h : H p = some o) : upd H p o = H := by
  funext b; unfold upd; split
  · rename_i e; rw [e, h]
  · rfl

section
variable {X : Cx} {C : Addr} {o e value : Expr} {es : List Expr} {f m x : Str} {p pos pos' tpos apos : Pos} {ta tv : TE} {t : TA} {k n : Nat} {ps : List Str} {sp : Sp}
theorem pe_fldC (he : PE X e ta) (c : KlsAt X.K X.mg x C) (nn : NoAttr X.K C f) (hb : attributeBase e f X.env (eval e X.env) = eval e X.env) : PE X (.Attribute e f pos) (tFldC C f ta) := by
  intro pins s σ H Q I h
  refine attr_of hb (thn (he pins s σ H _ I h) fun u s1 ⟨x, H1, I1, rx, a, ex, dx, fs, ea, v, l, q⟩ => ?_)
  subst ex
  obtain rfl : u = Value.ref a := rx
  exact getattr_ok I1 ea c.cl nn l fun u' s2 I2 ru => ⟨v, H1, I2, ru, q⟩
theorem ps_fldC (ha : PE X o ta) (hv : PE X value tv) (c : KlsAt X.K X.mg x C) (nn : NoAttr X.K C f) (hs : isComp value = false := by rfl) : PS X (.Assign [.Attribute o f pos'] value pos) (sFldC C f ta tv) := by
  intro pins s σ H D I h
  refine plainObj_wpAny_Assign_Attribute (thn (hv pins s σ H _ I h) fun u s1 ⟨y, H1, I1, ry, q⟩ => thn (ha pins s1 σ H1 _ I1 q) fun ov s2 ⟨x, H2, I2, rx, a, ex, dx, fs, ea, l, q2⟩ => ?_) (swaps_of hs)
  subst ex
  obtain rfl : ov = Value.ref a := rx
  exact setattr_ok I2 ea c.cl nn l ry fun s3 I3 => ⟨σ, _, I3, q2⟩
theorem ps_augC {op : Operator} {rd : R2} (ha : PE X o ta) (hv : PE X value tv) (c : KlsAt X.K X.mg x C) (nn : NoAttr X.K C f) (hop : OpR X (inplaceOp op) rd) : PS X (.AugAssign (.Attribute o f tpos) op value pos) (sAugC C f ta tv rd) := by
  intro pins s σ H D I h
  refine wpAny_AugAssign_AttributeAny (thn (ha pins s σ H _ I h) fun ov s1 ⟨x, H1, I1, rx, a, ex, dx, fs, ea, v, l, q⟩ => ?_)
  subst ex
  obtain rfl : ov = Value.ref a := rx
  refine getattr_ok I1 ea c.cl nn l fun u s2 I2 ru => thn (hv pins s2 σ H1 _ I2 q) fun w3 s3 ⟨y, H2, I3, ry, q3⟩ => thn (hop pins s3 σ H2 v y u w3 _ I3 ru ry q3) fun w4 s4 ⟨z, H3, I4, rz, dx', fs', ea', l', q4⟩ => ?_
  exact setattr_ok I4 ea' c.cl nn l' rz fun s5 I5 => ⟨σ, _, I5, q4⟩
/-- o.m(e, ..) -/
theorem pe_mtC {CX : CXT} [Quiet CX] {pl : Sem Bool} (he : PE X o ta) (c : KlsAt X.K X.mg x C) (G : MtAt X.prog X.w X.K X.mg X.base CX C m k ps sp) (hr : Room n X.A) (hk : k ≤ n) (ha : PA X (e :: es) t) (hst : (e :: es).any isStar = false := by rfl)
    (ht : eval (.Call (.Attribute o m apos) (e :: es) [] pos) X.env = (do
      let ov ← eval o X.env
      standAt apos.atName
      let (f, first) ← holding [ov] (getMethod ov m pl)
      callWith pos f first (backTo pos (starEach (e :: es) X.env)) (backToKw pos (keywordEach [] X.env))) := by rfl) :
    PE X (.Call (.Attribute o m apos) (e :: es) [] pos) (tMtC C m sp ta t) := by
  obtain ⟨f, fd, F, hm, b⟩ := G
  rw [List.any_cons, Bool.or_eq_false_iff] at hst
  intro pins s σ H Q I h
  refine PySem.W.methodCall_KW (pl := pl) (thn (he pins s σ H _ I h) fun u s1 ⟨x, H1, I1, rx, a, ex, dx, fs, ea, l, q⟩ => ?_) ht
  subst ex
  obtain rfl : u = Value.ref a := rx
  refine getmeth_ok I1 ea c.cl hm l ?_
  refine PySem.W.callWith_K (first := [.ref a]) (h₀ := X.base) I.ok.mod.kin hm.kp (thn (ha pos pins s1 σ H1 _ I1 q) fun us s2 ⟨vs, H2, I2, r, q2⟩ => ⟨I2.kIn, ?_⟩) (starEach_of hst.1) (noStars hst.2)
  exact run_fn (us := .ref a :: us) (vs := .ref a :: vs) F (hr.mono hk) b .nil (Quiet.pass X) I2 (.cons rfl r) (by rw [List.append_nil]; exact q2)
/-- o.m() -/
theorem pe_mtC0 {CX : CXT} [Quiet CX] {pl : Sem Bool} (he : PE X o ta) (c : KlsAt X.K X.mg x C) (G : MtAt X.prog X.w X.K X.mg X.base CX C m k ps sp) (hr : Room n X.A) (hk : k ≤ n)
    (ht : eval (.Call (.Attribute o m apos) [] [] pos) X.env = (do
      let ov ← eval o X.env
      standAt apos.atName
      let (f, first) ← holding [ov] (getMethod ov m pl)
      callWith pos f first (backTo pos (starEach [] X.env)) (backToKw pos (keywordEach [] X.env))) := by rfl) :
    PE X (.Call (.Attribute o m apos) [] [] pos) (tMtC C m sp ta tNil) := by
  obtain ⟨f, fd, F, hm, b⟩ := G
  intro pins s σ H Q I h
  refine PySem.W.methodCall_KW (pl := pl) (thn (he pins s σ H _ I h) fun u s1 ⟨x, H1, I1, rx, a, ex, dx, fs, ea, l, q⟩ => ?_) ht
  subst ex
  obtain rfl : u = Value.ref a := rx
  refine getmeth_ok I1 ea c.cl hm l ?_
  exact PySem.W.callWith_K0 (first := [.ref a]) I1.kIn hm.kp (run_fn (us := [.ref a]) (vs := [.ref a]) F (hr.mono hk) b .nil (Quiet.pass X) I1 (.cons rfl .nil) q)
theorem pe_mkC {CX : CXT} [Quiet CX] (c : KlsAt X.K X.mg x C) (G : MtAt X.prog X.w X.K X.mg X.base CX C "__init__" k ps sp) (hr : Room n X.A) (hk : k + 1 ≤ n) (hg : Gl X x) (ha : PA X (e :: es) t)
    (hdb : (x == ("__debug__" : Str)) = false := by decide) (h : (e :: es).any isStar = false := by rfl) : PE X (.Call (.Name x p) (e :: es) [] pos) (tMake C sp [] E0 t) := by
  obtain ⟨f, fd, F, hm, b⟩ := G
  rw [List.any_cons, Bool.or_eq_false_iff] at h
  exact pe_make ⟨c.mks, hm.at_, hm.fn, c.kp⟩ F (hr.mono hk) hg c.mgC b .nil (Quiet.pass X) ha hdb (starEach_of h.1) (noStars h.2)
end
end L2


set_option maxRecDepth 100000
namespace L2
open PySem PySem.Spec PyProof.Rows
noncomputable def ixO (K : PySem.W.Frag) (p : Addr) (i : Int) (H : Hp) (Q : VK) : Option HO → Prop
  | some (.lst xs) => ∃ v, atI xs i = some v ∧ Q v H
  | some (.tup xs) => ∃ v, atI xs i = some v ∧ Q v H
  | _ => rIxA K (.ref p) (.int i) H Q
noncomputable def rIxB (K : PySem.W.Frag) : R2 := fun x y H Q => match x, y with
  | .ref p, .int i => ixO K p i H Q (H p)
  | x, y => rIxA K x y H Q
theorem rIxB_ref {K : PySem.W.Frag} {p : Addr} {i : Int} {H : Hp} {Q : VK} : rIxB K (.ref p) (.int i) H Q = ixO K p i H Q (H p) := rfl
theorem rIxB_str {K : PySem.W.Frag} {z : Str} {i : Int} {H : Hp} {Q : VK} : rIxB K (.str z) (.int i) H Q = rIxA K (.str z) (.int i) H Q := rfl
theorem ixO_lst {K : PySem.W.Frag} {p : Addr} {i : Int} {H : Hp} {Q : VK} {xs : List V} : ixO K p i H Q (some (.lst xs)) = ∃ v, atI xs i = some v ∧ Q v H := rfl
theorem ixO_tup {K : PySem.W.Frag} {p : Addr} {i : Int} {H : Hp} {Q : VK} {xs : List V} : ixO K p i H Q (some (.tup xs)) = ∃ v, atI xs i = some v ∧ Q v H := rfl
theorem ixO_imp {K : PySem.W.Frag} {p : Addr} {i : Int} {H : Hp} {Q : VK} (h : ixO K p i H Q (H p)) : rIxA K (.ref p) (.int i) H Q := by
  unfold ixO at h
  split at h
  · rename_i xs e; obtain ⟨v, a, b⟩ := h; exact ixA_list (SqL.of e) a b
  · rename_i xs e; obtain ⟨v, a, b⟩ := h; exact ixA_tup (SqT.of e) a b
  · exact h
theorem ix_B {X : Cx} (K : PySem.W.Frag) (h : X.K = K) : IxR X (rIxB K) := IxR.imp (ix_K K h) fun x y H Q h => by
  unfold rIxB at h
  split at h
  · exact ixO_imp h
  · exact h
theorem atI_n {α : Type} {xs : List α} {i : Nat} {x : α} (h : xs[i]? = some x) : atI xs (i : Int) = some x := by
  have hl : i < xs.length := (List.getElem?_eq_some_iff.mp h).1
  unfold atI ixN
  rw [if_pos (by lia), if_pos (by lia)]
  exact h
theorem atI_0 {α : Type} {a : α} {l : List α} : atI (a :: l) 0 = some a := atI_n (i := 0) rfl
theorem atI_1 {α : Type} {a b : α} {l : List α} : atI (a :: b :: l) 1 = some b := atI_n (i := 1) rfl
noncomputable def lenO (K : PySem.W.Frag) (p : Addr) (H : Hp) (Q : VK) : Option HO → Prop
  | some (.lst xs) => Q (.int xs.length) H
  | some (.tup xs) => Q (.int xs.length) H
  | _ => rLenA K [.ref p] H Q
noncomputable def rLenB (K : PySem.W.Frag) : List V → Hp → VK → Prop := fun xs H Q => match xs with
  | [.ref p] => lenO K p H Q (H p)
  | xs => rLenA K xs H Q
theorem rLenB_ref {K : PySem.W.Frag} {p : Addr} {H : Hp} {Q : VK} : rLenB K [.ref p] H Q = lenO K p H Q (H p) := rfl
theorem lenO_lst {K : PySem.W.Frag} {p : Addr} {H : Hp} {Q : VK} {xs : List V} : lenO K p H Q (some (.lst xs)) = Q (.int xs.length) H := rfl
theorem call_lenB {X : Cx} (K : PySem.W.Frag) (h : X.K = K) : CallR X (.builtin "len") (rLenB K) := CallR.imp (call_lenK K h) fun xs H Q h => by
  unfold rLenB at h
  split at h
  · rename_i p
    unfold lenO at h
    split at h
    · rename_i xs e; exact ⟨xs, .inl (SqL.of e), h⟩
    · rename_i xs e; exact ⟨xs, .inr (SqT.of e), h⟩
    · exact h
  · exact h
noncomputable def isiO (K : PySem.W.Frag) (p : Addr) (n : String) (H : Hp) (Q : VK) : Option HO → Prop
  | some (.lst _) => if n = "list" then Q (.bl true) H else rIsi K [.ref p, .ty n] H Q
  | some (.tup _) => if n = "tuple" then Q (.bl true) H else rIsi K [.ref p, .ty n] H Q
  | _ => rIsi K [.ref p, .ty n] H Q
noncomputable def rIsiB (K : PySem.W.Frag) : List V → Hp → VK → Prop := fun xs H Q => match xs with
  | [.ref p, .ty n] => isiO K p n H Q (H p)
  | xs => rIsi K xs H Q
theorem call_isiB {X : Cx} (K : PySem.W.Frag) (h : X.K = K) : CallR X (.builtin "isinstance") (rIsiB K) := CallR.imp (call_isiK K h) fun xs H Q h => by
  unfold rIsiB at h
  split at h
  · rename_i p n
    unfold isiO at h
    split at h
    · rename_i xs e
      split at h
      · rename_i c; subst c; exact Com.isi_list e h
      · exact h
    · rename_i xs e
      split at h
      · rename_i c; subst c; exact Com.isi_tup e h
      · exact h
    · exact h
  · exact h
theorem rIsiB_ref {K : PySem.W.Frag} {p : Addr} {n : String} {H : Hp} {Q : VK} : rIsiB K [.ref p, .ty n] H Q = isiO K p n H Q (H p) := rfl
theorem isiO_lst {K : PySem.W.Frag} {p : Addr} {H : Hp} {Q : VK} {xs : List V} : isiO K p "list" H Q (some (.lst xs)) = Q (.bl true) H := by simp [isiO]
theorem rIsiB_i {K : PySem.W.Frag} {i : Int} {n : String} {H : Hp} {Q : VK} : rIsiB K [.int i, .ty n] H Q = rIsi K [.int i, .ty n] H Q := rfl
theorem ex_lst {l : List V} {N : List V → Prop} : (∃ xs, some (HO.lst l) = some (HO.lst xs) ∧ N xs) = N l := by
  apply propext; constructor
  · rintro ⟨xs, e, h⟩; cases e; exact h
  · exact fun h => ⟨l, rfl, h⟩
/-- all but p stays -/
noncomputable def But (p : Addr) (H H' : Hp) : Prop := ∀ b o, H b = some o → b ≠ p → H' b = some o
theorem But.upd {p : Addr} {H : Hp} {o : HO} : But p H (upd H p o) := fun b x hb hne => by rw [upd_ne hne]; exact hb
theorem But.new {p q : Addr} {H H' : Hp} {o : HO} (h : But p H H') (hq : H' q = none) : But p H (L2.upd H' q o) := fun b x hb hne => by
  rw [upd_ne (ne_of_none (h b x hb hne) hq)]; exact h b x hb hne
/-- rows of whole numbers compared -/
theorem int_inj : ∀ {xs ys : List Int}, xs.map Dt.int = ys.map Dt.int → xs = ys
  | [], [], _ => rfl
  | [], _ :: _, h => by simp at h
  | _ :: _, [], h => by simp at h
  | x :: xs, y :: ys, h => by
    simp only [List.map_cons, List.cons.injEq] at h
    have e : x = y := by have := h.1; cases this; rfl
    rw [e, int_inj h.2]
theorem eqA_lists {K : PySem.W.Frag} {H : Hp} {neg : Bool} {p r : Addr} {xs ys : List Int} {Q : VK} (h1 : SqL K H p (xs.map V.int)) (h2 : SqL K H r (ys.map V.int)) (q : Q (.bl (if neg then !decide (xs = ys) else decide (xs = ys))) H) : rEqA K neg (.ref p) (.ref r) H Q := by
  refine ⟨1, _, _, by decide, den_list h1, den_list h2, ?_⟩
  by_cases e : xs = ys
  · subst e
    refine .inl ⟨rfl, ?_⟩
    cases neg <;> simpa using q
  · refine .inr ⟨fun c => e (int_inj (Dt.l.inj c)), ?_⟩
    cases neg <;> simpa [e] using q
end L2


namespace MeterM
noncomputable def mn (a b : Int) : Int := if b < a then b else a
noncomputable def hf (w : Int) : Int := if 1 < w / 2 then w / 2 else 1
noncomputable def k1 (m k : Int) (s : Int × Int) : Int × Int := if s.1 = m then s else if s.1 < k then (s.1 + 1, s.2) else if s.2 + 1 = s.1 then (s.1 + 1, 0) else (s.1, s.2 + 1)
noncomputable def kn (m k : Int) : Nat → Int × Int → Int × Int
  | 0, s => s
  | n + 1, s => k1 m k (kn m k n s)
end MeterM
namespace MeterM
noncomputable def Inb (m : Int) (s : Int × Int) : Prop := 1 ≤ s.1 ∧ s.1 ≤ m ∧ 0 ≤ s.2 ∧ s.2 < s.1
theorem inb1 {m k : Int} (s : Int × Int) (h : Inb m s) : Inb m (k1 m k s) := by
  obtain ⟨w, c⟩ := s
  unfold Inb k1 at *
  simp only at *
  (repeat' split) <;> simp only <;> lia
theorem inb {m k : Int} : ∀ (n : Nat) (s : Int × Int), Inb m s → Inb m (kn m k n s)
  | 0, s, h => h
  | n + 1, s, h => inb1 _ (inb n s h)
end MeterM


namespace WaysM
noncomputable def lb (x : Nat) : Nat := x - (x &&& (x - 1))
theorem and_mod (a b : Nat) : (a &&& b) % 2 = (a % 2) * (b % 2) := by
  have e := Nat.and_mod_two_pow (a := a) (b := b) (n := 1)
  simp only [Nat.pow_one] at e
  rw [e]
  rcases (by lia : a % 2 = 0 ∨ a % 2 = 1) with p | p <;> rcases (by lia : b % 2 = 0 ∨ b % 2 = 1) with q | q <;> rw [p, q] <;> decide
theorem or_mod (a b : Nat) (h : (a ||| b) % 2 = 1) : a % 2 = 1 ∨ b % 2 = 1 := by
  have e := Nat.or_mod_two_pow (a := a) (b := b) (n := 1)
  simp only [Nat.pow_one] at e
  rw [e] at h
  rcases (by lia : a % 2 = 0 ∨ a % 2 = 1) with p | p <;> rcases (by lia : b % 2 = 0 ∨ b % 2 = 1) with q | q <;> rw [p, q] at h <;> first | (exact .inl p) | (exact .inr q) | (simp at h)
theorem lb_spec (x : Nat) (h : 0 < x) : ∃ k, lb x = 2 ^ k ∧ x % 2 ^ k = 0 ∧ x / 2 ^ k % 2 = 1 := by
  induction x using Nat.strongRecOn with
  | _ x ih =>
    have d : (x &&& (x - 1)) / 2 = (x / 2) &&& ((x - 1) / 2) := Nat.and_div_two
    have m := and_mod x (x - 1)
    rcases (by lia : x % 2 = 0 ∨ x % 2 = 1) with p | p
    · obtain ⟨k, h1, h2, h3⟩ := ih (x / 2) (by lia) (by lia)
      rw [show (x - 1) / 2 = x / 2 - 1 by lia] at d
      rw [p] at m
      refine ⟨k + 1, ?_, ?_, ?_⟩
      · unfold lb at h1 ⊢
        rw [Nat.pow_succ]
        have le : (x / 2 &&& (x / 2 - 1)) ≤ x / 2 := Nat.and_le_left
        lia
      · rw [Nat.pow_succ, Nat.mul_comm, Nat.mod_mul]
        rw [h2]; lia
      · rw [Nat.pow_succ, Nat.mul_comm, ← Nat.div_div_eq_div_mul]; exact h3
    · refine ⟨0, ?_, by lia, by simpa using p⟩
      unfold lb
      rw [show (x - 1) / 2 = x / 2 by lia, Nat.and_self] at d
      rw [p, show (x - 1) % 2 = 0 by lia] at m
      lia
theorem or_div (a b k : Nat) : (a ||| b) / 2 ^ k = a / 2 ^ k ||| b / 2 ^ k := by
  rw [← Nat.shiftRight_eq_div_pow, ← Nat.shiftRight_eq_div_pow, ← Nat.shiftRight_eq_div_pow]
  exact Nat.shiftRight_or_distrib
noncomputable def low (t b : Int) : Int × Int := (t / (lb (t.toNat ||| b.toNat) : Nat), b / (lb (t.toNat ||| b.toNat) : Nat))
structure IsLow (t b t' b' s : Int) : Prop where
  s0 : 0 < s
  tt : t = s * t'
  bb : b = s * b'
  t0 : 0 ≤ t'
  b0 : 0 < b'
  od : ¬ (t' % 2 = 0 ∧ b' % 2 = 0)
  tl : t' ≤ t
  bl : b' ≤ b
theorem nat_low (t b : Nat) (hb : 0 < b) : ∃ k, lb (t ||| b) = 2 ^ k ∧ t % 2 ^ k = 0 ∧ b % 2 ^ k = 0 ∧ (t / 2 ^ k % 2 = 1 ∨ b / 2 ^ k % 2 = 1) := by
  have hx : 0 < t ||| b := by
    have : b ≤ t ||| b := Nat.right_le_or
    lia
  obtain ⟨k, h1, h2, h3⟩ := lb_spec _ hx
  have e : (t % 2 ^ k) ||| (b % 2 ^ k) = 0 := by rw [← Nat.or_mod_two_pow]; exact h2
  have e1 : t % 2 ^ k ≤ (t % 2 ^ k) ||| (b % 2 ^ k) := Nat.left_le_or
  have e2 : b % 2 ^ k ≤ (t % 2 ^ k) ||| (b % 2 ^ k) := Nat.right_le_or
  refine ⟨k, h1, by lia, by lia, ?_⟩
  rw [or_div] at h3
  exact or_mod _ _ h3
theorem low_spec {t b : Int} (ht : 0 ≤ t) (hb : 0 < b) : ∃ s, IsLow t b (low t b).1 (low t b).2 s := by
  obtain ⟨t, rfl⟩ := Int.eq_ofNat_of_zero_le ht
  obtain ⟨b, rfl⟩ := Int.eq_ofNat_of_zero_le (Int.le_of_lt hb)
  obtain ⟨k, h1, h2, h3, h4⟩ := nat_low t b (by lia)
  have hp : 0 < 2 ^ k := Nat.two_pow_pos k
  have t1 := Nat.div_add_mod t (2 ^ k)
  have b1 := Nat.div_add_mod b (2 ^ k)
  rw [h2, Nat.add_zero] at t1
  rw [h3, Nat.add_zero] at b1
  have e1 : (low (t : Int) (b : Int)).1 = ((t / 2 ^ k : Nat) : Int) := by simp [low, h1]
  have e2 : (low (t : Int) (b : Int)).2 = ((b / 2 ^ k : Nat) : Int) := by simp [low, h1]
  rw [e1, e2]
  have l1 := Nat.div_le_self t (2 ^ k)
  have l2 := Nat.div_le_self b (2 ^ k)
  have l3 : 0 < b / 2 ^ k := by
    rcases Nat.eq_zero_or_pos (b / 2 ^ k) with z | z
    · rw [z, Nat.mul_zero] at b1; lia
    · exact z
  generalize t / 2 ^ k = t' at *
  generalize b / 2 ^ k = b' at *
  generalize 2 ^ k = s at *
  refine ⟨(s : Int), ⟨by lia, ?_, ?_, by lia, by lia, by lia, by lia, by lia⟩⟩
  · rw [← Int.natCast_mul, t1]
  · rw [← Int.natCast_mul, b1]
/-- what divides a power of two -/
theorem pow_part : ∀ (n : Nat) (s b : Int), 0 < s → 0 < b → 2 ^ n = s * b → ∃ j, j ≤ n ∧ b = 2 ^ j
  | 0, s, b, hs, hb, h => ⟨0, Nat.le_refl _, by
      have h1 : s * b = 1 := by simpa using h.symm
      have : b ∣ 1 := ⟨s, by rw [Int.mul_comm]; exact h1.symm⟩
      have := Int.le_of_dvd (by decide) this
      simp; lia⟩
  | n + 1, s, b, hs, hb, h => by
    by_cases hb2 : b % 2 = 0
    · obtain ⟨c, rfl⟩ : ∃ c, b = 2 * c := ⟨b / 2, by lia⟩
      have : (2 : Int) ^ n = s * c := by
        have e : (2 : Int) * 2 ^ n = 2 * (s * c) := by rw [← Int.mul_left_comm, ← h, Int.pow_succ, Int.mul_comm]
        lia
      obtain ⟨j, hj, e⟩ := pow_part n s c hs (by lia) this
      exact ⟨j + 1, by lia, by rw [e, Int.pow_succ, Int.mul_comm]⟩
    · by_cases hs2 : s % 2 = 0
      · obtain ⟨c, rfl⟩ : ∃ c, s = 2 * c := ⟨s / 2, by lia⟩
        have : (2 : Int) ^ n = c * b := by
          have e : (2 : Int) * 2 ^ n = 2 * (c * b) := by rw [← Int.mul_assoc, ← h, Int.pow_succ, Int.mul_comm]
          lia
        obtain ⟨j, hj, e⟩ := pow_part n c b (by lia) hb this
        exact ⟨j, by lia, e⟩
      · exfalso
        have e1 : (s * b) % 2 = 1 := by rw [Int.mul_emod]; rw [show s % 2 = 1 by lia, show b % 2 = 1 by lia]; decide
        have e2 : (2 : Int) ^ (n + 1) % 2 = 0 := by rw [Int.pow_succ]; exact Int.mul_emod_left _ _
        rw [← h] at e1
        lia
end WaysM


set_option maxRecDepth 100000
namespace L2
open PySem PySem.Spec PyProof.Rows
noncomputable def Bd (n : Nat) (x : Int) : Prop := x.natAbs < 2 ^ n
theorem Bd.mul {a b : Nat} {x y : Int} (h : Bd a x) (h' : Bd b y) : Bd (a + b) (x * y) := by
  unfold Bd at *
  rw [Int.natAbs_mul, Nat.pow_add]
  exact Nat.mul_lt_mul'' h h'
theorem Bd.up {a b : Nat} {x : Int} (h : Bd a x) (hab : a ≤ b) : Bd b x := Nat.lt_of_lt_of_le h (Nat.pow_le_pow_right (by decide) hab)
theorem Bd.add {a : Nat} {x y : Int} (h : Bd a x) (h' : Bd a y) : Bd (a + 1) (x + y) := by
  unfold Bd at *
  have := Int.natAbs_add_le x y
  rw [Nat.pow_succ]; lia
theorem Bd.sub {a : Nat} {x y : Int} (h : Bd a x) (h' : Bd a y) : Bd (a + 1) (x - y) := by
  unfold Bd at *
  have : (x - y).natAbs ≤ x.natAbs + y.natAbs := by lia
  rw [Nat.pow_succ]; lia
theorem Bd.of {a : Nat} {x : Int} (h0 : 0 ≤ x) (h : x < 2 ^ a) : Bd a x := by
  unfold Bd
  have e : ((2 ^ a : Nat) : Int) = 2 ^ a := by simp
  lia
theorem Bd.le {a : Nat} {x y : Int} (h : Bd a y) (h0 : 0 ≤ x) (hl : x ≤ y) : Bd a x := by
  unfold Bd at *; lia
theorem Bd.bits {n : Nat} {x : Int} (h : Bd n x) : Builtin.Int.intBits x ≤ n := by
  unfold Builtin.Int.intBits
  split
  · lia
  · rename_i c
    have hx : x.natAbs ≠ 0 := by simpa using c
    have := (Nat.log2_lt hx).mpr h
    lia
noncomputable def CMulW (i j : Int) : Prop := CMul i j ∨ (Bd 8000 i ∧ Bd 8000 j)
noncomputable def CDivW (_ j : Int) : Prop := 0 < j ∧ Bd 8000 j
theorem op_mulW {X : Cx} : OpR X (binaryOp .Mult) (rI CMulW fun i j => .int (i * j)) := opI fun _ _ _ _ _ _ _ hc q => mul_int q (by
  rcases hc with hc | ⟨h1, h2⟩
  · exact hc.ok
  · exact IntMulOk.of_bits (Nat.le_trans h1.bits (by decide)) (Nat.le_trans h2.bits (by decide)))
theorem op_fdivW {X : Cx} : OpR X (binaryOp .FloorDiv) (rI CDivW fun i j => .int (i / j)) := opI fun i j _ _ _ _ _ hc q => by
  have e : i.fdiv j = i / j := Int.fdiv_eq_ediv_of_nonneg i (Int.le_of_lt hc.1)
  rw [← e] at q
  refine floordiv_int (Int.ne_of_gt hc.1) q (.inl (PyProof.noPylong_of_log2 ?_))
  have hx : j.natAbs ≠ 0 := by have := hc.1; lia
  exact Nat.lt_of_lt_of_le ((Nat.log2_lt hx).mpr hc.2) (by decide)
theorem mulW_l {i j : Int} (h : -(2 ^ 64) < i ∧ i < 2 ^ 64) : CMulW i j := .inl (.inl h)
theorem mulW_B {i j : Int} {a b : Nat} (h : Bd a i) (h' : Bd b j) (ha : a ≤ 8000) (hb : b ≤ 8000) : CMulW i j := .inr ⟨h.up ha, h'.up hb⟩
theorem divW_B {i j : Int} {a : Nat} (h0 : 0 < j) (h : Bd a j) (ha : a ≤ 8000) : CDivW i j := ⟨h0, h.up ha⟩
end L2
namespace L2
theorem absE (x : Int) : (if x < 0 then -x else x) = (x.natAbs : Int) := by split <;> lia
theorem Bd.abs {n : Nat} {x : Int} (h : Bd n x) : Bd n (x.natAbs : Int) := by unfold Bd at *; simpa using h
theorem Bd.c {n k : Nat} (h : k < 2 ^ n) : Bd n (k : Int) := by unfold Bd; simpa using h
end L2
namespace WaysI
open PySem L2
theorem lowbit {t b : Int} (ht : 0 ≤ t) (hb : 0 < b) : Builtin.bitAnd (Builtin.bitOr t b) (-(Builtin.bitOr t b)) = (WaysM.lb (t.toNat ||| b.toNat) : Nat) := by
  obtain ⟨t, rfl⟩ := Int.eq_ofNat_of_zero_le ht
  obtain ⟨b, rfl⟩ := Int.eq_ofNat_of_zero_le (Int.le_of_lt hb)
  rw [BitI.or_nat]
  have hx : 0 < t ||| b := by
    have : b ≤ t ||| b := Nat.right_le_or
    lia
  rw [PyProof.Rows.bitAnd_pn (by lia) (by lia)]
  have e : (Builtin.bitNot (-((t ||| b : Nat) : Int))).toNat = (t ||| b) - 1 := by rw [BitI.not_eq]; lia
  rw [e]
  simp only [Int.toNat_natCast, WaysM.lb]
  have le : ((t ||| b) &&& ((t ||| b) - 1)) ≤ t ||| b := Nat.and_le_left
  lia
theorem lb_pos {t b : Int} (ht : 0 ≤ t) (hb : 0 < b) : 0 < ((WaysM.lb (t.toNat ||| b.toNat) : Nat) : Int) ∧ ((WaysM.lb (t.toNat ||| b.toNat) : Nat) : Int) ≤ b := by
  obtain ⟨t, rfl⟩ := Int.eq_ofNat_of_zero_le ht
  obtain ⟨b, rfl⟩ := Int.eq_ofNat_of_zero_le (Int.le_of_lt hb)
  obtain ⟨k, h1, h2, h3, h4⟩ := WaysM.nat_low t b (by lia)
  simp only [Int.toNat_natCast]
  rw [h1]
  have hp : 0 < 2 ^ k := Nat.two_pow_pos k
  have := Nat.le_of_dvd (by lia) (Nat.dvd_of_mod_eq_zero h3)
  lia
end WaysI


set_option maxRecDepth 100000
namespace L2
open PySem PySem.Spec PyProof.Rows
end L2


set_option maxRecDepth 100000
namespace L2
open PySem PySem.Spec PyProof.Rows
end L2


set_option maxRecDepth 100000
namespace L2
open PySem PySem.Spec PyProof.Rows
noncomputable abbrev ik (i : Int) : Key := Sum.inl i
noncomputable def dinO (neg : Bool) (i : Int) (H : Hp) (Q : VK) : Option HO → Prop
  | some (.dK kvs) => Q (.bl (if neg then !(valV kvs (ik i)).isSome else (valV kvs (ik i)).isSome)) H
  | _ => False
noncomputable def rDIn (neg : Bool) : R2 := fun y x H Q => match y, x with
  | .int i, .ref a => dinO neg i H Q (H a)
  | _, _ => False
theorem rDIn_ref {neg : Bool} {i : Int} {a : Addr} {H : Hp} {Q : VK} : rDIn neg (.int i) (.ref a) H Q = dinO neg i H Q (H a) := rfl
theorem dinO_t {i : Int} {H : Hp} {Q : VK} {kvs : List (Key × V)} : dinO true i H Q (some (.dK kvs)) = Q (.bl (!(valV kvs (ik i)).isSome)) H := rfl
noncomputable def dgO (i : Int) (H : Hp) (Q : VK) : Option HO → Prop
  | some (.dK kvs) => ∃ v, valV kvs (ik i) = some v ∧ Q v H
  | _ => False
noncomputable def rDGet : R2 := fun x y H Q => match x, y with
  | .ref a, .int i => dgO i H Q (H a)
  | _, _ => False
theorem rDGet_ref {i : Int} {a : Addr} {H : Hp} {Q : VK} : rDGet (.ref a) (.int i) H Q = dgO i H Q (H a) := rfl
theorem dgO_k {i : Int} {H : Hp} {Q : VK} {kvs : List (Key × V)} : dgO i H Q (some (.dK kvs)) = ∃ v, valV kvs (ik i) = some v ∧ Q v H := rfl
noncomputable def dpO (a : Addr) (i : Int) (v : V) (H : Hp) (N : Hp → Prop) : Option HO → Prop
  | some (.dK kvs) => kvs.length < sizeLine ∧ N (upd H a (.dK (putK kvs (ik i) v)))
  | _ => False
noncomputable def rDPut (x y v : V) (H : Hp) (N : Hp → Prop) : Prop := match x, y with
  | .ref a, .int i => dpO a i v H N (H a)
  | _, _ => False
noncomputable def sDPutI (to ti tv : TE) : TS := fun D σ H => tv σ H fun v H1 => to σ H1 fun x H2 => ti σ H2 fun y H3 => rDPut x y v H3 (D.nx σ)
theorem rDPut_ref {i : Int} {a : Addr} {v : V} {H : Hp} {N : Hp → Prop} : rDPut (.ref a) (.int i) v H N = dpO a i v H N (H a) := rfl
theorem dpO_k {a : Addr} {i : Int} {v : V} {H : Hp} {N : Hp → Prop} {kvs : List (Key × V)} : dpO a i v H N (some (.dK kvs)) = (kvs.length < sizeLine ∧ N (upd H a (.dK (putK kvs (ik i) v)))) := rfl
section
variable {X : Cx} {i o e value : Expr} {ti to te tv : TE} {pos pos' apos cpos : Pos}
theorem din_split {neg : Bool} {y x : V} {H : Hp} {Q : VK} (q : rDIn neg y x H Q) : ∃ j a kvs, y = .int j ∧ x = .ref a ∧ H a = some (.dK kvs) ∧ Q (.bl (if neg then !(valV kvs (ik j)).isSome else (valV kvs (ik j)).isSome)) H := by
  unfold rDIn at q
  split at q
  · rename_i j a
    unfold dinO at q
    split at q
    · rename_i kvs e1; exact ⟨j, a, kvs, rfl, rfl, e1, q⟩
    · exact q.elim
  · exact q.elim
theorem pc_dI (hu : X.A.units + 64 < cLine) (hi : PE X i ti) (ho : PE X o to) : PC X .In i o (tOp (rDIn false) ti to) := by
  intro pins s σ H Q I h
  have hu' : X.A.units + 1 < cLine := by lia
  refine thn (hi pins s σ H _ I h) fun iv s1 ⟨y, H1, I1, ry, q1⟩ => thn (ho pins s1 σ H1 _ I1 q1) fun u s2 ⟨x, H2, I2, rx, q2⟩ => ?_
  obtain ⟨j, a, kvs, rfl, rfl, e1, q⟩ := din_split q2
  obtain rfl : u = Value.ref a := rx
  exact d_in hu' I2 (DGet.k (k := ik j) e1) ry fun s' I' => ⟨.bl _, H2, I', rfl, q⟩
theorem pc_dNI (hu : X.A.units + 64 < cLine) (hi : PE X i ti) (ho : PE X o to) : PC X .NotIn i o (tOp (rDIn true) ti to) := by
  intro pins s σ H Q I h
  have hu' : X.A.units + 1 < cLine := by lia
  refine thn (hi pins s σ H _ I h) fun iv s1 ⟨y, H1, I1, ry, q1⟩ => thn (ho pins s1 σ H1 _ I1 q1) fun u s2 ⟨x, H2, I2, rx, q2⟩ => ?_
  obtain ⟨j, a, kvs, rfl, rfl, e1, q⟩ := din_split q2
  obtain rfl : u = Value.ref a := rx
  exact d_notIn hu' I2 (DGet.k (k := ik j) e1) ry fun s' I' => ⟨.bl _, H2, I', rfl, q⟩
theorem dg_split {x y : V} {H : Hp} {Q : VK} (q : rDGet x y H Q) : ∃ j a kvs v, y = .int j ∧ x = .ref a ∧ H a = some (.dK kvs) ∧ valV kvs (ik j) = some v ∧ Q v H := by
  unfold rDGet at q
  split at q
  · rename_i a j
    unfold dgO at q
    split at q
    · rename_i kvs e1; obtain ⟨v, h1, h2⟩ := q; exact ⟨j, a, kvs, v, rfl, rfl, e1, h1, h2⟩
    · exact q.elim
  · exact q.elim
theorem pe_dgI (hu : X.A.units + 64 < cLine) (ho : PE X o to) (hi : PE X i ti) (hs : NoSl i) : PE X (.Subscript o i pos) (tOp rDGet to ti) := by
  intro pins s σ H Q I h
  have hu' : X.A.units + 1 < cLine := by lia
  refine subD_of PySem.F.slot_dict_getitem.lookup hs (thn (ho pins s σ H _ I h) fun u s1 ⟨x, H1, I1, rx, q1⟩ => thn (hi pins s1 σ H1 _ I1 q1) fun iv s2 ⟨y, H2, I2, ry, q2⟩ => ?_)
  obtain ⟨j, a, kvs, v, rfl, rfl, e1, e2, q⟩ := dg_split q2
  obtain rfl : u = Value.ref a := rx
  have g : DGet H2 a (.int j) (some v) := e2 ▸ DGet.k (k := ik j) e1
  exact ⟨dict_typeIs I2 g, d_getItem hu' I2 g ry fun w' s3 I3 rw' => ⟨v, H2, I3, rw', q⟩⟩
theorem dp_split {x y v : V} {H : Hp} {N : Hp → Prop} (q : rDPut x y v H N) : ∃ j a kvs, y = .int j ∧ x = .ref a ∧ H a = some (.dK kvs) ∧ kvs.length < sizeLine ∧ N (upd H a (.dK (putK kvs (ik j) v))) := by
  unfold rDPut at q
  split at q
  · rename_i a j
    unfold dpO at q
    split at q
    · rename_i kvs e1; exact ⟨j, a, kvs, rfl, rfl, e1, q⟩
    · exact q.elim
  · exact q.elim
theorem ps_dpI (hu : X.A.units + 64 < cLine) (ho : PE X o to) (hi : PE X i ti) (hv : PE X value tv) (hs : isComp value = false := by rfl) : PS X (.Assign [.Subscript o i pos'] value pos) (sDPutI to ti tv) := by
  intro pins s σ H D I h
  have hu' : X.A.units + 1 < cLine := by lia
  refine wpAny_Assign_Subscript (thn (hv pins s σ H _ I h) fun r s1 ⟨v, H1, I1, rv, q1⟩ => thn (ho pins s1 σ H1 _ I1 q1) fun u s2 ⟨x, H2, I2, rx, q2⟩ => thn (hi pins s2 σ H2 _ I2 q2) fun iv s3 ⟨y, H3, I3, ry, q3⟩ => ?_) (swaps_of hs)
  obtain ⟨j, a, kvs, rfl, rfl, e1, hl, q⟩ := dp_split q3
  obtain rfl : u = Value.ref a := rx
  exact d_setItem hu' I3 (DPut.k (k := ik j) e1 hl) ry rv fun s4 I4 => ⟨σ, _, I4, q⟩
end
end L2


set_option maxRecDepth 100000
namespace L2
open PySem PySem.Spec PyProof.Rows
theorem eqT_same {K : PySem.W.Frag} {H : Hp} {n : Nat} (hn : n < 60) {neg : Bool} {p r : Addr} {xs ys : List V} {ds : List Dt} {Q : VK} (h1 : SqT K H p xs) (h2 : SqT K H r ys) (hd : Paired (Den K H n) xs ds) (he : Paired (Den K H n) ys ds) (q : Q (.bl (!neg)) H) : rEqA K neg (.ref p) (.ref r) H Q :=
  ⟨n + 1, .t ds, .t ds, by lia, .inr (.inr ⟨p, _, _, rfl, rfl, h1, hd⟩), .inr (.inr ⟨r, _, _, rfl, rfl, h2, he⟩), .inl ⟨rfl, q⟩⟩
end L2


set_option maxRecDepth 100000
namespace L2
open PySem PySem.Spec PyProof.Rows
noncomputable def rRngV (vs : List V) (H : Hp) (Q : VK) : Prop := match vs with
  | [.int i, .int j] => (-(2 ^ 62) ≤ i ∧ i < 2 ^ 62 ∧ -(2 ^ 62) ≤ j ∧ j < 2 ^ 62) ∧ ∀ p, H p = none → Q (.ref p) (upd H p (.rng i j))
  | _ => False
noncomputable def tRngV (ta : TA) : TE := fun σ H Q => ta σ H fun vs H1 => rRngV vs H1 Q
theorem rRngV_int {i j : Int} {H : Hp} {Q : VK} : rRngV [.int i, .int j] H Q = ((-(2 ^ 62) ≤ i ∧ i < 2 ^ 62 ∧ -(2 ^ 62) ≤ j ∧ j < 2 ^ 62) ∧ ∀ p, H p = none → Q (.ref p) (upd H p (.rng i j))) := rfl
theorem pe_rngV {X : Cx} {a b : Expr} {ta : TA} {p pos : Pos} (hg : Gl X "range") (hm : X.mg "range" = none) (ha : PA X [a, b] ta) (hs : starEach [a, b] X.env = [(false, eval a X.env), (false, eval b X.env)] := by rfl) (hs2 : starEach [b] X.env = [(false, eval b X.env)] := by rfl) :
    PE X (.Call (.Name "range" p) [a, b] [] pos) (tRngV ta) := by
  intro pins s σ H Q I h
  refine Call_ (ld_blt I hg hm boot_range (PyProof.Rows.callWith_type1 (thn (ha pos pins s σ H _ I h) fun us s1 ⟨vs, H1, I1, r1, q1⟩ => ?_) (by rw [hs, hs2]) (by rw [hs2]; rfl)))
  replace q1 : rRngV vs H1 Q := q1
  unfold rRngV at q1
  split at q1
  · rename_i i j
    obtain ⟨u1, u2, rfl, ⟨t, rfl⟩, ⟨t', rfl⟩⟩ := vals2 r1
    refine call_range_2 ?_
    exact ⟨.ref s1.heap.objs.size, _, I1.laid (o := .rng i j) (fun b u e => Heap.get?_push_of_some _ e) (Nat.le_refl _) (show ObjOk X.prog X.w _ _ _ (.rng i j) from ⟨_, _, _, Heap.get?_push_size _ rfl⟩), rfl, q1.2 _ (I1.hok.fresh (Nat.le_refl _))⟩
  · exact q1.elim
noncomputable def listO (K : PySem.W.Frag) (p : Addr) (H : Hp) (Q : VK) : Option HO → Prop
  | some (.rng i j) => (-(2 ^ 62) ≤ i ∧ i < 2 ^ 62 ∧ -(2 ^ 62) ≤ j ∧ j < 2 ^ 62) ∧ (j - i).toNat ≤ 1000000 ∧ ∀ l, H l = none → Q (.ref l) (upd H l (.lst (rngV i (j - i).toNat)))
  | _ => rListA K [.ref p] H Q
noncomputable def rListB (K : PySem.W.Frag) : List V → Hp → VK → Prop := fun xs H Q => match xs with
  | [.ref p] => listO K p H Q (H p)
  | xs => rListA K xs H Q
theorem rListB_ref {K : PySem.W.Frag} {p : Addr} {H : Hp} {Q : VK} : rListB K [.ref p] H Q = listO K p H Q (H p) := rfl
theorem listO_rng {K : PySem.W.Frag} {p : Addr} {H : Hp} {Q : VK} {i j : Int} : listO K p H Q (some (.rng i j)) = ((-(2 ^ 62) ≤ i ∧ i < 2 ^ 62 ∧ -(2 ^ 62) ≤ j ∧ j < 2 ^ 62) ∧ (j - i).toNat ≤ 1000000 ∧ ∀ l, H l = none → Q (.ref l) (upd H l (.lst (rngV i (j - i).toNat)))) := rfl
theorem vals_ix : ∀ {xs : List V} {us : List Value}, xs.length = us.length → (∀ (k : Nat) x u, xs[k]? = some x → us[k]? = some u → RelV x u) → Vals xs us
  | [], [], _, _ => .nil
  | [], _ :: _, h, _ => by simp at h
  | _ :: _, [], h, _ => by simp at h
  | x :: xs, u :: us, h, hr => .cons (hr 0 x u rfl rfl) (vals_ix (by simpa using h) fun k a b ha hb => hr (k + 1) a b (by simpa using ha) (by simpa using hb))
theorem items_vals {i : Int} {n : Nat} {acc : Array Value} (h : ItemsOf (fun k v => ∃ t, v = .int (i + k * 1) t) acc n) : Vals (rngV i n) acc.toList := by
  refine vals_ix (by simp [rngV, h.1]) fun k x u hx hu => ?_
  have hk : k < n := by
    have := (List.getElem?_eq_some_iff.mp hx).1
    simpa [rngV] using this
  obtain ⟨t, rfl⟩ := h.2 k u (by simpa using hu)
  have : x = .int (i + (k : Int)) := by
    unfold rngV at hx
    rw [List.getElem?_map, List.getElem?_range hk] at hx
    exact (Option.some.inj hx).symm
  rw [this]
  exact ⟨t, by rw [Int.mul_one]⟩
theorem call_listB {X : Cx} (K : PySem.W.Frag) (hK : X.K = K) (hc : X.calm = true) : CallR X (.type "list") (rListB K) := by
  intro pins s σ H xs us Q I rs q
  unfold rListB at q
  split at q
  · rename_i p
    unfold listO at q
    split at q
    · rename_i i j e
      obtain ⟨u, rfl, ru⟩ := vals1 rs
      cases ru
      obtain ⟨⟨b1, b2, b3, b4⟩, hn, q⟩ := q
      obtain ⟨t, u, v, hr⟩ := (show ObjOk X.prog X.w H s.heap p (.rng i j) from I.hok p _ e)
      refine call_list_range (n := (j - i).toNat) (I.ok.hd hc) hr (small_one b1 b2 b3 b4) (by rw [rangeSize_one]; split <;> lia) (by lia) fun h' tk acc' c' kp e1 it => ?_
      have rv := items_vals it
      exact ⟨.ref s.heap.objs.size, _, I.laid (t' := tk) kp (Nat.le_refl _) (show ObjOk X.prog X.w _ h' _ (.lst (rngV i (j - i).toNat)) from ⟨by rw [sizeLine_eq]; simp [rngV]; lia, acc'.toList, c', rv, by simpa using e1⟩), rfl, q _ (I.hok.fresh (Nat.le_refl _))⟩
    · exact call_listK K hK pins s σ H _ us Q I rs q
  · exact call_listK K hK pins s σ H _ us Q I rs q
end L2


namespace WaysM
noncomputable def nsp (a A b B m : Int) : Int × Int := low (3 * b * A + ((a - m * A).natAbs : Int) * B) (4 * (A * B))
noncomputable def nsm (a A m : Int) : Int × Int := low (3 * a + m * A) (4 * A)
structure St (n : Nat) (P S D a A b B : Int) : Prop where
  p : P = 4 ^ n
  s0 : 0 ≤ S
  s1 : S ≤ 1000000 * P
  d0 : 0 ≤ D
  d1 : D ≤ 2000000 * P
  sa : a * P = S * A
  db : b * (2 * P) = D * B
  a0 : 0 ≤ a
  b0 : 0 ≤ b
  pa : ∃ i, A = 2 ^ i
  pb : ∃ j, B = 2 ^ j
  oa : ¬ (a % 2 = 0 ∧ A % 2 = 0)
  ob : ¬ (b % 2 = 0 ∧ B % 2 = 0)
theorem two_pos (i : Nat) : (0 : Int) < 2 ^ i := by
  have : ((2 ^ i : Nat) : Int) = 2 ^ i := by simp
  have := Nat.two_pow_pos i
  lia
theorem four_pos (i : Nat) : (0 : Int) < 4 ^ i := by
  have : ((4 ^ i : Nat) : Int) = 4 ^ i := by simp
  have : 0 < 4 ^ i := Nat.pow_pos (by decide)
  lia
theorem St.A0 {n : Nat} {P S D a A b B : Int} (h : St n P S D a A b B) : 0 < A := by obtain ⟨i, e⟩ := h.pa; rw [e]; exact two_pos i
theorem St.B0 {n : Nat} {P S D a A b B : Int} (h : St n P S D a A b B) : 0 < B := by obtain ⟨i, e⟩ := h.pb; rw [e]; exact two_pos i
theorem St.P0 {n : Nat} {P S D a A b B : Int} (h : St n P S D a A b B) : 0 < P := by rw [h.p]; exact four_pos n
/-- a fraction in lowest terms below a power of two has no greater bottom -/
theorem small_bottom {b B D : Int} {k j : Nat} (hB : B = 2 ^ j) (h : b * 2 ^ k = D * B) (o : ¬ (b % 2 = 0 ∧ B % 2 = 0)) : B ≤ 2 ^ k := by
  by_cases hj : j ≤ k
  · rw [hB]
    obtain ⟨d, rfl⟩ := Nat.exists_eq_add_of_le hj
    have h1 : (1 : Int) ≤ 2 ^ d := by have := two_pos d; lia
    have h2 := two_pos j
    rw [Int.pow_add]
    have := Int.mul_le_mul_of_nonneg_left h1 (Int.le_of_lt h2)
    lia
  · exfalso
    obtain ⟨d, rfl⟩ := Nat.exists_eq_add_of_le (show k + 1 ≤ j by lia)
    apply o
    have e : (2 : Int) ^ (k + 1 + d) = 2 ^ k * (2 * 2 ^ d) := by rw [Int.pow_add, Int.pow_succ, Int.mul_assoc]
    rw [hB, e] at h
    have h2 : b = D * (2 * 2 ^ d) := by
      apply Int.eq_of_mul_eq_mul_left (Int.ne_of_gt (two_pos k))
      rw [Int.mul_comm, h]
      rw [Int.mul_left_comm]
    constructor
    · rw [h2, Int.mul_left_comm]; exact Int.mul_emod_right _ _
    · rw [hB, e, Int.mul_left_comm]; exact Int.mul_emod_right _ _
theorem four_two (n : Nat) : (4 : Int) ^ n = 2 ^ (2 * n) := by rw [Int.pow_mul]; rfl
theorem St.A1 {n : Nat} {P S D a A b B : Int} (h : St n P S D a A b B) : A ≤ P := by
  obtain ⟨i, e⟩ := h.pa
  have h1 := h.sa
  rw [h.p, four_two] at h1
  rw [h.p, four_two]
  exact small_bottom e h1 h.oa
theorem St.B1 {n : Nat} {P S D a A b B : Int} (h : St n P S D a A b B) : B ≤ 2 * P := by
  obtain ⟨i, e⟩ := h.pb
  have h1 := h.db
  have e2 : 2 * P = 2 ^ (2 * n + 1) := by rw [h.p, four_two, Int.pow_succ]; lia
  rw [e2] at h1 ⊢
  exact small_bottom e h1 h.ob
theorem St.a1 {n : Nat} {P S D a A b B : Int} (h : St n P S D a A b B) : a ≤ S := by
  have h1 := Int.mul_le_mul_of_nonneg_left h.A1 h.s0
  rw [← h.sa] at h1
  exact Int.le_of_mul_le_mul_right h1 h.P0
theorem St.b1 {n : Nat} {P S D a A b B : Int} (h : St n P S D a A b B) : b ≤ D := by
  have h1 := Int.mul_le_mul_of_nonneg_left h.B1 h.d0
  rw [← h.db] at h1
  exact Int.le_of_mul_le_mul_right h1 (by have := h.P0; lia)
theorem cancel {s x y : Int} (hs : 0 < s) (h : s * x = s * y) : x = y := Int.eq_of_mul_eq_mul_left (Int.ne_of_gt hs) h
theorem St.first {m : Int} (h0 : 0 ≤ m) (h1 : m ≤ 1000000) : St 0 1 m m m 1 (low m 2).1 (low m 2).2 := by
  obtain ⟨s, L⟩ := low_spec (t := m) (b := 2) h0 (by decide)
  obtain ⟨j, _, ej⟩ := pow_part 1 s _ L.s0 L.b0 (by simpa using L.bb)
  refine ⟨rfl, h0, by lia, h0, by lia, rfl, ?_, h0, L.t0, ⟨0, rfl⟩, ⟨j, ej⟩, by lia, L.od⟩
  apply cancel L.s0
  have e1 := L.tt
  have e2 := L.bb
  generalize (low m 2).1 = t at *
  generalize (low m 2).2 = b at *
  rw [e1] at *
  grind
theorem St.step {n : Nat} {P S D a A b B m : Int} (h : St n P S D a A b B) (h0 : 0 ≤ m) (h1 : m ≤ 1000000) :
    St (n + 1) (4 * P) (3 * S + m * P) (3 * D + 2 * ((S - m * P).natAbs : Int)) (nsm a A m).1 (nsm a A m).2 (nsp a A b B m).1 (nsp a A b B m).2 := by
  have A0 := h.A0
  have B0 := h.B0
  have P0 := h.P0
  have a0 := h.a0
  have b0 := h.b0
  have sa := h.sa
  have db := h.db
  have s0 := h.s0
  have s1 := h.s1
  have d0 := h.d0
  have d1 := h.d1
  have mA := Int.mul_nonneg h0 (Int.le_of_lt A0)
  have mP := Int.mul_nonneg h0 (Int.le_of_lt P0)
  have mP1 := Int.mul_le_mul_of_nonneg_right h1 (Int.le_of_lt P0)
  have AB := Int.mul_pos A0 B0
  have bA := Int.mul_nonneg b0 (Int.le_of_lt A0)
  have xB := Int.mul_nonneg (Int.natCast_nonneg (a - m * A).natAbs) (Int.le_of_lt B0)
  obtain ⟨s, L⟩ := low_spec (t := 3 * a + m * A) (b := 4 * A) (by lia) (by lia)
  obtain ⟨r, M⟩ := low_spec (t := 3 * b * A + ((a - m * A).natAbs : Int) * B) (b := 4 * (A * B)) (by rw [Int.mul_assoc]; lia) (by lia)
  obtain ⟨i, ei⟩ := h.pa
  obtain ⟨j, ej⟩ := h.pb
  have p1 : (2 : Int) ^ (i + 2) = s * (nsm a A m).2 := by
    refine Eq.trans ?_ L.bb
    rw [ei, Int.pow_add, Int.mul_comm]; rfl
  have p2 : (2 : Int) ^ (i + j + 2) = r * (nsp a A b B m).2 := by
    refine Eq.trans ?_ M.bb
    rw [ei, ej, ← Int.pow_add, Int.pow_add _ _ 2, Int.mul_comm]; rfl
  obtain ⟨i', _, ei'⟩ := pow_part _ _ _ L.s0 L.b0 p1
  obtain ⟨j', _, ej'⟩ := pow_part _ _ _ M.s0 M.b0 p2
  refine ⟨by rw [h.p, Int.pow_succ, Int.mul_comm], by lia, by lia, by lia, by lia, ?_, ?_, L.t0, M.t0, ⟨i', ei'⟩, ⟨j', ej'⟩, L.od, M.od⟩
  · apply cancel L.s0
    have e1 := L.tt
    have e2 := L.bb
    unfold nsm
    generalize (low (3 * a + m * A) (4 * A)).1 = t at *
    generalize (low (3 * a + m * A) (4 * A)).2 = u at *
    have k1 : s * (t * (4 * P)) = (3 * a + m * A) * (4 * P) := by rw [e1]; grind
    have k2 : s * ((3 * S + m * P) * u) = (3 * S + m * P) * (4 * A) := by rw [e2]; grind
    rw [k1, k2]
    have : (3 * a + m * A) * (4 * P) = 12 * (a * P) + 4 * (m * A * P) := by grind
    rw [this, sa]
    grind
  · apply cancel M.s0
    have e1 := M.tt
    have e2 := M.bb
    unfold nsp
    have ab : ((a - m * A).natAbs : Int) * P = ((S - m * P).natAbs : Int) * A := by
      have q1 : ((a - m * A) * P).natAbs = ((S - m * P) * A).natAbs := by
        have : (a - m * A) * P = (S - m * P) * A := by
          rw [Int.sub_mul, Int.sub_mul, sa]; grind
        rw [this]
      rw [Int.natAbs_mul, Int.natAbs_mul] at q1
      have q2 : ((P.natAbs : Nat) : Int) = P := by lia
      have q3 : ((A.natAbs : Nat) : Int) = A := by lia
      have q4 : (((a - m * A).natAbs * P.natAbs : Nat) : Int) = (((S - m * P).natAbs * A.natAbs : Nat) : Int) := by rw [q1]
      rw [Int.natCast_mul, Int.natCast_mul, q2, q3] at q4
      exact q4
    generalize ((a - m * A).natAbs : Int) = x at *
    generalize ((S - m * P).natAbs : Int) = y at *
    generalize (low (3 * b * A + x * B) (4 * (A * B))).1 = t at *
    generalize (low (3 * b * A + x * B) (4 * (A * B))).2 = u at *
    have k1 : r * (t * (2 * (4 * P))) = (3 * b * A + x * B) * (2 * (4 * P)) := by rw [e1]; grind
    have k2 : r * ((3 * D + 2 * y) * u) = (3 * D + 2 * y) * (4 * (A * B)) := by rw [e2]; grind
    rw [k1, k2]
    have : (3 * b * A + x * B) * (2 * (4 * P)) = 12 * A * (b * (2 * P)) + 8 * B * (x * P) := by grind
    rw [this, db, ab]
    grind
end WaysM


namespace WaysM
end WaysM


set_option maxRecDepth 100000
set_option maxHeartbeats 4000000
namespace K52
open PySem L2 Com
noncomputable def tHold (u : TS) : TS := u
theorem pss_hold {X : Cx} {l : List Stmt} {u : TS} (h : PSs X l u) : PSs X l (tHold u) := h
noncomputable def top (i : Nat) : Stmt := PySem.Challenge.pw_slowroad_k52_sender_answered_at_once.main.body.getD i (.Pass ⟨0, 0, 0, 0⟩)
theorem len_1 {α : Type} {us : List α} (h : us.length = 1) : ∃ a0, us = [a0] := List.length_eq_one_iff.mp h
theorem len_2 {α : Type} {us : List α} (h : us.length = 2) : ∃ a0 a1, us = [a0, a1] := by
  obtain ⟨a, t, rfl⟩ := List.exists_cons_of_length_eq_add_one h
  obtain ⟨b0, rfl⟩ := len_1 (Nat.succ.inj h)
  exact ⟨a, b0, rfl⟩
theorem len_3 {α : Type} {us : List α} (h : us.length = 3) : ∃ a0 a1 a2, us = [a0, a1, a2] := by
  obtain ⟨a, t, rfl⟩ := List.exists_cons_of_length_eq_add_one h
  obtain ⟨b0, b1, rfl⟩ := len_2 (Nat.succ.inj h)
  exact ⟨a, b0, b1, rfl⟩
theorem len_4 {α : Type} {us : List α} (h : us.length = 4) : ∃ a0 a1 a2 a3, us = [a0, a1, a2, a3] := by
  obtain ⟨a, t, rfl⟩ := List.exists_cons_of_length_eq_add_one h
  obtain ⟨b0, b1, b2, rfl⟩ := len_3 (Nat.succ.inj h)
  exact ⟨a, b0, b1, b2, rfl⟩
theorem len_5 {α : Type} {us : List α} (h : us.length = 5) : ∃ a0 a1 a2 a3 a4, us = [a0, a1, a2, a3, a4] := by
  obtain ⟨a, t, rfl⟩ := List.exists_cons_of_length_eq_add_one h
  obtain ⟨b0, b1, b2, b3, rfl⟩ := len_4 (Nat.succ.inj h)
  exact ⟨a, b0, b1, b2, b3, rfl⟩
noncomputable abbrev s_Meter___init__ : Stmt := inClass (top 1) 0
theorem sc_Meter___init__ : FnScope ["self", "most"] ["self", "most"] (defScope s_Meter___init__) := ⟨rfl, rfl, rfl, by decide +kernel, rfl, by decide +kernel, by decide +kernel⟩
theorem bd_Meter___init__ : ∀ (kV doc pm : Value) (an : Option Addr) (cdv ct : Value) (us : List Value), us.length = (["self", "most"] : List Str).length → bindArgs (PySem.W.fnOf "__init__" "Meter.__init__" (defArgs s_Meter___init__) (defBody s_Meter___init__) (defScope s_Meter___init__) .none kV doc pm an cdv ct) ⟨us, []⟩ = pure ((["self", "most"] : List Str).zip us) := by
  intro _ _ _ _ _ _ us hl; obtain ⟨_, _, rfl⟩ := len_2 hl; rfl
noncomputable abbrev s_Meter_known : Stmt := inClass (top 1) 1
theorem sc_Meter_known : FnScope ["self", "many", "piece"] ["self", "many"] (defScope s_Meter_known) := ⟨rfl, rfl, rfl, by decide +kernel, rfl, by decide +kernel, by decide +kernel⟩
theorem bd_Meter_known : ∀ (kV doc pm : Value) (an : Option Addr) (cdv ct : Value) (us : List Value), us.length = (["self", "many"] : List Str).length → bindArgs (PySem.W.fnOf "known" "Meter.known" (defArgs s_Meter_known) (defBody s_Meter_known) (defScope s_Meter_known) .none kV doc pm an cdv ct) ⟨us, []⟩ = pure ((["self", "many"] : List Str).zip us) := by
  intro _ _ _ _ _ _ us hl; obtain ⟨_, _, rfl⟩ := len_2 hl; rfl
noncomputable abbrev s_Meter_know_one : Stmt := inClass (top 1) 2
theorem sc_Meter_know_one : FnScope ["self"] ["self"] (defScope s_Meter_know_one) := ⟨rfl, rfl, rfl, by decide +kernel, rfl, by decide +kernel, by decide +kernel⟩
theorem bd_Meter_know_one : ∀ (kV doc pm : Value) (an : Option Addr) (cdv ct : Value) (us : List Value), us.length = (["self"] : List Str).length → bindArgs (PySem.W.fnOf "know_one" "Meter.know_one" (defArgs s_Meter_know_one) (defBody s_Meter_know_one) (defScope s_Meter_know_one) .none kV doc pm an cdv ct) ⟨us, []⟩ = pure ((["self"] : List Str).zip us) := by
  intro _ _ _ _ _ _ us hl; obtain ⟨_, rfl⟩ := len_1 hl; rfl
noncomputable abbrev s_Meter_half : Stmt := inClass (top 1) 3
theorem sc_Meter_half : FnScope ["self"] ["self"] (defScope s_Meter_half) := ⟨rfl, rfl, rfl, by decide +kernel, rfl, by decide +kernel, by decide +kernel⟩
theorem bd_Meter_half : ∀ (kV doc pm : Value) (an : Option Addr) (cdv ct : Value) (us : List Value), us.length = (["self"] : List Str).length → bindArgs (PySem.W.fnOf "half" "Meter.half" (defArgs s_Meter_half) (defBody s_Meter_half) (defScope s_Meter_half) .none kV doc pm an cdv ct) ⟨us, []⟩ = pure ((["self"] : List Str).zip us) := by
  intro _ _ _ _ _ _ us hl; obtain ⟨_, rfl⟩ := len_1 hl; rfl
noncomputable abbrev s_Meter_ran_out : Stmt := inClass (top 1) 4
theorem sc_Meter_ran_out : FnScope ["self"] ["self"] (defScope s_Meter_ran_out) := ⟨rfl, rfl, rfl, by decide +kernel, rfl, by decide +kernel, by decide +kernel⟩
theorem bd_Meter_ran_out : ∀ (kV doc pm : Value) (an : Option Addr) (cdv ct : Value) (us : List Value), us.length = (["self"] : List Str).length → bindArgs (PySem.W.fnOf "ran_out" "Meter.ran_out" (defArgs s_Meter_ran_out) (defBody s_Meter_ran_out) (defScope s_Meter_ran_out) .none kV doc pm an cdv ct) ⟨us, []⟩ = pure ((["self"] : List Str).zip us) := by
  intro _ _ _ _ _ _ us hl; obtain ⟨_, rfl⟩ := len_1 hl; rfl
noncomputable abbrev s_Meter_hurried : Stmt := inClass (top 1) 5
theorem sc_Meter_hurried : FnScope ["self"] ["self"] (defScope s_Meter_hurried) := ⟨rfl, rfl, rfl, by decide +kernel, rfl, by decide +kernel, by decide +kernel⟩
theorem bd_Meter_hurried : ∀ (kV doc pm : Value) (an : Option Addr) (cdv ct : Value) (us : List Value), us.length = (["self"] : List Str).length → bindArgs (PySem.W.fnOf "hurried" "Meter.hurried" (defArgs s_Meter_hurried) (defBody s_Meter_hurried) (defScope s_Meter_hurried) .none kV doc pm an cdv ct) ⟨us, []⟩ = pure ((["self"] : List Str).zip us) := by
  intro _ _ _ _ _ _ us hl; obtain ⟨_, rfl⟩ := len_1 hl; rfl
noncomputable abbrev s_ahead : Stmt := top 3
theorem sc_ahead : FnScope ["ring", "one", "other"] ["ring", "one", "other"] (defScope s_ahead) := ⟨rfl, rfl, rfl, by decide +kernel, rfl, by decide +kernel, by decide +kernel⟩
theorem bd_ahead : ∀ (kV doc pm : Value) (an : Option Addr) (cdv ct : Value) (us : List Value), us.length = (["ring", "one", "other"] : List Str).length → bindArgs (PySem.W.fnOf "ahead" "ahead" (defArgs s_ahead) (defBody s_ahead) (defScope s_ahead) .none kV doc pm an cdv ct) ⟨us, []⟩ = pure ((["ring", "one", "other"] : List Str).zip us) := by
  intro _ _ _ _ _ _ us hl; obtain ⟨_, _, _, rfl⟩ := len_3 hl; rfl
noncomputable abbrev s_lowest : Stmt := top 6
theorem sc_lowest : FnScope ["top", "bottom", "shared"] ["top", "bottom"] (defScope s_lowest) := ⟨rfl, rfl, rfl, by decide +kernel, rfl, by decide +kernel, by decide +kernel⟩
theorem bd_lowest : ∀ (kV doc pm : Value) (an : Option Addr) (cdv ct : Value) (us : List Value), us.length = (["top", "bottom"] : List Str).length → bindArgs (PySem.W.fnOf "lowest" "lowest" (defArgs s_lowest) (defBody s_lowest) (defScope s_lowest) .none kV doc pm an cdv ct) ⟨us, []⟩ = pure ((["top", "bottom"] : List Str).zip us) := by
  intro _ _ _ _ _ _ us hl; obtain ⟨_, _, rfl⟩ := len_2 hl; rfl
noncomputable abbrev s_Ways___init__ : Stmt := inClass (top 7) 0
theorem sc_Ways___init__ : FnScope ["self", "first", "longest"] ["self", "first", "longest"] (defScope s_Ways___init__) := ⟨rfl, rfl, rfl, by decide +kernel, rfl, by decide +kernel, by decide +kernel⟩
theorem bd_Ways___init__ : ∀ (kV doc pm : Value) (an : Option Addr) (cdv ct : Value) (us : List Value), us.length = (["self", "first", "longest"] : List Str).length → bindArgs (PySem.W.fnOf "__init__" "Ways.__init__" (defArgs s_Ways___init__) (defBody s_Ways___init__) (defScope s_Ways___init__) .none kV doc pm an cdv ct) ⟨us, []⟩ = pure ((["self", "first", "longest"] : List Str).zip us) := by
  intro _ _ _ _ _ _ us hl; obtain ⟨_, _, _, rfl⟩ := len_3 hl; rfl
noncomputable abbrev s_Ways_measured : Stmt := inClass (top 7) 1
theorem sc_Ways_measured : FnScope ["self", "m"] ["self", "m"] (defScope s_Ways_measured) := ⟨rfl, rfl, rfl, by decide +kernel, rfl, by decide +kernel, by decide +kernel⟩
theorem bd_Ways_measured : ∀ (kV doc pm : Value) (an : Option Addr) (cdv ct : Value) (us : List Value), us.length = (["self", "m"] : List Str).length → bindArgs (PySem.W.fnOf "measured" "Ways.measured" (defArgs s_Ways_measured) (defBody s_Ways_measured) (defScope s_Ways_measured) .none kV doc pm an cdv ct) ⟨us, []⟩ = pure ((["self", "m"] : List Str).zip us) := by
  intro _ _ _ _ _ _ us hl; obtain ⟨_, _, rfl⟩ := len_2 hl; rfl
noncomputable abbrev s_Ways_next_spread : Stmt := inClass (top 7) 2
theorem sc_Ways_next_spread : FnScope ["self", "m", "bottoms", "away"] ["self", "m"] (defScope s_Ways_next_spread) := ⟨rfl, rfl, rfl, by decide +kernel, rfl, by decide +kernel, by decide +kernel⟩
theorem bd_Ways_next_spread : ∀ (kV doc pm : Value) (an : Option Addr) (cdv ct : Value) (us : List Value), us.length = (["self", "m"] : List Str).length → bindArgs (PySem.W.fnOf "next_spread" "Ways.next_spread" (defArgs s_Ways_next_spread) (defBody s_Ways_next_spread) (defScope s_Ways_next_spread) .none kV doc pm an cdv ct) ⟨us, []⟩ = pure ((["self", "m"] : List Str).zip us) := by
  intro _ _ _ _ _ _ us hl; obtain ⟨_, _, rfl⟩ := len_2 hl; rfl
noncomputable abbrev s_Ways_next_smooth : Stmt := inClass (top 7) 3
theorem sc_Ways_next_smooth : FnScope ["self", "m"] ["self", "m"] (defScope s_Ways_next_smooth) := ⟨rfl, rfl, rfl, by decide +kernel, rfl, by decide +kernel, by decide +kernel⟩
theorem bd_Ways_next_smooth : ∀ (kV doc pm : Value) (an : Option Addr) (cdv ct : Value) (us : List Value), us.length = (["self", "m"] : List Str).length → bindArgs (PySem.W.fnOf "next_smooth" "Ways.next_smooth" (defArgs s_Ways_next_smooth) (defBody s_Ways_next_smooth) (defScope s_Ways_next_smooth) .none kV doc pm an cdv ct) ⟨us, []⟩ = pure ((["self", "m"] : List Str).zip us) := by
  intro _ _ _ _ _ _ us hl; obtain ⟨_, _, rfl⟩ := len_2 hl; rfl
noncomputable abbrev s_Ways_least_wait : Stmt := inClass (top 7) 4
theorem sc_Ways_least_wait : FnScope ["self", "top"] ["self"] (defScope s_Ways_least_wait) := ⟨rfl, rfl, rfl, by decide +kernel, rfl, by decide +kernel, by decide +kernel⟩
theorem bd_Ways_least_wait : ∀ (kV doc pm : Value) (an : Option Addr) (cdv ct : Value) (us : List Value), us.length = (["self"] : List Str).length → bindArgs (PySem.W.fnOf "least_wait" "Ways.least_wait" (defArgs s_Ways_least_wait) (defBody s_Ways_least_wait) (defScope s_Ways_least_wait) .none kV doc pm an cdv ct) ⟨us, []⟩ = pure ((["self"] : List Str).zip us) := by
  intro _ _ _ _ _ _ us hl; obtain ⟨_, rfl⟩ := len_1 hl; rfl
noncomputable abbrev s_Ways_ran_out : Stmt := inClass (top 7) 5
theorem sc_Ways_ran_out : FnScope ["self"] ["self"] (defScope s_Ways_ran_out) := ⟨rfl, rfl, rfl, by decide +kernel, rfl, by decide +kernel, by decide +kernel⟩
theorem bd_Ways_ran_out : ∀ (kV doc pm : Value) (an : Option Addr) (cdv ct : Value) (us : List Value), us.length = (["self"] : List Str).length → bindArgs (PySem.W.fnOf "ran_out" "Ways.ran_out" (defArgs s_Ways_ran_out) (defBody s_Ways_ran_out) (defScope s_Ways_ran_out) .none kV doc pm an cdv ct) ⟨us, []⟩ = pure ((["self"] : List Str).zip us) := by
  intro _ _ _ _ _ _ us hl; obtain ⟨_, rfl⟩ := len_1 hl; rfl
noncomputable abbrev s_Sender___init__ : Stmt := inClass (top 10) 0
theorem sc_Sender___init__ : FnScope ["self", "ring", "first", "longest", "most"] ["self", "ring", "first", "longest", "most"] (defScope s_Sender___init__) := ⟨rfl, rfl, rfl, by decide +kernel, rfl, by decide +kernel, by decide +kernel⟩
theorem bd_Sender___init__ : ∀ (kV doc pm : Value) (an : Option Addr) (cdv ct : Value) (us : List Value), us.length = (["self", "ring", "first", "longest", "most"] : List Str).length → bindArgs (PySem.W.fnOf "__init__" "Sender.__init__" (defArgs s_Sender___init__) (defBody s_Sender___init__) (defScope s_Sender___init__) .none kV doc pm an cdv ct) ⟨us, []⟩ = pure ((["self", "ring", "first", "longest", "most"] : List Str).zip us) := by
  intro _ _ _ _ _ _ us hl; obtain ⟨_, _, _, _, _, rfl⟩ := len_5 hl; rfl
noncomputable abbrev s_Sender_put : Stmt := inClass (top 10) 1
theorem sc_Sender_put : FnScope ["self", "thing"] ["self", "thing"] (defScope s_Sender_put) := ⟨rfl, rfl, rfl, by decide +kernel, rfl, by decide +kernel, by decide +kernel⟩
theorem bd_Sender_put : ∀ (kV doc pm : Value) (an : Option Addr) (cdv ct : Value) (us : List Value), us.length = (["self", "thing"] : List Str).length → bindArgs (PySem.W.fnOf "put" "Sender.put" (defArgs s_Sender_put) (defBody s_Sender_put) (defScope s_Sender_put) .none kV doc pm an cdv ct) ⟨us, []⟩ = pure ((["self", "thing"] : List Str).zip us) := by
  intro _ _ _ _ _ _ us hl; obtain ⟨_, _, rfl⟩ := len_2 hl; rfl
noncomputable abbrev s_Sender_many : Stmt := inClass (top 10) 2
theorem sc_Sender_many : FnScope ["self"] ["self"] (defScope s_Sender_many) := ⟨rfl, rfl, rfl, by decide +kernel, rfl, by decide +kernel, by decide +kernel⟩
theorem bd_Sender_many : ∀ (kV doc pm : Value) (an : Option Addr) (cdv ct : Value) (us : List Value), us.length = (["self"] : List Str).length → bindArgs (PySem.W.fnOf "many" "Sender.many" (defArgs s_Sender_many) (defBody s_Sender_many) (defScope s_Sender_many) .none kV doc pm an cdv ct) ⟨us, []⟩ = pure ((["self"] : List Str).zip us) := by
  intro _ _ _ _ _ _ us hl; obtain ⟨_, rfl⟩ := len_1 hl; rfl
noncomputable abbrev s_Sender_thing : Stmt := inClass (top 10) 3
theorem sc_Sender_thing : FnScope ["self", "place"] ["self", "place"] (defScope s_Sender_thing) := ⟨rfl, rfl, rfl, by decide +kernel, rfl, by decide +kernel, by decide +kernel⟩
theorem bd_Sender_thing : ∀ (kV doc pm : Value) (an : Option Addr) (cdv ct : Value) (us : List Value), us.length = (["self", "place"] : List Str).length → bindArgs (PySem.W.fnOf "thing" "Sender.thing" (defArgs s_Sender_thing) (defBody s_Sender_thing) (defScope s_Sender_thing) .none kV doc pm an cdv ct) ⟨us, []⟩ = pure ((["self", "place"] : List Str).zip us) := by
  intro _ _ _ _ _ _ us hl; obtain ⟨_, _, rfl⟩ := len_2 hl; rfl
noncomputable abbrev s_Sender_heard : Stmt := inClass (top 10) 4
theorem sc_Sender_heard : FnScope ["self", "number", "room", "held", "turn", "steps", "fresh", "place"] ["self", "number", "room", "held", "turn"] (defScope s_Sender_heard) := ⟨rfl, rfl, rfl, by decide +kernel, rfl, by decide +kernel, by decide +kernel⟩
theorem bd_Sender_heard : ∀ (kV doc pm : Value) (an : Option Addr) (cdv ct : Value) (us : List Value), us.length = (["self", "number", "room", "held", "turn"] : List Str).length → bindArgs (PySem.W.fnOf "heard" "Sender.heard" (defArgs s_Sender_heard) (defBody s_Sender_heard) (defScope s_Sender_heard) .none kV doc pm an cdv ct) ⟨us, []⟩ = pure ((["self", "number", "room", "held", "turn"] : List Str).zip us) := by
  intro _ _ _ _ _ _ us hl; obtain ⟨_, _, _, _, _, rfl⟩ := len_5 hl; rfl
noncomputable abbrev s_Sender_grow_base : Stmt := inClass (top 10) 5
theorem sc_Sender_grow_base : FnScope ["self", "steps", "low"] ["self", "steps"] (defScope s_Sender_grow_base) := ⟨rfl, rfl, rfl, by decide +kernel, rfl, by decide +kernel, by decide +kernel⟩
theorem bd_Sender_grow_base : ∀ (kV doc pm : Value) (an : Option Addr) (cdv ct : Value) (us : List Value), us.length = (["self", "steps"] : List Str).length → bindArgs (PySem.W.fnOf "grow_base" "Sender.grow_base" (defArgs s_Sender_grow_base) (defBody s_Sender_grow_base) (defScope s_Sender_grow_base) .none kV doc pm an cdv ct) ⟨us, []⟩ = pure ((["self", "steps"] : List Str).zip us) := by
  intro _ _ _ _ _ _ us hl; obtain ⟨_, _, rfl⟩ := len_2 hl; rfl
noncomputable abbrev s_Sender_note_held : Stmt := inClass (top 10) 6
theorem sc_Sender_note_held : FnScope ["self", "held"] ["self", "held"] (defScope s_Sender_note_held) := ⟨rfl, rfl, rfl, by decide +kernel, rfl, by decide +kernel, by decide +kernel⟩
theorem bd_Sender_note_held : ∀ (kV doc pm : Value) (an : Option Addr) (cdv ct : Value) (us : List Value), us.length = (["self", "held"] : List Str).length → bindArgs (PySem.W.fnOf "note_held" "Sender.note_held" (defArgs s_Sender_note_held) (defBody s_Sender_note_held) (defScope s_Sender_note_held) .none kV doc pm an cdv ct) ⟨us, []⟩ = pure ((["self", "held"] : List Str).zip us) := by
  intro _ _ _ _ _ _ us hl; obtain ⟨_, _, rfl⟩ := len_2 hl; rfl
noncomputable abbrev s_Sender_newly_known : Stmt := inClass (top 10) 7
theorem sc_Sender_newly_known : FnScope ["self", "places", "fresh", "place"] ["self", "places"] (defScope s_Sender_newly_known) := ⟨rfl, rfl, rfl, by decide +kernel, rfl, by decide +kernel, by decide +kernel⟩
theorem bd_Sender_newly_known : ∀ (kV doc pm : Value) (an : Option Addr) (cdv ct : Value) (us : List Value), us.length = (["self", "places"] : List Str).length → bindArgs (PySem.W.fnOf "newly_known" "Sender.newly_known" (defArgs s_Sender_newly_known) (defBody s_Sender_newly_known) (defScope s_Sender_newly_known) .none kV doc pm an cdv ct) ⟨us, []⟩ = pure ((["self", "places"] : List Str).zip us) := by
  intro _ _ _ _ _ _ us hl; obtain ⟨_, _, rfl⟩ := len_2 hl; rfl
noncomputable abbrev s_Sender_known_above_base : Stmt := inClass (top 10) 8
theorem sc_Sender_known_above_base : FnScope ["self"] ["self"] (defScope s_Sender_known_above_base) := ⟨rfl, rfl, rfl, by decide +kernel, rfl, by decide +kernel, by decide +kernel⟩
theorem bd_Sender_known_above_base : ∀ (kV doc pm : Value) (an : Option Addr) (cdv ct : Value) (us : List Value), us.length = (["self"] : List Str).length → bindArgs (PySem.W.fnOf "known_above_base" "Sender.known_above_base" (defArgs s_Sender_known_above_base) (defBody s_Sender_known_above_base) (defScope s_Sender_known_above_base) .none kV doc pm an cdv ct) ⟨us, []⟩ = pure ((["self"] : List Str).zip us) := by
  intro _ _ _ _ _ _ us hl; obtain ⟨_, rfl⟩ := len_1 hl; rfl
noncomputable abbrev s_Sender_under_way : Stmt := inClass (top 10) 9
theorem sc_Sender_under_way : FnScope ["self"] ["self"] (defScope s_Sender_under_way) := ⟨rfl, rfl, rfl, by decide +kernel, rfl, by decide +kernel, by decide +kernel⟩
theorem bd_Sender_under_way : ∀ (kV doc pm : Value) (an : Option Addr) (cdv ct : Value) (us : List Value), us.length = (["self"] : List Str).length → bindArgs (PySem.W.fnOf "under_way" "Sender.under_way" (defArgs s_Sender_under_way) (defBody s_Sender_under_way) (defScope s_Sender_under_way) .none kV doc pm an cdv ct) ⟨us, []⟩ = pure ((["self"] : List Str).zip us) := by
  intro _ _ _ _ _ _ us hl; obtain ⟨_, rfl⟩ := len_1 hl; rfl
noncomputable abbrev s_Sender_thing_waits : Stmt := inClass (top 10) 10
theorem sc_Sender_thing_waits : FnScope ["self"] ["self"] (defScope s_Sender_thing_waits) := ⟨rfl, rfl, rfl, by decide +kernel, rfl, by decide +kernel, by decide +kernel⟩
theorem bd_Sender_thing_waits : ∀ (kV doc pm : Value) (an : Option Addr) (cdv ct : Value) (us : List Value), us.length = (["self"] : List Str).length → bindArgs (PySem.W.fnOf "thing_waits" "Sender.thing_waits" (defArgs s_Sender_thing_waits) (defBody s_Sender_thing_waits) (defScope s_Sender_thing_waits) .none kV doc pm an cdv ct) ⟨us, []⟩ = pure ((["self"] : List Str).zip us) := by
  intro _ _ _ _ _ _ us hl; obtain ⟨_, rfl⟩ := len_1 hl; rfl
noncomputable abbrev s_Sender_clock_is_out : Stmt := inClass (top 10) 11
theorem sc_Sender_clock_is_out : FnScope ["self", "turn"] ["self", "turn"] (defScope s_Sender_clock_is_out) := ⟨rfl, rfl, rfl, by decide +kernel, rfl, by decide +kernel, by decide +kernel⟩
theorem bd_Sender_clock_is_out : ∀ (kV doc pm : Value) (an : Option Addr) (cdv ct : Value) (us : List Value), us.length = (["self", "turn"] : List Str).length → bindArgs (PySem.W.fnOf "clock_is_out" "Sender.clock_is_out" (defArgs s_Sender_clock_is_out) (defBody s_Sender_clock_is_out) (defScope s_Sender_clock_is_out) .none kV doc pm an cdv ct) ⟨us, []⟩ = pure ((["self", "turn"] : List Str).zip us) := by
  intro _ _ _ _ _ _ us hl; obtain ⟨_, _, rfl⟩ := len_2 hl; rfl
noncomputable abbrev s_Sender_hurry_is_due : Stmt := inClass (top 10) 12
theorem sc_Sender_hurry_is_due : FnScope ["self"] ["self"] (defScope s_Sender_hurry_is_due) := ⟨rfl, rfl, rfl, by decide +kernel, rfl, by decide +kernel, by decide +kernel⟩
theorem bd_Sender_hurry_is_due : ∀ (kV doc pm : Value) (an : Option Addr) (cdv ct : Value) (us : List Value), us.length = (["self"] : List Str).length → bindArgs (PySem.W.fnOf "hurry_is_due" "Sender.hurry_is_due" (defArgs s_Sender_hurry_is_due) (defBody s_Sender_hurry_is_due) (defScope s_Sender_hurry_is_due) .none kV doc pm an cdv ct) ⟨us, []⟩ = pure ((["self"] : List Str).zip us) := by
  intro _ _ _ _ _ _ us hl; obtain ⟨_, rfl⟩ := len_1 hl; rfl
noncomputable abbrev s_Sender_new_may_go : Stmt := inClass (top 10) 13
theorem sc_Sender_new_may_go : FnScope ["self"] ["self"] (defScope s_Sender_new_may_go) := ⟨rfl, rfl, rfl, by decide +kernel, rfl, by decide +kernel, by decide +kernel⟩
theorem bd_Sender_new_may_go : ∀ (kV doc pm : Value) (an : Option Addr) (cdv ct : Value) (us : List Value), us.length = (["self"] : List Str).length → bindArgs (PySem.W.fnOf "new_may_go" "Sender.new_may_go" (defArgs s_Sender_new_may_go) (defBody s_Sender_new_may_go) (defScope s_Sender_new_may_go) .none kV doc pm an cdv ct) ⟨us, []⟩ = pure ((["self"] : List Str).zip us) := by
  intro _ _ _ _ _ _ us hl; obtain ⟨_, rfl⟩ := len_1 hl; rfl
noncomputable abbrev s_Sender_go : Stmt := inClass (top 10) 14
theorem sc_Sender_go : FnScope ["self", "turn"] ["self", "turn"] (defScope s_Sender_go) := ⟨rfl, rfl, rfl, by decide +kernel, rfl, by decide +kernel, by decide +kernel⟩
theorem bd_Sender_go : ∀ (kV doc pm : Value) (an : Option Addr) (cdv ct : Value) (us : List Value), us.length = (["self", "turn"] : List Str).length → bindArgs (PySem.W.fnOf "go" "Sender.go" (defArgs s_Sender_go) (defBody s_Sender_go) (defScope s_Sender_go) .none kV doc pm an cdv ct) ⟨us, []⟩ = pure ((["self", "turn"] : List Str).zip us) := by
  intro _ _ _ _ _ _ us hl; obtain ⟨_, _, rfl⟩ := len_2 hl; rfl
noncomputable abbrev s_Sender_set_clock : Stmt := inClass (top 10) 15
theorem sc_Sender_set_clock : FnScope ["self", "turn"] ["self", "turn"] (defScope s_Sender_set_clock) := ⟨rfl, rfl, rfl, by decide +kernel, rfl, by decide +kernel, by decide +kernel⟩
theorem bd_Sender_set_clock : ∀ (kV doc pm : Value) (an : Option Addr) (cdv ct : Value) (us : List Value), us.length = (["self", "turn"] : List Str).length → bindArgs (PySem.W.fnOf "set_clock" "Sender.set_clock" (defArgs s_Sender_set_clock) (defBody s_Sender_set_clock) (defScope s_Sender_set_clock) .none kV doc pm an cdv ct) ⟨us, []⟩ = pure ((["self", "turn"] : List Str).zip us) := by
  intro _ _ _ _ _ _ us hl; obtain ⟨_, _, rfl⟩ := len_2 hl; rfl
noncomputable abbrev s_Sender_go_again : Stmt := inClass (top 10) 16
theorem sc_Sender_go_again : FnScope ["self", "turn"] ["self", "turn"] (defScope s_Sender_go_again) := ⟨rfl, rfl, rfl, by decide +kernel, rfl, by decide +kernel, by decide +kernel⟩
theorem bd_Sender_go_again : ∀ (kV doc pm : Value) (an : Option Addr) (cdv ct : Value) (us : List Value), us.length = (["self", "turn"] : List Str).length → bindArgs (PySem.W.fnOf "go_again" "Sender.go_again" (defArgs s_Sender_go_again) (defBody s_Sender_go_again) (defScope s_Sender_go_again) .none kV doc pm an cdv ct) ⟨us, []⟩ = pure ((["self", "turn"] : List Str).zip us) := by
  intro _ _ _ _ _ _ us hl; obtain ⟨_, _, rfl⟩ := len_2 hl; rfl
noncomputable abbrev s_Sender_go_new : Stmt := inClass (top 10) 17
theorem sc_Sender_go_new : FnScope ["self", "turn", "place"] ["self", "turn"] (defScope s_Sender_go_new) := ⟨rfl, rfl, rfl, by decide +kernel, rfl, by decide +kernel, by decide +kernel⟩
theorem bd_Sender_go_new : ∀ (kV doc pm : Value) (an : Option Addr) (cdv ct : Value) (us : List Value), us.length = (["self", "turn"] : List Str).length → bindArgs (PySem.W.fnOf "go_new" "Sender.go_new" (defArgs s_Sender_go_new) (defBody s_Sender_go_new) (defScope s_Sender_go_new) .none kV doc pm an cdv ct) ⟨us, []⟩ = pure ((["self", "turn"] : List Str).zip us) := by
  intro _ _ _ _ _ _ us hl; obtain ⟨_, _, rfl⟩ := len_2 hl; rfl
noncomputable abbrev s_Sender_ask_for_room : Stmt := inClass (top 10) 18
theorem sc_Sender_ask_for_room : FnScope ["self", "turn"] ["self", "turn"] (defScope s_Sender_ask_for_room) := ⟨rfl, rfl, rfl, by decide +kernel, rfl, by decide +kernel, by decide +kernel⟩
theorem bd_Sender_ask_for_room : ∀ (kV doc pm : Value) (an : Option Addr) (cdv ct : Value) (us : List Value), us.length = (["self", "turn"] : List Str).length → bindArgs (PySem.W.fnOf "ask_for_room" "Sender.ask_for_room" (defArgs s_Sender_ask_for_room) (defBody s_Sender_ask_for_room) (defScope s_Sender_ask_for_room) .none kV doc pm an cdv ct) ⟨us, []⟩ = pure ((["self", "turn"] : List Str).zip us) := by
  intro _ _ _ _ _ _ us hl; obtain ⟨_, _, rfl⟩ := len_2 hl; rfl
noncomputable abbrev s__law_whole : Stmt := top 12
theorem sc__law_whole : FnScope ["_law_found"] ["_law_found"] (defScope s__law_whole) := ⟨rfl, rfl, rfl, by decide +kernel, rfl, by decide +kernel, by decide +kernel⟩
theorem bd__law_whole : ∀ (kV doc pm : Value) (an : Option Addr) (cdv ct : Value) (us : List Value), us.length = (["_law_found"] : List Str).length → bindArgs (PySem.W.fnOf "_law_whole" "_law_whole" (defArgs s__law_whole) (defBody s__law_whole) (defScope s__law_whole) .none kV doc pm an cdv ct) ⟨us, []⟩ = pure ((["_law_found"] : List Str).zip us) := by
  intro _ _ _ _ _ _ us hl; obtain ⟨_, rfl⟩ := len_1 hl; rfl
noncomputable abbrev s__law_cell_at : Stmt := top 13
theorem sc__law_cell_at : FnScope ["_law_script", "_law_k"] ["_law_script", "_law_k"] (defScope s__law_cell_at) := ⟨rfl, rfl, rfl, by decide +kernel, rfl, by decide +kernel, by decide +kernel⟩
theorem bd__law_cell_at : ∀ (kV doc pm : Value) (an : Option Addr) (cdv ct : Value) (us : List Value), us.length = (["_law_script", "_law_k"] : List Str).length → bindArgs (PySem.W.fnOf "_law_cell_at" "_law_cell_at" (defArgs s__law_cell_at) (defBody s__law_cell_at) (defScope s__law_cell_at) .none kV doc pm an cdv ct) ⟨us, []⟩ = pure ((["_law_script", "_law_k"] : List Str).zip us) := by
  intro _ _ _ _ _ _ us hl; obtain ⟨_, _, rfl⟩ := len_2 hl; rfl
noncomputable abbrev s__law_ring : Stmt := top 14
theorem sc__law_ring : FnScope ["_law_cell"] ["_law_cell"] (defScope s__law_ring) := ⟨rfl, rfl, rfl, by decide +kernel, rfl, by decide +kernel, by decide +kernel⟩
theorem bd__law_ring : ∀ (kV doc pm : Value) (an : Option Addr) (cdv ct : Value) (us : List Value), us.length = (["_law_cell"] : List Str).length → bindArgs (PySem.W.fnOf "_law_ring" "_law_ring" (defArgs s__law_ring) (defBody s__law_ring) (defScope s__law_ring) .none kV doc pm an cdv ct) ⟨us, []⟩ = pure ((["_law_cell"] : List Str).zip us) := by
  intro _ _ _ _ _ _ us hl; obtain ⟨_, rfl⟩ := len_1 hl; rfl
noncomputable abbrev s__law_thing : Stmt := top 15
theorem sc__law_thing : FnScope ["_law_cell", "_law_k"] ["_law_cell", "_law_k"] (defScope s__law_thing) := ⟨rfl, rfl, rfl, by decide +kernel, rfl, by decide +kernel, by decide +kernel⟩
theorem bd__law_thing : ∀ (kV doc pm : Value) (an : Option Addr) (cdv ct : Value) (us : List Value), us.length = (["_law_cell", "_law_k"] : List Str).length → bindArgs (PySem.W.fnOf "_law_thing" "_law_thing" (defArgs s__law_thing) (defBody s__law_thing) (defScope s__law_thing) .none kV doc pm an cdv ct) ⟨us, []⟩ = pure ((["_law_cell", "_law_k"] : List Str).zip us) := by
  intro _ _ _ _ _ _ us hl; obtain ⟨_, _, rfl⟩ := len_2 hl; rfl
noncomputable abbrev s__law_stands : Stmt := top 16
theorem sc__law_stands : FnScope ["_law_sender", "_law_base", "_law_top", "_law_edge", "_law_many", "_law_number"] ["_law_sender", "_law_base", "_law_top", "_law_edge", "_law_many"] (defScope s__law_stands) := ⟨rfl, rfl, rfl, by decide +kernel, rfl, by decide +kernel, by decide +kernel⟩
theorem bd__law_stands : ∀ (kV doc pm : Value) (an : Option Addr) (cdv ct : Value) (us : List Value), us.length = (["_law_sender", "_law_base", "_law_top", "_law_edge", "_law_many"] : List Str).length → bindArgs (PySem.W.fnOf "_law_stands" "_law_stands" (defArgs s__law_stands) (defBody s__law_stands) (defScope s__law_stands) .none kV doc pm an cdv ct) ⟨us, []⟩ = pure ((["_law_sender", "_law_base", "_law_top", "_law_edge", "_law_many"] : List Str).zip us) := by
  intro _ _ _ _ _ _ us hl; obtain ⟨_, _, _, _, _, rfl⟩ := len_5 hl; rfl
noncomputable abbrev s__law_heard : Stmt := top 17
theorem sc__law_heard : FnScope ["_law_sender", "_law_number", "_law_room", "_law_turn", "_law_due", "_law_found", "_law_good"] ["_law_sender", "_law_number", "_law_room", "_law_turn", "_law_due"] (defScope s__law_heard) := ⟨rfl, rfl, rfl, by decide +kernel, rfl, by decide +kernel, by decide +kernel⟩
theorem bd__law_heard : ∀ (kV doc pm : Value) (an : Option Addr) (cdv ct : Value) (us : List Value), us.length = (["_law_sender", "_law_number", "_law_room", "_law_turn", "_law_due"] : List Str).length → bindArgs (PySem.W.fnOf "_law_heard" "_law_heard" (defArgs s__law_heard) (defBody s__law_heard) (defScope s__law_heard) .none kV doc pm an cdv ct) ⟨us, []⟩ = pure ((["_law_sender", "_law_number", "_law_room", "_law_turn", "_law_due"] : List Str).zip us) := by
  intro _ _ _ _ _ _ us hl; obtain ⟨_, _, _, _, _, rfl⟩ := len_5 hl; rfl
noncomputable abbrev s_law : Stmt := top 18
theorem sc_law : FnScope ["_law_script", "_law_ring_here", "_law_first", "_law_longest", "_law_sender", "_law_turn", "_law_things", "_law_edge", "_law_cell", "_law_place", "_law_room", "_law_again"] ["_law_script"] (defScope s_law) := ⟨rfl, rfl, rfl, by decide +kernel, rfl, by decide +kernel, by decide +kernel⟩
theorem bd_law : ∀ (kV doc pm : Value) (an : Option Addr) (cdv ct : Value) (us : List Value), us.length = (["_law_script"] : List Str).length → bindArgs (PySem.W.fnOf "law" "law" (defArgs s_law) (defBody s_law) (defScope s_law) .none kV doc pm an cdv ct) ⟨us, []⟩ = pure ((["_law_script"] : List Str).zip us) := by
  intro _ _ _ _ _ _ us hl; obtain ⟨_, rfl⟩ := len_1 hl; rfl
noncomputable def fl_Meter_1 (v0 : V) : List (Str × V) := [("most", v0)]
theorem fl_Meter_1_len {v0 : V} : (fl_Meter_1 v0).length < 1000 := by show 1 < 1000; decide
theorem fl_Meter_1_new {v0 : V} : putF "most" v0 [] = fl_Meter_1 v0 := by kernel_rfl
noncomputable def fl_Meter_2 (v0 v1 : V) : List (Str × V) := [("most", v0), ("window", v1)]
theorem fl_Meter_2_len {v0 v1 : V} : (fl_Meter_2 v0 v1).length < 1000 := by show 2 < 1000; decide
theorem fl_Meter_2_new {v0 v1 : V} : putF "window" v1 (fl_Meter_1 v0) = fl_Meter_2 v0 v1 := by kernel_rfl
noncomputable def fl_Meter_3 (v0 v1 v2 : V) : List (Str × V) := [("most", v0), ("window", v1), ("knee", v2)]
theorem fl_Meter_3_len {v0 v1 v2 : V} : (fl_Meter_3 v0 v1 v2).length < 1000 := by show 3 < 1000; decide
theorem fl_Meter_3_new {v0 v1 v2 : V} : putF "knee" v2 (fl_Meter_2 v0 v1) = fl_Meter_3 v0 v1 v2 := by kernel_rfl
noncomputable def fl_Meter (v0 v1 v2 v3 : V) : List (Str × V) := [("most", v0), ("window", v1), ("knee", v2), ("counted", v3)]
theorem fl_Meter_len {v0 v1 v2 v3 : V} : (fl_Meter v0 v1 v2 v3).length < 1000 := by show 4 < 1000; decide
theorem fl_Meter_new {v0 v1 v2 v3 : V} : putF "counted" v3 (fl_Meter_3 v0 v1 v2) = fl_Meter v0 v1 v2 v3 := by kernel_rfl
theorem fl_Meter_get_most {v0 v1 v2 v3 : V} : (fl_Meter v0 v1 v2 v3).lookup ("most" : Str) = some v0 := by kernel_rfl
theorem fl_Meter_get_window {v0 v1 v2 v3 : V} : (fl_Meter v0 v1 v2 v3).lookup ("window" : Str) = some v1 := by kernel_rfl
theorem fl_Meter_get_knee {v0 v1 v2 v3 : V} : (fl_Meter v0 v1 v2 v3).lookup ("knee" : Str) = some v2 := by kernel_rfl
theorem fl_Meter_get_counted {v0 v1 v2 v3 : V} : (fl_Meter v0 v1 v2 v3).lookup ("counted" : Str) = some v3 := by kernel_rfl
theorem fl_Meter_put_window {x v0 v1 v2 v3 : V} : putF "window" x (fl_Meter v0 v1 v2 v3) = fl_Meter v0 x v2 v3 := by kernel_rfl
theorem fl_Meter_put_knee {x v0 v1 v2 v3 : V} : putF "knee" x (fl_Meter v0 v1 v2 v3) = fl_Meter v0 v1 x v3 := by kernel_rfl
theorem fl_Meter_put_counted {x v0 v1 v2 v3 : V} : putF "counted" x (fl_Meter v0 v1 v2 v3) = fl_Meter v0 v1 v2 x := by kernel_rfl
theorem fl_Meter_no_known {v0 v1 v2 v3 : V} : (fl_Meter v0 v1 v2 v3).lookup ("known" : Str) = none := by kernel_rfl
theorem fl_Meter_no_know_one {v0 v1 v2 v3 : V} : (fl_Meter v0 v1 v2 v3).lookup ("know_one" : Str) = none := by kernel_rfl
theorem fl_Meter_no_half {v0 v1 v2 v3 : V} : (fl_Meter v0 v1 v2 v3).lookup ("half" : Str) = none := by kernel_rfl
noncomputable def fl_Ways_1 (v0 : V) : List (Str × V) := [("longest", v0)]
theorem fl_Ways_1_len {v0 : V} : (fl_Ways_1 v0).length < 1000 := by show 1 < 1000; decide
theorem fl_Ways_1_new {v0 : V} : putF "longest" v0 [] = fl_Ways_1 v0 := by kernel_rfl
noncomputable def fl_Ways_2 (v0 v1 : V) : List (Str × V) := [("longest", v0), ("smooth", v1)]
theorem fl_Ways_2_len {v0 v1 : V} : (fl_Ways_2 v0 v1).length < 1000 := by show 2 < 1000; decide
theorem fl_Ways_2_new {v0 v1 : V} : putF "smooth" v1 (fl_Ways_1 v0) = fl_Ways_2 v0 v1 := by kernel_rfl
noncomputable def fl_Ways_3 (v0 v1 v2 : V) : List (Str × V) := [("longest", v0), ("smooth", v1), ("spread", v2)]
theorem fl_Ways_3_len {v0 v1 v2 : V} : (fl_Ways_3 v0 v1 v2).length < 1000 := by show 3 < 1000; decide
theorem fl_Ways_3_new {v0 v1 v2 : V} : putF "spread" v2 (fl_Ways_2 v0 v1) = fl_Ways_3 v0 v1 v2 := by kernel_rfl
noncomputable def fl_Ways (v0 v1 v2 v3 : V) : List (Str × V) := [("longest", v0), ("smooth", v1), ("spread", v2), ("wait", v3)]
theorem fl_Ways_len {v0 v1 v2 v3 : V} : (fl_Ways v0 v1 v2 v3).length < 1000 := by show 4 < 1000; decide
theorem fl_Ways_new {v0 v1 v2 v3 : V} : putF "wait" v3 (fl_Ways_3 v0 v1 v2) = fl_Ways v0 v1 v2 v3 := by kernel_rfl
theorem fl_Ways_get_longest {v0 v1 v2 v3 : V} : (fl_Ways v0 v1 v2 v3).lookup ("longest" : Str) = some v0 := by kernel_rfl
theorem fl_Ways_get_smooth {v0 v1 v2 v3 : V} : (fl_Ways v0 v1 v2 v3).lookup ("smooth" : Str) = some v1 := by kernel_rfl
theorem fl_Ways_get_spread {v0 v1 v2 v3 : V} : (fl_Ways v0 v1 v2 v3).lookup ("spread" : Str) = some v2 := by kernel_rfl
theorem fl_Ways_get_wait {v0 v1 v2 v3 : V} : (fl_Ways v0 v1 v2 v3).lookup ("wait" : Str) = some v3 := by kernel_rfl
theorem fl_Ways_put_smooth {x v0 v1 v2 v3 : V} : putF "smooth" x (fl_Ways v0 v1 v2 v3) = fl_Ways v0 x v2 v3 := by kernel_rfl
theorem fl_Ways_put_spread {x v0 v1 v2 v3 : V} : putF "spread" x (fl_Ways v0 v1 v2 v3) = fl_Ways v0 v1 x v3 := by kernel_rfl
theorem fl_Ways_put_wait {x v0 v1 v2 v3 : V} : putF "wait" x (fl_Ways v0 v1 v2 v3) = fl_Ways v0 v1 v2 x := by kernel_rfl
theorem fl_Ways_no_measured {v0 v1 v2 v3 : V} : (fl_Ways v0 v1 v2 v3).lookup ("measured" : Str) = none := by kernel_rfl
theorem fl_Ways_no_next_spread {v0 v1 v2 v3 : V} : (fl_Ways v0 v1 v2 v3).lookup ("next_spread" : Str) = none := by kernel_rfl
theorem fl_Ways_no_next_smooth {v0 v1 v2 v3 : V} : (fl_Ways v0 v1 v2 v3).lookup ("next_smooth" : Str) = none := by kernel_rfl
theorem fl_Ways_no_least_wait {v0 v1 v2 v3 : V} : (fl_Ways v0 v1 v2 v3).lookup ("least_wait" : Str) = none := by kernel_rfl
noncomputable def fl_Sender_1 (v0 : V) : List (Str × V) := [("ring", v0)]
theorem fl_Sender_1_len {v0 : V} : (fl_Sender_1 v0).length < 1000 := by show 1 < 1000; decide
theorem fl_Sender_1_new {v0 : V} : putF "ring" v0 [] = fl_Sender_1 v0 := by kernel_rfl
noncomputable def fl_Sender_2 (v0 v1 : V) : List (Str × V) := [("ring", v0), ("ways", v1)]
theorem fl_Sender_2_len {v0 v1 : V} : (fl_Sender_2 v0 v1).length < 1000 := by show 2 < 1000; decide
theorem fl_Sender_2_new {v0 v1 : V} : putF "ways" v1 (fl_Sender_1 v0) = fl_Sender_2 v0 v1 := by kernel_rfl
noncomputable def fl_Sender_3 (v0 v1 v2 : V) : List (Str × V) := [("ring", v0), ("ways", v1), ("meter", v2)]
theorem fl_Sender_3_len {v0 v1 v2 : V} : (fl_Sender_3 v0 v1 v2).length < 1000 := by show 3 < 1000; decide
theorem fl_Sender_3_new {v0 v1 v2 : V} : putF "meter" v2 (fl_Sender_2 v0 v1) = fl_Sender_3 v0 v1 v2 := by kernel_rfl
noncomputable def fl_Sender_4 (v0 v1 v2 v3 : V) : List (Str × V) := [("ring", v0), ("ways", v1), ("meter", v2), ("things", v3)]
theorem fl_Sender_4_len {v0 v1 v2 v3 : V} : (fl_Sender_4 v0 v1 v2 v3).length < 1000 := by show 4 < 1000; decide
theorem fl_Sender_4_new {v0 v1 v2 v3 : V} : putF "things" v3 (fl_Sender_3 v0 v1 v2) = fl_Sender_4 v0 v1 v2 v3 := by kernel_rfl
noncomputable def fl_Sender_5 (v0 v1 v2 v3 v4 : V) : List (Str × V) := [("ring", v0), ("ways", v1), ("meter", v2), ("things", v3), ("base", v4)]
theorem fl_Sender_5_len {v0 v1 v2 v3 v4 : V} : (fl_Sender_5 v0 v1 v2 v3 v4).length < 1000 := by show 5 < 1000; decide
theorem fl_Sender_5_new {v0 v1 v2 v3 v4 : V} : putF "base" v4 (fl_Sender_4 v0 v1 v2 v3) = fl_Sender_5 v0 v1 v2 v3 v4 := by kernel_rfl
noncomputable def fl_Sender_6 (v0 v1 v2 v3 v4 v5 : V) : List (Str × V) := [("ring", v0), ("ways", v1), ("meter", v2), ("things", v3), ("base", v4), ("top", v5)]
theorem fl_Sender_6_len {v0 v1 v2 v3 v4 v5 : V} : (fl_Sender_6 v0 v1 v2 v3 v4 v5).length < 1000 := by show 6 < 1000; decide
theorem fl_Sender_6_new {v0 v1 v2 v3 v4 v5 : V} : putF "top" v5 (fl_Sender_5 v0 v1 v2 v3 v4) = fl_Sender_6 v0 v1 v2 v3 v4 v5 := by kernel_rfl
noncomputable def fl_Sender_7 (v0 v1 v2 v3 v4 v5 v6 : V) : List (Str × V) := [("ring", v0), ("ways", v1), ("meter", v2), ("things", v3), ("base", v4), ("top", v5), ("edge", v6)]
theorem fl_Sender_7_len {v0 v1 v2 v3 v4 v5 v6 : V} : (fl_Sender_7 v0 v1 v2 v3 v4 v5 v6).length < 1000 := by show 7 < 1000; decide
theorem fl_Sender_7_new {v0 v1 v2 v3 v4 v5 v6 : V} : putF "edge" v6 (fl_Sender_6 v0 v1 v2 v3 v4 v5) = fl_Sender_7 v0 v1 v2 v3 v4 v5 v6 := by kernel_rfl
noncomputable def fl_Sender_8 (v0 v1 v2 v3 v4 v5 v6 v7 : V) : List (Str × V) := [("ring", v0), ("ways", v1), ("meter", v2), ("things", v3), ("base", v4), ("top", v5), ("edge", v6), ("clock", v7)]
theorem fl_Sender_8_len {v0 v1 v2 v3 v4 v5 v6 v7 : V} : (fl_Sender_8 v0 v1 v2 v3 v4 v5 v6 v7).length < 1000 := by show 8 < 1000; decide
theorem fl_Sender_8_new {v0 v1 v2 v3 v4 v5 v6 v7 : V} : putF "clock" v7 (fl_Sender_7 v0 v1 v2 v3 v4 v5 v6) = fl_Sender_8 v0 v1 v2 v3 v4 v5 v6 v7 := by kernel_rfl
noncomputable def fl_Sender_9 (v0 v1 v2 v3 v4 v5 v6 v7 v8 : V) : List (Str × V) := [("ring", v0), ("ways", v1), ("meter", v2), ("things", v3), ("base", v4), ("top", v5), ("edge", v6), ("clock", v7), ("base_hurried", v8)]
theorem fl_Sender_9_len {v0 v1 v2 v3 v4 v5 v6 v7 v8 : V} : (fl_Sender_9 v0 v1 v2 v3 v4 v5 v6 v7 v8).length < 1000 := by show 9 < 1000; decide
theorem fl_Sender_9_new {v0 v1 v2 v3 v4 v5 v6 v7 v8 : V} : putF "base_hurried" v8 (fl_Sender_8 v0 v1 v2 v3 v4 v5 v6 v7) = fl_Sender_9 v0 v1 v2 v3 v4 v5 v6 v7 v8 := by kernel_rfl
noncomputable def fl_Sender_10 (v0 v1 v2 v3 v4 v5 v6 v7 v8 v9 : V) : List (Str × V) := [("ring", v0), ("ways", v1), ("meter", v2), ("things", v3), ("base", v4), ("top", v5), ("edge", v6), ("clock", v7), ("base_hurried", v8), ("known_places", v9)]
theorem fl_Sender_10_len {v0 v1 v2 v3 v4 v5 v6 v7 v8 v9 : V} : (fl_Sender_10 v0 v1 v2 v3 v4 v5 v6 v7 v8 v9).length < 1000 := by show 10 < 1000; decide
theorem fl_Sender_10_new {v0 v1 v2 v3 v4 v5 v6 v7 v8 v9 : V} : putF "known_places" v9 (fl_Sender_9 v0 v1 v2 v3 v4 v5 v6 v7 v8) = fl_Sender_10 v0 v1 v2 v3 v4 v5 v6 v7 v8 v9 := by kernel_rfl
noncomputable def fl_Sender_11 (v0 v1 v2 v3 v4 v5 v6 v7 v8 v9 v10 : V) : List (Str × V) := [("ring", v0), ("ways", v1), ("meter", v2), ("things", v3), ("base", v4), ("top", v5), ("edge", v6), ("clock", v7), ("base_hurried", v8), ("known_places", v9), ("first_turns", v10)]
theorem fl_Sender_11_len {v0 v1 v2 v3 v4 v5 v6 v7 v8 v9 v10 : V} : (fl_Sender_11 v0 v1 v2 v3 v4 v5 v6 v7 v8 v9 v10).length < 1000 := by show 11 < 1000; decide
theorem fl_Sender_11_new {v0 v1 v2 v3 v4 v5 v6 v7 v8 v9 v10 : V} : putF "first_turns" v10 (fl_Sender_10 v0 v1 v2 v3 v4 v5 v6 v7 v8 v9) = fl_Sender_11 v0 v1 v2 v3 v4 v5 v6 v7 v8 v9 v10 := by kernel_rfl
noncomputable def fl_Sender (v0 v1 v2 v3 v4 v5 v6 v7 v8 v9 v10 v11 : V) : List (Str × V) := [("ring", v0), ("ways", v1), ("meter", v2), ("things", v3), ("base", v4), ("top", v5), ("edge", v6), ("clock", v7), ("base_hurried", v8), ("known_places", v9), ("first_turns", v10), ("gone_again", v11)]
theorem fl_Sender_len {v0 v1 v2 v3 v4 v5 v6 v7 v8 v9 v10 v11 : V} : (fl_Sender v0 v1 v2 v3 v4 v5 v6 v7 v8 v9 v10 v11).length < 1000 := by show 12 < 1000; decide
theorem fl_Sender_new {v0 v1 v2 v3 v4 v5 v6 v7 v8 v9 v10 v11 : V} : putF "gone_again" v11 (fl_Sender_11 v0 v1 v2 v3 v4 v5 v6 v7 v8 v9 v10) = fl_Sender v0 v1 v2 v3 v4 v5 v6 v7 v8 v9 v10 v11 := by kernel_rfl
theorem fl_Sender_get_ring {v0 v1 v2 v3 v4 v5 v6 v7 v8 v9 v10 v11 : V} : (fl_Sender v0 v1 v2 v3 v4 v5 v6 v7 v8 v9 v10 v11).lookup ("ring" : Str) = some v0 := by kernel_rfl
theorem fl_Sender_get_ways {v0 v1 v2 v3 v4 v5 v6 v7 v8 v9 v10 v11 : V} : (fl_Sender v0 v1 v2 v3 v4 v5 v6 v7 v8 v9 v10 v11).lookup ("ways" : Str) = some v1 := by kernel_rfl
theorem fl_Sender_get_meter {v0 v1 v2 v3 v4 v5 v6 v7 v8 v9 v10 v11 : V} : (fl_Sender v0 v1 v2 v3 v4 v5 v6 v7 v8 v9 v10 v11).lookup ("meter" : Str) = some v2 := by kernel_rfl
theorem fl_Sender_get_things {v0 v1 v2 v3 v4 v5 v6 v7 v8 v9 v10 v11 : V} : (fl_Sender v0 v1 v2 v3 v4 v5 v6 v7 v8 v9 v10 v11).lookup ("things" : Str) = some v3 := by kernel_rfl
theorem fl_Sender_get_base {v0 v1 v2 v3 v4 v5 v6 v7 v8 v9 v10 v11 : V} : (fl_Sender v0 v1 v2 v3 v4 v5 v6 v7 v8 v9 v10 v11).lookup ("base" : Str) = some v4 := by kernel_rfl
theorem fl_Sender_get_top {v0 v1 v2 v3 v4 v5 v6 v7 v8 v9 v10 v11 : V} : (fl_Sender v0 v1 v2 v3 v4 v5 v6 v7 v8 v9 v10 v11).lookup ("top" : Str) = some v5 := by kernel_rfl
theorem fl_Sender_get_edge {v0 v1 v2 v3 v4 v5 v6 v7 v8 v9 v10 v11 : V} : (fl_Sender v0 v1 v2 v3 v4 v5 v6 v7 v8 v9 v10 v11).lookup ("edge" : Str) = some v6 := by kernel_rfl
theorem fl_Sender_get_clock {v0 v1 v2 v3 v4 v5 v6 v7 v8 v9 v10 v11 : V} : (fl_Sender v0 v1 v2 v3 v4 v5 v6 v7 v8 v9 v10 v11).lookup ("clock" : Str) = some v7 := by kernel_rfl
theorem fl_Sender_get_base_hurried {v0 v1 v2 v3 v4 v5 v6 v7 v8 v9 v10 v11 : V} : (fl_Sender v0 v1 v2 v3 v4 v5 v6 v7 v8 v9 v10 v11).lookup ("base_hurried" : Str) = some v8 := by kernel_rfl
theorem fl_Sender_get_known_places {v0 v1 v2 v3 v4 v5 v6 v7 v8 v9 v10 v11 : V} : (fl_Sender v0 v1 v2 v3 v4 v5 v6 v7 v8 v9 v10 v11).lookup ("known_places" : Str) = some v9 := by kernel_rfl
theorem fl_Sender_get_first_turns {v0 v1 v2 v3 v4 v5 v6 v7 v8 v9 v10 v11 : V} : (fl_Sender v0 v1 v2 v3 v4 v5 v6 v7 v8 v9 v10 v11).lookup ("first_turns" : Str) = some v10 := by kernel_rfl
theorem fl_Sender_get_gone_again {v0 v1 v2 v3 v4 v5 v6 v7 v8 v9 v10 v11 : V} : (fl_Sender v0 v1 v2 v3 v4 v5 v6 v7 v8 v9 v10 v11).lookup ("gone_again" : Str) = some v11 := by kernel_rfl
theorem fl_Sender_put_base {x v0 v1 v2 v3 v4 v5 v6 v7 v8 v9 v10 v11 : V} : putF "base" x (fl_Sender v0 v1 v2 v3 v4 v5 v6 v7 v8 v9 v10 v11) = fl_Sender v0 v1 v2 v3 x v5 v6 v7 v8 v9 v10 v11 := by kernel_rfl
theorem fl_Sender_put_top {x v0 v1 v2 v3 v4 v5 v6 v7 v8 v9 v10 v11 : V} : putF "top" x (fl_Sender v0 v1 v2 v3 v4 v5 v6 v7 v8 v9 v10 v11) = fl_Sender v0 v1 v2 v3 v4 x v6 v7 v8 v9 v10 v11 := by kernel_rfl
theorem fl_Sender_put_edge {x v0 v1 v2 v3 v4 v5 v6 v7 v8 v9 v10 v11 : V} : putF "edge" x (fl_Sender v0 v1 v2 v3 v4 v5 v6 v7 v8 v9 v10 v11) = fl_Sender v0 v1 v2 v3 v4 v5 x v7 v8 v9 v10 v11 := by kernel_rfl
theorem fl_Sender_put_clock {x v0 v1 v2 v3 v4 v5 v6 v7 v8 v9 v10 v11 : V} : putF "clock" x (fl_Sender v0 v1 v2 v3 v4 v5 v6 v7 v8 v9 v10 v11) = fl_Sender v0 v1 v2 v3 v4 v5 v6 x v8 v9 v10 v11 := by kernel_rfl
theorem fl_Sender_put_base_hurried {x v0 v1 v2 v3 v4 v5 v6 v7 v8 v9 v10 v11 : V} : putF "base_hurried" x (fl_Sender v0 v1 v2 v3 v4 v5 v6 v7 v8 v9 v10 v11) = fl_Sender v0 v1 v2 v3 v4 v5 v6 v7 x v9 v10 v11 := by kernel_rfl
theorem fl_Sender_no_put {v0 v1 v2 v3 v4 v5 v6 v7 v8 v9 v10 v11 : V} : (fl_Sender v0 v1 v2 v3 v4 v5 v6 v7 v8 v9 v10 v11).lookup ("put" : Str) = none := by kernel_rfl
theorem fl_Sender_no_many {v0 v1 v2 v3 v4 v5 v6 v7 v8 v9 v10 v11 : V} : (fl_Sender v0 v1 v2 v3 v4 v5 v6 v7 v8 v9 v10 v11).lookup ("many" : Str) = none := by kernel_rfl
theorem fl_Sender_no_thing {v0 v1 v2 v3 v4 v5 v6 v7 v8 v9 v10 v11 : V} : (fl_Sender v0 v1 v2 v3 v4 v5 v6 v7 v8 v9 v10 v11).lookup ("thing" : Str) = none := by kernel_rfl
theorem fl_Sender_no_heard {v0 v1 v2 v3 v4 v5 v6 v7 v8 v9 v10 v11 : V} : (fl_Sender v0 v1 v2 v3 v4 v5 v6 v7 v8 v9 v10 v11).lookup ("heard" : Str) = none := by kernel_rfl
theorem fl_Sender_no_grow_base {v0 v1 v2 v3 v4 v5 v6 v7 v8 v9 v10 v11 : V} : (fl_Sender v0 v1 v2 v3 v4 v5 v6 v7 v8 v9 v10 v11).lookup ("grow_base" : Str) = none := by kernel_rfl
theorem fl_Sender_no_note_held {v0 v1 v2 v3 v4 v5 v6 v7 v8 v9 v10 v11 : V} : (fl_Sender v0 v1 v2 v3 v4 v5 v6 v7 v8 v9 v10 v11).lookup ("note_held" : Str) = none := by kernel_rfl
theorem fl_Sender_no_newly_known {v0 v1 v2 v3 v4 v5 v6 v7 v8 v9 v10 v11 : V} : (fl_Sender v0 v1 v2 v3 v4 v5 v6 v7 v8 v9 v10 v11).lookup ("newly_known" : Str) = none := by kernel_rfl
theorem fl_Sender_no_known_above_base {v0 v1 v2 v3 v4 v5 v6 v7 v8 v9 v10 v11 : V} : (fl_Sender v0 v1 v2 v3 v4 v5 v6 v7 v8 v9 v10 v11).lookup ("known_above_base" : Str) = none := by kernel_rfl
theorem fl_Sender_no_under_way {v0 v1 v2 v3 v4 v5 v6 v7 v8 v9 v10 v11 : V} : (fl_Sender v0 v1 v2 v3 v4 v5 v6 v7 v8 v9 v10 v11).lookup ("under_way" : Str) = none := by kernel_rfl
theorem fl_Sender_no_thing_waits {v0 v1 v2 v3 v4 v5 v6 v7 v8 v9 v10 v11 : V} : (fl_Sender v0 v1 v2 v3 v4 v5 v6 v7 v8 v9 v10 v11).lookup ("thing_waits" : Str) = none := by kernel_rfl
theorem fl_Sender_no_clock_is_out {v0 v1 v2 v3 v4 v5 v6 v7 v8 v9 v10 v11 : V} : (fl_Sender v0 v1 v2 v3 v4 v5 v6 v7 v8 v9 v10 v11).lookup ("clock_is_out" : Str) = none := by kernel_rfl
theorem fl_Sender_no_hurry_is_due {v0 v1 v2 v3 v4 v5 v6 v7 v8 v9 v10 v11 : V} : (fl_Sender v0 v1 v2 v3 v4 v5 v6 v7 v8 v9 v10 v11).lookup ("hurry_is_due" : Str) = none := by kernel_rfl
theorem fl_Sender_no_new_may_go {v0 v1 v2 v3 v4 v5 v6 v7 v8 v9 v10 v11 : V} : (fl_Sender v0 v1 v2 v3 v4 v5 v6 v7 v8 v9 v10 v11).lookup ("new_may_go" : Str) = none := by kernel_rfl
theorem fl_Sender_no_go {v0 v1 v2 v3 v4 v5 v6 v7 v8 v9 v10 v11 : V} : (fl_Sender v0 v1 v2 v3 v4 v5 v6 v7 v8 v9 v10 v11).lookup ("go" : Str) = none := by kernel_rfl
theorem fl_Sender_no_set_clock {v0 v1 v2 v3 v4 v5 v6 v7 v8 v9 v10 v11 : V} : (fl_Sender v0 v1 v2 v3 v4 v5 v6 v7 v8 v9 v10 v11).lookup ("set_clock" : Str) = none := by kernel_rfl
theorem fl_Sender_no_go_new {v0 v1 v2 v3 v4 v5 v6 v7 v8 v9 v10 v11 : V} : (fl_Sender v0 v1 v2 v3 v4 v5 v6 v7 v8 v9 v10 v11).lookup ("go_new" : Str) = none := by kernel_rfl
theorem fl_Sender_no_ask_for_room {v0 v1 v2 v3 v4 v5 v6 v7 v8 v9 v10 v11 : V} : (fl_Sender v0 v1 v2 v3 v4 v5 v6 v7 v8 v9 v10 v11).lookup ("ask_for_room" : Str) = none := by kernel_rfl
structure Txt (K : PySem.W.Frag) (mg : Str → Option Value) (C_Meter C_Ways C_Sender : Addr) : Prop where
  k_Meter : KlsAt K mg "Meter" C_Meter
  n_Meter_most : NoAttr K C_Meter "most"
  n_Meter_window : NoAttr K C_Meter "window"
  n_Meter_knee : NoAttr K C_Meter "knee"
  n_Meter_counted : NoAttr K C_Meter "counted"
  k_Ways : KlsAt K mg "Ways" C_Ways
  n_Ways_longest : NoAttr K C_Ways "longest"
  n_Ways_smooth : NoAttr K C_Ways "smooth"
  n_Ways_spread : NoAttr K C_Ways "spread"
  n_Ways_wait : NoAttr K C_Ways "wait"
  k_Sender : KlsAt K mg "Sender" C_Sender
  n_Sender_ring : NoAttr K C_Sender "ring"
  n_Sender_ways : NoAttr K C_Sender "ways"
  n_Sender_meter : NoAttr K C_Sender "meter"
  n_Sender_things : NoAttr K C_Sender "things"
  n_Sender_base : NoAttr K C_Sender "base"
  n_Sender_top : NoAttr K C_Sender "top"
  n_Sender_edge : NoAttr K C_Sender "edge"
  n_Sender_clock : NoAttr K C_Sender "clock"
  n_Sender_base_hurried : NoAttr K C_Sender "base_hurried"
  n_Sender_known_places : NoAttr K C_Sender "known_places"
  n_Sender_first_turns : NoAttr K C_Sender "first_turns"
  n_Sender_gone_again : NoAttr K C_Sender "gone_again"
  d_Meter___init__ : MethAt K C_Meter "__init__" "Meter.__init__" s_Meter___init__
  d_Meter_known : MethAt K C_Meter "known" "Meter.known" s_Meter_known
  d_Meter_know_one : MethAt K C_Meter "know_one" "Meter.know_one" s_Meter_know_one
  d_Meter_half : MethAt K C_Meter "half" "Meter.half" s_Meter_half
  d_Meter_ran_out : MethAt K C_Meter "ran_out" "Meter.ran_out" s_Meter_ran_out
  d_Meter_hurried : MethAt K C_Meter "hurried" "Meter.hurried" s_Meter_hurried
  d_ahead : DefAt K mg "ahead" s_ahead
  d_lowest : DefAt K mg "lowest" s_lowest
  d_Ways___init__ : MethAt K C_Ways "__init__" "Ways.__init__" s_Ways___init__
  d_Ways_measured : MethAt K C_Ways "measured" "Ways.measured" s_Ways_measured
  d_Ways_next_spread : MethAt K C_Ways "next_spread" "Ways.next_spread" s_Ways_next_spread
  d_Ways_next_smooth : MethAt K C_Ways "next_smooth" "Ways.next_smooth" s_Ways_next_smooth
  d_Ways_least_wait : MethAt K C_Ways "least_wait" "Ways.least_wait" s_Ways_least_wait
  d_Ways_ran_out : MethAt K C_Ways "ran_out" "Ways.ran_out" s_Ways_ran_out
  d_Sender___init__ : MethAt K C_Sender "__init__" "Sender.__init__" s_Sender___init__
  d_Sender_put : MethAt K C_Sender "put" "Sender.put" s_Sender_put
  d_Sender_many : MethAt K C_Sender "many" "Sender.many" s_Sender_many
  d_Sender_thing : MethAt K C_Sender "thing" "Sender.thing" s_Sender_thing
  d_Sender_heard : MethAt K C_Sender "heard" "Sender.heard" s_Sender_heard
  d_Sender_grow_base : MethAt K C_Sender "grow_base" "Sender.grow_base" s_Sender_grow_base
  d_Sender_note_held : MethAt K C_Sender "note_held" "Sender.note_held" s_Sender_note_held
  d_Sender_newly_known : MethAt K C_Sender "newly_known" "Sender.newly_known" s_Sender_newly_known
  d_Sender_known_above_base : MethAt K C_Sender "known_above_base" "Sender.known_above_base" s_Sender_known_above_base
  d_Sender_under_way : MethAt K C_Sender "under_way" "Sender.under_way" s_Sender_under_way
  d_Sender_thing_waits : MethAt K C_Sender "thing_waits" "Sender.thing_waits" s_Sender_thing_waits
  d_Sender_clock_is_out : MethAt K C_Sender "clock_is_out" "Sender.clock_is_out" s_Sender_clock_is_out
  d_Sender_hurry_is_due : MethAt K C_Sender "hurry_is_due" "Sender.hurry_is_due" s_Sender_hurry_is_due
  d_Sender_new_may_go : MethAt K C_Sender "new_may_go" "Sender.new_may_go" s_Sender_new_may_go
  d_Sender_go : MethAt K C_Sender "go" "Sender.go" s_Sender_go
  d_Sender_set_clock : MethAt K C_Sender "set_clock" "Sender.set_clock" s_Sender_set_clock
  d_Sender_go_again : MethAt K C_Sender "go_again" "Sender.go_again" s_Sender_go_again
  d_Sender_go_new : MethAt K C_Sender "go_new" "Sender.go_new" s_Sender_go_new
  d_Sender_ask_for_room : MethAt K C_Sender "ask_for_room" "Sender.ask_for_room" s_Sender_ask_for_room
  d__law_whole : DefAt K mg "_law_whole" s__law_whole
  d__law_cell_at : DefAt K mg "_law_cell_at" s__law_cell_at
  d__law_ring : DefAt K mg "_law_ring" s__law_ring
  d__law_thing : DefAt K mg "_law_thing" s__law_thing
  d__law_stands : DefAt K mg "_law_stands" s__law_stands
  d__law_heard : DefAt K mg "_law_heard" s__law_heard
  d_law : DefAt K mg "law" s_law
  b_abs : mg "abs" = none
  b_all : mg "all" = none
  b_bool : mg "bool" = none
  b_int : mg "int" = none
  b_isinstance : mg "isinstance" = none
  b_len : mg "len" = none
  b_list : mg "list" = none
  b_max : mg "max" = none
  b_min : mg "min" = none
  b_range : mg "range" = none
  b_str : mg "str" = none
  c_WAIT_LEAST : CstAt mg "WAIT_LEAST" (.int 2)
  c_KNOWN_TO_HURRY : CstAt mg "KNOWN_TO_HURRY" (.int 2)
noncomputable def sp_Meter___init__  (C_Meter : Addr) : Sp := fun vs H Q E => match vs with
  | [.ref p, .int m] => ∃ dx, H p = some (.ins C_Meter dx []) ∧ Q .non (upd H p (.ins C_Meter dx (fl_Meter (.int m) (.int (MeterM.mn 2 m)) (.int m) (.int 0))))
  | _ => False
noncomputable def sp_Meter_know_one  (C_Meter : Addr) : Sp := fun vs H Q E => match vs with
  | [.ref p] => ∃ dx m w k c, H p = some (.ins C_Meter dx (fl_Meter (.int m) (.int w) (.int k) (.int c))) ∧ Q .non (upd H p (.ins C_Meter dx (fl_Meter (.int m) (.int (MeterM.k1 m k (w, c)).1) (.int k) (.int (MeterM.k1 m k (w, c)).2))))
  | _ => False
noncomputable def sp_Meter_known  (C_Meter : Addr) : Sp := fun vs H Q E => match vs with
  | [.ref p, .int n] => (0 ≤ n ∧ n < 1000) ∧ ∃ dx m w k c, H p = some (.ins C_Meter dx (fl_Meter (.int m) (.int w) (.int k) (.int c))) ∧ Q .non (upd H p (.ins C_Meter dx (fl_Meter (.int m) (.int (MeterM.kn m k n.toNat (w, c)).1) (.int k) (.int (MeterM.kn m k n.toNat (w, c)).2))))
  | _ => False
noncomputable def sp_Meter_half  (C_Meter : Addr) : Sp := fun vs H Q E => match vs with
  | [.ref p] => ∃ dx m w k c, H p = some (.ins C_Meter dx (fl_Meter (.int m) (.int w) (.int k) (.int c))) ∧ Q (.int (MeterM.hf w)) H
  | _ => False
noncomputable def sp_Meter_ran_out  (C_Meter : Addr) : Sp := fun vs H Q E => match vs with
  | [.ref p] => ∃ dx m w k c, H p = some (.ins C_Meter dx (fl_Meter (.int m) (.int w) (.int k) (.int c))) ∧ Q .non (upd H p (.ins C_Meter dx (fl_Meter (.int m) (.int 1) (.int (MeterM.hf w)) (.int 0))))
  | _ => False
noncomputable def sp_Meter_hurried  (C_Meter : Addr) : Sp := fun vs H Q E => match vs with
  | [.ref p] => ∃ dx m w k c, H p = some (.ins C_Meter dx (fl_Meter (.int m) (.int w) (.int k) (.int c))) ∧ Q .non (upd H p (.ins C_Meter dx (fl_Meter (.int m) (.int (MeterM.hf w)) (.int (MeterM.hf w)) (.int 0))))
  | _ => False
structure Wb (a A b B m : Int) : Prop where
  m0 : 0 ≤ m
  m1 : m ≤ 1000000
  a0 : 0 ≤ a
  A0 : 0 < A
  b0 : 0 ≤ b
  B0 : 0 < B
  a1 : Bd 1000 a
  A1 : Bd 1000 A
  b1 : Bd 1000 b
  B1 : Bd 1000 B
noncomputable def WayAt (C_Ways : Addr) (H : Hp) (p dx : Addr) (L w a A b B : Int) : Prop := ∃ ps pp, H p = some (.ins C_Ways dx (fl_Ways (.int L) (.ref ps) (.ref pp) (.int w))) ∧ H ps = some (.tup [.int a, .int A]) ∧ H pp = some (.tup [.int b, .int B])
noncomputable abbrev nsp := WaysM.nsp
noncomputable abbrev nsm := WaysM.nsm
noncomputable def lw (a A b B : Int) : Int := -(-(a * B + 4 * b * A) / (A * B))
noncomputable def wt (L a A b B : Int) : Int := if 2 < (if lw a A b B < L then lw a A b B else L) then (if lw a A b B < L then lw a A b B else L) else 2
theorem Wb.mB {a A b B m : Int} (W : Wb a A b B m) : Bd 20 m := Bd.of W.m0 (by have := W.m1; lia)
theorem Wb.nsmT {a A b B m : Int} (W : Wb a A b B m) : 0 ≤ 3 * a + m * A ∧ 0 < 4 * A := by
  have := Int.mul_nonneg W.m0 (Int.le_of_lt W.A0)
  have := W.a0
  have := W.A0
  lia
theorem Wb.nspT {a A b B m : Int} (W : Wb a A b B m) : 0 ≤ 3 * b * A + ((a - m * A).natAbs : Int) * B ∧ 0 < 4 * (A * B) := by
  have p1 := Int.mul_pos W.A0 W.B0
  have := Int.mul_nonneg (Int.mul_nonneg (show (0 : Int) ≤ 3 by decide) W.b0) (Int.le_of_lt W.A0)
  have := Int.mul_nonneg (Int.natCast_nonneg (a - m * A).natAbs) (Int.le_of_lt W.B0)
  lia
theorem Wb.nsmB {a A b B m : Int} (W : Wb a A b B m) : 0 ≤ (nsm a A m).1 ∧ 0 < (nsm a A m).2 ∧ Bd 2000 (nsm a A m).1 ∧ Bd 2000 (nsm a A m).2 := by
  obtain ⟨s, Lo⟩ := WaysM.low_spec W.nsmT.1 W.nsmT.2
  have h1 : Bd 1021 (3 * a + m * A) := (((Bd.c (n := 2) (k := 3) (by decide)).mul W.a1).up (show 2 + 1000 ≤ 1020 by decide)).add (W.mB.mul W.A1)
  exact ⟨Lo.t0, Lo.b0, (h1.le Lo.t0 Lo.tl).up (by decide), (Bd.le ((Bd.c (n := 3) (k := 4) (by decide)).mul W.A1) (Int.le_of_lt Lo.b0) Lo.bl).up (by decide)⟩
theorem Wb.nspB {a A b B m : Int} (W : Wb a A b B m) : 0 ≤ (nsp a A b B m).1 ∧ 0 < (nsp a A b B m).2 ∧ Bd 3000 (nsp a A b B m).1 ∧ Bd 3000 (nsp a A b B m).2 := by
  obtain ⟨s, Lo⟩ := WaysM.low_spec W.nspT.1 W.nspT.2
  have d := ((W.a1.up (show 1000 ≤ 1020 by decide)).sub (W.mB.mul W.A1)).abs
  have h1 : Bd 2022 (3 * b * A + ((a - m * A).natAbs : Int) * B) := ((((Bd.c (n := 2) (k := 3) (by decide)).mul W.b1).mul W.A1).up (show 2 + 1000 + 1000 ≤ 2021 by decide)).add (d.mul W.B1)
  exact ⟨Lo.t0, Lo.b0, (h1.le Lo.t0 Lo.tl).up (by decide), (Bd.le ((Bd.c (n := 3) (k := 4) (by decide)).mul (W.A1.mul W.B1)) (Int.le_of_lt Lo.b0) Lo.bl).up (by decide)⟩
/-- what the ways hold: nothing yet, or what the sums say -/
noncomputable def LS (C_Ways : Addr) (H : Hp) (x dx : Addr) (L w P S D : Int) (k : Nat) : Prop := (k = 0 ∧ P = 1 ∧ S = 0 ∧ D = 0 ∧ H x = some (.ins C_Ways dx (fl_Ways (V.int L) V.non V.non (V.int w)))) ∨ (∃ n a A b B, n + 1 = k ∧ WaysM.St n P S D a A b B ∧ WayAt C_Ways H x dx L w a A b B)
theorem LS.ins {C x dx : Addr} {H : Hp} {L w P S D : Int} {k : Nat} (h : LS C H x dx L w P S D k) : ∃ s sp, H x = some (.ins C dx (fl_Ways (V.int L) s sp (V.int w))) ∧ ∀ w', LS C (upd H x (.ins C dx (fl_Ways (V.int L) s sp (V.int w')))) x dx L w' P S D k := by
  rcases h with ⟨h1, h2, h3, h4, h5⟩ | ⟨n, a, A, b, B, h1, h2, ⟨ps, pp, g1, g2, g3⟩⟩
  · exact ⟨_, _, h5, fun w' => .inl ⟨h1, h2, h3, h4, upd_same⟩⟩
  · exact ⟨_, _, g1, fun w' => .inr ⟨n, a, A, b, B, h1, h2, ⟨ps, pp, upd_same, by rw [upd_ne (ne_of g2 g1 (by simp))]; exact g2, by rw [upd_ne (ne_of g3 g1 (by simp))]; exact g3⟩⟩⟩
theorem Wb.of {n : Nat} {P S D a A b B m : Int} (h : WaysM.St n P S D a A b B) (hn : n ≤ 200) (h0 : 0 ≤ m) (h1 : m ≤ 1000000) : Wb a A b B m := by
  have e : (4 : Int) ^ n = ((2 ^ (2 * n) : Nat) : Int) := by rw [WaysM.four_two]; simp
  have hP : Bd 401 P := by rw [h.p, e]; exact Bd.c (Nat.pow_lt_pow_right (by decide) (by lia))
  have P0 := Int.le_of_lt h.P0
  have hS : Bd 421 S := Bd.le ((Bd.c (n := 20) (k := 1000000) (by decide)).mul hP) h.s0 h.s1
  have hD : Bd 422 D := Bd.le ((Bd.c (n := 21) (k := 2000000) (by decide)).mul hP) h.d0 h.d1
  exact ⟨h0, h1, h.a0, h.A0, h.b0, h.B0, (hS.le h.a0 h.a1).up (by decide), (hP.le (Int.le_of_lt h.A0) h.A1).up (by decide), (hD.le h.b0 h.b1).up (by decide), (Bd.le ((Bd.c (n := 2) (k := 2) (by decide)).mul hP) (Int.le_of_lt h.B0) h.B1).up (by decide)⟩
noncomputable def sp_lowest  : Sp := fun vs H Q E => match vs with
  | [.int t, .int b] => (0 ≤ t ∧ 0 < b ∧ Bd 8000 b) ∧ ∀ p, H p = none → Q (.ref p) (upd H p (.tup [.int (WaysM.low t b).1, .int (WaysM.low t b).2]))
  | _ => False
noncomputable def sp_Ways___init__  (C_Ways : Addr) : Sp := fun vs H Q E => match vs with
  | [.ref p, .int f, .int l] => ∃ dx, H p = some (.ins C_Ways dx []) ∧ Q .non (upd H p (.ins C_Ways dx (fl_Ways (.int l) .non .non (.int f))))
  | _ => False
noncomputable def sp_Ways_next_spread  (C_Ways : Addr) : Sp := fun vs H Q E => match vs with
  | [.ref p, .int m] => ∃ dx L w a A b B, Wb a A b B m ∧ WayAt C_Ways H p dx L w a A b B ∧ ∀ q, H q = none → Q (.ref q) (upd H q (.tup [.int (nsp a A b B m).1, .int (nsp a A b B m).2]))
  | _ => False
noncomputable def sp_Ways_next_smooth  (C_Ways : Addr) : Sp := fun vs H Q E => match vs with
  | [.ref p, .int m] => ∃ dx L s ps w a A, (0 ≤ m ∧ m ≤ 1000000 ∧ 0 ≤ a ∧ 0 < A ∧ Bd 1000 A) ∧ H p = some (.ins C_Ways dx (fl_Ways (.int L) (.ref ps) s (.int w))) ∧ H ps = some (.tup [.int a, .int A]) ∧ ∀ q, H q = none → Q (.ref q) (upd H q (.tup [.int (nsm a A m).1, .int (nsm a A m).2]))
  | _ => False
noncomputable def sp_Ways_least_wait  (C_Ways : Addr) : Sp := fun vs H Q E => match vs with
  | [.ref p] => ∃ dx L w a A b B, (0 < A ∧ 0 < B ∧ Bd 2000 a ∧ Bd 2000 A ∧ Bd 3000 b ∧ Bd 3000 B) ∧ WayAt C_Ways H p dx L w a A b B ∧ Q (.int (lw a A b B)) H
  | _ => False
noncomputable def sp_Ways_measured  (C_Ways : Addr) : Sp := fun vs H Q E => match vs with
  | [.ref p, .int m] => (0 ≤ m ∧ m ≤ 1000000) ∧ ((∃ dx L w, H p = some (.ins C_Ways dx (fl_Ways (.int L) .non .non (.int w))) ∧ ∀ H', But p H H' → WayAt C_Ways H' p dx L (wt L m 1 (WaysM.low m 2).1 (WaysM.low m 2).2) m 1 (WaysM.low m 2).1 (WaysM.low m 2).2 → Q .non H') ∨ (∃ dx L w a A b B, Wb a A b B m ∧ WayAt C_Ways H p dx L w a A b B ∧ ∀ H', But p H H' → WayAt C_Ways H' p dx L (wt L (nsm a A m).1 (nsm a A m).2 (nsp a A b B m).1 (nsp a A b B m).2) (nsm a A m).1 (nsm a A m).2 (nsp a A b B m).1 (nsp a A b B m).2 → Q .non H'))
  | _ => False
noncomputable def sp_Ways_ran_out  (C_Ways : Addr) : Sp := fun vs H Q E => match vs with
  | [.ref p] => ∃ dx L s sp w, H p = some (.ins C_Ways dx (fl_Ways (.int L) s sp (.int w))) ∧ Q .non (upd H p (.ins C_Ways dx (fl_Ways (.int L) s sp (.int (if L < 2 * w then L else 2 * w)))))
  | _ => False
noncomputable def sp__law_whole  : Sp := fun vs H Q E => match vs with
  | [.int _] => Q (.bl true) H
  | _ => False
noncomputable def sp__law_cell_at  (K : PySem.W.Frag) (a₀ : Addr) (ns : List Int) : Sp := fun vs H Q E => match vs with
  | [.ref a, .int k] => a = a₀ ∧ SqL K H a₀ (ns.map V.int) ∧ 0 ≤ k ∧ ∀ n, Q (.int n) H
  | _ => False
noncomputable def sp_ahead  : Sp := fun vs H Q E => match vs with
  | [.int r, .int a, .int b] => 0 < r ∧ Q (.int ((b - a) % r)) H
  | _ => False
/-- what the ways and the meter hold -/
noncomputable def WS (C : Addr) (H : Hp) (p dx : Addr) (L w : Int) (k : Nat) : Prop := 2 ≤ L ∧ (2 ≤ w ∧ w ≤ L) ∧ ∃ P S D, LS C H p dx L w P S D k
theorem wt_in {L a A b B : Int} (h : 2 ≤ L) : 2 ≤ wt L a A b B ∧ wt L a A b B ≤ L := by
  unfold wt
  generalize lw a A b B = x
  (repeat' split) <;> lia
theorem WS.meas {C p dx : Addr} {H : Hp} {L w m : Int} {k : Nat} {Q : VK} {E : XK} (h : WS C H p dx L w k) (hk : k ≤ 150) (m0 : 0 ≤ m) (m1 : m ≤ 1000000) (q : ∀ H' w', But p H H' → WS C H' p dx L w' (k + 1) → Q .non H') : sp_Ways_measured C [.ref p, .int m] H Q E := by
  obtain ⟨hL, hw, P, S, D, ⟨h1, h2, h3, h4, hi⟩ | ⟨n, a, A, b, B, h1, hS, hA⟩⟩ := h
  · exact ⟨⟨m0, m1⟩, .inl ⟨dx, L, w, hi, fun H' hB hW => q H' _ hB ⟨hL, wt_in hL, _, _, _, .inr ⟨0, _, _, _, _, by lia, WaysM.St.first m0 m1, hW⟩⟩⟩⟩
  · exact ⟨⟨m0, m1⟩, .inr ⟨dx, L, w, a, A, b, B, Wb.of hS (by lia) m0 m1, hA, fun H' hB hW => q H' _ hB ⟨hL, wt_in hL, _, _, _, .inr ⟨n + 1, _, _, _, _, by lia, hS.step m0 m1, hW⟩⟩⟩⟩
theorem WS.ins {C p dx : Addr} {H : Hp} {L w : Int} {k : Nat} (h : WS C H p dx L w k) : ∃ s sp, H p = some (.ins C dx (fl_Ways (V.int L) s sp (V.int w))) := by
  obtain ⟨_, _, P, S, D, h⟩ := h
  obtain ⟨s, sp, e, _⟩ := h.ins
  exact ⟨s, sp, e⟩
/-- all that the ways reach stays -/
theorem WS.keep {C p dx : Addr} {H H' : Hp} {L w : Int} {k : Nat} (h : WS C H p dx L w k) (hp : ∀ o, H p = some o → H' p = some o) (ht : ∀ t l, H t = some (.tup l) → H' t = some (.tup l)) : WS C H' p dx L w k := by
  obtain ⟨h0, h1, P, S, D, ⟨a1, a2, a3, a4, a5⟩ | ⟨n, a, A, b, B, b1, b2, ⟨ps, pp, g1, g2, g3⟩⟩⟩ := h
  · exact ⟨h0, h1, P, S, D, .inl ⟨a1, a2, a3, a4, hp _ a5⟩⟩
  · exact ⟨h0, h1, P, S, D, .inr ⟨n, a, A, b, B, b1, b2, ⟨ps, pp, hp _ g1, ht _ _ g2, ht _ _ g3⟩⟩⟩
noncomputable def MS (C : Addr) (H : Hp) (p dx : Addr) (wi : Int) : Prop := ∃ mo kn co, H p = some (.ins C dx (fl_Meter (.int mo) (.int wi) (.int kn) (.int co))) ∧ MeterM.Inb mo (wi, co)
structure Ad where
  dx : Addr
  pw : Addr
  pm : Addr
  pt : Addr
  pk : Addr
  pf : Addr
  pa : Addr
  dw : Addr
  dm : Addr
structure Sd where
  R : Int
  b : Int
  t : Int
  e : Int
  clk : V
  hur : Bool
  T : List V
  Kn : List (Key × V)
  Fi : List (Key × V)
  Ag : List (Key × V)
  L : Int
  w : Int
  k : Nat
  wi : Int
structure SdAt (CS CW CM : Addr) (H : Hp) (x : Addr) (A : Ad) (z : Sd) : Prop where
  hx : H x = some (.ins CS A.dx (fl_Sender (.int z.R) (.ref A.pw) (.ref A.pm) (.ref A.pt) (.int z.b) (.int z.t) (.int z.e) z.clk (.bl z.hur) (.ref A.pk) (.ref A.pf) (.ref A.pa)))
  ht : H A.pt = some (.lst z.T)
  hk : H A.pk = some (.dK z.Kn)
  hf : H A.pf = some (.dK z.Fi)
  ha : H A.pa = some (.dK z.Ag)
  ws : WS CW H A.pw A.dw z.L z.w z.k
  ms : MS CM H A.pm A.dm z.wi
  kf : A.pk ≠ A.pf
  ka : A.pk ≠ A.pa
  fa : A.pf ≠ A.pa
  xw : x ≠ A.pw
  xm : x ≠ A.pm
  wm : A.pw ≠ A.pm
theorem SdAt.same {CS CW CM x : Addr} {H H' : Hp} {A : Ad} {z : Sd} (h : SdAt CS CW CM H x A z) (e : Same H H') : SdAt CS CW CM H' x A z := by
  obtain ⟨mo, kn, co, e1, hi⟩ := h.ms
  exact ⟨e _ _ h.hx, e _ _ h.ht, e _ _ h.hk, e _ _ h.hf, e _ _ h.ha, h.ws.keep (fun o q => e _ _ q) (fun t l q => e _ _ q), ⟨mo, kn, co, e _ _ e1, hi⟩, h.kf, h.ka, h.fa, h.xw, h.xm, h.wm⟩
/-- the sender's own fields change -/
theorem SdAt.put {CS CW CM x : Addr} {H : Hp} {A : Ad} {z : Sd} (h : SdAt CS CW CM H x A z) (b t e : Int) (c : V) (u : Bool) : SdAt CS CW CM (upd H x (.ins CS A.dx (fl_Sender (.int z.R) (.ref A.pw) (.ref A.pm) (.ref A.pt) (.int b) (.int t) (.int e) c (.bl u) (.ref A.pk) (.ref A.pf) (.ref A.pa)))) x A { z with b := b, t := t, e := e, clk := c, hur := u } := by
  obtain ⟨mo, kn, co, e1, hi⟩ := h.ms
  refine ⟨upd_same, by rw [upd_ne (ne_of h.ht h.hx (by simp))]; exact h.ht, by rw [upd_ne (ne_of h.hk h.hx (by simp))]; exact h.hk, by rw [upd_ne (ne_of h.hf h.hx (by simp))]; exact h.hf, by rw [upd_ne (ne_of h.ha h.hx (by simp))]; exact h.ha,
    h.ws.keep (fun o q => by rw [upd_ne h.xw.symm]; exact q) (fun t l q => by rw [upd_ne (ne_of q h.hx (by simp))]; exact q), ⟨mo, kn, co, by rw [upd_ne h.xm.symm]; exact e1, hi⟩, h.kf, h.ka, h.fa, h.xw, h.xm, h.wm⟩
/-- one of the sender's own rows changes -/
theorem SdAt.row {CS CW CM x q : Addr} {H : Hp} {A : Ad} {z : Sd} {o u : HO} (h : SdAt CS CW CM H x A z) (hq : H q = some o) (T : List V) (Kn Fi : List (Key × V)) (n1 : ∀ C d l, o ≠ .ins C d l) (n2 : ∀ l, o ≠ .tup l)
    (g1 : upd H q u A.pt = some (.lst T)) (g2 : upd H q u A.pk = some (.dK Kn)) (g3 : upd H q u A.pf = some (.dK Fi)) (g4 : q ≠ A.pa) : SdAt CS CW CM (upd H q u) x A { z with T := T, Kn := Kn, Fi := Fi } := by
  obtain ⟨mo, kn, co, e1, hi⟩ := h.ms
  have ni : ∀ p C d l, H p = some (.ins C d l) → p ≠ q := fun p C d l e c => by rw [c, hq] at e; cases e; exact n1 _ _ _ rfl
  obtain ⟨s, sp, ew⟩ := h.ws.ins
  exact ⟨by rw [upd_ne (ni _ _ _ _ h.hx)]; exact h.hx, g1, g2, g3, by rw [upd_ne g4.symm]; exact h.ha, h.ws.keep (fun o' e => by rw [upd_ne (ni _ _ _ _ ew)]; exact e) (fun t l e => by rw [upd_ne (fun c => by rw [c, hq] at e; cases e; exact n2 _ rfl)]; exact e), ⟨mo, kn, co, by rw [upd_ne (ni _ _ _ _ e1)]; exact e1, hi⟩, h.kf, h.ka, h.fa, h.xw, h.xm, h.wm⟩
/-- all but the sender's own things stay -/
noncomputable def Fr6 (x : Addr) (A : Ad) (H H' : Hp) : Prop := ∀ b u, H b = some u → b ≠ x → b ≠ A.pw → b ≠ A.pm → b ≠ A.pt → b ≠ A.pk → b ≠ A.pf → H' b = some u
theorem Fr6.of {x : Addr} {A : Ad} {H H' : Hp} (h : Same H H') : Fr6 x A H H' := fun b u e _ _ _ _ _ _ => h b u e
theorem Fr6.trans {x : Addr} {A : Ad} {H H' H'' : Hp} (h : Fr6 x A H H') (h' : Fr6 x A H' H'') : Fr6 x A H H'' := fun b u e a1 a2 a3 a4 a5 a6 => h' b u (h b u e a1 a2 a3 a4 a5 a6) a1 a2 a3 a4 a5 a6
theorem SdAt.nw {CS CW CM x : Addr} {H : Hp} {A : Ad} {z : Sd} (h : SdAt CS CW CM H x A z) {b : Addr} {o : HO} (e : H b = some o) (n : ∀ C d l, o ≠ .ins C d l) : b ≠ x ∧ b ≠ A.pw ∧ b ≠ A.pm := by
  obtain ⟨s, sp, ew⟩ := h.ws.ins
  obtain ⟨mo, kn, co, em, _⟩ := h.ms
  exact ⟨ne_of e h.hx (n _ _ _), ne_of e ew (n _ _ _), ne_of e em (n _ _ _)⟩
theorem SdAt.ways {CS CW CM x : Addr} {H H' : Hp} {A : Ad} {z : Sd} {w : Int} {k : Nat} (h : SdAt CS CW CM H x A z) (hB : But A.pw H H') (hw : WS CW H' A.pw A.dw z.L w k) : SdAt CS CW CM H' x A { z with w := w, k := k } := by
  obtain ⟨mo, kn, co, em, hi⟩ := h.ms
  exact ⟨hB _ _ h.hx h.xw, hB _ _ h.ht (h.nw h.ht (by simp)).2.1, hB _ _ h.hk (h.nw h.hk (by simp)).2.1, hB _ _ h.hf (h.nw h.hf (by simp)).2.1, hB _ _ h.ha (h.nw h.ha (by simp)).2.1, hw, ⟨mo, kn, co, hB _ _ em h.wm.symm, hi⟩, h.kf, h.ka, h.fa, h.xw, h.xm, h.wm⟩
theorem SdAt.meter {CS CW CM x : Addr} {H H' : Hp} {A : Ad} {z : Sd} {wi : Int} (h : SdAt CS CW CM H x A z) (hB : But A.pm H H') (hm : MS CM H' A.pm A.dm wi) : SdAt CS CW CM H' x A { z with wi := wi } := by
  obtain ⟨mo, kn, co, em, hi⟩ := h.ms
  exact ⟨hB _ _ h.hx h.xm, hB _ _ h.ht (h.nw h.ht (by simp)).2.2, hB _ _ h.hk (h.nw h.hk (by simp)).2.2, hB _ _ h.hf (h.nw h.hf (by simp)).2.2, hB _ _ h.ha (h.nw h.ha (by simp)).2.2, h.ws.keep (fun o e => hB _ _ e h.wm) (fun t l e => hB _ _ e (ne_of e em (by simp))), hm, h.kf, h.ka, h.fa, h.xw, h.xm, h.wm⟩
theorem Fr6.tup {CS CW CM x t : Addr} {H H' : Hp} {A : Ad} {z : Sd} {l : List V} (f : Fr6 x A H H') (h : SdAt CS CW CM H x A z) (e : H t = some (.tup l)) : H' t = some (.tup l) := by
  obtain ⟨a1, a2, a3⟩ := h.nw e (by simp)
  exact f t _ e a1 a2 a3 (ne_of e h.ht (by simp)) (ne_of e h.hk (by simp)) (ne_of e h.hf (by simp))
theorem Fr6.lst {CS CW CM x t : Addr} {H H' : Hp} {A : Ad} {z : Sd} {l : List V} (f : Fr6 x A H H') (h : SdAt CS CW CM H x A z) (e : H t = some (.lst l)) (n : t ≠ A.pt) : H' t = some (.lst l) := by
  obtain ⟨a1, a2, a3⟩ := h.nw e (by simp)
  exact f t _ e a1 a2 a3 n (ne_of e h.hk (by simp)) (ne_of e h.hf (by simp))
theorem Fr6.none {CS CW CM x p : Addr} {H H' : Hp} {A : Ad} {z : Sd} (f : Fr6 x A H H') (h : SdAt CS CW CM H' x A z) (e : H' p = none) : H p = none := by
  obtain ⟨s, sp, ew⟩ := h.ws.ins
  obtain ⟨mo, kn, co, em, _⟩ := h.ms
  cases q : H p with
  | none => rfl
  | some u =>
    have nn : ∀ {b : Addr} {o : HO}, H' b = some o → p ≠ b := fun {b o} eb c => by rw [c, eb] at e; cases e
    rw [f p u q (nn h.hx) (nn ew) (nn em) (nn h.ht) (nn h.hk) (nn h.hf)] at e
    cases e
theorem free_of {H H' : Hp} (e : Same H H') {p : Addr} (h : H' p = none) : H p = none := by
  cases q : H p with
  | none => rfl
  | some o => rw [e _ _ q] at h; cases h
theorem atI_ex {α : Type} {xs : List α} {i : Int} (h0 : 0 ≤ i) (h1 : i < xs.length) : ∃ v, atI xs i = some v := by
  obtain ⟨j, rfl⟩ : ∃ j : Nat, i = (j : Int) := ⟨i.toNat, by lia⟩
  exact ⟨xs[j]'(by lia), atI_n (List.getElem?_eq_getElem (by lia))⟩
theorem strlen : ∀ n : Fin 101, (Str.ofString (toString ((n : Nat) : Int))).length ≤ 10 := by decide +kernel
theorem loglen : ∀ n : Fin 101, ((n : Nat) : Int).natAbs.log2 < 1920 := by decide +kernel
theorem map_bl : ∀ ps : List Int, List.map (fun _ => V.bl true) (ps.map V.int) = (List.replicate ps.length true).map V.bl
  | [] => rfl
  | _ :: t => by
    have := map_bl t
    simp only [List.map_cons, List.length_cons, List.replicate_succ, this]
structure Jz (z : Sd) (i : Nat) (r : Int) (ths : List V) : Prop where
  R : z.R = r
  b : z.b = i
  t : z.t = i
  T : z.T = ths
  len : ths.length = i
  kn : ∀ j : Int, (i : Int) ≤ j → valV z.Kn (ik j) = none
  knl : z.Kn.length ≤ i
  fil : z.Fi.length ≤ i
  ag : z.Ag = []
  k : z.k = i
  e : (i : Int) + 1 ≤ z.e
theorem bd0 {z : Sd} {i : Nat} (jb : z.b = i) (jt : z.t = i) (hi : i < 64) : z.t ≤ z.b + 1 ∧ -1000 ≤ z.t ∧ z.t ≤ 100000 ∧ -1000 ≤ z.b ∧ z.b ≤ 100000 := by lia
theorem bd1 {z : Sd} {i : Nat} (jb : z.b = i) (jt : z.t = i) (hi : i < 64) : z.t + 1 ≤ z.b + 1 ∧ -1000 ≤ z.t + 1 ∧ z.t + 1 ≤ 100000 ∧ -1000 ≤ z.b ∧ z.b ≤ 100000 := by lia
theorem bd2 {z : Sd} {i : Nat} (jb : z.b = i) (hi : i < 64) : -1000 ≤ z.b ∧ z.b ≤ 100000 := by lia
theorem bd3 {z : Sd} {i : Nat} (jb : z.b = i) (hi : i < 64) : -1000 ≤ z.b + 1 ∧ z.b + 1 ≤ 100000 := by lia
theorem bd4 {a i : Nat} (h : a ≤ i) (hi : i < 64) : a < 900 ∧ a + 1 < 900 ∧ a < 1000 ∧ a ≤ 100 ∧ a + 1 ≤ 100 := by lia
noncomputable def ThL (H : Hp) (ths : List V) : Prop := ∀ v ∈ ths, ∃ t a b, v = .ref t ∧ H t = some (.tup [.str a, .str b])
theorem ThL.but {H H' : Hp} {l : List V} (h : ThL H l) (e : ∀ t l, H t = some (.tup l) → H' t = some (.tup l)) : ThL H' l := fun v hv => by
  obtain ⟨t, a, b, h1, h2⟩ := h v hv
  exact ⟨t, a, b, h1, e _ _ h2⟩
theorem ThL.eq {K : PySem.W.Frag} {H : Hp} {l : List V} (h : ThL H l) {v : V} (hv : v ∈ l) {Q : VK} (q : Q (.bl false) H) : rEqA K true v v H Q := by
  obtain ⟨t, a, b, rfl, h2⟩ := h v hv
  exact eqT_same (n := 1) (by decide) (SqT.of h2) (SqT.of h2) (ds := [.str a, .str b]) (.cons (.inl (.inr (.inr ⟨a, rfl, rfl⟩))) (.cons (.inl (.inr (.inr ⟨b, rfl, rfl⟩))) .nil)) (.cons (.inl (.inr (.inr ⟨a, rfl, rfl⟩))) (.cons (.inl (.inr (.inr ⟨b, rfl, rfl⟩))) .nil)) q
/-- another row changes -/
theorem SdAt.oth {CS CW CM x q : Addr} {H : Hp} {A : Ad} {z : Sd} {l : List V} {u : HO} (h : SdAt CS CW CM H x A z) (hq : H q = some (.lst l)) (n : q ≠ A.pt) : SdAt CS CW CM (upd H q u) x A z :=
  h.row hq z.T z.Kn z.Fi (by simp) (by simp) (by rw [upd_ne n.symm]; exact h.ht) (by rw [upd_ne (ne_of h.hk hq (by simp))]; exact h.hk) (by rw [upd_ne (ne_of h.hf hq (by simp))]; exact h.hf) (ne_of hq h.ha (by simp))
structure Kp (H : Hp) (p q : Addr) (l l' : List V) : Prop where
  a : H p = some (.lst l)
  b : H q = some (.lst l')
  c : ThL H l'
theorem Kp.same {H H' : Hp} {p q : Addr} {l l' : List V} (h : Kp H p q l l') (e : Same H H') : Kp H' p q l l' := ⟨e _ _ h.a, e _ _ h.b, h.c.but fun _ _ x => e _ _ x⟩
theorem Kp.fr {CS CW CM x p q : Addr} {H H' : Hp} {A : Ad} {z : Sd} {l l' : List V} (h : Kp H p q l l') (S : SdAt CS CW CM H x A z) (f : Fr6 x A H H') (n1 : p ≠ A.pt) (n2 : q ≠ A.pt) : Kp H' p q l l' := ⟨f.lst S h.a n1, f.lst S h.b n2, h.c.but fun _ _ e => f.tup S e⟩
noncomputable def sp_Sender_put  (C_Sender : Addr) (C_Ways : Addr) (C_Meter : Addr) : Sp := fun vs H Q E => match vs with
  | [.ref x, th] => ∃ A z, SdAt C_Sender C_Ways C_Meter H x A z ∧ z.T.length < 1000 ∧ ∀ H', But A.pt H H' → SdAt C_Sender C_Ways C_Meter H' x A { z with T := z.T ++ [th] } → Q .non H'
  | _ => False
noncomputable def sp_Sender_many  (C_Sender : Addr) (C_Ways : Addr) (C_Meter : Addr) : Sp := fun vs H Q E => match vs with
  | [.ref x] => ∃ A z, SdAt C_Sender C_Ways C_Meter H x A z ∧ Q (.int z.T.length) H
  | _ => False
noncomputable def sp_Sender_thing  (C_Sender : Addr) (C_Ways : Addr) (C_Meter : Addr) : Sp := fun vs H Q E => match vs with
  | [.ref x, .int p] => ∃ A z v, SdAt C_Sender C_Ways C_Meter H x A z ∧ atI z.T p = some v ∧ Q v H
  | _ => False
noncomputable def sp_Sender_known_above_base  (C_Sender : Addr) (C_Ways : Addr) (C_Meter : Addr) : Sp := fun vs H Q E => match vs with
  | [.ref x] => ∃ A z, SdAt C_Sender C_Ways C_Meter H x A z ∧ (z.t ≤ z.b + 1 ∧ -1000 ≤ z.t ∧ z.t ≤ 100000 ∧ -1000 ≤ z.b ∧ z.b ≤ 100000) ∧ ∀ H', Same H H' → Q (.int 0) H'
  | _ => False
noncomputable def sp_Sender_under_way  (C_Sender : Addr) (C_Ways : Addr) (C_Meter : Addr) : Sp := fun vs H Q E => match vs with
  | [.ref x] => ∃ A z, SdAt C_Sender C_Ways C_Meter H x A z ∧ (z.t ≤ z.b + 1 ∧ -1000 ≤ z.t ∧ z.t ≤ 100000 ∧ -1000 ≤ z.b ∧ z.b ≤ 100000) ∧ ∀ H', Same H H' → Q (.int (z.t - z.b)) H'
  | _ => False
noncomputable def sp_Sender_thing_waits  (C_Sender : Addr) (C_Ways : Addr) (C_Meter : Addr) : Sp := fun vs H Q E => match vs with
  | [.ref x] => ∃ A z, SdAt C_Sender C_Ways C_Meter H x A z ∧ Q (.bl (decide (z.t < z.T.length))) H
  | _ => False
noncomputable def sp_Sender_clock_is_out  (C_Sender : Addr) (C_Ways : Addr) (C_Meter : Addr) : Sp := fun vs H Q E => match vs with
  | [.ref x, .int n] => ∃ A z c, SdAt C_Sender C_Ways C_Meter H x A z ∧ z.clk = .int c ∧ Q (.bl (decide (c ≤ n))) H
  | _ => False
noncomputable def sp_Sender_hurry_is_due  (C_Sender : Addr) (C_Ways : Addr) (C_Meter : Addr) : Sp := fun vs H Q E => match vs with
  | [.ref x] => ∃ A z, SdAt C_Sender C_Ways C_Meter H x A z ∧ (z.t ≤ z.b + 1 ∧ -1000 ≤ z.t ∧ z.t ≤ 100000 ∧ -1000 ≤ z.b ∧ z.b ≤ 100000) ∧ ∀ H', Same H H' → Q (.bl false) H'
  | _ => False
noncomputable def sp_Sender_new_may_go  (C_Sender : Addr) (C_Ways : Addr) (C_Meter : Addr) : Sp := fun vs H Q E => match vs with
  | [.ref x] => ∃ A z, SdAt C_Sender C_Ways C_Meter H x A z ∧ (z.t ≤ z.b + 1 ∧ -1000 ≤ z.t ∧ z.t ≤ 100000 ∧ -1000 ≤ z.b ∧ z.b ≤ 100000) ∧ ∃ r, ((z.t = z.b ∧ z.t < z.T.length ∧ z.t < z.e ∧ r = true) ∨ (¬ z.t < z.T.length ∧ r = false)) ∧ ∀ H', Same H H' → Q (.bl r) H'
  | _ => False
noncomputable def sp_Sender_set_clock  (C_Sender : Addr) (C_Ways : Addr) (C_Meter : Addr) : Sp := fun vs H Q E => match vs with
  | [.ref x, .int n] => ∃ A z, SdAt C_Sender C_Ways C_Meter H x A z ∧ ∀ H', But x H H' → SdAt C_Sender C_Ways C_Meter H' x A { z with clk := .int (n + z.w) } → Q .non H'
  | _ => False
noncomputable def sp_Sender_go_again  : Sp := fun vs H Q E => match vs with
  | [.bl _, .bl _] => False
  | _ => False
noncomputable def sp_Sender_ask_for_room  : Sp := fun vs H Q E => match vs with
  | [.bl _, .bl _] => False
  | _ => False
noncomputable def sp_Sender_go_new  (C_Sender : Addr) (C_Ways : Addr) (C_Meter : Addr) : Sp := fun vs H Q E => match vs with
  | [.ref x, .int n] => ∃ A z, SdAt C_Sender C_Ways C_Meter H x A z ∧ z.b = z.t ∧ z.Fi.length < 1000 ∧ ∀ p H', H p = none → Fr6 x A H H' → SdAt C_Sender C_Ways C_Meter H' x A { z with clk := .int (n + z.w), t := z.t + 1, Fi := putK z.Fi (ik z.t) (.int n) } → H' p = some (.tup [.str "new", .int z.t]) → Q (.ref p) H'
  | _ => False
noncomputable def sp_Sender_go  (C_Sender : Addr) (C_Ways : Addr) (C_Meter : Addr) : Sp := fun vs H Q E => match vs with
  | [.ref x, .int n] => ∃ A z, SdAt C_Sender C_Ways C_Meter H x A z ∧ (z.t ≤ z.b + 1 ∧ -1000 ≤ z.t ∧ z.t ≤ 100000 ∧ -1000 ≤ z.b ∧ z.b ≤ 100000) ∧ ((z.b = z.t ∧ z.t < z.T.length ∧ z.t < z.e ∧ z.Fi.length < 1000 ∧ ∀ p H', H p = none → Fr6 x A H H' → SdAt C_Sender C_Ways C_Meter H' x A { z with clk := .int (n + z.w), t := z.t + 1, Fi := putK z.Fi (ik z.t) (.int n) } → H' p = some (.tup [.str "new", .int z.t]) → Q (.ref p) H') ∨ (z.b < z.t ∧ (∃ c, z.clk = .int c ∧ n < c) ∧ ¬ z.t < z.T.length ∧ ∀ H', Same H H' → Q .non H'))
  | _ => False
noncomputable def sp_Sender_newly_known  (C_Sender : Addr) (C_Ways : Addr) (C_Meter : Addr) : Sp := fun vs H Q E => match vs with
  | [.ref x, .ref l] => ∃ A z, ∃ ps : List Int, SdAt C_Sender C_Ways C_Meter H x A z ∧ H l = some (.lst (ps.map V.int)) ∧ z.Kn.length < 1000 ∧ l ≠ A.pt ∧ (ps = [] ∨ ∃ n, ps = [n] ∧ valV z.Kn (ik n) = none) ∧ ∀ p H', H p = none → Fr6 x A H H' → SdAt C_Sender C_Ways C_Meter H' x A { z with Kn := ps.foldl (fun D n => putK D (ik n) (.bl true)) z.Kn } → H' p = some (.lst (ps.map V.int)) → Q (.ref p) H'
  | _ => False
noncomputable def sp_Sender_grow_base  (C_Sender : Addr) (C_Ways : Addr) (C_Meter : Addr) : Sp := fun vs H Q E => match vs with
  | [.ref x, .int st] => ∃ A z, SdAt C_Sender C_Ways C_Meter H x A z ∧ (0 ≤ st ∧ st ≤ 1 ∧ -1000 ≤ z.b ∧ z.b ≤ 100000) ∧ z.Kn.length < 1000 ∧ (st = 1 → valV z.Kn (ik z.b) = none) ∧ ∀ ps p H', ps = (if st = 0 then [] else [z.b]) → H p = none → Fr6 x A H H' → SdAt C_Sender C_Ways C_Meter H' x A { z with b := z.b + st, Kn := ps.foldl (fun D n => putK D (ik n) (.bl true)) z.Kn } → H' p = some (.lst (ps.map V.int)) → Q (.ref p) H'
  | _ => False
noncomputable def sp_Sender_note_held  (C_Sender : Addr) (C_Ways : Addr) (C_Meter : Addr) : Sp := fun vs H Q E => match vs with
  | [.ref x, .ref t] => ∃ A z, SdAt C_Sender C_Ways C_Meter H x A z ∧ H t = some (.tup []) ∧ z.Kn.length < 1000 ∧ ∀ p H', H p = none → Fr6 x A H H' → SdAt C_Sender C_Ways C_Meter H' x A z → H' p = some (.lst []) → Q (.ref p) H'
  | _ => False
noncomputable def sp_Sender_heard  (C_Sender : Addr) (C_Ways : Addr) (C_Meter : Addr) : Sp := fun vs H Q E => match vs with
  | [.ref x, .int n, .int rm, .ref hd, .int tn] => ∃ A z, SdAt C_Sender C_Ways C_Meter H x A z ∧ 0 < z.R ∧ H hd = some (.tup []) ∧ z.Ag = [] ∧ z.Kn.length < 900 ∧ z.k ≤ 100 ∧ (-1000 ≤ z.b ∧ z.b ≤ 100000) ∧ ( (z.t - z.b < (n - z.b) % z.R ∧ ∀ p H', H p = none → Same H H' → H' p = some (.lst []) → Q (.ref p) H') ∨ (z.t = z.b ∧ (n - z.b) % z.R = 0 ∧ z.b + rm ≤ z.e ∧ ∀ p H' wi, H p = none → Fr6 x A H H' → SdAt C_Sender C_Ways C_Meter H' x A { z with wi := wi } → H' p = some (.lst []) → Q (.ref p) H') ∨ (z.t = z.b + 1 ∧ (n - z.b) % z.R = 1 ∧ valV z.Kn (ik z.b) = none ∧ (∃ f, valV z.Fi (ik z.b) = some (.int f) ∧ 0 ≤ tn - f ∧ tn - f ≤ 1000000) ∧ ∀ p H' wi w, H p = none → Fr6 x A H H' → SdAt C_Sender C_Ways C_Meter H' x A { z with b := z.b + 1, e := (if z.e < z.b + 1 + rm then z.b + 1 + rm else z.e), clk := .non, hur := false, Kn := putK z.Kn (ik z.b) (.bl true), w := w, k := z.k + 1, wi := wi } → H' p = some (.lst [.int z.b]) → Q (.ref p) H'))
  | _ => False
noncomputable def sp_Sender___init__  (C_Sender : Addr) (C_Ways : Addr) (C_Meter : Addr) : Sp := fun vs H Q E => match vs with
  | [.ref x, .int r, .int f, .int l, .int m] => (2 ≤ f ∧ f ≤ l ∧ 1 ≤ m) ∧ ∃ dx, H x = some (.ins C_Sender dx []) ∧ ∀ A H' wi, But x H H' → SdAt C_Sender C_Ways C_Meter H' x A ⟨r, 0, 0, 1, .non, false, [], [], [], [], l, f, 0, wi⟩ → Q .non H'
  | _ => False
noncomputable def sp__law_ring  : Sp := fun vs H Q E => match vs with
  | [.int c] => ∀ r, 2 ≤ r → Q (.int r) H
  | _ => False
noncomputable def sp__law_thing  : Sp := fun vs H Q E => match vs with
  | [.int c, .int k] => (0 ≤ k ∧ k ≤ 100) ∧ ∀ p a b H', Same H H' → H p = none → H' p = some (.tup [.str a, .str b]) → Q (.ref p) H'
  | _ => False
noncomputable def sp__law_stands  (C_Sender : Addr) (C_Ways : Addr) (C_Meter : Addr) (K : PySem.W.Frag) : Sp := fun vs H Q E => match vs with
  | [.ref x, .int b, .int t, .int e, .int m] => ∃ A z, SdAt C_Sender C_Ways C_Meter H x A z ∧ (z.t ≤ z.b + 1 ∧ -1000 ≤ z.t ∧ z.t ≤ 100000 ∧ -1000 ≤ z.b ∧ z.b ≤ 100000) ∧ (z.b = b ∧ z.t = t ∧ z.e = e ∧ (z.T.length : Int) = m) ∧ ∀ H', Same H H' → Q (.bl true) H'
  | _ => False
noncomputable def sp__law_heard  (C_Sender : Addr) (C_Ways : Addr) (C_Meter : Addr) (K : PySem.W.Frag) : Sp := fun vs H Q E => match vs with
  | [.ref x, .int n, .int rm, .int tn, .ref d] => ∃ A z, SdAt C_Sender C_Ways C_Meter H x A z ∧ 0 < z.R ∧ z.Ag = [] ∧ z.Kn.length < 900 ∧ z.k ≤ 100 ∧ (-1000 ≤ z.b ∧ z.b ≤ 100000) ∧ d ≠ A.pt ∧ ( (H d = some (.lst []) ∧ z.t = z.b ∧ (0 < (n - z.b) % z.R ∨ ((n - z.b) % z.R = 0 ∧ z.b + rm ≤ z.e)) ∧ ∀ H' wi, Fr6 x A H H' → SdAt C_Sender C_Ways C_Meter H' x A { z with wi := wi } → Q (.bl true) H') ∨ (H d = some (.lst [.int z.b]) ∧ z.t = z.b + 1 ∧ (n - z.b) % z.R = 1 ∧ valV z.Kn (ik z.b) = none ∧ (∃ f, valV z.Fi (ik z.b) = some (.int f) ∧ 0 ≤ tn - f ∧ tn - f ≤ 1000000) ∧ ∀ H' wi w, Fr6 x A H H' → SdAt C_Sender C_Ways C_Meter H' x A { z with b := z.b + 1, e := (if z.e < z.b + 1 + rm then z.b + 1 + rm else z.e), clk := .non, hur := false, Kn := putK z.Kn (ik z.b) (.bl true), w := w, k := z.k + 1, wi := wi } → Q (.bl true) H'))
  | _ => False
set_option compiler.extract_closed false in
local macro_rules | `(tactic| exists $es,*) => `(tactic| simp only [tRet, tRetN, tOp, tUn, tVar, tC, tAsg, gName, tSeq, tNext, tIfS, tTest, tB, tNot, tAnd, tOr, tCall, tCons, tNil, tCB, tAndV, tNotV, tIf, tDrop, tSl, tPart, rI0_int, rI_int, rU_int, ex_bl, ex_sv, rAddA_int, rAddA_str, rLenA_ref, rIsi_ii, rIsi_ib, rMinA_int, rMaxA_int, rEqA_int, rNeA_int, rIsN_f, rIsN_t, tBM, tFor_seq, tFor_rng1, tComp_seq, tComp_rng2, rngR1_int, rngR2_int, compSt_one, rAll_ref, rAppendA_ref, tTup, tLst, tYes, tDrop, small_line, Option.join_some, CDiv, CPowA, CMul, cxOf_K, ex_int, L2.start, List.map_cons, List.map_nil, List.length_cons, List.length_nil, List.replicate_zero, List.replicate_succ, List.append_nil, List.nil_append, List.cons_append, List.getElem?_cons_zero, List.getElem?_cons_succ, List.set_cons_zero, List.set_cons_succ, decide_eq_true_eq, Bool.not_eq_true', decide_eq_false_iff_not, if_true, if_false, Bool.false_eq_true, true_and, and_true, Bool.not_true, Bool.not_false, Int.reduceLT, Int.reduceLE, Int.reducePow, Int.reduceToNat, Int.reduceAdd, Int.reduceSub, Int.reduceNeg, Nat.reducePow, Nat.reduceLT, Nat.reduceLeDiff, true_or, or_true, Int.reduceEq, and_self, Nat.reduceAdd, Nat.reduceSub, reduceCtorEq, not_true_eq_false, not_false_eq_true, sp_Meter___init__, sp_Meter_know_one, sp_Meter_known, sp_Meter_half, sp_Meter_ran_out, sp_Meter_hurried, sp_lowest, sp_Ways___init__, sp_Ways_next_spread, sp_Ways_next_smooth, sp_Ways_least_wait, sp_Ways_measured, sp_Ways_ran_out, sp__law_whole, sp__law_cell_at, sp_ahead, sp_Sender_put, sp_Sender_many, sp_Sender_thing, sp_Sender_known_above_base, sp_Sender_under_way, sp_Sender_thing_waits, sp_Sender_clock_is_out, sp_Sender_hurry_is_due, sp_Sender_new_may_go, sp_Sender_set_clock, sp_Sender_go_again, sp_Sender_ask_for_room, sp_Sender_go_new, sp_Sender_go, sp_Sender_newly_known, sp_Sender_grow_base, sp_Sender_note_held, sp_Sender_heard, sp_Sender___init__, sp__law_ring, sp__law_thing, sp__law_stands, sp__law_heard, tFldC, sFldC, sAugC, tMtC, tMake, rFld_ref, rSetF_ref, rAugF_ref, rMt_ref, ex_ins, upd_same, upd_upd, L2.ex_som, fl_Meter_1_len, fl_Meter_1_new, fl_Meter_2_len, fl_Meter_2_new, fl_Meter_3_len, fl_Meter_3_new, fl_Meter_len, fl_Meter_new, fl_Meter_get_most, fl_Meter_get_window, fl_Meter_get_knee, fl_Meter_get_counted, fl_Meter_put_window, fl_Meter_put_knee, fl_Meter_put_counted, fl_Meter_no_known, fl_Meter_no_know_one, fl_Meter_no_half, fl_Ways_1_len, fl_Ways_1_new, fl_Ways_2_len, fl_Ways_2_new, fl_Ways_3_len, fl_Ways_3_new, fl_Ways_len, fl_Ways_new, fl_Ways_get_longest, fl_Ways_get_smooth, fl_Ways_get_spread, fl_Ways_get_wait, fl_Ways_put_smooth, fl_Ways_put_spread, fl_Ways_put_wait, fl_Ways_no_measured, fl_Ways_no_next_spread, fl_Ways_no_next_smooth, fl_Ways_no_least_wait, fl_Sender_1_len, fl_Sender_1_new, fl_Sender_2_len, fl_Sender_2_new, fl_Sender_3_len, fl_Sender_3_new, fl_Sender_4_len, fl_Sender_4_new, fl_Sender_5_len, fl_Sender_5_new, fl_Sender_6_len, fl_Sender_6_new, fl_Sender_7_len, fl_Sender_7_new, fl_Sender_8_len, fl_Sender_8_new, fl_Sender_9_len, fl_Sender_9_new, fl_Sender_10_len, fl_Sender_10_new, fl_Sender_11_len, fl_Sender_11_new, fl_Sender_len, fl_Sender_new, fl_Sender_get_ring, fl_Sender_get_ways, fl_Sender_get_meter, fl_Sender_get_things, fl_Sender_get_base, fl_Sender_get_top, fl_Sender_get_edge, fl_Sender_get_clock, fl_Sender_get_base_hurried, fl_Sender_get_known_places, fl_Sender_get_first_turns, fl_Sender_get_gone_again, fl_Sender_put_base, fl_Sender_put_top, fl_Sender_put_edge, fl_Sender_put_clock, fl_Sender_put_base_hurried, fl_Sender_no_put, fl_Sender_no_many, fl_Sender_no_thing, fl_Sender_no_heard, fl_Sender_no_grow_base, fl_Sender_no_note_held, fl_Sender_no_newly_known, fl_Sender_no_known_above_base, fl_Sender_no_under_way, fl_Sender_no_thing_waits, fl_Sender_no_clock_is_out, fl_Sender_no_hurry_is_due, fl_Sender_no_new_may_go, fl_Sender_no_go, fl_Sender_no_set_clock, fl_Sender_no_go_new, fl_Sender_no_ask_for_room, tDNewK, rDIn_ref, dinO_t, rDGet_ref, dgO_k, sDPutI, rDPut_ref, dpO_k, tRngV, rRngV_int, rListB_ref, listO_rng, rIxB_ref, rIxB_str, ixO_lst, ixO_tup, atI_0, atI_1, rLenB_ref, lenO_lst, rIsiB_ref, rIsiB_i, isiO_lst, ex_lst, $[$es:term],*])
local macro_rules | `(tactic| walk_at "wps") => `(tactic| exists true_and)
section
variable {C_Meter C_Ways C_Sender : Addr} {P : Program} {w : World} {K : PySem.W.Frag} {mg : Str → Option Value} {base : Heap}
theorem ok_Meter___init__ (T : Txt K mg C_Meter C_Ways C_Sender)  : MtAt P w K mg base CX0 C_Meter "__init__" 1 ["self", "most"] (sp_Meter___init__ C_Meter) := by
  refine T.d_Meter___init__.fn sc_Meter___init__ bd_Meter___init__ (fun vs H Q E h => ?_) fun f cdv A outer s H vs Q E HR h => ?_
  · unfold sp_Meter___init__ at h; split at h <;> first | rfl | exact h.elim
  · unfold sp_Meter___init__ at h
    split at h
    · rename_i p m
      refine ⟨_, (pss_cons (ps_fldC (pv 0) (pv 1) T.k_Meter T.n_Meter_most)
  (pss_cons (ps_fldC (pv 0) (pe_callBQ (call_minA rfl) (by rfl) T.b_min bt_min (pa_q pe_int (pa_q (pv 1) pa_nil))) T.k_Meter T.n_Meter_window)
  (pss_cons (ps_fldC (pv 0) (pv 1) T.k_Meter T.n_Meter_knee)
  (pss_one (ps_fldC (pv 0) pe_int T.k_Meter T.n_Meter_counted))))), ?_⟩
      obtain ⟨dx, hp, q⟩ := h
      exists hp
      exact q
    · exact h.elim
theorem ok_Meter_know_one (T : Txt K mg C_Meter C_Ways C_Sender)  : MtAt P w K mg base CX0 C_Meter "know_one" 1 ["self"] (sp_Meter_know_one C_Meter) := by
  refine T.d_Meter_know_one.fn sc_Meter_know_one bd_Meter_know_one (fun vs H Q E h => ?_) fun f cdv A outer s H vs Q E HR h => ?_
  · unfold sp_Meter_know_one at h; split at h <;> first | rfl | exact h.elim
  · unfold sp_Meter_know_one at h
    split at h
    · rename_i p
      refine ⟨_, (pss_cons (ps_if (pt_cmpR (op_eqK K rfl HR.units) (pe_fldC (pv 0) T.k_Meter T.n_Meter_window rfl) (pe_fldC (pv 0) T.k_Meter T.n_Meter_most rfl) (nomark _)) (pss_one ps_retN) pss_nil)
  (pss_cons (ps_if (pt_cmpR op_lt (pe_fldC (pv 0) T.k_Meter T.n_Meter_window rfl) (pe_fldC (pv 0) T.k_Meter T.n_Meter_knee rfl) (nomark _)) (pss_cons (ps_augC (pv 0) pe_int T.k_Meter T.n_Meter_window iop_add)
  (pss_one ps_retN)) pss_nil)
  (pss_cons (ps_augC (pv 0) pe_int T.k_Meter T.n_Meter_counted iop_add)
  (pss_one (ps_if (pt_cmpR (op_eqK K rfl HR.units) (pe_fldC (pv 0) T.k_Meter T.n_Meter_counted rfl) (pe_fldC (pv 0) T.k_Meter T.n_Meter_window rfl) (nomark _)) (pss_cons (ps_augC (pv 0) pe_int T.k_Meter T.n_Meter_window iop_add)
  (pss_one (ps_fldC (pv 0) pe_int T.k_Meter T.n_Meter_counted))) pss_nil))))), ?_⟩
      obtain ⟨dx, m, w, k, c, hp, q⟩ := h
      exists hp
      unfold MeterM.k1 at q
      split
      · rename_i c1
        rw [if_pos c1] at q
        rw [upd_id hp] at q
        exact q
      · rename_i c1
        rw [if_neg c1] at q
        split
        · rename_i c2
          rw [if_pos c2] at q
          exact q
        · rename_i c2
          rw [if_neg c2] at q
          split
          · rename_i c3
            rw [if_pos c3] at q
            exact q
          · rename_i c3
            rw [if_neg c3] at q
            exact q
    · exact h.elim
theorem ok_Meter_known (T : Txt K mg C_Meter C_Ways C_Sender)  : MtAt P w K mg base CX0 C_Meter "known" 2 ["self", "many"] (sp_Meter_known C_Meter) := by
  refine T.d_Meter_known.fn sc_Meter_known bd_Meter_known (fun vs H Q E h => ?_) fun f cdv A outer s H vs Q E HR h => ?_
  · unfold sp_Meter_known at h; split at h <;> first | rfl | exact h.elim
  · unfold sp_Meter_known at h
    split at h
    · rename_i p n
      refine ⟨_, (pss_one (ps_for PassesOwn.never rfl (pj_range1 rfl T.b_range (pa_q (pv 1) pa_nil)) (pg_name (i := 2) sc_Meter_known.nd rfl (Or.inl rfl)) (pss_one (ps_exprQ (pe_mtC0 (pv 0) T.k_Meter (ok_Meter_know_one T) HR (by decide)))))), ?_⟩
      obtain ⟨hn, dx, m, w, k, c, hp, q⟩ := h
      walk_at "wps"
      refine ⟨by lia, ?_⟩
      refine fo_rng (fun i σ H' => H' = upd H p (.ins C_Meter dx (fl_Meter (.int m) (.int (MeterM.kn m k i (w, c)).1) (.int k) (.int (MeterM.kn m k i (w, c)).2))) ∧ ∃ v2, σ = [some (.ref p), some (.int n), v2]) ⟨by rw [MeterM.kn]; exact (upd_id hp).symm, none, rfl⟩ (fun i σ H' hi hp' => ?_) (fun σ H' hp' => ?_)
      · obtain ⟨rfl, v2, rfl⟩ := hp'
        walk_at "wps"
        refine ⟨dx, m, _, k, _, rfl, ?_, _, rfl⟩
        rfl
      · obtain ⟨rfl, v2, rfl⟩ := hp'
        exact q
    · exact h.elim
theorem ok_Meter_half (T : Txt K mg C_Meter C_Ways C_Sender)  : MtAt P w K mg base CX0 C_Meter "half" 1 ["self"] (sp_Meter_half C_Meter) := by
  refine T.d_Meter_half.fn sc_Meter_half bd_Meter_half (fun vs H Q E h => ?_) fun f cdv A outer s H vs Q E HR h => ?_
  · unfold sp_Meter_half at h; split at h <;> first | rfl | exact h.elim
  · unfold sp_Meter_half at h
    split at h
    · rename_i p
      refine ⟨_, (pss_one (ps_ret (pe_callBQ (call_maxA rfl) (by rfl) T.b_max bt_max (pa_q pe_int (pa_q (pe_op op_fdiv (pe_fldC (pv 0) T.k_Meter T.n_Meter_window rfl) pe_int) pa_nil))))), ?_⟩
      obtain ⟨dx, m, w, k, c, hp, q⟩ := h
      exists hp
      exact q
    · exact h.elim
theorem ok_Meter_ran_out (T : Txt K mg C_Meter C_Ways C_Sender)  : MtAt P w K mg base CX0 C_Meter "ran_out" 2 ["self"] (sp_Meter_ran_out C_Meter) := by
  refine T.d_Meter_ran_out.fn sc_Meter_ran_out bd_Meter_ran_out (fun vs H Q E h => ?_) fun f cdv A outer s H vs Q E HR h => ?_
  · unfold sp_Meter_ran_out at h; split at h <;> first | rfl | exact h.elim
  · unfold sp_Meter_ran_out at h
    split at h
    · rename_i p
      refine ⟨_, (pss_cons (ps_fldC (pv 0) (pe_mtC0 (pv 0) T.k_Meter (ok_Meter_half T) HR (by decide)) T.k_Meter T.n_Meter_knee)
  (pss_cons (ps_fldC (pv 0) pe_int T.k_Meter T.n_Meter_window)
  (pss_one (ps_fldC (pv 0) pe_int T.k_Meter T.n_Meter_counted)))), ?_⟩
      obtain ⟨dx, m, w, k, c, hp, q⟩ := h
      exists hp
      exact ⟨dx, m, w, k, c, rfl, q⟩
    · exact h.elim
theorem ok_Meter_hurried (T : Txt K mg C_Meter C_Ways C_Sender)  : MtAt P w K mg base CX0 C_Meter "hurried" 2 ["self"] (sp_Meter_hurried C_Meter) := by
  refine T.d_Meter_hurried.fn sc_Meter_hurried bd_Meter_hurried (fun vs H Q E h => ?_) fun f cdv A outer s H vs Q E HR h => ?_
  · unfold sp_Meter_hurried at h; split at h <;> first | rfl | exact h.elim
  · unfold sp_Meter_hurried at h
    split at h
    · rename_i p
      refine ⟨_, (pss_cons (ps_fldC (pv 0) (pe_mtC0 (pv 0) T.k_Meter (ok_Meter_half T) HR (by decide)) T.k_Meter T.n_Meter_knee)
  (pss_cons (ps_fldC (pv 0) (pe_fldC (pv 0) T.k_Meter T.n_Meter_knee rfl) T.k_Meter T.n_Meter_window)
  (pss_one (ps_fldC (pv 0) pe_int T.k_Meter T.n_Meter_counted)))), ?_⟩
      obtain ⟨dx, m, w, k, c, hp, q⟩ := h
      exists hp
      exact ⟨dx, m, w, k, c, rfl, q⟩
    · exact h.elim
theorem ok_lowest (T : Txt K mg C_Meter C_Ways C_Sender)  : FnAt P w K mg base CX0 "lowest" 1 ["top", "bottom"] sp_lowest := by
  refine T.d_lowest.fn sc_lowest bd_lowest (fun vs H Q E h => ?_) fun f cdv A outer s H vs Q E HR h => ?_
  · unfold sp_lowest at h; split at h <;> first | rfl | exact h.elim
  · unfold sp_lowest at h
    split at h
    · rename_i t b
      refine ⟨_, (pss_cons (ps_setQ (i := 2) sc_lowest.nd rfl (Or.inl rfl) (pe_op op_and (pe_op op_or (pv 0) (pv 1)) (pe_un un_neg (pe_op op_or (pv 0) (pv 1)))))
  (pss_one (ps_ret (pe_tup (pa_q (pe_op op_fdivW (pv 0) (pv 2)) (pa_q (pe_op op_fdivW (pv 1) (pv 2)) pa_nil)))))), ?_⟩
      obtain ⟨⟨h0, h1, h2⟩, q⟩ := h
      walk_at "wps"
      rw [WaysI.lowbit h0 h1]
      have hl := WaysI.lb_pos h0 h1
      have hd : ∀ i, CDivW i (WaysM.lb (t.toNat ||| b.toNat) : Nat) := fun i => ⟨hl.1, h2.le (Int.le_of_lt hl.1) hl.2⟩
      exact ⟨hd _, hd _, q⟩
    · exact h.elim
theorem ok_Ways___init__ (T : Txt K mg C_Meter C_Ways C_Sender)  : MtAt P w K mg base CX0 C_Ways "__init__" 1 ["self", "first", "longest"] (sp_Ways___init__ C_Ways) := by
  refine T.d_Ways___init__.fn sc_Ways___init__ bd_Ways___init__ (fun vs H Q E h => ?_) fun f cdv A outer s H vs Q E HR h => ?_
  · unfold sp_Ways___init__ at h; split at h <;> first | rfl | exact h.elim
  · unfold sp_Ways___init__ at h
    split at h
    · rename_i p f l
      refine ⟨_, (pss_cons (ps_fldC (pv 0) (pv 2) T.k_Ways T.n_Ways_longest)
  (pss_cons (ps_fldC (pv 0) pe_non T.k_Ways T.n_Ways_smooth)
  (pss_cons (ps_fldC (pv 0) pe_non T.k_Ways T.n_Ways_spread)
  (pss_one (ps_fldC (pv 0) (pv 1) T.k_Ways T.n_Ways_wait))))), ?_⟩
      obtain ⟨dx, hp, q⟩ := h
      exists hp
      exact q
    · exact h.elim
theorem ok_Ways_next_spread (T : Txt K mg C_Meter C_Ways C_Sender)  : MtAt P w K mg base CX0 C_Ways "next_spread" 2 ["self", "m"] (sp_Ways_next_spread C_Ways) := by
  refine T.d_Ways_next_spread.fn sc_Ways_next_spread bd_Ways_next_spread (fun vs H Q E h => ?_) fun f cdv A outer s H vs Q E HR h => ?_
  · unfold sp_Ways_next_spread at h; split at h <;> first | rfl | exact h.elim
  · unfold sp_Ways_next_spread at h
    split at h
    · rename_i p m
      refine ⟨_, (pss_cons (ps_setQ (i := 2) sc_Ways_next_spread.nd rfl (Or.inl rfl) (pe_op op_mulW (pe_ix (ix_B K rfl) (pe_fldC (pv 0) T.k_Ways T.n_Ways_smooth rfl) pe_int (fun _ _ => rfl)) (pe_ix (ix_B K rfl) (pe_fldC (pv 0) T.k_Ways T.n_Ways_spread rfl) pe_int (fun _ _ => rfl))))
  (pss_hold (pss_cons (ps_setQ (i := 3) sc_Ways_next_spread.nd rfl (Or.inl rfl) (pe_callBQ call_abs (by rfl) T.b_abs bt_abs (pa_q (pe_op op_sub (pe_ix (ix_B K rfl) (pe_fldC (pv 0) T.k_Ways T.n_Ways_smooth rfl) pe_int (fun _ _ => rfl)) (pe_op op_mulW (pv 1) (pe_ix (ix_B K rfl) (pe_fldC (pv 0) T.k_Ways T.n_Ways_smooth rfl) pe_int (fun _ _ => rfl)))) pa_nil)))
  (pss_hold (pss_one (ps_ret (pe_fnQ (ok_lowest T) HR (by decide) rfl (pa_q (pe_op (op_addK K rfl) (pe_op op_mulW (pe_op op_mul pe_int (pe_ix (ix_B K rfl) (pe_fldC (pv 0) T.k_Ways T.n_Ways_spread rfl) pe_int (fun _ _ => rfl))) (pe_ix (ix_B K rfl) (pe_fldC (pv 0) T.k_Ways T.n_Ways_smooth rfl) pe_int (fun _ _ => rfl))) (pe_op op_mulW (pv 3) (pe_ix (ix_B K rfl) (pe_fldC (pv 0) T.k_Ways T.n_Ways_spread rfl) pe_int (fun _ _ => rfl)))) (pa_q (pe_op op_mul pe_int (pv 2)) pa_nil))))))))), ?_⟩
      obtain ⟨dx, L, w, a, A, b, B, W, ⟨ps, pp, hp, hs, hq⟩, q⟩ := h
      generalize h_u1 : tHold _ = u1
      exists hp, hs, hq
      have m2 := W.mB
      have b3 : Bd 1002 (3 * b) := Bd.mul (a := 2) (Bd.c (k := 3) (by decide)) W.b1
      have hAB := W.A1.mul W.B1
      have d := ((W.a1.up (show 1000 ≤ 1020 by decide)).sub (m2.mul W.A1)).abs
      have p1 := Int.mul_pos W.A0 W.B0
      refine ⟨mulW_B W.A1 W.B1 (by decide) (by decide), ?_⟩
      rw [← h_u1, tHold]
      generalize h_u2 : tHold _ = u2
      exists hp, hs, hq
      refine ⟨mulW_B m2 W.A1 (by decide) (by decide), _, rfl, ?_⟩
      rw [absE]
      rw [← h_u2, tHold]
      exists hp, hs, hq
      refine ⟨mulW_B b3 W.A1 (by decide) (by decide), mulW_B d W.B1 (by decide) (by decide), ⟨?_, by lia, ((Bd.c (n := 3) (k := 4) (by decide)).mul hAB).up (by decide)⟩, q⟩
      have := Int.mul_nonneg (Int.mul_nonneg (show (0 : Int) ≤ 3 by decide) W.b0) (Int.le_of_lt W.A0)
      have := Int.mul_nonneg (Int.natCast_nonneg (a - m * A).natAbs) (Int.le_of_lt W.B0)
      lia
    · exact h.elim
theorem ok_Ways_next_smooth (T : Txt K mg C_Meter C_Ways C_Sender)  : MtAt P w K mg base CX0 C_Ways "next_smooth" 2 ["self", "m"] (sp_Ways_next_smooth C_Ways) := by
  refine T.d_Ways_next_smooth.fn sc_Ways_next_smooth bd_Ways_next_smooth (fun vs H Q E h => ?_) fun f cdv A outer s H vs Q E HR h => ?_
  · unfold sp_Ways_next_smooth at h; split at h <;> first | rfl | exact h.elim
  · unfold sp_Ways_next_smooth at h
    split at h
    · rename_i p m
      refine ⟨_, (pss_one (ps_ret (pe_fnQ (ok_lowest T) HR (by decide) rfl (pa_q (pe_op (op_addK K rfl) (pe_op op_mul pe_int (pe_ix (ix_B K rfl) (pe_fldC (pv 0) T.k_Ways T.n_Ways_smooth rfl) pe_int (fun _ _ => rfl))) (pe_op op_mulW (pv 1) (pe_ix (ix_B K rfl) (pe_fldC (pv 0) T.k_Ways T.n_Ways_smooth rfl) pe_int (fun _ _ => rfl)))) (pa_q (pe_op op_mul pe_int (pe_ix (ix_B K rfl) (pe_fldC (pv 0) T.k_Ways T.n_Ways_smooth rfl) pe_int (fun _ _ => rfl))) pa_nil))))), ?_⟩
      obtain ⟨dx, L, s, ps, w, a, A, ⟨m0, m1, a0, A0, A1⟩, hp, hs, q⟩ := h
      exists hp, hs
      have := Int.mul_nonneg m0 (Int.le_of_lt A0)
      exact ⟨mulW_l (by lia), ⟨by lia, by lia, ((Bd.c (n := 3) (k := 4) (by decide)).mul A1).up (by decide)⟩, q⟩
    · exact h.elim
theorem ok_Ways_least_wait (T : Txt K mg C_Meter C_Ways C_Sender)  : MtAt P w K mg base CX0 C_Ways "least_wait" 1 ["self"] (sp_Ways_least_wait C_Ways) := by
  refine T.d_Ways_least_wait.fn sc_Ways_least_wait bd_Ways_least_wait (fun vs H Q E h => ?_) fun f cdv A outer s H vs Q E HR h => ?_
  · unfold sp_Ways_least_wait at h; split at h <;> first | rfl | exact h.elim
  · unfold sp_Ways_least_wait at h
    split at h
    · rename_i p
      refine ⟨_, (pss_cons (ps_setQ (i := 1) sc_Ways_least_wait.nd rfl (Or.inl rfl) (pe_op (op_addK K rfl) (pe_op op_mulW (pe_ix (ix_B K rfl) (pe_fldC (pv 0) T.k_Ways T.n_Ways_smooth rfl) pe_int (fun _ _ => rfl)) (pe_ix (ix_B K rfl) (pe_fldC (pv 0) T.k_Ways T.n_Ways_spread rfl) pe_int (fun _ _ => rfl))) (pe_op op_mulW (pe_op op_mul pe_int (pe_ix (ix_B K rfl) (pe_fldC (pv 0) T.k_Ways T.n_Ways_spread rfl) pe_int (fun _ _ => rfl))) (pe_ix (ix_B K rfl) (pe_fldC (pv 0) T.k_Ways T.n_Ways_smooth rfl) pe_int (fun _ _ => rfl)))))
  (pss_hold (pss_one (ps_ret (pe_un un_neg (pe_op op_fdivW (pe_un un_neg (pv 1)) (pe_op op_mulW (pe_ix (ix_B K rfl) (pe_fldC (pv 0) T.k_Ways T.n_Ways_smooth rfl) pe_int (fun _ _ => rfl)) (pe_ix (ix_B K rfl) (pe_fldC (pv 0) T.k_Ways T.n_Ways_spread rfl) pe_int (fun _ _ => rfl))))))))), ?_⟩
      obtain ⟨dx, L, w, a, A, b, B, ⟨A0, B0, a1, A1, b1, B1⟩, ⟨ps, pp, hp, hs, hq⟩, q⟩ := h
      generalize h_u1 : tHold _ = u1
      exists hp, hs, hq
      refine ⟨mulW_B a1 B1 (by decide) (by decide), mulW_B ((Bd.c (n := 3) (k := 4) (by decide)).mul b1) A1 (by decide) (by decide), ?_⟩
      rw [← h_u1, tHold]
      exists hp, hs, hq
      exact ⟨mulW_B A1 B1 (by decide) (by decide), divW_B (Int.mul_pos A0 B0) (A1.mul B1) (by decide), q⟩
    · exact h.elim
theorem ok_Ways_measured (T : Txt K mg C_Meter C_Ways C_Sender)  : MtAt P w K mg base CX0 C_Ways "measured" 3 ["self", "m"] (sp_Ways_measured C_Ways) := by
  refine T.d_Ways_measured.fn sc_Ways_measured bd_Ways_measured (fun vs H Q E h => ?_) fun f cdv A outer s H vs Q E HR h => ?_
  · unfold sp_Ways_measured at h; split at h <;> first | rfl | exact h.elim
  · unfold sp_Ways_measured at h
    split at h
    · rename_i p m
      refine ⟨_, (pss_cons (ps_if (pt_cmpR op_isNA (pe_fldC (pv 0) T.k_Ways T.n_Ways_smooth rfl) pe_non (nomark _)) (pss_cons (ps_fldC (pv 0) (pe_tup (pa_q (pv 1) (pa_q pe_int pa_nil))) T.k_Ways T.n_Ways_smooth)
  (pss_hold (pss_one (ps_fldC (pv 0) (pe_fnQ (ok_lowest T) HR (by decide) rfl (pa_q (pv 1) (pa_q pe_int pa_nil))) T.k_Ways T.n_Ways_spread)))) (pss_cons (ps_fldC (pv 0) (pe_mtC (pv 0) T.k_Ways (ok_Ways_next_spread T) HR (by decide) (pa_q (pv 1) pa_nil)) T.k_Ways T.n_Ways_spread)
  (pss_hold (pss_one (ps_fldC (pv 0) (pe_mtC (pv 0) T.k_Ways (ok_Ways_next_smooth T) HR (by decide) (pa_q (pv 1) pa_nil)) T.k_Ways T.n_Ways_smooth)))))
  (pss_hold (pss_one (ps_fldC (pv 0) (pe_callBQ (call_maxA rfl) (by rfl) T.b_max bt_max (pa_q (pe_cst rfl T.c_WAIT_LEAST) (pa_q (pe_callBQ (call_minA rfl) (by rfl) T.b_min bt_min (pa_q (pe_fldC (pv 0) T.k_Ways T.n_Ways_longest rfl) (pa_q (pe_mtC0 (pv 0) T.k_Ways (ok_Ways_least_wait T) HR (by decide)) pa_nil))) pa_nil))) T.k_Ways T.n_Ways_wait)))), ?_⟩
      obtain ⟨hm, ⟨dx, L, w, hp, q⟩ | ⟨dx, L, w, a, A, b, B, W, ⟨ps, pp, hp, hs, hq⟩, q⟩⟩ := h
      · generalize h_u1 : tHold _ = u1
        generalize h_u2 : tHold _ = u2
        generalize h_u3 : tHold _ = u3
        exists hp
        intro p1 hp1
        have n1 : p ≠ p1 := ne_of_none hp hp1
        have e1 := upd_old (o := .tup [V.int m, V.int 1]) hp hp1
        exists e1
        rw [← h_u1, tHold]
        walk_at "wps"
        refine ⟨⟨hm.1, Bd.up (a := 2) (Bd.c (k := 2) (by decide)) (by decide)⟩, fun p2 hp2 => ?_⟩
        have n2 : p2 ≠ p := fresh_ne hp2
        have n3 : p1 ≠ p2 := fun e => by rw [← e, upd_ne n1.symm, upd_same] at hp2; cases hp2
        have e2 := upd_old (o := .tup [V.int (WaysM.low m 2).1, V.int (WaysM.low m 2).2]) (upd_same (H := upd H p1 (.tup [V.int m, V.int 1])) (a := p) (o := .ins C_Ways dx (fl_Ways (.int L) (.ref p1) .non (.int w)))) hp2
        exists e2
        rw [← h_u3, tHold]
        walk_at "wps"
        obtain ⟨s, Lo⟩ := WaysM.low_spec (t := m) (b := 2) hm.1 (by decide)
        have l1 := Lo.t0
        have l2 := Lo.b0
        have l3 := Lo.tl
        have l4 := Lo.bl
        have mb : Bd 20 m := Bd.of hm.1 (by lia)
        refine ⟨dx, L, w, m, 1, (WaysM.low m 2).1, (WaysM.low m 2).2, ⟨by decide, l2, mb.up (by decide), Bd.up (a := 1) (Bd.c (k := 1) (by decide)) (by decide), (mb.le l1 l3).up (by decide), (Bd.le (Bd.c (n := 2) (k := 2) (by decide)) (Int.le_of_lt l2) l4).up (by decide)⟩, ⟨p1, p2, upd_same, ?_, ?_⟩, ?_⟩
        · rw [upd_ne n1.symm, upd_ne n3, upd_ne n1.symm, upd_same]
        · rw [upd_ne n2, upd_same]
        · refine q _ ?_ ⟨p1, p2, upd_same, ?_, ?_⟩
          · intro b o hb hne
            rw [upd_ne hne, upd_ne, upd_ne hne, upd_ne (ne_of_none hb hp1)]
            · exact hb
            · intro e; rw [e] at hb; rw [upd_ne n2, upd_ne n3.symm] at hp2; rw [hb] at hp2; cases hp2
          · rw [upd_ne n1.symm, upd_ne n3, upd_ne n1.symm, upd_same]
          · rw [upd_ne n2, upd_same]
      · generalize h_u1 : tHold _ = u1
        generalize h_u2 : tHold _ = u2
        generalize h_u3 : tHold _ = u3
        exists hp, hs, hq
        have n0 : ps ≠ p := ne_of hs hp (by simp)
        refine ⟨dx, L, w, a, A, b, B, W, ⟨ps, pp, hp, hs, hq⟩, fun q1 hq1 => ?_⟩
        have n1 : p ≠ q1 := ne_of_none hp hq1
        have n4 : ps ≠ q1 := ne_of_none hs hq1
        have e1 := upd_old (o := .tup [V.int (nsp a A b B m).1, V.int (nsp a A b B m).2]) hp hq1
        exists e1
        rw [← h_u2, tHold]
        walk_at "wps"
        refine ⟨dx, L, .ref q1, ps, w, a, A, ⟨hm.1, hm.2, W.a0, W.A0, W.A1⟩, rfl, by rw [upd_ne n0, upd_ne n4]; exact hs, fun q2 hq2 => ?_⟩
        have n2 : q2 ≠ p := fresh_ne hq2
        have n3 : q1 ≠ q2 := fun e => by rw [← e, upd_ne n1.symm, upd_same] at hq2; cases hq2
        have e2 := upd_old (o := .tup [V.int (nsm a A m).1, V.int (nsm a A m).2]) (upd_same (H := upd H q1 (.tup [V.int (nsp a A b B m).1, V.int (nsp a A b B m).2])) (a := p) (o := .ins C_Ways dx (fl_Ways (.int L) (.ref ps) (.ref q1) (.int w)))) hq2
        exists e2
        rw [← h_u3, tHold]
        walk_at "wps"
        have B1 := W.nsmB
        have B2 := W.nspB
        refine ⟨dx, L, w, _, _, _, _, ⟨B1.2.1, B2.2.1, B1.2.2.1, B1.2.2.2, B2.2.2.1, B2.2.2.2⟩, ⟨q2, q1, upd_same, ?_, ?_⟩, ?_⟩
        · rw [upd_ne n2, upd_same]
        · rw [upd_ne n1.symm, upd_ne n3, upd_ne n1.symm, upd_same]
        · refine q _ ?_ ⟨q2, q1, upd_same, ?_, ?_⟩
          · intro b o hb hne
            rw [upd_ne hne, upd_ne, upd_ne hne, upd_ne (ne_of_none hb hq1)]
            · exact hb
            · intro e; rw [e] at hb; rw [upd_ne n2, upd_ne n3.symm] at hq2; rw [hb] at hq2; cases hq2
          · rw [upd_ne n2, upd_same]
          · rw [upd_ne n1.symm, upd_ne n3, upd_ne n1.symm, upd_same]
    · exact h.elim
theorem ok_Ways_ran_out (T : Txt K mg C_Meter C_Ways C_Sender)  : MtAt P w K mg base CX0 C_Ways "ran_out" 1 ["self"] (sp_Ways_ran_out C_Ways) := by
  refine T.d_Ways_ran_out.fn sc_Ways_ran_out bd_Ways_ran_out (fun vs H Q E h => ?_) fun f cdv A outer s H vs Q E HR h => ?_
  · unfold sp_Ways_ran_out at h; split at h <;> first | rfl | exact h.elim
  · unfold sp_Ways_ran_out at h
    split at h
    · rename_i p
      refine ⟨_, (pss_one (ps_fldC (pv 0) (pe_callBQ (call_minA rfl) (by rfl) T.b_min bt_min (pa_q (pe_op op_mul pe_int (pe_fldC (pv 0) T.k_Ways T.n_Ways_wait rfl)) (pa_q (pe_fldC (pv 0) T.k_Ways T.n_Ways_longest rfl) pa_nil))) T.k_Ways T.n_Ways_wait)), ?_⟩
      obtain ⟨dx, L, s, sp, w, hp, q⟩ := h
      exists hp
      exact q
    · exact h.elim
theorem ok__law_whole (T : Txt K mg C_Meter C_Ways C_Sender)  : FnAt P w K mg base CX0 "_law_whole" 1 ["_law_found"] sp__law_whole := by
  refine T.d__law_whole.fn sc__law_whole bd__law_whole (fun vs H Q E h => ?_) fun f cdv A outer s H vs Q E HR h => ?_
  · unfold sp__law_whole at h; split at h <;> first | rfl | exact h.elim
  · unfold sp__law_whole at h
    split at h
    · skip
      refine ⟨_, (pss_one (ps_ret (pe_and (pe_callBQ (call_isiB K rfl) (by rfl) T.b_isinstance bt_isinstance (pa_q (pv 0) (pa_q (pe_ty rfl T.b_int bt_int) pa_nil))) (pe_one (pe_not (pe_callBQ (call_isiB K rfl) (by rfl) T.b_isinstance bt_isinstance (pa_q (pv 0) (pa_q (pe_ty rfl T.b_bool bt_bool) pa_nil)))))))), ?_⟩
      walk_at "wps"
      exact h
    · exact h.elim
theorem ok__law_cell_at (T : Txt K mg C_Meter C_Ways C_Sender)  (a₀ : Addr) (ns : List Int) : FnAt P w K mg base CX0 "_law_cell_at" 1 ["_law_script", "_law_k"] (sp__law_cell_at K a₀ ns) := by
  refine T.d__law_cell_at.fn sc__law_cell_at bd__law_cell_at (fun vs H Q E h => ?_) fun f cdv A outer s H vs Q E HR h => ?_
  · unfold sp__law_cell_at at h; split at h <;> first | rfl | exact h.elim
  · unfold sp__law_cell_at at h
    split at h
    · rename_i a k
      refine ⟨_, (pss_cons (ps_if (pt_cmpR op_lt (pv 1) (pe_callBQ (call_lenK K rfl) (by rfl) T.b_len bt_len (pa_q (pv 0) pa_nil)) (nomark _)) (pss_one (ps_ret (pe_ix (ix_K K rfl) (pv 0) (pv 1) (fun _ _ => rfl)))) pss_nil)
  (pss_one (ps_ret pe_int))), ?_⟩
      obtain ⟨rfl, hS, h0, q⟩ := h
      walk_at "wps"
      refine ⟨_, .inl hS, ?_⟩
      rw [List.length_map]
      split
      · rename_i c; exact ixA_ints hS h0 c (q _)
      · exact q _
    · exact h.elim
theorem ok_ahead (T : Txt K mg C_Meter C_Ways C_Sender)  : FnAt P w K mg base CX0 "ahead" 1 ["ring", "one", "other"] sp_ahead := by
  refine T.d_ahead.fn sc_ahead bd_ahead (fun vs H Q E h => ?_) fun f cdv A outer s H vs Q E HR h => ?_
  · unfold sp_ahead at h; split at h <;> first | rfl | exact h.elim
  · unfold sp_ahead at h
    split at h
    · rename_i r a b
      refine ⟨_, (pss_one (ps_ret (pe_op op_mod (pe_op op_sub (pv 2) (pv 1)) (pv 0)))), ?_⟩
      walk_at "wps"
      exact h
    · exact h.elim
theorem ok_Sender_put (T : Txt K mg C_Meter C_Ways C_Sender)    : MtAt P w K mg base CX0 C_Sender "put" 1 ["self", "thing"] (sp_Sender_put C_Sender C_Ways C_Meter) := by
  refine T.d_Sender_put.fn sc_Sender_put bd_Sender_put (fun vs H Q E h => ?_) fun f cdv A outer s H vs Q E HR h => ?_
  · unfold sp_Sender_put at h; split at h <;> first | rfl | exact h.elim
  · unfold sp_Sender_put at h
    split at h
    · rename_i x th
      refine ⟨_, (pss_one (ps_exprQ (pe_appendK K rfl (pe_fldC (pv 0) T.k_Sender T.n_Sender_things rfl) (pv 1)))), ?_⟩
      obtain ⟨A, z, hS, hl, q⟩ := h
      exists hS.hx, hS.ht
      refine ⟨tyV_list (SqL.of hS.ht), by rw [sizeLine_eq]; lia, q _ But.upd ?_⟩
      exact hS.row hS.ht _ z.Kn z.Fi (by simp) (by simp) upd_same (by rw [upd_ne (ne_of hS.hk hS.ht (by simp))]; exact hS.hk) (by rw [upd_ne (ne_of hS.hf hS.ht (by simp))]; exact hS.hf) (ne_of hS.ht hS.ha (by simp))
    · exact h.elim
theorem ok_Sender_many (T : Txt K mg C_Meter C_Ways C_Sender)    : MtAt P w K mg base CX0 C_Sender "many" 1 ["self"] (sp_Sender_many C_Sender C_Ways C_Meter) := by
  refine T.d_Sender_many.fn sc_Sender_many bd_Sender_many (fun vs H Q E h => ?_) fun f cdv A outer s H vs Q E HR h => ?_
  · unfold sp_Sender_many at h; split at h <;> first | rfl | exact h.elim
  · unfold sp_Sender_many at h
    split at h
    · rename_i x
      refine ⟨_, (pss_one (ps_ret (pe_callBQ (call_lenB K rfl) (by rfl) T.b_len bt_len (pa_q (pe_fldC (pv 0) T.k_Sender T.n_Sender_things rfl) pa_nil)))), ?_⟩
      obtain ⟨A, z, hS, q⟩ := h
      exists hS.hx, hS.ht
      exact q
    · exact h.elim
theorem ok_Sender_thing (T : Txt K mg C_Meter C_Ways C_Sender)    : MtAt P w K mg base CX0 C_Sender "thing" 1 ["self", "place"] (sp_Sender_thing C_Sender C_Ways C_Meter) := by
  refine T.d_Sender_thing.fn sc_Sender_thing bd_Sender_thing (fun vs H Q E h => ?_) fun f cdv A outer s H vs Q E HR h => ?_
  · unfold sp_Sender_thing at h; split at h <;> first | rfl | exact h.elim
  · unfold sp_Sender_thing at h
    split at h
    · rename_i x p
      refine ⟨_, (pss_one (ps_ret (pe_ix (ix_B K rfl) (pe_fldC (pv 0) T.k_Sender T.n_Sender_things rfl) (pv 1) (fun _ _ => rfl)))), ?_⟩
      obtain ⟨A, z, v, hS, hv, q⟩ := h
      exists hS.hx, hS.ht
      exact ⟨v, hv, q⟩
    · exact h.elim
theorem ok_Sender_known_above_base (T : Txt K mg C_Meter C_Ways C_Sender)    : MtAt P w K mg base CX0 C_Sender "known_above_base" 1 ["self"] (sp_Sender_known_above_base C_Sender C_Ways C_Meter) := by
  refine T.d_Sender_known_above_base.fn sc_Sender_known_above_base bd_Sender_known_above_base (fun vs H Q E h => ?_) fun f cdv A outer s H vs Q E HR h => ?_
  · unfold sp_Sender_known_above_base at h; split at h <;> first | rfl | exact h.elim
  · unfold sp_Sender_known_above_base at h
    split at h
    · rename_i x
      refine ⟨_, (pss_one (ps_ret (pe_callBQ (call_lenB K rfl) (by rfl) T.b_len bt_len (pa_q (pe_comp (N := (["place", "self"] : List Str)) (nv := 1) (ix := [0]) rfl (cs_of (by kernel_rfl)) (pj_range2 rfl T.b_range (pa_q (pe_op (op_addK K rfl) (pe_fldC (pv 0) T.k_Sender T.n_Sender_base rfl) pe_int) (pa_q (pe_fldC (pv 0) T.k_Sender T.n_Sender_top rfl) pa_nil))) (fun _ _ _ _ _ => (pg_name (i := 0) (show ((["place", "self"] : List Str)).Nodup by decide) rfl (Or.inl rfl))) (fun _ _ _ _ _ => (pts_one (pt_cmp (pc_dI HR.units (pv 0) (pe_fldC (pv 1) T.k_Sender T.n_Sender_known_places rfl)) (nomarkQ rfl)))) (fun _ _ _ _ _ => (pv 0))) pa_nil)))), ?_⟩
      obtain ⟨A, z, hS, hb, q⟩ := h
      exists hS.hx
      refine ⟨by lia, ?_⟩
      have e0 : (z.t - (z.b + 1)).toNat = 0 := by lia
      rw [e0]
      refine co_rng (p := fun _ => true) (f := fun v => v) (small_ok (by decide)) (fun j hj => absurd hj (by lia)) (fun j hj => absurd hj (by lia)) ?_
      refine ⟨small_ok (by simp [rngV]), fun l hl => ?_⟩
      exact q _ (same_upd hl)
    · exact h.elim
theorem ok_Sender_under_way (T : Txt K mg C_Meter C_Ways C_Sender)    : MtAt P w K mg base CX0 C_Sender "under_way" 2 ["self"] (sp_Sender_under_way C_Sender C_Ways C_Meter) := by
  refine T.d_Sender_under_way.fn sc_Sender_under_way bd_Sender_under_way (fun vs H Q E h => ?_) fun f cdv A outer s H vs Q E HR h => ?_
  · unfold sp_Sender_under_way at h; split at h <;> first | rfl | exact h.elim
  · unfold sp_Sender_under_way at h
    split at h
    · rename_i x
      refine ⟨_, (pss_one (ps_ret (pe_op op_sub (pe_op op_sub (pe_fldC (pv 0) T.k_Sender T.n_Sender_top rfl) (pe_fldC (pv 0) T.k_Sender T.n_Sender_base rfl)) (pe_mtC0 (pv 0) T.k_Sender (ok_Sender_known_above_base T) HR (by decide))))), ?_⟩
      obtain ⟨A, z, hS, hb, q⟩ := h
      exists hS.hx
      refine ⟨A, z, hS, hb, fun H' sm => ?_⟩
      have := q H' sm
      simpa using this
    · exact h.elim
theorem ok_Sender_thing_waits (T : Txt K mg C_Meter C_Ways C_Sender)    : MtAt P w K mg base CX0 C_Sender "thing_waits" 2 ["self"] (sp_Sender_thing_waits C_Sender C_Ways C_Meter) := by
  refine T.d_Sender_thing_waits.fn sc_Sender_thing_waits bd_Sender_thing_waits (fun vs H Q E h => ?_) fun f cdv A outer s H vs Q E HR h => ?_
  · unfold sp_Sender_thing_waits at h; split at h <;> first | rfl | exact h.elim
  · unfold sp_Sender_thing_waits at h
    split at h
    · rename_i x
      refine ⟨_, (pss_one (ps_ret (pe_cmpR op_lt (pe_fldC (pv 0) T.k_Sender T.n_Sender_top rfl) (pe_mtC0 (pv 0) T.k_Sender (ok_Sender_many T) HR (by decide)) (nomark _)))), ?_⟩
      obtain ⟨A, z, hS, q⟩ := h
      exists hS.hx
      exact ⟨A, z, hS, q⟩
    · exact h.elim
theorem ok_Sender_clock_is_out (T : Txt K mg C_Meter C_Ways C_Sender)    : MtAt P w K mg base CX0 C_Sender "clock_is_out" 1 ["self", "turn"] (sp_Sender_clock_is_out C_Sender C_Ways C_Meter) := by
  refine T.d_Sender_clock_is_out.fn sc_Sender_clock_is_out bd_Sender_clock_is_out (fun vs H Q E h => ?_) fun f cdv A outer s H vs Q E HR h => ?_
  · unfold sp_Sender_clock_is_out at h; split at h <;> first | rfl | exact h.elim
  · unfold sp_Sender_clock_is_out at h
    split at h
    · rename_i x n
      refine ⟨_, (pss_one (ps_ret (pe_and (pe_cmpR op_notNA (pe_fldC (pv 0) T.k_Sender T.n_Sender_clock rfl) pe_non (nomark _)) (pe_one (pe_cmpR op_ge (pv 1) (pe_fldC (pv 0) T.k_Sender T.n_Sender_clock rfl) (nomark _)))))), ?_⟩
      obtain ⟨A, z, c, hS, hc, q⟩ := h
      have hx := hS.hx
      rw [hc] at hx
      exists hx
      exact q
    · exact h.elim
theorem ok_Sender_hurry_is_due (T : Txt K mg C_Meter C_Ways C_Sender)    : MtAt P w K mg base CX0 C_Sender "hurry_is_due" 2 ["self"] (sp_Sender_hurry_is_due C_Sender C_Ways C_Meter) := by
  refine T.d_Sender_hurry_is_due.fn sc_Sender_hurry_is_due bd_Sender_hurry_is_due (fun vs H Q E h => ?_) fun f cdv A outer s H vs Q E HR h => ?_
  · unfold sp_Sender_hurry_is_due at h; split at h <;> first | rfl | exact h.elim
  · unfold sp_Sender_hurry_is_due at h
    split at h
    · rename_i x
      refine ⟨_, (pss_one (ps_ret (pe_and (pe_cmpR op_lt (pe_fldC (pv 0) T.k_Sender T.n_Sender_base rfl) (pe_fldC (pv 0) T.k_Sender T.n_Sender_top rfl) (nomark _)) (pe_and (pe_not (pe_fldC (pv 0) T.k_Sender T.n_Sender_base_hurried rfl)) (pe_one (pe_cmpR op_ge (pe_mtC0 (pv 0) T.k_Sender (ok_Sender_known_above_base T) HR (by decide)) (pe_cst rfl T.c_KNOWN_TO_HURRY) (nomark _))))))), ?_⟩
      obtain ⟨A, z, hS, hb, q⟩ := h
      exists hS.hx
      split
      · split
        · exact ⟨A, z, hS, hb, fun H' sm => by simpa using q H' sm⟩
        · exact q H (Same.refl _)
      · exact q H (Same.refl _)
    · exact h.elim
theorem ok_Sender_new_may_go (T : Txt K mg C_Meter C_Ways C_Sender)    : MtAt P w K mg base CX0 C_Sender "new_may_go" 3 ["self"] (sp_Sender_new_may_go C_Sender C_Ways C_Meter) := by
  refine T.d_Sender_new_may_go.fn sc_Sender_new_may_go bd_Sender_new_may_go (fun vs H Q E h => ?_) fun f cdv A outer s H vs Q E HR h => ?_
  · unfold sp_Sender_new_may_go at h; split at h <;> first | rfl | exact h.elim
  · unfold sp_Sender_new_may_go at h
    split at h
    · rename_i x
      refine ⟨_, (pss_one (ps_ret (pe_and (pe_mtC0 (pv 0) T.k_Sender (ok_Sender_thing_waits T) HR (by decide)) (pe_and (pe_cmpR op_lt (pe_fldC (pv 0) T.k_Sender T.n_Sender_top rfl) (pe_fldC (pv 0) T.k_Sender T.n_Sender_edge rfl) (nomark _)) (pe_one (pe_cmpR op_lt (pe_mtC0 (pv 0) T.k_Sender (ok_Sender_under_way T) HR (by decide)) (pe_fldC (pe_fldC (pv 0) T.k_Sender T.n_Sender_meter rfl) T.k_Meter T.n_Meter_window rfl) (nomark _))))))), ?_⟩
      obtain ⟨A, z, hS, hb, r, hr, q⟩ := h
      exists hS.hx
      refine ⟨A, z, hS, ?_⟩
      rcases hr with ⟨c1, c2, c3, rfl⟩ | ⟨c1, rfl⟩
      · rw [if_pos c2, if_pos c3]
        refine ⟨A, z, hS, hb, fun H' sm => ?_⟩
        have S' := hS.same sm
        obtain ⟨mo, kn, co, em, hi⟩ := S'.ms
        exists S'.hx, em
        have h1 := hi.1
        simp only at h1
        rw [decide_eq_true (show z.t - z.b < z.wi by lia)]
        exact q H' sm
      · rw [if_neg c1]
        exact q H (Same.refl _)
    · exact h.elim
theorem ok_Sender_set_clock (T : Txt K mg C_Meter C_Ways C_Sender)    : MtAt P w K mg base CX0 C_Sender "set_clock" 1 ["self", "turn"] (sp_Sender_set_clock C_Sender C_Ways C_Meter) := by
  refine T.d_Sender_set_clock.fn sc_Sender_set_clock bd_Sender_set_clock (fun vs H Q E h => ?_) fun f cdv A outer s H vs Q E HR h => ?_
  · unfold sp_Sender_set_clock at h; split at h <;> first | rfl | exact h.elim
  · unfold sp_Sender_set_clock at h
    split at h
    · rename_i x n
      refine ⟨_, (pss_one (ps_fldC (pv 0) (pe_op (op_addK K rfl) (pv 1) (pe_fldC (pe_fldC (pv 0) T.k_Sender T.n_Sender_ways rfl) T.k_Ways T.n_Ways_wait rfl)) T.k_Sender T.n_Sender_clock)), ?_⟩
      obtain ⟨A, z, hS, q⟩ := h
      obtain ⟨s0, sp0, hw⟩ := hS.ws.ins
      exists hS.hx, hw
      exact q _ But.upd (hS.put _ _ _ _ _)
    · exact h.elim
theorem ok_Sender_go_again (T : Txt K mg C_Meter C_Ways C_Sender)  : MtAt P w K mg base CX0 C_Sender "go_again" 2 ["self", "turn"] sp_Sender_go_again := by
  refine T.d_Sender_go_again.fn sc_Sender_go_again bd_Sender_go_again (fun vs H Q E h => ?_) fun f cdv A outer s H vs Q E HR h => ?_
  · unfold sp_Sender_go_again at h; split at h <;> first | rfl | exact h.elim
  · unfold sp_Sender_go_again at h
    split at h
    · skip
      refine ⟨_, (pss_cons (ps_exprQ (pe_mtC (pv 0) T.k_Sender (ok_Sender_set_clock T) HR (by decide) (pa_q (pv 1) pa_nil)))
  (pss_cons (ps_fldC (pv 0) pe_bl T.k_Sender T.n_Sender_base_hurried)
  (pss_cons (ps_dpI HR.units (pe_fldC (pv 0) T.k_Sender T.n_Sender_gone_again rfl) (pe_fldC (pv 0) T.k_Sender T.n_Sender_base rfl) pe_bl)
  (pss_one (ps_ret (pe_tup (pa_q pe_str (pa_q (pe_fldC (pv 0) T.k_Sender T.n_Sender_base rfl) pa_nil)))))))), ?_⟩
      exact h.elim
    · exact h.elim
theorem ok_Sender_ask_for_room (T : Txt K mg C_Meter C_Ways C_Sender)  : MtAt P w K mg base CX0 C_Sender "ask_for_room" 3 ["self", "turn"] sp_Sender_ask_for_room := by
  refine T.d_Sender_ask_for_room.fn sc_Sender_ask_for_room bd_Sender_ask_for_room (fun vs H Q E h => ?_) fun f cdv A outer s H vs Q E HR h => ?_
  · unfold sp_Sender_ask_for_room at h; split at h <;> first | rfl | exact h.elim
  · unfold sp_Sender_ask_for_room at h
    split at h
    · skip
      refine ⟨_, (pss_cons (ps_if (pt_cmpR op_isNA (pe_fldC (pv 0) T.k_Sender T.n_Sender_clock rfl) pe_non (nomark _)) (pss_cons (ps_exprQ (pe_mtC (pv 0) T.k_Sender (ok_Sender_set_clock T) HR (by decide) (pa_q (pv 1) pa_nil)))
  (pss_one (ps_ret pe_non))) pss_nil)
  (pss_cons (ps_if (pt_not (pt_q (pe_mtC (pv 0) T.k_Sender (ok_Sender_clock_is_out T) HR (by decide) (pa_q (pv 1) pa_nil)))) (pss_one (ps_ret pe_non)) pss_nil)
  (pss_cons (ps_exprQ (pe_mtC0 (pe_fldC (pv 0) T.k_Sender T.n_Sender_ways rfl) T.k_Ways (ok_Ways_ran_out T) HR (by decide)))
  (pss_cons (ps_exprQ (pe_mtC (pv 0) T.k_Sender (ok_Sender_set_clock T) HR (by decide) (pa_q (pv 1) pa_nil)))
  (pss_one (ps_ret (pe_tup (pa_q pe_str (pa_q pe_non pa_nil))))))))), ?_⟩
      exact h.elim
    · exact h.elim
theorem ok_Sender_go_new (T : Txt K mg C_Meter C_Ways C_Sender)    : MtAt P w K mg base CX0 C_Sender "go_new" 2 ["self", "turn"] (sp_Sender_go_new C_Sender C_Ways C_Meter) := by
  refine T.d_Sender_go_new.fn sc_Sender_go_new bd_Sender_go_new (fun vs H Q E h => ?_) fun f cdv A outer s H vs Q E HR h => ?_
  · unfold sp_Sender_go_new at h; split at h <;> first | rfl | exact h.elim
  · unfold sp_Sender_go_new at h
    split at h
    · rename_i x n
      refine ⟨_, (pss_cons (ps_setQ (i := 2) sc_Sender_go_new.nd rfl (Or.inl rfl) (pe_fldC (pv 0) T.k_Sender T.n_Sender_top rfl))
  (pss_mid (ps_if (pt_cmpR (op_eqK K rfl HR.units) (pe_fldC (pv 0) T.k_Sender T.n_Sender_base rfl) (pe_fldC (pv 0) T.k_Sender T.n_Sender_top rfl) (nomark _)) (pss_one (ps_exprQ (pe_mtC (pv 0) T.k_Sender (ok_Sender_set_clock T) HR (by decide) (pa_q (pv 1) pa_nil)))) pss_nil)
  (pss_cons (ps_dpI HR.units (pe_fldC (pv 0) T.k_Sender T.n_Sender_first_turns rfl) (pv 2) (pv 1))
  (pss_cons (ps_augC (pv 0) pe_int T.k_Sender T.n_Sender_top iop_add)
  (pss_one (ps_ret (pe_tup (pa_q pe_str (pa_q (pv 2) pa_nil))))))))), ?_⟩
      obtain ⟨A, z, hS, hb, hl, q⟩ := h
      exists hS.hx
      refine ⟨fun σ' H' => But x H H' ∧ SdAt C_Sender C_Ways C_Meter H' x A { z with clk := .int (n + z.w) } ∧ σ' = [some (.ref x), some (.int n), some (.int z.t)], ?_, ?_⟩
      · exists hS.hx
        rw [if_pos hb]
        exact ⟨A, z, hS, fun H' hB S' => ⟨hB, S'⟩⟩
      rintro σ' H1 ⟨hB, S1, rfl⟩
      have nfx : A.pf ≠ x := ne_of hS.hf hS.hx (by simp)
      exists S1.hx, S1.hf, upd_ne nfx.symm
      refine ⟨by rw [sizeLine_eq]; lia, fun p hp => ?_⟩
      have S2 := S1.row (u := .dK (putK z.Fi (ik z.t) (.int n))) S1.hf z.T z.Kn (putK z.Fi (ik z.t) (.int n)) (by simp) (by simp) (by rw [upd_ne (ne_of S1.ht S1.hf (by simp))]; exact S1.ht) (by rw [upd_ne S1.kf]; exact S1.hk) upd_same S1.fa
      have S3 := S2.put z.b (z.t + 1) z.e (.int (n + z.w)) z.hur
      have fr : Fr6 x A H (upd (upd H1 A.pf (.dK (putK z.Fi (ik z.t) (.int n)))) x (.ins C_Sender A.dx (fl_Sender (.int z.R) (.ref A.pw) (.ref A.pm) (.ref A.pt) (.int z.b) (.int (z.t + 1)) (.int z.e) (.int (n + z.w)) (.bl z.hur) (.ref A.pk) (.ref A.pf) (.ref A.pa)))) := fun b u e a1 a2 a3 a4 a5 a6 => by rw [upd_ne a1, upd_ne a6]; exact hB b u e a1
      have hp0 : H p = none := by
        cases e : H p with
        | none => rfl
        | some u =>
          exfalso
          by_cases c1 : p = x
          · rw [c1, upd_same] at hp; cases hp
          · rw [upd_ne c1] at hp
            by_cases c2 : p = A.pf
            · rw [c2, upd_same] at hp; cases hp
            · rw [upd_ne c2, hB p u e c1] at hp; cases hp
      exact q p _ hp0 (fun b u e a1 a2 a3 a4 a5 a6 => upd_old (fr b u e a1 a2 a3 a4 a5 a6) hp) (S3.same (same_upd hp)) upd_same
    · exact h.elim
theorem ok_Sender_go (T : Txt K mg C_Meter C_Ways C_Sender)    : MtAt P w K mg base CX0 C_Sender "go" 4 ["self", "turn"] (sp_Sender_go C_Sender C_Ways C_Meter) := by
  refine T.d_Sender_go.fn sc_Sender_go bd_Sender_go (fun vs H Q E h => ?_) fun f cdv A outer s H vs Q E HR h => ?_
  · unfold sp_Sender_go at h; split at h <;> first | rfl | exact h.elim
  · unfold sp_Sender_go at h
    split at h
    · rename_i x n
      refine ⟨_, (pss_cons (ps_if (PW.pt (pw_and (pt_cmpR op_lt (pe_fldC (pv 0) T.k_Sender T.n_Sender_base rfl) (pe_fldC (pv 0) T.k_Sender T.n_Sender_top rfl) (nomark _)) (pw_and1 (pt_q (pe_mtC (pv 0) T.k_Sender (ok_Sender_clock_is_out T) HR (by decide) (pa_q (pv 1) pa_nil)))))) (pss_cons (ps_exprQ (pe_mtC0 (pe_fldC (pv 0) T.k_Sender T.n_Sender_ways rfl) T.k_Ways (ok_Ways_ran_out T) HR (by decide)))
  (pss_hold (pss_cons (ps_exprQ (pe_mtC0 (pe_fldC (pv 0) T.k_Sender T.n_Sender_meter rfl) T.k_Meter (ok_Meter_ran_out T) HR (by decide)))
  (pss_hold (pss_one (ps_ret (pe_mtC (pv 0) T.k_Sender (ok_Sender_go_again T) HR (by decide) (pa_q (pv 1) pa_nil)))))))) pss_nil)
  (pss_hold (pss_cons (ps_if (pt_q (pe_mtC0 (pv 0) T.k_Sender (ok_Sender_hurry_is_due T) HR (by decide))) (pss_cons (ps_exprQ (pe_mtC0 (pe_fldC (pv 0) T.k_Sender T.n_Sender_meter rfl) T.k_Meter (ok_Meter_hurried T) HR (by decide)))
  (pss_hold (pss_one (ps_ret (pe_mtC (pv 0) T.k_Sender (ok_Sender_go_again T) HR (by decide) (pa_q (pv 1) pa_nil)))))) pss_nil)
  (pss_hold (pss_cons (ps_if (pt_q (pe_mtC0 (pv 0) T.k_Sender (ok_Sender_new_may_go T) HR (by decide))) (pss_one (ps_ret (pe_mtC (pv 0) T.k_Sender (ok_Sender_go_new T) HR (by decide) (pa_q (pv 1) pa_nil)))) pss_nil)
  (pss_hold (pss_cons (ps_if (PW.pt (pw_and (pt_q (pe_mtC0 (pv 0) T.k_Sender (ok_Sender_thing_waits T) HR (by decide))) (pw_and1 (pt_cmpR (op_eqK K rfl HR.units) (pe_fldC (pv 0) T.k_Sender T.n_Sender_base rfl) (pe_fldC (pv 0) T.k_Sender T.n_Sender_top rfl) (nomark _))))) (pss_one (ps_ret (pe_mtC (pv 0) T.k_Sender (ok_Sender_ask_for_room T) HR (by decide) (pa_q (pv 1) pa_nil)))) pss_nil)
  (pss_one (ps_ret pe_non))))))))), ?_⟩
      obtain ⟨A, z, hS, hb, hq⟩ := h
      generalize h_ua : tHold _ = ua
      generalize h_u1 : tHold _ = u1
      exists hS.hx
      rcases hq with ⟨c1, c2, c3, c4, q⟩ | ⟨c1, ⟨c, hc, hn⟩, c2, q⟩
      · rw [if_neg (by lia)]
        rw [← h_u1, tHold]
        generalize h_ub : tHold _ = ub
        generalize h_u2 : tHold _ = u2
        exists hS.hx
        refine ⟨A, z, hS, hb, fun H1 sm1 => ?_⟩
        have S1 := hS.same sm1
        rw [← h_u2, tHold]
        generalize h_u3 : tHold _ = u3
        exists S1.hx
        refine ⟨A, z, S1, hb, true, .inl ⟨c1.symm, c2, c3, rfl⟩, fun H2 sm2 => ?_⟩
        have S2 := S1.same sm2
        exists S2.hx
        refine ⟨A, z, S2, c1, c4, fun p H3 hp fr S3 hp3 => q p H3 ?_ (fun b u e a1 a2 a3 a4 a5 a6 => fr b u (sm2 _ _ (sm1 _ _ e)) a1 a2 a3 a4 a5 a6) S3 hp3⟩
        cases e : H p with
        | none => rfl
        | some u => rw [sm2 _ _ (sm1 _ _ e)] at hp; cases hp
      · rw [if_pos c1]
        refine ⟨A, z, c, hS, hc, ?_⟩
        rw [if_neg (by lia)]
        rw [← h_u1, tHold]
        generalize h_ub : tHold _ = ub
        generalize h_u2 : tHold _ = u2
        exists hS.hx
        refine ⟨A, z, hS, hb, fun H1 sm1 => ?_⟩
        have S1 := hS.same sm1
        rw [← h_u2, tHold]
        generalize h_u3 : tHold _ = u3
        exists S1.hx
        refine ⟨A, z, S1, hb, false, .inr ⟨c2, rfl⟩, fun H2 sm2 => ?_⟩
        have S2 := S1.same sm2
        rw [← h_u3, tHold]
        exists S2.hx
        refine ⟨A, z, S2, ?_⟩
        rw [if_neg c2]
        exact q H2 fun b u e => sm2 _ _ (sm1 _ _ e)
    · exact h.elim
theorem ok_Sender_newly_known (T : Txt K mg C_Meter C_Ways C_Sender)    : MtAt P w K mg base CX0 C_Sender "newly_known" 1 ["self", "places"] (sp_Sender_newly_known C_Sender C_Ways C_Meter) := by
  refine T.d_Sender_newly_known.fn sc_Sender_newly_known bd_Sender_newly_known (fun vs H Q E h => ?_) fun f cdv A outer s H vs Q E HR h => ?_
  · unfold sp_Sender_newly_known at h; split at h <;> first | rfl | exact h.elim
  · unfold sp_Sender_newly_known at h
    split at h
    · rename_i x l
      refine ⟨_, (pss_cons (ps_setc (i := 2) (N := (["place", "self"] : List Str)) (nv := 1) (ix := [0]) rfl sc_Sender_newly_known.nd rfl rfl (cs_of (by kernel_rfl)) (pi_seqK K rfl (pv 1)) (fun _ _ _ _ _ => (pg_name (i := 0) (show ((["place", "self"] : List Str)).Nodup by decide) rfl (Or.inl rfl))) (fun _ _ _ _ _ => (pts_one (pt_cmp (pc_dNI HR.units (pv 0) (pe_fldC (pv 1) T.k_Sender T.n_Sender_known_places rfl)) (nomarkQ rfl)))) (fun _ _ _ _ _ => (pv 0)))
  (pss_cons (ps_for PassesOwn.never rfl (pi_seqK K rfl (pv 2)) (pg_name (i := 3) sc_Sender_newly_known.nd rfl (Or.inl rfl)) (pss_one (ps_dpI HR.units (pe_fldC (pv 0) T.k_Sender T.n_Sender_known_places rfl) (pv 3) pe_bl)))
  (pss_one (ps_ret (pv 2))))), ?_⟩
      obtain ⟨A, z, ps, hS, hl, hk, nl, hps, q⟩ := h
      walk_at "wps"
      have hpl : ps.length ≤ 1 := by rcases hps with rfl | ⟨n, rfl, _⟩ <;> simp
      refine co_list (xs := ps.map V.int) (p := fun v => match v with | .int i => !(valV z.Kn (ik i)).isSome | _ => false) (f := fun v => v) (SqL.of hl) (small_ok (by rw [List.length_map]; lia)) ?_ ?_ ?_
      · intro y hy Q' q'
        obtain ⟨i, _, rfl⟩ := List.mem_map.mp hy
        exists hS.hx, hS.hk
        exact q'
      · intro y hy _ Q' q'
        walk_at "wps"
        exact q'
      have efl : List.map (fun v => v) (List.filter (fun v => match v with | V.int i => !(valV z.Kn (ik i)).isSome | _ => false) (ps.map V.int)) = ps.map V.int := by
        rcases hps with rfl | ⟨n, rfl, hn⟩
        · rfl
        · simp [hn]
      rw [efl]
      refine ⟨small_ok (by rw [List.length_map]; lia), fun l1 hl1 => ?_⟩
      have S1 := hS.same (same_upd (o := .lst (ps.map V.int)) hl1)
      have s1 := same_upd (o := .lst (ps.map V.int)) hl1
      have k1 := upd_same (H := H) (a := l1) (o := .lst (ps.map V.int))
      generalize upd H l1 (.lst (ps.map V.int)) = H1 at *
      rcases hps with rfl | ⟨n, rfl, hn⟩
      · refine fo_list (xs := []) (SqL.of k1) (fun i σ H' => H' = H1 ∧ σ = [some (.ref x), some (.ref l), some (.ref l1), none]) ⟨rfl, rfl⟩ (fun i σ H' _ hp => by rw [hp.1]; exact SqL.of k1) (fun i y σ H' hy hp => by simp at hy) (fun σ H' hp => ?_)
        obtain ⟨rfl, rfl⟩ := hp
        walk_at "wps"
        exact q l1 _ hl1 (Fr6.of s1) S1 k1
      · have S2 := S1.row (u := .dK (putK z.Kn (ik n) (.bl true))) S1.hk z.T (putK z.Kn (ik n) (.bl true)) z.Fi (by simp) (by simp) (by rw [upd_ne (ne_of S1.ht S1.hk (by simp))]; exact S1.ht) upd_same (by rw [upd_ne S1.kf.symm]; exact S1.hf) S1.ka
        have nlk : l1 ≠ A.pk := ne_of k1 S1.hk (by simp)
        refine fo_list (xs := [.int n]) (SqL.of k1) (fun i σ H' => (i = 0 ∧ H' = H1 ∧ σ = [some (.ref x), some (.ref l), some (.ref l1), none]) ∨ (i = 1 ∧ H' = upd H1 A.pk (.dK (putK z.Kn (ik n) (.bl true))) ∧ σ = [some (.ref x), some (.ref l), some (.ref l1), some (.int n)])) (.inl ⟨rfl, rfl, rfl⟩) (fun i σ H' _ hp => ?_) (fun i y σ H' hy hp => ?_) (fun σ H' hp => ?_)
        · rcases hp with ⟨_, rfl, _⟩ | ⟨_, rfl, _⟩
          · exact SqL.of k1
          · exact SqL.of (by rw [upd_ne nlk]; exact k1)
        · have hi : i = 0 := by have := (List.getElem?_eq_some_iff.mp hy).1; simpa using this
          subst hi
          obtain rfl : V.int n = y := by simpa using hy
          rcases hp with ⟨_, rfl, rfl⟩ | ⟨c, _⟩
          · exists S1.hx, S1.hk
            rw [sizeLine_eq]; lia
          · lia
        · rcases hp with ⟨c, _⟩ | ⟨_, rfl, rfl⟩
          · simp at c
          · walk_at "wps"
            exact q l1 _ hl1 (fun b u e a1 a2 a3 a4 a5 a6 => by rw [upd_ne a5]; exact s1 b u e) S2 (by rw [upd_ne nlk]; exact k1)
    · exact h.elim
theorem ok_Sender_grow_base (T : Txt K mg C_Meter C_Ways C_Sender)    : MtAt P w K mg base CX0 C_Sender "grow_base" 2 ["self", "steps"] (sp_Sender_grow_base C_Sender C_Ways C_Meter) := by
  refine T.d_Sender_grow_base.fn sc_Sender_grow_base bd_Sender_grow_base (fun vs H Q E h => ?_) fun f cdv A outer s H vs Q E HR h => ?_
  · unfold sp_Sender_grow_base at h; split at h <;> first | rfl | exact h.elim
  · unfold sp_Sender_grow_base at h
    split at h
    · rename_i x st
      refine ⟨_, (pss_cons (ps_setQ (i := 2) sc_Sender_grow_base.nd rfl (Or.inl rfl) (pe_fldC (pv 0) T.k_Sender T.n_Sender_base rfl))
  (pss_cons (ps_augC (pv 0) (pv 1) T.k_Sender T.n_Sender_base iop_add)
  (pss_one (ps_ret (pe_mtC (pv 0) T.k_Sender (ok_Sender_newly_known T) HR (by decide) (pa_q (pe_callTyQ (call_listB K rfl rfl) (by rfl) T.b_list bt_list (pa_q (pe_rngV rfl T.b_range (pa_q (pv 2) (pa_q (pe_fldC (pv 0) T.k_Sender T.n_Sender_base rfl) pa_nil))) pa_nil)) pa_nil)))))), ?_⟩
      obtain ⟨A, z, hS, hb, hk, hv, q⟩ := h
      exists hS.hx
      refine ⟨by lia, fun p hp => ⟨by lia, by lia, fun l hl => ?_⟩⟩
      have S1 := hS.put (z.b + st) z.t z.e z.clk z.hur
      have b1 : But x H (upd H x (HO.ins C_Sender A.dx (fl_Sender (V.int z.R) (V.ref A.pw) (V.ref A.pm) (V.ref A.pt) (V.int (z.b + st)) (V.int z.t) (V.int z.e) z.clk (V.bl z.hur) (V.ref A.pk) (V.ref A.pf) (V.ref A.pa)))) := But.upd
      generalize upd H x (HO.ins C_Sender A.dx (fl_Sender (V.int z.R) (V.ref A.pw) (V.ref A.pm) (V.ref A.pt) (V.int (z.b + st)) (V.int z.t) (V.int z.e) z.clk (V.bl z.hur) (V.ref A.pk) (V.ref A.pf) (V.ref A.pa))) = H1 at *
      have S2 := (S1.same (same_upd (o := .rng z.b (z.b + st)) hp)).same (same_upd (o := .lst (rngV z.b (z.b + st - z.b).toNat)) hl)
      have nlt : l ≠ A.pt := fun c => by rw [c, upd_old S1.ht hp] at hl; cases hl
      have b2 : But x H (upd (upd H1 p (.rng z.b (z.b + st))) l (.lst (rngV z.b (z.b + st - z.b).toNat))) := (b1.new hp).new hl
      generalize upd (upd H1 p (.rng z.b (z.b + st))) l (.lst (rngV z.b (z.b + st - z.b).toNat)) = H2 at *
      have eps : rngV z.b (z.b + st - z.b).toNat = (if st = 0 then [] else [z.b] : List Int).map V.int := by
        have hst : st = 0 ∨ st = 1 := by lia
        rcases hst with rfl | rfl
        · rw [show (z.b + 0 - z.b).toNat = 0 by lia]; rfl
        · rw [show (z.b + 1 - z.b).toNat = 1 by lia]; simp [rngV]
      rw [eps]
      refine ⟨A, _, _, S2, rfl, hk, nlt, ?_, fun p1 H3 hp1 fr S3 hl3 => ?_⟩
      · by_cases c : st = 0
        · exact .inl (if_pos c)
        · exact .inr ⟨z.b, if_neg c, hv (by lia)⟩
      · refine q _ p1 H3 rfl ?_ (fun b u e a1 a2 a3 a4 a5 a6 => fr b u (b2 b u e a1) a1 a2 a3 a4 a5 a6) S3 hl3
        cases e : H p1 with
        | none => rfl
        | some u =>
          exfalso
          by_cases c : p1 = x
          · rw [c, S2.hx] at hp1; cases hp1
          · rw [b2 p1 u e c] at hp1; cases hp1
    · exact h.elim
theorem ok_Sender_note_held (T : Txt K mg C_Meter C_Ways C_Sender)    : MtAt P w K mg base CX0 C_Sender "note_held" 2 ["self", "held"] (sp_Sender_note_held C_Sender C_Ways C_Meter) := by
  refine T.d_Sender_note_held.fn sc_Sender_note_held bd_Sender_note_held (fun vs H Q E h => ?_) fun f cdv A outer s H vs Q E HR h => ?_
  · unfold sp_Sender_note_held at h; split at h <;> first | rfl | exact h.elim
  · unfold sp_Sender_note_held at h
    split at h
    · rename_i x t
      refine ⟨_, (pss_one (ps_ret (pe_mtC (pv 0) T.k_Sender (ok_Sender_newly_known T) HR (by decide) (pa_q (pe_comp (N := (["step", "self"] : List Str)) (nv := 1) (ix := [0]) rfl (cs_of (by kernel_rfl)) (pi_seqK K rfl (pv 1)) (fun _ _ _ _ _ => (pg_name (i := 0) (show ((["step", "self"] : List Str)).Nodup by decide) rfl (Or.inl rfl))) (fun _ _ _ _ _ => (pts_one (pt_cmpR op_lt (pe_op (op_addK K rfl) (pe_fldC (pv 1) T.k_Sender T.n_Sender_base rfl) (pv 0)) (pe_fldC (pv 1) T.k_Sender T.n_Sender_top rfl) (nomark _)))) (fun _ _ _ _ _ => (pe_op (op_addK K rfl) (pe_fldC (pv 1) T.k_Sender T.n_Sender_base rfl) (pv 0)))) pa_nil)))), ?_⟩
      obtain ⟨A, z, hS, ht, hk, q⟩ := h
      exists hS.hx
      refine co_tup (xs := []) (p := fun _ => true) (f := fun v => v) (SqT.of ht) (small_ok (by simp)) (fun y hy => by simp at hy) (fun y hy => by simp at hy) ?_
      refine ⟨small_ok (by simp), fun l hl => ?_⟩
      have S1 := hS.same (same_upd (o := .lst []) hl)
      have s1 := same_upd (o := .lst []) hl
      have nlt : l ≠ A.pt := fun c => by rw [c, hS.ht] at hl; cases hl
      refine ⟨A, z, [], S1, rfl, hk, nlt, .inl rfl, fun p H3 hp fr S3 hl3 => q p H3 ?_ (fun b u e a1 a2 a3 a4 a5 a6 => fr b u (s1 b u e) a1 a2 a3 a4 a5 a6) S3 hl3⟩
      cases e : H p with
      | none => rfl
      | some u =>
        have hp' : upd H l (.lst []) p = none := hp
        rw [s1 _ _ e] at hp'; cases hp'
    · exact h.elim
theorem ok_Sender_heard (T : Txt K mg C_Meter C_Ways C_Sender)    : MtAt P w K mg base CX0 C_Sender "heard" 4 ["self", "number", "room", "held", "turn"] (sp_Sender_heard C_Sender C_Ways C_Meter) := by
  refine T.d_Sender_heard.fn sc_Sender_heard bd_Sender_heard (fun vs H Q E h => ?_) fun f cdv A outer s H vs Q E HR h => ?_
  · unfold sp_Sender_heard at h; split at h <;> first | rfl | exact h.elim
  · unfold sp_Sender_heard at h
    split at h
    · rename_i x n rm hd tn
      refine ⟨_, (pss_cons (ps_setQ (i := 5) sc_Sender_heard.nd rfl (Or.inl rfl) (pe_fnQ (ok_ahead T) HR (by decide) rfl (pa_q (pe_fldC (pv 0) T.k_Sender T.n_Sender_ring rfl) (pa_q (pe_fldC (pv 0) T.k_Sender T.n_Sender_base rfl) (pa_q (pv 1) pa_nil)))))
  (pss_hold (pss_cons (ps_if (pt_cmpR op_gt (pv 5) (pe_op op_sub (pe_fldC (pv 0) T.k_Sender T.n_Sender_top rfl) (pe_fldC (pv 0) T.k_Sender T.n_Sender_base rfl)) (nomark _)) (pss_one (ps_ret (pe_lst pa_nil))) pss_nil)
  (pss_hold (pss_cons (ps_setQ (i := 6) sc_Sender_heard.nd rfl (Or.inl rfl) (pe_op (op_addK K rfl) (pe_mtC (pv 0) T.k_Sender (ok_Sender_grow_base T) HR (by decide) (pa_q (pv 5) pa_nil)) (pe_mtC (pv 0) T.k_Sender (ok_Sender_note_held T) HR (by decide) (pa_q (pv 3) pa_nil))))
  (pss_hold (pss_cons (ps_fldC (pv 0) (pe_callBQ (call_maxA rfl) (by rfl) T.b_max bt_max (pa_q (pe_fldC (pv 0) T.k_Sender T.n_Sender_edge rfl) (pa_q (pe_op (op_addK K rfl) (pe_fldC (pv 0) T.k_Sender T.n_Sender_base rfl) (pv 2)) pa_nil))) T.k_Sender T.n_Sender_edge)
  (pss_hold (pss_cons (ps_for PassesOwn.never rfl (pi_seqK K rfl (pv 6)) (pg_name (i := 7) sc_Sender_heard.nd rfl (Or.inl rfl)) (pss_one (ps_if (pt_cmp (pc_dNI HR.units (pv 7) (pe_fldC (pv 0) T.k_Sender T.n_Sender_gone_again rfl)) (nomarkQ rfl)) (pss_one (ps_exprQ (pe_mtC (pe_fldC (pv 0) T.k_Sender T.n_Sender_ways rfl) T.k_Ways (ok_Ways_measured T) HR (by decide) (pa_q (pe_op op_sub (pv 4) (pe_dgI HR.units (pe_fldC (pv 0) T.k_Sender T.n_Sender_first_turns rfl) (pv 7) (fun _ _ => rfl))) pa_nil)))) pss_nil)))
  (pss_hold (pss_cons (ps_exprQ (pe_mtC (pe_fldC (pv 0) T.k_Sender T.n_Sender_meter rfl) T.k_Meter (ok_Meter_known T) HR (by decide) (pa_q (pe_callBQ (call_lenB K rfl) (by rfl) T.b_len bt_len (pa_q (pv 6) pa_nil)) pa_nil)))
  (pss_hold (pss_cons (ps_if (pt_cmpR op_gt (pv 5) pe_int (nomark _)) (pss_cons (ps_fldC (pv 0) (pe_ifExp (pt_cmpR op_lt (pe_fldC (pv 0) T.k_Sender T.n_Sender_base rfl) (pe_fldC (pv 0) T.k_Sender T.n_Sender_top rfl) (nomark _)) (pe_op (op_addK K rfl) (pv 4) (pe_fldC (pe_fldC (pv 0) T.k_Sender T.n_Sender_ways rfl) T.k_Ways T.n_Ways_wait rfl)) pe_non) T.k_Sender T.n_Sender_clock)
  (pss_one (ps_fldC (pv 0) pe_bl T.k_Sender T.n_Sender_base_hurried))) pss_nil)
  (pss_one (ps_ret (pv 6)))))))))))))))), ?_⟩
      obtain ⟨A, z, hS, hR, hhd, hag, hkn, hk, hb, hq⟩ := h
      generalize h_u0 : tHold _ = u0
      exists hS.hx
      refine ⟨hR, ?_⟩
      rw [← h_u0, tHold]
      generalize h_u1 : tHold _ = u1
      exists hS.hx
      rcases hq with ⟨c, q⟩ | ⟨c1, c2, c3, q⟩ | ⟨c1, c2, c3, ⟨f, hf, f0, f1⟩, q⟩
      · rw [if_pos c]
        intro p hp
        exact q p _ hp (same_upd hp) upd_same
      · rw [if_neg (by lia), c2]
        rw [← h_u1, tHold]
        generalize h_u2 : tHold _ = u2
        exists hS.hx
        refine ⟨A, z, hS, by lia, by lia, fun h => h.elim, fun ps p H1 eps hp fr S1 l1 => ?_⟩
        obtain rfl : ps = ([] : List Int) := eps
        have hd1 := fr.tup hS hhd
        have npt : p ≠ A.pt := fun c => by rw [c, hS.ht] at hp; cases hp
        exists S1.hx
        refine ⟨A, _, S1, hd1, ?_, fun p2 H2 hp2 fr2 S2 l2 => ?_⟩
        · exact Nat.lt_trans hkn (by decide)
        have l12 := fr2.lst S1 l1 npt
        refine addA_lists l12 l2 (small_ok (by simp)) fun p3 hp3 => ?_
        have fr3 : Fr6 x A H H2 := fr.trans fr2
        have hp30 := fr3.none S2 hp3
        have np3 : p3 ≠ A.pt := fun c => by rw [c, S2.ht] at hp3; cases hp3
        have S3 := S2.same (same_upd (o := .lst (List.map V.int ([] : List Int) ++ [])) hp3)
        have f3 : Fr6 x A H (upd H2 p3 (.lst (List.map V.int ([] : List Int) ++ []))) := fun b u e a1 a2 a3 a4 a5 a6 => upd_old (fr3 b u e a1 a2 a3 a4 a5 a6) hp3
        have l3 := upd_same (H := H2) (a := p3) (o := .lst (List.map V.int ([] : List Int) ++ []))
        generalize upd H2 p3 (.lst (List.map V.int ([] : List Int) ++ [])) = H3 at *
        rw [← h_u2, tHold]
        generalize h_u3 : tHold _ = u3
        exists S3.hx
        have e1 : z.b + 0 = z.b := by lia
        rw [e1] at S3 ⊢
        rw [if_neg (by lia)]
        have S4 := S3.put z.b z.t z.e z.clk z.hur
        have l4 : upd H3 x (HO.ins C_Sender A.dx (fl_Sender (V.int z.R) (V.ref A.pw) (V.ref A.pm) (V.ref A.pt) (V.int z.b) (V.int z.t) (V.int z.e) z.clk (V.bl z.hur) (V.ref A.pk) (V.ref A.pf) (V.ref A.pa))) p3 = some (.lst []) := by rw [upd_ne (ne_of l3 S3.hx (by simp))]; exact l3
        have f4 : Fr6 x A H (upd H3 x (HO.ins C_Sender A.dx (fl_Sender (V.int z.R) (V.ref A.pw) (V.ref A.pm) (V.ref A.pt) (V.int z.b) (V.int z.t) (V.int z.e) z.clk (V.bl z.hur) (V.ref A.pk) (V.ref A.pf) (V.ref A.pa)))) := fun b u e a1 a2 a3 a4 a5 a6 => by rw [upd_ne a1]; exact f3 b u e a1 a2 a3 a4 a5 a6
        generalize upd H3 x (HO.ins C_Sender A.dx (fl_Sender (V.int z.R) (V.ref A.pw) (V.ref A.pm) (V.ref A.pt) (V.int z.b) (V.int z.t) (V.int z.e) z.clk (V.bl z.hur) (V.ref A.pk) (V.ref A.pf) (V.ref A.pa))) = H4 at *
        rw [← h_u3, tHold]
        generalize h_u4 : tHold _ = u4
        walk_at "wps"
        refine fo_list (xs := []) (SqL.of l4) (fun i σ H' => H' = H4 ∧ σ = [some (.ref x), some (.int n), some (.int rm), some (.ref hd), some (.int tn), some (.int 0), some (.ref p3), none]) ⟨rfl, rfl⟩ (fun i σ H' _ hp => by rw [hp.1]; exact SqL.of l4) (fun i y σ H' hy hp => by simp at hy) (fun σ H' hp => ?_)
        obtain ⟨rfl, rfl⟩ := hp
        obtain ⟨mo, kn, co, em, hi⟩ := S4.ms
        rw [← h_u4, tHold]
        generalize h_u5 : tHold _ = u5
        exists S4.hx, l4, em
        refine ⟨by simp, A.dm, mo, z.wi, kn, co, rfl, ?_⟩
        rw [← h_u5, tHold]
        walk_at "wps"
        refine q p3 _ _ hp30 ?_ (S4.meter But.upd ⟨mo, kn, _, upd_same, MeterM.inb _ _ hi⟩) ?_
        · intro b u e a1 a2 a3 a4 a5 a6; rw [upd_ne a3]; exact f4 b u e a1 a2 a3 a4 a5 a6
        · rw [upd_ne (S4.nw l4 (by simp)).2.2]; exact l4
      · rw [if_neg (by lia), c2]
        rw [← h_u1, tHold]
        generalize h_u2 : tHold _ = u2
        exists hS.hx
        refine ⟨A, z, hS, by lia, by lia, fun _ => c3, fun ps p H1 eps hp fr S1 l1 => ?_⟩
        obtain rfl : ps = [z.b] := eps
        have hd1 := fr.tup hS hhd
        have npt : p ≠ A.pt := fun c => by rw [c, hS.ht] at hp; cases hp
        exists S1.hx
        refine ⟨A, _, S1, hd1, ?_, fun p2 H2 hp2 fr2 S2 l2 => ?_⟩
        · exact Nat.lt_of_le_of_lt (length_putK z.Kn (ik z.b) (.bl true)) (by lia)
        have l12 := fr2.lst S1 l1 npt
        refine addA_lists l12 l2 (small_ok (by simp)) fun p3 hp3 => ?_
        have fr3 : Fr6 x A H H2 := fr.trans fr2
        have hp30 := fr3.none S2 hp3
        have np3 : p3 ≠ A.pt := fun c => by rw [c, S2.ht] at hp3; cases hp3
        have S3 := S2.same (same_upd (o := .lst (List.map V.int [z.b] ++ [])) hp3)
        have f3 : Fr6 x A H (upd H2 p3 (.lst (List.map V.int [z.b] ++ []))) := fun b u e a1 a2 a3 a4 a5 a6 => upd_old (fr3 b u e a1 a2 a3 a4 a5 a6) hp3
        have l3 := upd_same (H := H2) (a := p3) (o := .lst (List.map V.int [z.b] ++ []))
        generalize upd H2 p3 (.lst (List.map V.int [z.b] ++ [])) = H3 at *
        rw [← h_u2, tHold]
        generalize h_u3 : tHold _ = u3
        exists S3.hx
        generalize hE : (if z.e < z.b + 1 + rm then z.b + 1 + rm else z.e) = e' at *
        have S4 := S3.put (z.b + 1) z.t e' z.clk z.hur
        have l4 : upd H3 x (HO.ins C_Sender A.dx (fl_Sender (V.int z.R) (V.ref A.pw) (V.ref A.pm) (V.ref A.pt) (V.int (z.b + 1)) (V.int z.t) (V.int e') z.clk (V.bl z.hur) (V.ref A.pk) (V.ref A.pf) (V.ref A.pa))) p3 = some (.lst [V.int z.b]) := by rw [upd_ne (ne_of l3 S3.hx (by simp))]; exact l3
        have f4 : Fr6 x A H (upd H3 x (HO.ins C_Sender A.dx (fl_Sender (V.int z.R) (V.ref A.pw) (V.ref A.pm) (V.ref A.pt) (V.int (z.b + 1)) (V.int z.t) (V.int e') z.clk (V.bl z.hur) (V.ref A.pk) (V.ref A.pf) (V.ref A.pa)))) := fun b u e a1 a2 a3 a4 a5 a6 => by rw [upd_ne a1]; exact f3 b u e a1 a2 a3 a4 a5 a6
        generalize upd H3 x (HO.ins C_Sender A.dx (fl_Sender (V.int z.R) (V.ref A.pw) (V.ref A.pm) (V.ref A.pt) (V.int (z.b + 1)) (V.int z.t) (V.int e') z.clk (V.bl z.hur) (V.ref A.pk) (V.ref A.pf) (V.ref A.pa))) = H4 at *
        have ha4 : H4 A.pa = some (.dK []) := by rw [← hag]; exact S4.ha
        obtain ⟨Pv, ePv⟩ : ∃ Pv : Nat → St → Hp → Prop, Pv = fun i σ H' => (i = 0 ∧ H' = H4 ∧ σ = [some (.ref x), some (.int n), some (.int rm), some (.ref hd), some (.int tn), some (.int 1), some (.ref p3), none]) ∨ (i = 1 ∧ Fr6 x A H H' ∧ H' p3 = some (.lst [V.int z.b]) ∧ (∃ w, SdAt C_Sender C_Ways C_Meter H' x A { z with b := z.b + 1, e := e', Kn := putK z.Kn (ik z.b) (.bl true), w := w, k := z.k + 1 }) ∧ σ = [some (.ref x), some (.int n), some (.int rm), some (.ref hd), some (.int tn), some (.int 1), some (.ref p3), some (.int z.b)]) := ⟨_, rfl⟩
        rw [← h_u3, tHold]
        generalize h_u4 : tHold _ = u4
        walk_at "wps"
        refine fo_list (xs := [V.int z.b]) (SqL.of l4) Pv (by rw [ePv]; exact .inl ⟨rfl, rfl, rfl⟩) (fun i σ H' _ hp => ?_) (fun i y σ H' hy hp => ?_) (fun σ H' hp => ?_)
        · rw [ePv] at hp
          rcases hp with ⟨_, rfl, _⟩ | ⟨_, _, h3, _⟩
          · exact SqL.of l4
          · exact SqL.of h3
        · have hi : i = 0 := by have := (List.getElem?_eq_some_iff.mp hy).1; simpa using this
          subst hi
          obtain rfl : V.int z.b = y := by simpa using hy
          have hp' := hp
          rw [ePv] at hp'
          rcases hp' with ⟨_, rfl, rfl⟩ | ⟨c, _⟩
          · obtain ⟨s0, sp0, ew⟩ := S4.ws.ins
            have hf4 := S4.hf
            exists S4.hx, ha4, hf4, ew, valV_nil
            rw [if_pos (show (none : Option V).isSome = false from rfl)]
            refine ⟨_, hf, ?_⟩
            walk_at "wps"
            exact WS.meas (E := E0) (Q := fun _ H' => Pv 1 [some (.ref x), some (.int n), some (.int rm), some (.ref hd), some (.int tn), some (.int 1), some (.ref p3), some (.int z.b)] H') S4.ws (by show z.k ≤ 150; lia) f0 f1 (fun H5 w hB hw => by
              rw [ePv]
              exact .inr ⟨rfl, fun b u e a1 a2 a3 a4 a5 a6 => hB _ _ (f4 b u e a1 a2 a3 a4 a5 a6) a2, hB _ _ l4 (S4.nw l4 (by simp)).2.1, ⟨w, S4.ways hB hw⟩, rfl⟩)
          · lia
        · rw [ePv] at hp
          rcases hp with ⟨c, _⟩ | ⟨_, f5, l5, ⟨w, S5⟩, rfl⟩
          · simp at c
          obtain ⟨mo, kn, co, em, hi⟩ := S5.ms
          rw [← h_u4, tHold]
          generalize h_u5 : tHold _ = u5
          exists S5.hx, l5, em
          refine ⟨by simp, A.dm, mo, z.wi, kn, co, rfl, ?_⟩
          have S6 := S5.meter (H' := upd H' A.pm (.ins C_Meter A.dm (fl_Meter (.int mo) (.int (MeterM.kn mo kn (1 : Int).toNat (z.wi, co)).1) (.int kn) (.int (MeterM.kn mo kn (1 : Int).toNat (z.wi, co)).2)))) But.upd ⟨mo, kn, _, upd_same, MeterM.inb _ _ hi⟩
          have l6 : upd H' A.pm (.ins C_Meter A.dm (fl_Meter (.int mo) (.int (MeterM.kn mo kn (1 : Int).toNat (z.wi, co)).1) (.int kn) (.int (MeterM.kn mo kn (1 : Int).toNat (z.wi, co)).2))) p3 = some (.lst [V.int z.b]) := by rw [upd_ne (S5.nw l5 (by simp)).2.2]; exact l5
          have f6 : Fr6 x A H (upd H' A.pm (.ins C_Meter A.dm (fl_Meter (.int mo) (.int (MeterM.kn mo kn (1 : Int).toNat (z.wi, co)).1) (.int kn) (.int (MeterM.kn mo kn (1 : Int).toNat (z.wi, co)).2)))) := fun b u e a1 a2 a3 a4 a5 a6 => by rw [upd_ne a3]; exact f5 b u e a1 a2 a3 a4 a5 a6
          generalize upd H' A.pm (.ins C_Meter A.dm (fl_Meter (.int mo) (.int (MeterM.kn mo kn (1 : Int).toNat (z.wi, co)).1) (.int kn) (.int (MeterM.kn mo kn (1 : Int).toNat (z.wi, co)).2))) = H6 at *
          rw [← h_u5, tHold]
          exists S6.hx
          rw [if_neg (by lia)]
          have S7 := S6.put (z.b + 1) z.t e' .non false
          refine q p3 _ _ w hp30 ?_ S7 ?_
          · intro b u e a1 a2 a3 a4 a5 a6; rw [upd_ne a1]; exact f6 b u e a1 a2 a3 a4 a5 a6
          · rw [upd_ne (S6.nw l6 (by simp)).1]; exact l6
    · exact h.elim
theorem ok_Sender___init__ (T : Txt K mg C_Meter C_Ways C_Sender)    : MtAt P w K mg base CX0 C_Sender "__init__" 3 ["self", "ring", "first", "longest", "most"] (sp_Sender___init__ C_Sender C_Ways C_Meter) := by
  refine T.d_Sender___init__.fn sc_Sender___init__ bd_Sender___init__ (fun vs H Q E h => ?_) fun f cdv A outer s H vs Q E HR h => ?_
  · unfold sp_Sender___init__ at h; split at h <;> first | rfl | exact h.elim
  · unfold sp_Sender___init__ at h
    split at h
    · rename_i x r f l m
      refine ⟨_, (pss_cons (ps_fldC (pv 0) (pv 1) T.k_Sender T.n_Sender_ring)
  (pss_cons (ps_fldC (pv 0) (pe_mkC T.k_Ways (ok_Ways___init__ T) HR (by decide) rfl (pa_q (pv 2) (pa_q (pv 3) pa_nil))) T.k_Sender T.n_Sender_ways)
  (pss_hold (pss_cons (ps_fldC (pv 0) (pe_mkC T.k_Meter (ok_Meter___init__ T) HR (by decide) rfl (pa_q (pv 4) pa_nil)) T.k_Sender T.n_Sender_meter)
  (pss_hold (pss_cons (ps_fldC (pv 0) (pe_lst pa_nil) T.k_Sender T.n_Sender_things)
  (pss_cons (ps_fldC (pv 0) pe_int T.k_Sender T.n_Sender_base)
  (pss_cons (ps_fldC (pv 0) pe_int T.k_Sender T.n_Sender_top)
  (pss_cons (ps_fldC (pv 0) pe_int T.k_Sender T.n_Sender_edge)
  (pss_cons (ps_fldC (pv 0) pe_non T.k_Sender T.n_Sender_clock)
  (pss_cons (ps_fldC (pv 0) pe_bl T.k_Sender T.n_Sender_base_hurried)
  (pss_hold (pss_cons (ps_fldC (pv 0) pe_dnewK T.k_Sender T.n_Sender_known_places)
  (pss_hold (pss_cons (ps_fldC (pv 0) pe_dnewK T.k_Sender T.n_Sender_first_turns)
  (pss_hold (pss_one (ps_fldC (pv 0) pe_dnewK T.k_Sender T.n_Sender_gone_again)))))))))))))))))), ?_⟩
      obtain ⟨hf, dx, hx, q⟩ := h
      generalize h_u1 : tHold _ = u1
      exists hx
      intro pw dw npw ndw new
      refine ⟨dw, rfl, ?_⟩
      have nwx : x ≠ pw := (fresh_ne npw).symm
      have ndx : x ≠ dw := (fresh_ne ndw).symm
      exists upd_ne nwx, upd_ne ndx
      obtain ⟨H1, e1⟩ : ∃ H1, H1 = upd (upd (upd (upd H x (.ins C_Sender dx (fl_Sender_1 (.int r)))) dw (.own pw)) pw (.ins C_Ways dw (fl_Ways (.int l) .non .non (.int f)))) x (.ins C_Sender dx (fl_Sender_2 (.int r) (.ref pw))) := ⟨_, rfl⟩
      rw [← e1]
      rw [upd_ne nwx.symm] at npw
      rw [upd_ne ndx.symm] at ndw
      have hx1 : H1 x = some (.ins C_Sender dx (fl_Sender_2 (.int r) (.ref pw))) := by rw [e1]; exact upd_same
      have w1 : H1 pw = some (.ins C_Ways dw (fl_Ways (.int l) .non .non (.int f))) := by rw [e1, upd_ne nwx.symm]; exact upd_same
      have b1 : But x H H1 := fun b o e n => by rw [e1, upd_ne n, upd_ne (ne_of_none e npw), upd_ne (ne_of_none e ndw), upd_ne n]; exact e
      clear e1
      rw [← h_u1, tHold]
      generalize h_u2 : tHold _ = u2
      walk_at "wps"
      intro pm dm npm ndm nem
      refine ⟨dm, rfl, ?_⟩
      have nmx : x ≠ pm := ne_of_none hx1 npm
      have ndx2 : x ≠ dm := ne_of_none hx1 ndm
      exists upd_ne nmx, upd_ne ndx2, hx1
      obtain ⟨H2, e2⟩ : ∃ H2, H2 = upd (upd (upd H1 dm (.own pm)) pm (.ins C_Meter dm (fl_Meter (.int m) (.int (MeterM.mn 2 m)) (.int m) (.int 0)))) x (.ins C_Sender dx (fl_Sender_3 (.int r) (.ref pw) (.ref pm))) := ⟨_, rfl⟩
      rw [← e2]
      have hx2 : H2 x = some (.ins C_Sender dx (fl_Sender_3 (.int r) (.ref pw) (.ref pm))) := by rw [e2]; exact upd_same
      have m2 : H2 pm = some (.ins C_Meter dm (fl_Meter (.int m) (.int (MeterM.mn 2 m)) (.int m) (.int 0))) := by rw [e2, upd_ne nmx.symm]; exact upd_same
      have b2 : But x H1 H2 := fun b o e n => by rw [e2, upd_ne n, upd_ne (ne_of_none e npm), upd_ne (ne_of_none e ndm)]; exact e
      have nwm : pw ≠ pm := ne_of_none w1 npm
      have w2 := b2 _ _ w1 nwx.symm
      clear e2
      rw [← h_u2, tHold]
      generalize h_u3 : tHold _ = u3
      walk_at "wps"
      intro pt npt
      have ntx : x ≠ pt := ne_of_none hx2 npt
      exists upd_ne ntx, hx2
      obtain ⟨H3, e3⟩ : ∃ H3, H3 = upd (upd H2 pt (.lst [])) x (.ins C_Sender dx (fl_Sender_9 (.int r) (.ref pw) (.ref pm) (.ref pt) (.int 0) (.int 0) (.int 1) .non (.bl false))) := ⟨_, rfl⟩
      rw [← e3]
      have hx3 : H3 x = some (.ins C_Sender dx (fl_Sender_9 (.int r) (.ref pw) (.ref pm) (.ref pt) (.int 0) (.int 0) (.int 1) .non (.bl false))) := by rw [e3]; exact upd_same
      have t3 : H3 pt = some (.lst []) := by rw [e3, upd_ne ntx.symm]; exact upd_same
      have b3 : But x H2 H3 := fun b o e n => by rw [e3, upd_ne n, upd_ne (ne_of_none e npt)]; exact e
      clear e3
      rw [← h_u3, tHold]
      generalize h_u4 : tHold _ = u4
      walk_at "wps"
      intro pk npk
      have nkx : x ≠ pk := ne_of_none hx3 npk
      exists upd_ne nkx, hx3
      obtain ⟨H4, e4⟩ : ∃ H4, H4 = upd (upd H3 pk (.dK [])) x (.ins C_Sender dx (fl_Sender_10 (.int r) (.ref pw) (.ref pm) (.ref pt) (.int 0) (.int 0) (.int 1) .non (.bl false) (.ref pk))) := ⟨_, rfl⟩
      rw [← e4]
      have hx4 : H4 x = some (.ins C_Sender dx (fl_Sender_10 (.int r) (.ref pw) (.ref pm) (.ref pt) (.int 0) (.int 0) (.int 1) .non (.bl false) (.ref pk))) := by rw [e4]; exact upd_same
      have k4 : H4 pk = some (.dK []) := by rw [e4, upd_ne nkx.symm]; exact upd_same
      have b4 : But x H3 H4 := fun b o e n => by rw [e4, upd_ne n, upd_ne (ne_of_none e npk)]; exact e
      clear e4
      rw [← h_u4, tHold]
      generalize h_u5 : tHold _ = u5
      walk_at "wps"
      intro pf npf
      have nfx : x ≠ pf := ne_of_none hx4 npf
      exists upd_ne nfx, hx4
      obtain ⟨H5, e5⟩ : ∃ H5, H5 = upd (upd H4 pf (.dK [])) x (.ins C_Sender dx (fl_Sender_11 (.int r) (.ref pw) (.ref pm) (.ref pt) (.int 0) (.int 0) (.int 1) .non (.bl false) (.ref pk) (.ref pf))) := ⟨_, rfl⟩
      rw [← e5]
      have hx5 : H5 x = some (.ins C_Sender dx (fl_Sender_11 (.int r) (.ref pw) (.ref pm) (.ref pt) (.int 0) (.int 0) (.int 1) .non (.bl false) (.ref pk) (.ref pf))) := by rw [e5]; exact upd_same
      have f5 : H5 pf = some (.dK []) := by rw [e5, upd_ne nfx.symm]; exact upd_same
      have b5 : But x H4 H5 := fun b o e n => by rw [e5, upd_ne n, upd_ne (ne_of_none e npf)]; exact e
      clear e5
      rw [← h_u5, tHold]
      walk_at "wps"
      intro pa npa
      have nax : x ≠ pa := ne_of_none hx5 npa
      exists upd_ne nax, hx5
      have b6 : But x H5 (upd (upd H5 pa (.dK [])) x (.ins C_Sender dx (fl_Sender (.int r) (.ref pw) (.ref pm) (.ref pt) (.int 0) (.int 0) (.int 1) .non (.bl false) (.ref pk) (.ref pf) (.ref pa)))) := fun b o e n => by rw [upd_ne n, upd_ne (ne_of_none e npa)]; exact e
      have k5 := b5 _ _ k4 nkx.symm
      refine q ⟨dx, pw, pm, pt, pk, pf, pa, dw, dm⟩ _ (MeterM.mn 2 m) (fun b o e n => b6 _ _ (b5 _ _ (b4 _ _ (b3 _ _ (b2 _ _ (b1 b o e n) n) n) n) n) n) ⟨upd_same, b6 _ _ (b5 _ _ (b4 _ _ t3 ntx.symm) ntx.symm) ntx.symm, b6 _ _ k5 nkx.symm, b6 _ _ f5 nfx.symm, by rw [upd_ne nax.symm]; exact upd_same, ⟨by show 2 ≤ l; lia, by show 2 ≤ f ∧ f ≤ l; lia, 1, 0, 0, .inl ⟨rfl, rfl, rfl, rfl, b6 _ _ (b5 _ _ (b4 _ _ (b3 _ _ w2 nwx.symm) nwx.symm) nwx.symm) nwx.symm⟩⟩, ⟨m, m, 0, b6 _ _ (b5 _ _ (b4 _ _ (b3 _ _ m2 nmx.symm) nmx.symm) nmx.symm) nmx.symm, ?_⟩, ne_of_none k4 npf, ne_of_none k5 npa, ne_of_none f5 npa, nwx, nmx, nwm⟩
      show 1 ≤ MeterM.mn 2 m ∧ MeterM.mn 2 m ≤ m ∧ (0 : Int) ≤ 0 ∧ (0 : Int) < MeterM.mn 2 m
      unfold MeterM.mn
      split <;> lia
    · exact h.elim
theorem ok__law_ring (T : Txt K mg C_Meter C_Ways C_Sender)  : FnAt P w K mg base CX0 "_law_ring" 1 ["_law_cell"] sp__law_ring := by
  refine T.d__law_ring.fn sc__law_ring bd__law_ring (fun vs H Q E h => ?_) fun f cdv A outer s H vs Q E HR h => ?_
  · unfold sp__law_ring at h; split at h <;> first | rfl | exact h.elim
  · unfold sp__law_ring at h
    split at h
    · rename_i c
      refine ⟨_, (pss_cons (ps_if (pt_cmpR (op_eqK K rfl HR.units) (pe_op op_mod (pv 0) pe_int) pe_int (nomark _)) (pss_one (ps_ret (pe_op (op_addK K rfl) pe_int (pe_op op_mod (pe_op op_fdiv (pv 0) pe_int) pe_int)))) pss_nil)
  (pss_cons (ps_if (pt_cmpR op_lt (pe_op op_mod (pv 0) pe_int) pe_int (nomark _)) (pss_one (ps_ret (pe_op (op_addK K rfl) pe_int (pe_op op_mod (pe_op op_fdiv (pv 0) pe_int) pe_int)))) pss_nil)
  (pss_one (ps_ret (pe_op (op_addK K rfl) pe_int (pe_op op_mod (pe_op op_mul (pe_op op_fdiv (pv 0) pe_int) pe_int) (pe_op op_sub (pe_op op_powA pe_int pe_int) pe_int))))))), ?_⟩
      walk_at "wps"
      (repeat' split) <;> exact h _ (by lia)
    · exact h.elim
theorem ok__law_thing (T : Txt K mg C_Meter C_Ways C_Sender)  : FnAt P w K mg base CX0 "_law_thing" 1 ["_law_cell", "_law_k"] sp__law_thing := by
  refine T.d__law_thing.fn sc__law_thing bd__law_thing (fun vs H Q E h => ?_) fun f cdv A outer s H vs Q E HR h => ?_
  · unfold sp__law_thing at h; split at h <;> first | rfl | exact h.elim
  · unfold sp__law_thing at h
    split at h
    · rename_i c k
      refine ⟨_, (pss_cons (ps_if (pt_cmpR (op_eqK K rfl HR.units) (pe_op op_mod (pv 0) pe_int) pe_int (nomark _)) (pss_one (ps_ret (pe_tup (pa_q (pe_ix (ix_B K rfl) (pe_lst (pa_q pe_str (pa_q pe_str pa_nil))) (pe_op op_mod (pv 1) pe_int) (fun _ _ => rfl)) (pa_q pe_str pa_nil))))) pss_nil)
  (pss_one (ps_ret (pe_tup (pa_q pe_str (pa_q (pe_op (op_addK K rfl) (pe_ix (ix_B K rfl) pe_str (pe_op op_mod (pe_op op_fdiv (pv 0) pe_int) pe_int) (fun _ _ => rfl)) (pe_callTyQ call_str_int (by rfl) T.b_str bt_str (pa_q (pv 1) pa_nil))) pa_nil)))))), ?_⟩
      obtain ⟨hk, q⟩ := h
      walk_at "wps"
      split
      · intro p hp
        have hk2 : k % 2 = 0 ∨ k % 2 = 1 := by lia
        rcases hk2 with e | e
        · rw [e]
          exact ⟨_, atI_0, fun p1 hp1 => q p1 _ _ _ (fun b o e => upd_old (upd_old e hp) hp1) (free_of (same_upd hp) hp1) upd_same⟩
        · rw [e]
          exact ⟨_, atI_1, fun p1 hp1 => q p1 _ _ _ (fun b o e => upd_old (upd_old e hp) hp1) (free_of (same_upd hp) hp1) upd_same⟩
      · obtain ⟨n, rfl, hn⟩ : ∃ n : Nat, k = (n : Int) ∧ n < 101 := ⟨k.toNat, by lia, by lia⟩
        obtain ⟨ch, hch⟩ : ∃ ch, atI (Str.ofString "abcxyzABC019 .,-+~!&").cps.toList (c / 9 % 20) = some ch := atI_ex (by lia) (by show c / 9 % 20 < 20; lia)
        have hsl := strlen ⟨n, hn⟩
        refine ⟨ch, by rw [sizeLine_eq]; decide, hch, (n : Int), rfl, loglen ⟨n, hn⟩, ?_⟩
        walk_at "wps"
        refine ⟨?_, fun p hp => q p _ _ _ (same_upd hp) hp upd_same⟩
        rw [sizeLine_eq]
        have : (⟨#[ch]⟩ : Str).length = 1 := rfl
        have h3 : (Str.ofString (toString (n : Int))).length ≤ 10 := hsl
        lia
    · exact h.elim
theorem ok__law_stands (T : Txt K mg C_Meter C_Ways C_Sender)     : FnAt P w K mg base CX0 "_law_stands" 3 ["_law_sender", "_law_base", "_law_top", "_law_edge", "_law_many"] (sp__law_stands C_Sender C_Ways C_Meter K) := by
  refine T.d__law_stands.fn sc__law_stands bd__law_stands (fun vs H Q E h => ?_) fun f cdv A outer s H vs Q E HR h => ?_
  · unfold sp__law_stands at h; split at h <;> first | rfl | exact h.elim
  · unfold sp__law_stands at h
    split at h
    · rename_i x b t e m
      refine ⟨_, (pss_cons (ps_for PassesOwn.never rfl (pi_seqK K rfl (pe_lst (pa_q (pe_fldC (pv 0) T.k_Sender T.n_Sender_base rfl) (pa_q (pe_fldC (pv 0) T.k_Sender T.n_Sender_top rfl) (pa_q (pe_fldC (pv 0) T.k_Sender T.n_Sender_edge rfl) (pa_q (pe_mtC0 (pv 0) T.k_Sender (ok_Sender_many T) HR (by decide)) (pa_q (pe_mtC0 (pv 0) T.k_Sender (ok_Sender_under_way T) HR (by decide)) pa_nil))))))) (pg_name (i := 5) sc__law_stands.nd rfl (Or.inl rfl)) (pss_one (ps_if (pt_not (pt_q (pe_fnQ (ok__law_whole T) HR (by decide) rfl (pa_q (pv 5) pa_nil)))) (pss_one (ps_ret pe_bl)) pss_nil)))
  (pss_hold (pss_cons (ps_if (PW.pt (pw_or (pt_cmpR (op_neK K rfl HR.units) (pe_fldC (pv 0) T.k_Sender T.n_Sender_base rfl) (pv 1) (nomark _)) (pw_or (pt_cmpR (op_neK K rfl HR.units) (pe_fldC (pv 0) T.k_Sender T.n_Sender_top rfl) (pv 2) (nomark _)) (pw_or1 (pt_cmpR (op_neK K rfl HR.units) (pe_fldC (pv 0) T.k_Sender T.n_Sender_edge rfl) (pv 3) (nomark _)))))) (pss_one (ps_ret pe_bl)) pss_nil)
  (pss_hold (pss_one (ps_ret (pe_and (pe_cmpR (op_eqK K rfl HR.units) (pe_mtC0 (pv 0) T.k_Sender (ok_Sender_many T) HR (by decide)) (pv 4) (nomark _)) (pe_one (pe_cmpR (op_eqK K rfl HR.units) (pe_mtC0 (pv 0) T.k_Sender (ok_Sender_under_way T) HR (by decide)) (pe_op op_sub (pv 2) (pv 1)) (nomark _)))))))))), ?_⟩
      obtain ⟨A, z, hS, hb, ⟨rfl, rfl, rfl, rfl⟩, q⟩ := h
      generalize h_u1 : tHold _ = u1
      exists hS.hx
      refine ⟨A, z, hS, A, z, hS, hb, fun H1 sm1 p hp => ?_⟩
      have S1 := hS.same sm1
      have S2 := S1.same (same_upd (o := .lst [V.int z.b, V.int z.t, V.int z.e, V.int z.T.length, V.int (z.t - z.b)]) hp)
      have sm2 : Same H (upd H1 p (.lst [V.int z.b, V.int z.t, V.int z.e, V.int z.T.length, V.int (z.t - z.b)])) := fun b o e => upd_old (sm1 b o e) hp
      have l2 := upd_same (H := H1) (a := p) (o := .lst [V.int z.b, V.int z.t, V.int z.e, V.int z.T.length, V.int (z.t - z.b)])
      generalize upd H1 p (.lst [V.int z.b, V.int z.t, V.int z.e, V.int z.T.length, V.int (z.t - z.b)]) = H2 at *
      refine fo_list (xs := [z.b, z.t, z.e, (z.T.length : Int), z.t - z.b].map V.int) (SqL.of l2) (fun i σ H' => H' = H2 ∧ ∃ v, σ = [some (.ref x), some (.int z.b), some (.int z.t), some (.int z.e), some (.int z.T.length), v]) ⟨rfl, none, rfl⟩ (fun i σ H' _ hp => by rw [hp.1]; exact SqL.of l2) (fun i y σ H' hy hp => ?_) (fun σ H' hp => ?_)
      · obtain ⟨rfl, v, rfl⟩ := hp
        obtain ⟨c, rfl, _⟩ := map_int_get hy
        walk_at "wps"
        exact ⟨_, rfl⟩
      · obtain ⟨rfl, v, rfl⟩ := hp
        rw [← h_u1, tHold]
        generalize h_u2 : tHold _ = u2
        exists S2.hx
        rw [← h_u2, tHold]
        exists S2.hx
        refine ⟨A, z, S2, ?_⟩
        walk_at "wps"
        refine ⟨A, z, S2, hb, fun H3 sm3 => ?_⟩
        walk_at "wps"
        simpa using q H3 fun b o e => sm3 _ _ (sm2 b o e)
    · exact h.elim
theorem ok__law_heard (T : Txt K mg C_Meter C_Ways C_Sender)     : FnAt P w K mg base CX0 "_law_heard" 5 ["_law_sender", "_law_number", "_law_room", "_law_turn", "_law_due"] (sp__law_heard C_Sender C_Ways C_Meter K) := by
  refine T.d__law_heard.fn sc__law_heard bd__law_heard (fun vs H Q E h => ?_) fun f cdv A outer s H vs Q E HR h => ?_
  · unfold sp__law_heard at h; split at h <;> first | rfl | exact h.elim
  · unfold sp__law_heard at h
    split at h
    · rename_i x n rm tn d
      refine ⟨_, (pss_cons (ps_setQ (i := 5) sc__law_heard.nd rfl (Or.inl rfl) (pe_mtC (pv 0) T.k_Sender (ok_Sender_heard T) HR (by decide) (pa_q (pv 1) (pa_q (pv 2) (pa_q (pe_tup pa_nil) (pa_q (pv 3) pa_nil))))))
  (pss_hold (pss_cons (ps_if (PW.pt (pw_or (pt_not (pt_q (pe_callBQ (call_isiB K rfl) (by rfl) T.b_isinstance bt_isinstance (pa_q (pv 5) (pa_q (pe_ty rfl T.b_list bt_list) pa_nil))))) (pw_or1 (pt_not (pt_q (pe_callBQ (call_allK K rfl rfl) (by rfl) T.b_all bt_all (pa_q (pe_comp (N := (["_law_place"] : List Str)) (nv := 1) (ix := []) rfl (cs_of (by kernel_rfl)) (pi_seqK K rfl (pv 5)) (fun _ _ _ _ _ => (pg_name (i := 0) (show ((["_law_place"] : List Str)).Nodup by decide) rfl (Or.inl rfl))) (fun _ _ _ _ _ => pts_nil) (fun _ _ _ _ _ => (pe_fnQ (ok__law_whole T) HR (by decide) rfl (pa_q (pv 0) pa_nil)))) pa_nil))))))) (pss_one (ps_ret pe_bl)) pss_nil)
  (pss_hold (pss_cons (ps_setQ (i := 6) sc__law_heard.nd rfl (Or.inl rfl) (pe_cmpR (op_eqK K rfl HR.units) (pv 5) (pv 4) (nomark _)))
  (pss_cons (ps_exprQ (pe_appendK K rfl (pv 5) pe_int))
  (pss_one (ps_ret (pv 6))))))))), ?_⟩
      obtain ⟨A, z, hS, hR, hag, hkn, hk, hb, hd, hq⟩ := h
      generalize h_u1 : tHold _ = u1
      have tail : ∀ (zz : Sd) (ps : List Int) (p3 : Addr) (H3 : Hp), ps.length ≤ 1 → H p3 = none → Fr6 x A H H3 → SdAt C_Sender C_Ways C_Meter H3 x A zz → H3 p3 = some (.lst (ps.map V.int)) → H3 d = some (.lst (ps.map V.int)) → (∀ H', Fr6 x A H H' → SdAt C_Sender C_Ways C_Meter H' x A zz → Q (.bl true) H') → u1 { nx := fun _ H' => Q .non H', rt := Q } [some (.ref x), some (.int n), some (.int rm), some (.int tn), some (.ref d), some (.ref p3), none] H3 := by
        intro zz ps p3 H3 hps h0 f3 S3 l3 d3 qq
        rw [← h_u1, tHold]
        generalize h_u2 : tHold _ = u2
        exists l3
        refine co_list (xs := ps.map V.int) (p := fun _ => true) (f := fun _ => V.bl true) (SqL.of l3) (small_ok (by rw [List.length_map]; lia)) (fun y hy Q' q' => by walk_at "wps"; exact q') ?_ ?_
        · intro y hy _ Q' q'
          obtain ⟨i, _, rfl⟩ := List.mem_map.mp hy
          walk_at "wps"
          exact q'
        have efl : List.map (fun _ => V.bl true) (List.filter (fun _ => true) (ps.map V.int)) = (List.replicate ps.length true).map V.bl := by
          rw [show List.filter (fun _ => true) (ps.map V.int) = ps.map V.int from List.filter_eq_self.mpr fun _ _ => rfl]
          exact map_bl ps
        rw [efl]
        refine ⟨small_ok (by simp; lia), fun l hl => ⟨List.replicate ps.length true, SqL.of upd_same, ?_⟩⟩
        rw [if_neg (by simp)]
        have f4 : Fr6 x A H (upd H3 l (.lst ((List.replicate ps.length true).map V.bl))) := fun b u e a1 a2 a3 a4 a5 a6 => upd_old (f3 b u e a1 a2 a3 a4 a5 a6) hl
        have S4 := S3.same (same_upd (o := .lst ((List.replicate ps.length true).map V.bl)) hl)
        have l4 := upd_old (o := .lst ((List.replicate ps.length true).map V.bl)) l3 hl
        have d4 := upd_old (o := .lst ((List.replicate ps.length true).map V.bl)) d3 hl
        generalize upd H3 l (.lst ((List.replicate ps.length true).map V.bl)) = H4 at *
        rw [← h_u2, tHold]
        walk_at "wps"
        refine eqA_lists (SqL.of l4) (SqL.of d4) ?_
        rw [if_neg (by decide), decide_eq_true rfl]
        refine ⟨tyV_list (SqL.of l4), _, l4, by rw [List.length_map, sizeLine_eq]; lia, ?_⟩
        have npt : p3 ≠ A.pt := fun c => by rw [c, hS.ht] at h0; cases h0
        exact qq _ (fun b u e a1 a2 a3 a4 a5 a6 => by rw [upd_ne (ne_of_none e h0)]; exact f4 b u e a1 a2 a3 a4 a5 a6) (S4.row l4 zz.T zz.Kn zz.Fi (by simp) (by simp) (by rw [upd_ne npt.symm]; exact S4.ht) (by rw [upd_ne (ne_of S4.hk l4 (by simp))]; exact S4.hk) (by rw [upd_ne (ne_of S4.hf l4 (by simp))]; exact S4.hf) (ne_of l4 S4.ha (by simp)))
      exists hS.hx
      intro p hp
      have S1 := hS.same (same_upd (o := .tup []) hp)
      have s1 : Fr6 x A H (upd H p (.tup [])) := Fr6.of (same_upd hp)
      have non : ∀ {p3 : Addr}, upd H p (.tup []) p3 = none → H p3 = none := fun h => free_of (same_upd hp) h
      refine ⟨A, z, S1, hR, hag, hkn, hk, hb, ?_⟩
      rcases hq with ⟨hdl, c1, c2 | ⟨c2, c3⟩, q⟩ | ⟨hdl, c1, c2, c3, c4, q⟩
      · refine .inl ⟨by lia, fun p3 H3 h3 sm3 l3 => ?_⟩
        have f3 : Fr6 x A H H3 := s1.trans (Fr6.of sm3)
        exact tail _ [] p3 H3 (by decide) (non h3) f3 (S1.same sm3) l3 (f3.lst hS hdl hd) fun H' f S => q H' z.wi f S
      · refine .inr (.inl ⟨c1, c2, c3, fun p3 H3 wi h3 f3 S3 l3 => ?_⟩)
        replace f3 : Fr6 x A H H3 := s1.trans f3
        exact tail _ [] p3 H3 (by decide) (non h3) f3 S3 l3 (f3.lst hS hdl hd) fun H' f S => q H' wi f S
      · refine .inr (.inr ⟨c1, c2, c3, c4, fun p3 H3 wi w h3 f3 S3 l3 => ?_⟩)
        replace f3 : Fr6 x A H H3 := s1.trans f3
        exact tail _ [z.b] p3 H3 (by simp) (non h3) f3 S3 l3 (f3.lst hS hdl hd) fun H' f S => q H' wi w f S
    · exact h.elim
theorem ok_law (T : Txt K mg C_Meter C_Ways C_Sender) : FnAt P w K mg base CX0 "law" 6 ["_law_script"] (spLaw K) := by
  refine T.d_law.fn sc_law bd_law (fun vs H Q E h => ?_) fun f cdv A outer s H vs Q E HR h => ?_
  · unfold spLaw at h; split at h <;> first | rfl | exact h.elim
  · unfold spLaw at h
    split at h
    · rename_i a
      obtain ⟨ns, hS, hl, _, q⟩ := h
      refine ⟨_, (pss_cons (ps_setQ (i := 1) sc_law.nd rfl (Or.inl rfl) (pe_fnQ (ok__law_ring T) HR (by decide) rfl (pa_q (pe_fnQ (ok__law_cell_at T a ns) HR (by decide) rfl (pa_q (pv 0) (pa_q pe_int pa_nil))) pa_nil)))
  (pss_hold (pss_cons (ps_setQ (i := 2) sc_law.nd rfl (Or.inl rfl) (pe_op (op_addK K rfl) pe_int (pe_op op_mod (pe_fnQ (ok__law_cell_at T a ns) HR (by decide) rfl (pa_q (pv 0) (pa_q pe_int pa_nil))) pe_int)))
  (pss_hold (pss_cons (ps_setQ (i := 3) sc_law.nd rfl (Or.inl rfl) (pe_op (op_addK K rfl) (pv 2) (pe_op op_mod (pe_op op_fdiv (pe_fnQ (ok__law_cell_at T a ns) HR (by decide) rfl (pa_q (pv 0) (pa_q pe_int pa_nil))) pe_int) (pe_op (op_addK K rfl) (pe_op op_sub (pe_op op_powA pe_int pe_int) (pv 2)) pe_int))))
  (pss_hold (pss_cons (ps_setQ (i := 4) sc_law.nd rfl (Or.inl rfl) (pe_mkC T.k_Sender (ok_Sender___init__ T) HR (by decide) rfl (pa_q (pv 1) (pa_q (pv 2) (pa_q (pv 3) (pa_q (pe_op (op_addK K rfl) pe_int (pe_op op_mod (pe_fnQ (ok__law_cell_at T a ns) HR (by decide) rfl (pa_q (pv 0) (pa_q pe_int pa_nil))) pe_int)) pa_nil))))))
  (pss_hold (pss_cons (ps_setQ (i := 5) sc_law.nd rfl (Or.inl rfl) (pe_op op_mod (pe_op op_fdiv (pe_fnQ (ok__law_cell_at T a ns) HR (by decide) rfl (pa_q (pv 0) (pa_q pe_int pa_nil))) pe_int) pe_int))
  (pss_cons (ps_setQ (i := 6) sc_law.nd rfl (Or.inl rfl) (pe_lst pa_nil))
  (pss_cons (ps_setQ (i := 7) sc_law.nd rfl (Or.inl rfl) pe_int)
  (pss_hold (pss_cons (ps_for PassesOwn.never rfl (pi_seqK K rfl (pe_slice (sl_K K rfl) (pv 0) (po_some pe_int) (po_some pe_int))) (pg_name (i := 8) sc_law.nd rfl (Or.inl rfl)) (pss_cons (ps_setQ (i := 9) sc_law.nd rfl (Or.inl rfl) (pe_callBQ (call_lenB K rfl) (by rfl) T.b_len bt_len (pa_q (pv 6) pa_nil)))
  (pss_cons (ps_exprQ (pe_appendK K rfl (pv 6) (pe_fnQ (ok__law_thing T) HR (by decide) rfl (pa_q (pv 8) (pa_q (pv 9) pa_nil)))))
  (pss_hold (pss_cons (ps_if (pt_not (pt_q (pe_fnQ (ok__law_stands T) HR (by decide) rfl (pa_q (pv 4) (pa_q (pv 9) (pa_q (pv 9) (pa_q (pv 7) (pa_q (pv 9) pa_nil)))))))) (pss_one (ps_ret pe_bl)) pss_nil)
  (pss_hold (pss_cons (ps_if (pt_cmpR op_notNA (pe_mtC (pv 4) T.k_Sender (ok_Sender_put T) HR (by decide) (pa_q (pe_ix (ix_B K rfl) (pv 6) (pv 9) (fun _ _ => rfl)) pa_nil)) pe_non (nomark _)) (pss_one (ps_ret pe_bl)) pss_nil)
  (pss_hold (pss_cons (ps_setQ (i := 5) sc_law.nd rfl (Or.inl rfl) (pe_op (op_addK K rfl) (pe_op (op_addK K rfl) (pv 5) pe_int) (pe_op op_mod (pe_op op_fdiv (pv 8) pe_int) pe_int)))
  (pss_hold (pss_cons (ps_if (PW.pt (pw_or (pt_cmpR (op_neK K rfl HR.units) (pe_mtC (pv 4) T.k_Sender (ok_Sender_go T) HR (by decide) (pa_q (pv 5) pa_nil)) (pe_tup (pa_q pe_str (pa_q (pv 9) pa_nil))) (nomark _)) (pw_or1 (pt_cmpR op_notNA (pe_mtC (pv 4) T.k_Sender (ok_Sender_go T) HR (by decide) (pa_q (pe_op (op_addK K rfl) (pv 5) pe_int) pa_nil)) pe_non (nomark _))))) (pss_one (ps_ret pe_bl)) pss_nil)
  (pss_hold (pss_cons (ps_if (pt_not (pt_q (pe_fnQ (ok__law_stands T) HR (by decide) rfl (pa_q (pv 4) (pa_q (pv 9) (pa_q (pe_op (op_addK K rfl) (pv 9) pe_int) (pa_q (pv 7) (pa_q (pe_op (op_addK K rfl) (pv 9) pe_int) pa_nil)))))))) (pss_one (ps_ret pe_bl)) pss_nil)
  (pss_hold (pss_cons (ps_setQ (i := 5) sc_law.nd rfl (Or.inl rfl) (pe_op (op_addK K rfl) (pe_op (op_addK K rfl) (pv 5) pe_int) (pe_op op_mod (pv 8) pe_int)))
  (pss_hold (pss_cons (ps_setQ (i := 10) sc_law.nd rfl (Or.inl rfl) (pe_op (op_addK K rfl) pe_int (pe_op op_mod (pe_op op_fdiv (pv 8) pe_int) pe_int)))
  (pss_hold (pss_cons (ps_setQ (i := 7) sc_law.nd rfl (Or.inl rfl) (pe_callBQ (call_maxA rfl) (by rfl) T.b_max bt_max (pa_q (pv 7) (pa_q (pe_op (op_addK K rfl) (pe_op (op_addK K rfl) (pv 9) pe_int) (pv 10)) pa_nil))))
  (pss_hold (pss_cons (ps_if (pt_not (pt_q (pe_fnQ (ok__law_heard T) HR (by decide) rfl (pa_q (pv 4) (pa_q (pe_op op_mod (pe_op (op_addK K rfl) (pv 9) pe_int) (pv 1)) (pa_q (pv 10) (pa_q (pv 5) (pa_q (pe_lst (pa_q (pv 9) pa_nil)) pa_nil)))))))) (pss_one (ps_ret pe_bl)) pss_nil)
  (pss_hold (pss_cons (ps_setQ (i := 11) sc_law.nd rfl (Or.inl rfl) (pe_op (op_addK K rfl) (pe_op (op_addK K rfl) (pv 9) pe_int) (pe_op op_mod (pe_op op_mod (pe_op op_fdiv (pv 8) pe_int) pe_int) (pv 1))))
  (pss_hold (pss_cons (ps_if (pt_not (pt_q (pe_fnQ (ok__law_heard T) HR (by decide) rfl (pa_q (pv 4) (pa_q (pe_op op_mod (pv 11) (pv 1)) (pa_q pe_int (pa_q (pv 5) (pa_q (pe_lst pa_nil) pa_nil)))))))) (pss_one (ps_ret pe_bl)) pss_nil)
  (pss_hold (pss_one (ps_if (PW.pt (pw_or (pt_cmpR (op_neK K rfl HR.units) (pe_mtC (pv 4) T.k_Sender (ok_Sender_thing T) HR (by decide) (pa_q (pv 9) pa_nil)) (pe_ix (ix_B K rfl) (pv 6) (pv 9) (fun _ _ => rfl)) (nomark _)) (pw_or1 (pt_cmpR (op_neK K rfl HR.units) (pe_mtC (pv 4) T.k_Sender (ok_Sender_thing T) HR (by decide) (pa_q pe_int pa_nil)) (pe_ix (ix_B K rfl) (pv 6) pe_int (fun _ _ => rfl)) (nomark _))))) (pss_one (ps_ret pe_bl)) pss_nil))))))))))))))))))))))))))))
  (pss_one (ps_ret (pe_fnQ (ok__law_stands T) HR (by decide) rfl (pa_q (pv 4) (pa_q (pe_callBQ (call_lenB K rfl) (by rfl) T.b_len bt_len (pa_q (pv 6) pa_nil)) (pa_q (pe_callBQ (call_lenB K rfl) (by rfl) T.b_len bt_len (pa_q (pv 6) pa_nil)) (pa_q (pv 7) (pa_q (pe_callBQ (call_lenB K rfl) (by rfl) T.b_len bt_len (pa_q (pv 6) pa_nil)) pa_nil))))))))))))))))))))), ?_⟩
      generalize h_ua : tHold _ = ua
      walk_at "wps"
      refine ⟨hS, fun _ r hr => ?_⟩
      rw [← h_ua, tHold]
      generalize h_ub : tHold _ = ub
      walk_at "wps"
      refine ⟨hS, fun n1 => ?_⟩
      rw [← h_ub, tHold]
      generalize h_uc : tHold _ = uc
      walk_at "wps"
      refine ⟨hS, fun n2 => ⟨by lia, ?_⟩⟩
      rw [← h_uc, tHold]
      generalize h_ud : tHold _ = ud
      walk_at "wps"
      refine ⟨hS, fun n3 x dx nx ndx nex => ⟨⟨by lia, ?_, by lia⟩, dx, rfl, fun A H1 wi hB1 S1 => ?_⟩⟩
      · have := Int.emod_nonneg (n2 / 99) (show (1000000 - (2 + n1 % 99) + 1 : Int) ≠ 0 by lia)
        lia
      generalize 2 + n1 % 99 + n2 / 99 % (1000000 - (2 + n1 % 99) + 1) = L0 at *
      generalize 2 + n1 % 99 = F0 at *
      have Sm1 : Same H H1 := fun b o e => hB1 b o (same_new nx ndx b o e) (ne_of_none e nx)
      clear hB1
      rw [← h_ud, tHold]
      generalize h_u0 : tHold _ = u0
      walk_at "wps"
      refine ⟨same_lst Sm1 hS, fun n4 pT hpT => ?_⟩
      have npT : pT ≠ A.pt := (ne_of_none S1.ht hpT).symm
      rw [← h_u0, tHold]
      generalize h_u1 : tHold _ = u1
      walk_at "wps"
      refine rSlA_list (same_lst (fun b o e => upd_old (Sm1 b o e) hpT) hS) fun p2 hp2 => ?_
      obtain ⟨ms, em, hms⟩ := cut_le (ns := ns) (lo := some 3) (hi := some 43)
      rw [em]
      have g1 := upd_same (H := upd H1 pT (.lst [])) (a := p2) (o := .lst (ms.map V.int))
      have g2 := upd_old (o := .lst (ms.map V.int)) (upd_same (H := H1) (a := pT) (o := .lst [])) hp2
      have g3 := (S1.same (same_upd (o := .lst []) hpT)).same (same_upd (o := .lst (ms.map V.int)) hp2)
      have np2 : p2 ≠ A.pt := (ne_of_none (upd_old (o := .lst []) S1.ht hpT) hp2).symm
      have n2T : p2 ≠ pT := fun c => by rw [c, upd_same] at hp2; cases hp2
      generalize upd (upd H1 pT (.lst [])) p2 (.lst (ms.map V.int)) = H2 at *
      refine fo_list (xs := ms.map V.int) (SqL.of g1) (fun i σ H' => H' p2 = some (.lst (ms.map V.int)) ∧ ∃ z ths tn v8 v9 v10 v11, SdAt C_Sender C_Ways C_Meter H' x A z ∧ Jz z i r ths ∧ H' pT = some (.lst ths) ∧ ThL H' ths ∧
        σ = [some (.ref a), some (.int r), some (.int F0), some (.int L0), some (.ref x), some (.int tn), some (.ref pT), some (.int z.e), v8, v9, v10, v11]) ⟨g1, _, [], _, none, none, none, none, g3, ⟨rfl, rfl, rfl, rfl, rfl, fun j _ => valV_nil, Nat.le_refl _, Nat.le_refl _, rfl, rfl, by show (0 : Int) + 1 ≤ 1; lia⟩, g2, (fun v hv => by simp at hv), rfl⟩ (fun i σ H' _ hp => SqL.of hp.1) (fun i y σ H3 hy hp => ?_) (fun σ H3 hp => ?_)
      · obtain ⟨hl3, z, ths, tn, v8, v9, v10, v11, S3, J, hT3, hth, rfl⟩ := hp
        obtain ⟨c, rfl, _⟩ := map_int_get hy
        have hi : i < 64 := by
          have := (List.getElem?_eq_some_iff.mp hy).1
          rw [List.length_map] at this
          lia
        have jb := J.b
        have jt := J.t
        have je := J.e
        exists hT3, J.len
        refine ⟨tyV_list (SqL.of hT3), by lia, fun th sa sb H4 sm4 hth0 hth4 => ?_⟩
        have T4 := sm4 _ _ hT3
        exists T4, J.len
        have S5 := (S3.same sm4).oth (u := .lst (ths ++ [.ref th])) T4 npT
        have K5 : Kp (upd H4 pT (.lst (ths ++ [V.ref th]))) p2 pT (ms.map V.int) (ths ++ [.ref th]) := by
          refine ⟨by rw [upd_ne n2T]; exact sm4 _ _ hl3, upd_same, fun v hv => ?_⟩
          rcases List.mem_append.mp hv with hv | hv
          · obtain ⟨t, ta, tb, rfl, h2⟩ := hth v hv
            exact ⟨t, ta, tb, rfl, by rw [upd_ne (ne_of (sm4 _ _ h2) T4 (by simp))]; exact sm4 _ _ h2⟩
          · obtain rfl : v = .ref th := by simpa using hv
            exact ⟨th, sa, sb, rfl, by rw [upd_ne (ne_of hth4 T4 (by simp))]; exact hth4⟩
        generalize upd H4 pT (.lst (ths ++ [V.ref th])) = H5 at *
        have hn := J.len
        have jf := J.fil
        have ats : atI (ths ++ [V.ref th]) (i : Int) = some (.ref th) := atI_n (by rw [← hn]; simp)
        have hT1 : ((z.T ++ [V.ref th]).length : Int) = i + 1 := by rw [J.T]; simp [hn]
        refine ⟨by rw [sizeLine_eq]; lia, ?_⟩
        rw [← h_u1, tHold]
        generalize h_u2 : tHold _ = u2
        walk_at "wps"
        refine ⟨A, z, S5, by lia, ⟨jb, jt, rfl, by rw [J.T, hn]⟩, fun H6 sm6 => ?_⟩
        rw [← h_u2, tHold]
        generalize h_u3 : tHold _ = u3
        have S6 := S5.same sm6
        have K6 := K5.same sm6
        exists S6.hx, K6.b
        refine ⟨_, ats, A, z, S6, by rw [J.T, hn]; lia, fun H7 hB7 S7 => ?_⟩
        have K7 := K6.fr S6 (fun b u e a1 a2 a3 a4 a5 a6 => hB7 b u e a4) np2 npT
        rw [← h_u3, tHold]
        generalize h_v1 : tHold _ = v1
        walk_at "wps"
        rw [← h_v1, tHold]
        generalize h_u4 : tHold _ = u4
        exists S7.hx
        refine ⟨A, _, S7, bd0 jb jt hi, .inl ⟨by show z.b = z.t; lia, by show z.t < ((z.T ++ [V.ref th]).length : Int); lia, by show z.t < z.e; lia, (bd4 J.fil hi).2.2.1, fun pg H8 hpg fr8 S8 hp8 => ?_⟩⟩
        have K8 := K7.fr S7 fr8 np2 npT
        intro pn hpn
        have hp9 : upd H8 pn (.tup [V.str "new", V.int i]) pg = some (.tup [V.str "new", V.int i]) := by
          rw [← jt]; exact upd_old hp8 hpn
        have hn9 := upd_same (H := H8) (a := pn) (o := .tup [V.str "new", V.int i])
        have S9 := S8.same (same_upd (o := .tup [V.str "new", V.int i]) hpn)
        have K9 := K8.same (same_upd (o := .tup [V.str "new", V.int i]) hpn)
        generalize upd H8 pn (.tup [V.str "new", V.int i]) = H9 at *
        refine eqT_same (n := 0) (by decide) (SqT.of hp9) (SqT.of hn9) (ds := [.str "new", .int i]) (.cons (.inr (.inr ⟨_, rfl, rfl⟩)) (.cons (.inr (.inl ⟨_, rfl, rfl⟩)) .nil)) (.cons (.inr (.inr ⟨_, rfl, rfl⟩)) (.cons (.inr (.inl ⟨_, rfl, rfl⟩)) .nil)) ?_
        exists S9.hx
        have hw2 := S3.ws.2.1.1
        refine ⟨A, _, S9, bd1 jb jt hi, .inr ⟨by show z.b < z.t + 1; lia, ⟨_, rfl, by show tn + 1 + c / 3 % 5 + 1 < tn + 1 + c / 3 % 5 + z.w; lia⟩, by show ¬ z.t + 1 < ((z.T ++ [V.ref th]).length : Int); lia, fun H10 sm10 => ?_⟩⟩
        have S10 := S9.same sm10
        have K10 := K9.same sm10
        rw [← h_u4, tHold]
        generalize h_u5 : tHold _ = u5
        walk_at "wps"
        refine ⟨A, _, S10, bd1 jb jt hi, ⟨jb, by show z.t + 1 = i + 1; lia, rfl, hT1⟩, fun H11 sm11 => ?_⟩
        have S11 := S10.same sm11
        have K11 := K10.same sm11
        rw [← h_u5, tHold]
        generalize h_w1 : tHold _ = w1
        walk_at "wps"
        rw [← h_w1, tHold]
        generalize h_w2 : tHold _ = w2
        walk_at "wps"
        rw [← h_w2, tHold]
        generalize h_w3 : tHold _ = w3
        walk_at "wps"
        rw [← h_w3, tHold]
        generalize h_u6 : tHold _ = u6
        walk_at "wps"
        have modd : ∀ a b : Int, (a % r - b) % r = (a - b) % r := fun a b => by rw [Int.sub_emod, Int.emod_emod_of_dvd a (Int.dvd_refl r), ← Int.sub_emod]
        have jR := J.R
        have jk := J.k
        have jkn := J.knl
        have m1 : (((i : Int) + 1) % r - i) % r = 1 := by
          rw [modd, show (i : Int) + 1 - i = 1 by lia]
          exact Int.emod_eq_of_lt (by lia) (by lia)
        have q0 : 0 ≤ c / 240 % 3 % r := Int.emod_nonneg _ (by lia)
        have q1 : c / 240 % 3 % r < r := Int.emod_lt_of_pos _ (by lia)
        have m2 : (((i : Int) + 1 + c / 240 % 3 % r) % r - (i + 1)) % r = c / 240 % 3 % r := by
          rw [modd, show (i : Int) + 1 + c / 240 % 3 % r - (i + 1) = c / 240 % 3 % r by lia]
          exact Int.emod_eq_of_lt q0 q1
        refine ⟨by lia, fun pd hpd => ?_⟩
        have S12 := S11.same (same_upd (o := .lst [V.int (i : Int)]) hpd)
        have K12 := K11.same (same_upd (o := .lst [V.int (i : Int)]) hpd)
        have npd : pd ≠ A.pt := (ne_of_none S11.ht hpd).symm
        generalize upd H11 pd (.lst [V.int (i : Int)]) = H12 at *
        refine ⟨A, _, S12, by show 0 < z.R; lia, J.ag, (bd4 J.knl hi).1, (bd4 (Nat.le_of_eq J.k) hi).2.2.2.1, bd2 jb hi, npd, .inr ⟨by show some (HO.lst [V.int (i : Int)]) = some (HO.lst [V.int z.b]); rw [jb], by show z.t + 1 = z.b + 1; lia, by show (((i : Int) + 1) % r - z.b) % z.R = 1; rw [jR, jb]; exact m1, by show valV z.Kn (ik z.b) = none; exact J.kn _ (by lia), ⟨tn + 1 + c / 3 % 5, by show valV (putK z.Fi (ik z.t) (V.int (tn + 1 + c / 3 % 5))) (ik z.b) = _; rw [jb, jt, valV_put, if_pos rfl], by lia, by lia⟩, fun H13 wi2 w2 fr13 S13 => ?_⟩⟩
        have K13 := K12.fr S12 fr13 np2 npT
        rw [← h_u6, tHold]
        generalize h_x1 : tHold _ = x1
        walk_at "wps"
        refine ⟨by lia, ?_⟩
        rw [← h_x1, tHold]
        generalize h_u7 : tHold _ = u7
        walk_at "wps"
        refine ⟨by lia, fun pe hpe => ?_⟩
        have S14 := S13.same (same_upd (o := .lst []) hpe)
        have K14 := K13.same (same_upd (o := .lst []) hpe)
        have npe : pe ≠ A.pt := (ne_of_none S13.ht hpe).symm
        generalize upd H13 pe (.lst []) = H14 at *
        have hke := length_putK z.Kn (ik z.b) (.bl true)
        refine ⟨A, _, S14, by show 0 < z.R; lia, J.ag, Nat.lt_of_le_of_lt hke (bd4 J.knl hi).2.1, (bd4 (Nat.le_of_eq J.k) hi).2.2.2.2, bd3 jb hi, npe, .inl ⟨by show z.t + 1 = z.b + 1; lia, ?_, fun H15 wi3 fr15 S15 => ?_⟩⟩
        · show 0 < (((i : Int) + 1 + c / 240 % 3 % r) % r - (z.b + 1)) % z.R ∨ (((i : Int) + 1 + c / 240 % 3 % r) % r - (z.b + 1)) % z.R = 0 ∧ z.b + 1 + 0 ≤ (if z.e < z.b + 1 + (1 + c / 15 % 16) then z.b + 1 + (1 + c / 15 % 16) else z.e)
          rw [jR, jb, m2]
          by_cases c0 : c / 240 % 3 % r = 0
          · exact .inr ⟨c0, by split <;> lia⟩
          · exact .inl (by lia)
        have K15 := K14.fr S14 fr15 np2 npT
        rw [← h_u7, tHold]
        exists S15.hx, K15.b
        obtain ⟨v0, tl, etl⟩ : ∃ v0 tl, ths ++ [V.ref th] = v0 :: tl := by cases ths <;> exact ⟨_, _, rfl⟩
        have hfe := length_putK z.Fi (ik z.t) (.int (tn + 1 + c / 3 % 5))
        refine ⟨A, _, _, S15, by show atI (z.T ++ [V.ref th]) (i : Int) = some (.ref th); rw [J.T]; exact ats, _, ats, K15.c.eq (by simp) ?_⟩
        exists S15.hx, K15.b
        refine ⟨A, _, v0, S15, by show atI (z.T ++ [V.ref th]) 0 = some v0; rw [J.T, etl]; exact atI_0, v0, by rw [etl]; exact atI_0, K15.c.eq (by rw [etl]; simp) ?_⟩
        walk_at "wps"
        refine ⟨K15.a, _, ths ++ [.ref th], tn + 1 + c / 3 % 5 + 1 + c % 3, some (.int c), some (.int i), some (.int (1 + c / 15 % 16)), some (.int ((i : Int) + 1 + c / 240 % 3 % r)), S15, ⟨jR, by show z.b + 1 = ((i + 1 : Nat) : Int); lia, by show z.t + 1 = ((i + 1 : Nat) : Int); lia, by show z.T ++ [V.ref th] = _; rw [J.T], by simp [hn], fun j hj => ?_, by show (putK z.Kn (ik z.b) (.bl true)).length ≤ i + 1; lia, by show (putK z.Fi (ik z.t) (.int (tn + 1 + c / 3 % 5))).length ≤ i + 1; lia, J.ag, by show z.k + 1 = i + 1; lia, ?_⟩, K15.b, K15.c, ?_⟩
        · show valV (putK z.Kn (ik z.b) (.bl true)) (ik j) = none
          rw [valV_put]
          split
          · rename_i hc
            have : j = z.b := by injection hc
            lia
          · exact J.kn j (by lia)
        · show ((i + 1 : Nat) : Int) + 1 ≤ (if z.e < z.b + 1 + (1 + c / 15 % 16) then z.b + 1 + (1 + c / 15 % 16) else z.e)
          split <;> lia
        · rw [← jb]
      · obtain ⟨hl3, z, ths, tn, v8, v9, v10, v11, S3, J, hT3, hth, rfl⟩ := hp
        have jb := J.b
        have jt := J.t
        exists hT3
        have hln : ms.length ≤ 64 := by lia
        rw [List.length_map] at J jb jt
        refine ⟨A, z, S3, by lia, ⟨by rw [J.len]; exact jb, by rw [J.len]; exact jt, rfl, by rw [J.T]⟩, fun H' sm => q _⟩
    · exact h.elim
end
theorem fin {P : Program} {w : World} {K : PySem.W.Frag} {h : Heap} {mg : Str → Option Value} {fa : Addr} {C_Meter C_Ways C_Sender : Addr} (KX : K.In h) (G : h.Ns mainGlobals mg) (hmg : mg "law" = some (.ref fa)) (T : Txt K mg C_Meter C_Ways C_Sender) :
    ∃ fd : FuncData, (∀ (s : Shared) (u : Value), BindsTo s fd ⟨[u], []⟩ [("_law_script", u)]) ∧ ∀ base : Heap, K.In base → base.Ns mainGlobals mg → FnOk P w K mg base CX0 6 fa fd ["_law_script"] (spLaw K) :=
  law_fin hmg T.d_law bd_law fun base => ok_law T
end K52
open PySem PySem.W PyProof.Rows
set_option maxRecDepth 100000 in
set_option maxHeartbeats 0 in
theorem PySem.Challenge.cw_slowroad_k52_sender_answered_at_once_holds : PySem.Challenge.rw_slowroad_k52_sender_answered_at_once.Holds := by
  w_on; o_law; k_head; (case hw => w_witness2)
  k_fill
  refine L2.law_walk (l := PySem.Challenge.rw_slowroad_k52_sender_answered_at_once) (k := 6) (x := "_law_script") rfl rfl ⟨rfl, by decide, by decide⟩ (fun w h Y => PySem.W.kIn_of Y) ?F
  case F =>
    intro w mg fa h KX G hmg
    refine' K52.fin KX G hmg ?TT
    case TT =>
      refine' K52.Txt.mk ?k_Meter ?n_Meter_most ?n_Meter_window ?n_Meter_knee ?n_Meter_counted ?k_Ways ?n_Ways_longest ?n_Ways_smooth ?n_Ways_spread ?n_Ways_wait ?k_Sender ?n_Sender_ring ?n_Sender_ways ?n_Sender_meter ?n_Sender_things ?n_Sender_base ?n_Sender_top ?n_Sender_edge ?n_Sender_clock ?n_Sender_base_hurried ?n_Sender_known_places ?n_Sender_first_turns ?n_Sender_gone_again ?d_Meter___init__ ?d_Meter_known ?d_Meter_know_one ?d_Meter_half ?d_Meter_ran_out ?d_Meter_hurried ?d_ahead ?d_lowest ?d_Ways___init__ ?d_Ways_measured ?d_Ways_next_spread ?d_Ways_next_smooth ?d_Ways_least_wait ?d_Ways_ran_out ?d_Sender___init__ ?d_Sender_put ?d_Sender_many ?d_Sender_thing ?d_Sender_heard ?d_Sender_grow_base ?d_Sender_note_held ?d_Sender_newly_known ?d_Sender_known_above_base ?d_Sender_under_way ?d_Sender_thing_waits ?d_Sender_clock_is_out ?d_Sender_hurry_is_due ?d_Sender_new_may_go ?d_Sender_go ?d_Sender_set_clock ?d_Sender_go_again ?d_Sender_go_new ?d_Sender_ask_for_room ?d__law_whole ?d__law_cell_at ?d__law_ring ?d__law_thing ?d__law_stands ?d__law_heard ?d_law ?b_abs ?b_all ?b_bool ?b_int ?b_isinstance ?b_len ?b_list ?b_max ?b_min ?b_range ?b_str ?c_WAIT_LEAST ?c_KNOWN_TO_HURRY
      case k_Meter => refine' L2.klsat_mk KX G ?a ?pg ?hd ?po ?sa ?mk ?kc; (case a => k_is); (case pg => k_is); (case hd => k_is); (case po => k_is); (case sa => k_is); (case mk => k_is); (case kc => k_is)
      case n_Meter_most => refine' L2.noattr_mk ?a; (case a => k_is)
      case n_Meter_window => refine' L2.noattr_mk ?a; (case a => k_is)
      case n_Meter_knee => refine' L2.noattr_mk ?a; (case a => k_is)
      case n_Meter_counted => refine' L2.noattr_mk ?a; (case a => k_is)
      case k_Ways => refine' L2.klsat_mk KX G ?a ?pg ?hd ?po ?sa ?mk ?kc; (case a => k_is); (case pg => k_is); (case hd => k_is); (case po => k_is); (case sa => k_is); (case mk => k_is); (case kc => k_is)
      case n_Ways_longest => refine' L2.noattr_mk ?a; (case a => k_is)
      case n_Ways_smooth => refine' L2.noattr_mk ?a; (case a => k_is)
      case n_Ways_spread => refine' L2.noattr_mk ?a; (case a => k_is)
      case n_Ways_wait => refine' L2.noattr_mk ?a; (case a => k_is)
      case k_Sender => refine' L2.klsat_mk KX G ?a ?pg ?hd ?po ?sa ?mk ?kc; (case a => k_is); (case pg => k_is); (case hd => k_is); (case po => k_is); (case sa => k_is); (case mk => k_is); (case kc => k_is)
      case n_Sender_ring => refine' L2.noattr_mk ?a; (case a => k_is)
      case n_Sender_ways => refine' L2.noattr_mk ?a; (case a => k_is)
      case n_Sender_meter => refine' L2.noattr_mk ?a; (case a => k_is)
      case n_Sender_things => refine' L2.noattr_mk ?a; (case a => k_is)
      case n_Sender_base => refine' L2.noattr_mk ?a; (case a => k_is)
      case n_Sender_top => refine' L2.noattr_mk ?a; (case a => k_is)
      case n_Sender_edge => refine' L2.noattr_mk ?a; (case a => k_is)
      case n_Sender_clock => refine' L2.noattr_mk ?a; (case a => k_is)
      case n_Sender_base_hurried => refine' L2.noattr_mk ?a; (case a => k_is)
      case n_Sender_known_places => refine' L2.noattr_mk ?a; (case a => k_is)
      case n_Sender_first_turns => refine' L2.noattr_mk ?a; (case a => k_is)
      case n_Sender_gone_again => refine' L2.noattr_mk ?a; (case a => k_is)
      case d_Meter___init__ => refine' L2.methat_mk ?a ?i ?l ?c ?k; (case a => k_is); (case i => k_is); (case l => k_is); (case c => k_is); (case k => k_is)
      case d_Meter_known => refine' L2.methat_mk ?a ?i ?l ?c ?k; (case a => k_is); (case i => k_is); (case l => k_is); (case c => k_is); (case k => k_is)
      case d_Meter_know_one => refine' L2.methat_mk ?a ?i ?l ?c ?k; (case a => k_is); (case i => k_is); (case l => k_is); (case c => k_is); (case k => k_is)
      case d_Meter_half => refine' L2.methat_mk ?a ?i ?l ?c ?k; (case a => k_is); (case i => k_is); (case l => k_is); (case c => k_is); (case k => k_is)
      case d_Meter_ran_out => refine' L2.methat_mk ?a ?i ?l ?c ?k; (case a => k_is); (case i => k_is); (case l => k_is); (case c => k_is); (case k => k_is)
      case d_Meter_hurried => refine' L2.methat_mk ?a ?i ?l ?c ?k; (case a => k_is); (case i => k_is); (case l => k_is); (case c => k_is); (case k => k_is)
      case d_ahead => refine' L2.defat_mk KX G ?a ?l ?c ?k; (case a => k_is); (case l => k_is); (case c => k_is); (case k => k_is)
      case d_lowest => refine' L2.defat_mk KX G ?a ?l ?c ?k; (case a => k_is); (case l => k_is); (case c => k_is); (case k => k_is)
      case d_Ways___init__ => refine' L2.methat_mk ?a ?i ?l ?c ?k; (case a => k_is); (case i => k_is); (case l => k_is); (case c => k_is); (case k => k_is)
      case d_Ways_measured => refine' L2.methat_mk ?a ?i ?l ?c ?k; (case a => k_is); (case i => k_is); (case l => k_is); (case c => k_is); (case k => k_is)
      case d_Ways_next_spread => refine' L2.methat_mk ?a ?i ?l ?c ?k; (case a => k_is); (case i => k_is); (case l => k_is); (case c => k_is); (case k => k_is)
      case d_Ways_next_smooth => refine' L2.methat_mk ?a ?i ?l ?c ?k; (case a => k_is); (case i => k_is); (case l => k_is); (case c => k_is); (case k => k_is)
      case d_Ways_least_wait => refine' L2.methat_mk ?a ?i ?l ?c ?k; (case a => k_is); (case i => k_is); (case l => k_is); (case c => k_is); (case k => k_is)
      case d_Ways_ran_out => refine' L2.methat_mk ?a ?i ?l ?c ?k; (case a => k_is); (case i => k_is); (case l => k_is); (case c => k_is); (case k => k_is)
      case d_Sender___init__ => refine' L2.methat_mk ?a ?i ?l ?c ?k; (case a => k_is); (case i => k_is); (case l => k_is); (case c => k_is); (case k => k_is)
      case d_Sender_put => refine' L2.methat_mk ?a ?i ?l ?c ?k; (case a => k_is); (case i => k_is); (case l => k_is); (case c => k_is); (case k => k_is)
      case d_Sender_many => refine' L2.methat_mk ?a ?i ?l ?c ?k; (case a => k_is); (case i => k_is); (case l => k_is); (case c => k_is); (case k => k_is)
      case d_Sender_thing => refine' L2.methat_mk ?a ?i ?l ?c ?k; (case a => k_is); (case i => k_is); (case l => k_is); (case c => k_is); (case k => k_is)
      case d_Sender_heard => refine' L2.methat_mk ?a ?i ?l ?c ?k; (case a => k_is); (case i => k_is); (case l => k_is); (case c => k_is); (case k => k_is)
      case d_Sender_grow_base => refine' L2.methat_mk ?a ?i ?l ?c ?k; (case a => k_is); (case i => k_is); (case l => k_is); (case c => k_is); (case k => k_is)
      case d_Sender_note_held => refine' L2.methat_mk ?a ?i ?l ?c ?k; (case a => k_is); (case i => k_is); (case l => k_is); (case c => k_is); (case k => k_is)
      case d_Sender_newly_known => refine' L2.methat_mk ?a ?i ?l ?c ?k; (case a => k_is); (case i => k_is); (case l => k_is); (case c => k_is); (case k => k_is)
      case d_Sender_known_above_base => refine' L2.methat_mk ?a ?i ?l ?c ?k; (case a => k_is); (case i => k_is); (case l => k_is); (case c => k_is); (case k => k_is)
      case d_Sender_under_way => refine' L2.methat_mk ?a ?i ?l ?c ?k; (case a => k_is); (case i => k_is); (case l => k_is); (case c => k_is); (case k => k_is)
      case d_Sender_thing_waits => refine' L2.methat_mk ?a ?i ?l ?c ?k; (case a => k_is); (case i => k_is); (case l => k_is); (case c => k_is); (case k => k_is)
      case d_Sender_clock_is_out => refine' L2.methat_mk ?a ?i ?l ?c ?k; (case a => k_is); (case i => k_is); (case l => k_is); (case c => k_is); (case k => k_is)
      case d_Sender_hurry_is_due => refine' L2.methat_mk ?a ?i ?l ?c ?k; (case a => k_is); (case i => k_is); (case l => k_is); (case c => k_is); (case k => k_is)
      case d_Sender_new_may_go => refine' L2.methat_mk ?a ?i ?l ?c ?k; (case a => k_is); (case i => k_is); (case l => k_is); (case c => k_is); (case k => k_is)
      case d_Sender_go => refine' L2.methat_mk ?a ?i ?l ?c ?k; (case a => k_is); (case i => k_is); (case l => k_is); (case c => k_is); (case k => k_is)
      case d_Sender_set_clock => refine' L2.methat_mk ?a ?i ?l ?c ?k; (case a => k_is); (case i => k_is); (case l => k_is); (case c => k_is); (case k => k_is)
      case d_Sender_go_again => refine' L2.methat_mk ?a ?i ?l ?c ?k; (case a => k_is); (case i => k_is); (case l => k_is); (case c => k_is); (case k => k_is)
      case d_Sender_go_new => refine' L2.methat_mk ?a ?i ?l ?c ?k; (case a => k_is); (case i => k_is); (case l => k_is); (case c => k_is); (case k => k_is)
      case d_Sender_ask_for_room => refine' L2.methat_mk ?a ?i ?l ?c ?k; (case a => k_is); (case i => k_is); (case l => k_is); (case c => k_is); (case k => k_is)
      case d__law_whole => refine' L2.defat_mk KX G ?a ?l ?c ?k; (case a => k_is); (case l => k_is); (case c => k_is); (case k => k_is)
      case d__law_cell_at => refine' L2.defat_mk KX G ?a ?l ?c ?k; (case a => k_is); (case l => k_is); (case c => k_is); (case k => k_is)
      case d__law_ring => refine' L2.defat_mk KX G ?a ?l ?c ?k; (case a => k_is); (case l => k_is); (case c => k_is); (case k => k_is)
      case d__law_thing => refine' L2.defat_mk KX G ?a ?l ?c ?k; (case a => k_is); (case l => k_is); (case c => k_is); (case k => k_is)
      case d__law_stands => refine' L2.defat_mk KX G ?a ?l ?c ?k; (case a => k_is); (case l => k_is); (case c => k_is); (case k => k_is)
      case d__law_heard => refine' L2.defat_mk KX G ?a ?l ?c ?k; (case a => k_is); (case l => k_is); (case c => k_is); (case k => k_is)
      case d_law => refine' L2.defat_mk KX G ?a ?l ?c ?k; (case a => k_is); (case l => k_is); (case c => k_is); (case k => k_is)
      case b_abs => refine' PySem.W.mg_none_of KX G ?a; (case a => k_is)
      case b_all => refine' PySem.W.mg_none_of KX G ?a; (case a => k_is)
      case b_bool => refine' PySem.W.mg_none_of KX G ?a; (case a => k_is)
      case b_int => refine' PySem.W.mg_none_of KX G ?a; (case a => k_is)
      case b_isinstance => refine' PySem.W.mg_none_of KX G ?a; (case a => k_is)
      case b_len => refine' PySem.W.mg_none_of KX G ?a; (case a => k_is)
      case b_list => refine' PySem.W.mg_none_of KX G ?a; (case a => k_is)
      case b_max => refine' PySem.W.mg_none_of KX G ?a; (case a => k_is)
      case b_min => refine' PySem.W.mg_none_of KX G ?a; (case a => k_is)
      case b_range => refine' PySem.W.mg_none_of KX G ?a; (case a => k_is)
      case b_str => refine' PySem.W.mg_none_of KX G ?a; (case a => k_is)
      case c_WAIT_LEAST => refine' ⟨_, PySem.W.mg_of KX G ?a, ?r⟩; (case a => k_is); (case r => exact ⟨_, rfl⟩)
      case c_KNOWN_TO_HURRY => refine' ⟨_, PySem.W.mg_of KX G ?a, ?r⟩; (case a => k_is); (case r => exact ⟨_, rfl⟩)
#print axioms PySem.Challenge.cw_slowroad_k52_sender_answered_at_once_holds


