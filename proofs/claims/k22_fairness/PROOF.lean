import PyProof.Rows.All
import Wide.All
import OpenK.AllK
import Wide.FinOn
import PyProof.EqAt
import PyProof.EqKinds
import PyProof.TupleCall
import PyProof.NeKinds
import PyProof.Rows.BitMore
import PyProof.FitsBits
import PyProof.Rows.TupAssign
import PyProof.ListRange
import PyProof.Rows.ZipGen
import Lean
import PySem.Challenge.RW_slowroad_k22_fairness
set_option Elab.async false
set_option linter.all false
set_option compiler.extract_closed false
-- CHANGE: your row's module here, as the last of these rows
set_option maxRecDepth 100000
namespace L2
open PySem PySem.Spec PyProof.Rows

/-- a key: an int or a str -/
noncomputable abbrev Key := Sum Int Str
noncomputable def keyIs : Key → Value → Bool
  | .inl k, v => Value.isInt k v
  | .inr x, v => Value.isStrOf x v
noncomputable def keyH (w : World) : Key → Int
  | .inl k => hashInt k
  | .inr x => hashStr w x
theorem keyIs_shape : ∀ {k : Key} {v : Value}, keyIs k v = true → (∃ i t, k = Sum.inl i ∧ v = Value.int i t) ∨ (∃ x t, k = Sum.inr x ∧ v = Value.str x t)
  | .inl i, v, h => by
    obtain ⟨t, e⟩ := Value.isInt_shape (k := i) (v := v) h
    exact .inl ⟨i, t, rfl, e⟩
  | .inr x, v, h => by
    obtain ⟨t, e⟩ := Value.isStrOf_shape (x := x) (v := v) h
    exact .inr ⟨x, t, rfl, e⟩
theorem key_ll (a b : Int) : decide ((Sum.inl a : Key) = Sum.inl b) = (a == b) := by
  by_cases e : a = b
  · subst e; simp
  · have h : ¬ (Sum.inl a : Key) = Sum.inl b := fun q => e (Sum.inl.inj q)
    rw [decide_eq_false h]
    exact (beq_eq_false_iff_ne.mpr e).symm
theorem key_rr (a b : Str) : decide ((Sum.inr a : Key) = Sum.inr b) = decide (a = b) := by
  by_cases e : a = b
  · subst e; simp
  · have h : ¬ (Sum.inr a : Key) = Sum.inr b := fun q => e (Sum.inr.inj q)
    rw [decide_eq_false h, decide_eq_false e]
theorem key_lr (a : Int) (b : Str) : decide ((Sum.inl a : Key) = Sum.inr b) = false := decide_eq_false (fun q => nomatch q)
theorem key_rl (a : Str) (b : Int) : decide ((Sum.inr a : Key) = Sum.inl b) = false := decide_eq_false (fun q => nomatch q)

noncomputable def mixKind (prog : Program) (w : World) : PySem.KeyKind prog w Key where
  is := keyIs
  hash := keyH w
  inj := fun v a b ha hb => by
    rcases keyIs_shape ha with ⟨i, t, rfl, rfl⟩ | ⟨x, t, rfl, rfl⟩
    · rcases keyIs_shape hb with ⟨j, u, rfl, e⟩ | ⟨y, u, rfl, e⟩
      · injection e with e1 _; rw [e1]
      · exact nomatch e
    · rcases keyIs_shape hb with ⟨j, u, rfl, e⟩ | ⟨y, u, rfl, e⟩
      · exact nomatch e
      · injection e with e1 _; rw [e1]
  byValue := fun k v h => by
    rcases keyIs_shape h with ⟨i, t, rfl, rfl⟩ | ⟨x, t, rfl, rfl⟩ <;> rfl
  pyHash := fun hv h => by
    rcases keyIs_shape hv with ⟨i, t, rfl, rfl⟩ | ⟨x, t, rfl, rfl⟩
    · exact wpAny_pyHash_int h
    · exact wpAny_pyHash_str h
  eqBool := fun hu hv h => by
    rcases keyIs_shape hu with ⟨i, t, rfl, rfl⟩ | ⟨x, t, rfl, rfl⟩
    · rcases keyIs_shape hv with ⟨j, u, rfl, rfl⟩ | ⟨y, u, rfl, rfl⟩
      · rw [key_ll] at h; exact wpAny_eqBool_int h
      · rw [key_lr] at h; exact SeqAt.EqAt.int_str i t y u _ _ _ _ h
    · rcases keyIs_shape hv with ⟨j, u, rfl, rfl⟩ | ⟨y, u, rfl, rfl⟩
      · rw [key_rl] at h; exact SeqAt.EqAt.str_int x t j u _ _ _ _ h
      · rw [key_rr] at h; exact wpAny_eqBool_str h
  «strs» := fun k x t v h => by
    rcases keyIs_shape h with ⟨i, u, rfl, e⟩ | ⟨y, u, rfl, e⟩
    · exact nomatch e
    · injection e with e1 _
      subst e1
      cases v <;> rfl

end L2

namespace L2
open PySem PySem.Spec PyProof.Rows

/-- a value, without the heap -/
inductive V where
  | non | bl (b : Bool) | int (i : Int) | str (x : Str) | byt (b : Array UInt8) | flt (b : UInt64) | ref (a : Addr) | ty (n : String)
  deriving DecidableEq

noncomputable def RelV : V → Value → Prop
  | .non, u => u = Value.none
  | .bl b, u => u = Value.bool b
  | .int i, u => ∃ t, u = Value.int i t
  | .str x, u => ∃ t, u = Value.str x t
  | .byt b, u => ∃ t, u = Value.bytes b t
  | .flt b, u => ∃ t, u = Value.float b t
  | .ref a, u => u = Value.ref a
  | .ty n, u => u = Value.type n

noncomputable abbrev Vals : List V → List Value → Prop := Paired RelV
theorem Vals.length {xs : List V} {us : List Value} (r : Vals xs us) : xs.length = us.length := Paired.length r
theorem Vals.get : ∀ {xs : List V} {us : List Value} {i : Nat} {x : V}, Vals xs us → xs[i]? = some x → ∃ u, us[i]? = some u ∧ RelV x u
  | _, _, _, _, .nil, e => by simp at e
  | _, _, 0, _, .cons r _, e => by simp at e; subst e; exact ⟨_, rfl, r⟩
  | _, _, i + 1, x, .cons _ t, e => by
    obtain ⟨u, h1, h2⟩ := Vals.get (i := i) (x := x) t (by simpa using e)
    exact ⟨u, by simpa using h1, h2⟩
theorem Vals.append : ∀ {xs ys : List V} {us ws : List Value}, Vals xs us → Vals ys ws → Vals (xs ++ ys) (us ++ ws)
  | _, _, _, _, .nil, s => s
  | _, _, _, _, .cons r t, s => .cons r (Vals.append t s)
theorem Vals.take : ∀ {xs : List V} {us : List Value} (n : Nat), Vals xs us → Vals (xs.take n) (us.take n)
  | _, _, 0, _ => .nil
  | _, _, _ + 1, .nil => .nil
  | _, _, n + 1, .cons r t => .cons r (Vals.take n t)
theorem Vals.drop : ∀ {xs : List V} {us : List Value} (n : Nat), Vals xs us → Vals (xs.drop n) (us.drop n)
  | _, _, 0, r => r
  | _, _, _ + 1, .nil => .nil
  | _, _, n + 1, .cons _ t => Vals.drop n t
noncomputable def RelO : Option V → Option Value → Prop
  | some v, some u => RelV v u
  | none, none => True
  | _, _ => False
noncomputable def KV {κ : Type} : List (κ × V) → List (κ × Value) → Prop := Paired fun (p : κ × V) (q : κ × Value) => p.1 = q.1 ∧ RelV p.2 q.2

/-- a key of a dict (00_mix): an int or a text -/
noncomputable def kV : Key → V
  | .inl i => .int i
  | .inr x => .str x

/-- what stands at a tracked address -/
inductive HO where
  /-- a list -/
  | lst (xs : List V)
  /-- a tuple (never changes) -/
  | tup (xs : List V)
  /-- a dict whose keys are ints and texts; one whose keys are tuples of ints and texts (the empty one is both) -/
  | dK (kvs : List (Key × V)) | dT (kvs : List (List Key × V))
  /-- a set of ints: its members, its size -/
  | set (S : Int → Bool) (n : Nat)
  /-- an instance of the class at C, its dict at dx, its attributes -/
  | ins (C dx : Addr) (fs : List (Str × V))
  /-- the dict of the instance at x -/
  | own (x : Addr)
  /-- the dict of an exception -/
  | xd (fs : List (Str × V))
  /-- a bound method, f of x -/
  | met (f x : Addr)
  /-- a range object lo, lo + 1, .. below hi -/
  | rng (lo hi : Int)
  /-- a thing that is known to the object (the script; a dict while a loop walks it): read, never written while it is so -/
  | frz (o : Obj) (u : HO)
  /-- a code object's table -/
  | tbl (ps : Array Value)
  /-- any other thing, by what is true of its one object (a def of one's own: SetO a S n := HO.ext fun h => ..) -/
  | ext (φ : Heap → Prop)

noncomputable abbrev Hp := Addr → Option HO
noncomputable def upd (H : Hp) (a : Addr) (o : HO) : Hp := fun b => if b = a then some o else H b
theorem upd_same {H : Hp} {a : Addr} {o : HO} : upd H a o a = some o := by unfold upd; rw [if_pos rfl]
theorem upd_ne {H : Hp} {a b : Addr} {o : HO} (h : b ≠ a) : upd H a o b = H b := by unfold upd; rw [if_neg h]
theorem upd_upd {H : Hp} {a : Addr} {o u : HO} : upd (upd H a o) a u = upd H a u := by
  funext b; unfold upd; split <;> rfl
/-- two objects of different content stand apart -/
theorem ne_of {H : Hp} {a b : Addr} {o u : HO} (h : H a = some o) (h' : H b = some u) (d : o ≠ u) : a ≠ b := by
  intro e; subst e; rw [h] at h'; exact d (Option.some.inj h')
theorem ne_of_none {H : Hp} {a b : Addr} {o : HO} (h : H a = some o) (h' : H b = none) : a ≠ b := by
  intro e; subst e; rw [h] at h'; cases h'

section
variable (P : Program) (w : World)
noncomputable def ObjOk (H : Hp) (h : Heap) (a : Addr) : HO → Prop
  | .lst xs => xs.length ≤ sizeLine ∧ ∃ (its : List Value) (n : Nat), Vals xs its ∧ h.get? a = some { cls := .type "list", data := .seq its.toArray n }
  | .tup xs => xs.length ≤ sizeLine ∧ ∃ its : List Value, Vals xs its ∧ IsTup h a its.toArray
  | .dK kvs => kvs.length ≤ sizeLine ∧ (a == sysModules) = false ∧ ∃ vs, KV kvs vs ∧ h.DictOf (mixKind P w) a vs
  | .dT kvs => kvs.length ≤ sizeLine ∧ (a == sysModules) = false ∧ ∃ xs : List (List Key × Addr × Value),
      Paired (fun (p : List Key × V) (q : List Key × Addr × Value) => p.1 = q.1 ∧ H q.2.1 = some (.tup (p.1.map kV)) ∧ RelV p.2 q.2.2) kvs xs ∧
      ∃ o es ep, h.get? a = some o ∧ o.ExactDict ∧ o.data = .dict es ep ∧ es.toList = xs.map (entryOfKey (tupleKind (mixKind P w))) ∧ (xs.map (·.1)).Nodup
  | .set S n => h.SetOf (intKind P w) a S n
  | .ins C dx fs => H dx = some (.own a) ∧ fs.length ≤ 1000 ∧ dx ≠ a ∧ h.get? a = some (PySem.W.instObj C dx) ∧
      ∃ mA, h.Ns1 dx mA ∧ (∀ f, RelO (fs.lookup f) (mA f)) ∧ PySem.Within mA (fs.map (·.1))
  | .own _ => ∃ o, h.get? a = some o
  | .xd fs => ∃ mA, h.Ns1 a mA ∧ ∀ f, RelO (fs.lookup f) (mA f)
  | .rng lo hi => ∃ t u v, h.get? a = some { cls := .type "range", data := .fields #[.int lo t, .int hi u, .int 1 v] }
  | .frz o u => h.get? a = some o ∧ ObjOk H h a u
  | .tbl ps => h.get? a = some { cls := .none, data := .fields ps }
  | .met f x => h.get? a = some (PySem.W.methodObj (.ref f) (.ref x))
  | .ext φ => φ h ∧ (∃ o, h.get? a = some o) ∧ ∀ h1 h2 : Heap, φ h1 → (∀ o, h1.get? a = some o → h2.get? a = some o) → φ h2
/-- the abstract heap is held -/
noncomputable def HOk (H : Hp) (h : Heap) : Prop := ∀ a o, H a = some o → ObjOk P w H h a o
end

section
variable {P : Program} {w : World} {H H' : Hp} {h h' : Heap} {a : Addr} {o : HO}
theorem ObjOk.lt (x : ObjOk P w H h a o) : a < h.objs.size := by
  cases o with
  | lst xs => obtain ⟨_, _, _, _, e⟩ := x; exact Heap.lt_size e
  | tup xs => obtain ⟨_, _, _, p⟩ := x; exact p.lt
  | dK kvs => obtain ⟨_, _, _, _, o, _, _, e, _⟩ := x; exact Heap.lt_size e
  | dT kvs => obtain ⟨_, _, _, _, o, _, _, e, _⟩ := x; exact Heap.lt_size e
  | set S n => obtain ⟨o, _, _, _, e, _⟩ := x; exact Heap.lt_size e
  | ins C dx fs => obtain ⟨_, _, _, e, _⟩ := x; exact Heap.lt_size e
  | own y => obtain ⟨_, e⟩ := x; exact Heap.lt_size e
  | xd fs => obtain ⟨_, ⟨_, _, _, e, _⟩, _⟩ := x; exact Heap.lt_size e
  | rng lo hi => obtain ⟨_, _, _, e⟩ := x; exact Heap.lt_size e
  | frz ob u => obtain ⟨e, _⟩ := x; exact Heap.lt_size e
  | tbl ps => exact Heap.lt_size (show h.get? a = some _ from x)
  | met f y => exact Heap.lt_size (show h.get? a = some _ from x)
  | ext φ => obtain ⟨_, ⟨_, e⟩, _⟩ := x; exact Heap.lt_size e
theorem Paired.mapP {α β : Type} {F G : α → β → Prop} : ∀ {l₁ : List α} {l₂ : List β}, Paired F l₁ l₂ → (∀ a b, F a b → G a b) → Paired G l₁ l₂
  | _, _, .nil, _ => .nil
  | _, _, .cons r t, f => .cons (f _ _ r) (Paired.mapP t f)
theorem Paired.imp' {α β : Type} {F G : α → β → Prop} (f : ∀ a b, F a b → G a b) {l₁ : List α} {l₂ : List β} (r : Paired F l₁ l₂) : Paired G l₁ l₂ := Paired.mapP r f
/-- what an object's description leans on: its own object, its own dict, the tuples -/
theorem ObjOk.stay (x : ObjOk P w H h a o) (k : ∀ b u, (b = a ∨ H b = some (.own a)) → h.get? b = some u → h'.get? b = some u)
    (ho : ∀ b, H b = some (.own a) → H' b = some (.own a)) (ht : ∀ b xs, H b = some (.tup xs) → H' b = some (.tup xs)) : ObjOk P w H' h' a o := by
  induction o with
  | lst xs => obtain ⟨z, its, n, r, e⟩ := x; exact ⟨z, its, n, r, k _ _ (.inl rfl) e⟩
  | tup xs => obtain ⟨z, its, r, ob, e, c⟩ := x; exact ⟨z, its, r, ob, k _ _ (.inl rfl) e, c⟩
  | dK kvs => obtain ⟨z, y, vs, r, ob, es, ep, e, c⟩ := x; exact ⟨z, y, vs, r, ob, es, ep, k _ _ (.inl rfl) e, c⟩
  | dT kvs =>
    obtain ⟨z, y, xs, r, ob, es, ep, e, c⟩ := x
    exact ⟨z, y, xs, Paired.mapP r fun p q z => ⟨z.1, ht _ _ z.2.1, z.2.2⟩, ob, es, ep, k _ _ (.inl rfl) e, c⟩
  | set S n => obtain ⟨ob, es, ep, t, e, c⟩ := x; exact ⟨ob, es, ep, t, k _ _ (.inl rfl) e, c⟩
  | ins C dx fs =>
    obtain ⟨d, z, ne, e, mA, ⟨od, es, ep, e2, c⟩, r⟩ := x
    exact ⟨ho _ d, z, ne, k _ _ (.inl rfl) e, mA, ⟨od, es, ep, k _ _ (.inr d) e2, c⟩, r⟩
  | own y => obtain ⟨ob, e⟩ := x; exact ⟨ob, k _ _ (.inl rfl) e⟩
  | xd fs => obtain ⟨mA, ⟨od, es, ep, e, c⟩, r⟩ := x; exact ⟨mA, ⟨od, es, ep, k _ _ (.inl rfl) e, c⟩, r⟩
  | rng lo hi => obtain ⟨t, u, v, e⟩ := x; exact ⟨t, u, v, k _ _ (.inl rfl) e⟩
  | frz ob u ih => obtain ⟨e, q⟩ := x; exact ⟨k _ _ (.inl rfl) e, ih q⟩
  | tbl ps =>
    have e : h.get? a = some { cls := .none, data := .fields ps } := x
    show h'.get? a = some { cls := .none, data := .fields ps }
    exact k a _ (.inl rfl) e
  | met f y =>
    have e : h.get? a = some (PySem.W.methodObj (.ref f) (.ref y)) := x
    show h'.get? a = some (PySem.W.methodObj (.ref f) (.ref y))
    exact k a _ (.inl rfl) e
  | ext φ => obtain ⟨p, ⟨o, e⟩, st⟩ := x; exact ⟨st _ _ p fun o q => k _ _ (.inl rfl) q, ⟨o, k _ _ (.inl rfl) e⟩, st⟩
theorem HOk.lt (x : HOk P w H h) (e : H a = some o) : a < h.objs.size := (x a o e).lt
theorem HOk.fresh (x : HOk P w H h) (e : h.objs.size ≤ a) : H a = none := by
  cases q : H a with
  | none => rfl
  | some u => exact absurd (Nat.lt_of_lt_of_le (x.lt q) e) (Nat.lt_irrefl _)
/-- every object of the heap is kept -/
theorem HOk.kept (x : HOk P w H h) (k : ∀ b u, h.get? b = some u → h'.get? b = some u) : HOk P w H h' := fun a o e =>
  (x a o e).stay (fun b u _ q => k b u q) (fun _ q => q) fun _ _ q => q
/-- a new object is laid and tracked -/
theorem HOk.laid (x : HOk P w H h) (k : ∀ b u, h.get? b = some u → h'.get? b = some u) (hp : h.objs.size ≤ a) (new : ObjOk P w (upd H a o) h' a o) : HOk P w (upd H a o) h' := fun b u e => by
  have hn := x.fresh hp
  by_cases hb : b = a
  · subst hb; rw [upd_same] at e; cases e; exact new
  · rw [upd_ne hb] at e
    exact (x b u e).stay (fun c v _ q => k c v q) (fun c q => by rw [upd_ne (ne_of_none q hn)]; exact q) fun c xs q => by rw [upd_ne (ne_of_none q hn)]; exact q
end

/-- what may be read as u: it is u, or a known u -/
noncomputable def Rd (H : Hp) (a : Addr) (u : HO) : Prop := H a = some u ∨ ∃ o, H a = some (.frz o u)
theorem Rd.ok {P : Program} {w : World} {H : Hp} {h : Heap} {a : Addr} {u : HO} (r : Rd H a u) (x : HOk P w H h) : ObjOk P w H h a u := by
  rcases r with r | ⟨o, r⟩
  · exact x a u r
  · obtain ⟨_, q⟩ := x a _ r
    exact q
/-- what may be written -/
noncomputable def Mut : Option HO → Prop
  | some (.lst _) => True
  | some (.dK _) => True
  | some (.dT _) => True
  | some (.set _ _) => True
  | some (.ins _ _ _) => True
  | some (.ext _) => True
  | _ => False
section
variable {P : Program} {w : World} {H : Hp} {h h' : Heap} {x e : Addr} {o' : HO}
/-- the object at e is changed: x itself, or the dict of the instance x -/
theorem HOk.write (ok : HOk P w H h) (mu : Mut (H x)) (he : e = x ∨ H e = some (.own x)) (k : ∀ b u, b ≠ e → h.get? b = some u → h'.get? b = some u) (heo : ∃ u, h'.get? e = some u)
    (new : ObjOk P w (upd H x o') h' x o') : HOk P w (upd H x o') h' := fun b u q => by
  have nown : ∀ c y, H c = some (.own y) → c ≠ x := fun c y r z => by subst z; rw [r] at mu; exact mu
  have ntup : ∀ c xs, H c = some (.tup xs) → c ≠ x := fun c xs r z => by subst z; rw [r] at mu; exact mu
  by_cases hb : b = x
  · subst hb; rw [upd_same] at q; cases q; exact new
  · rw [upd_ne hb] at q
    by_cases hbe : b = e
    · have q' : H b = some (.own x) := by
        rcases he with z | z
        · exact absurd (hbe.trans z) hb
        · rw [hbe]; exact z
      rw [q] at q'; cases q'
      obtain ⟨v, hv⟩ := heo
      exact ⟨v, by rw [hbe]; exact hv⟩
    · refine (ok b u q).stay (fun c v hc r => k c v ?_ r) (fun c r => by rw [upd_ne (nown c b r)]; exact r) fun c xs r => by rw [upd_ne (ntup c xs r)]; exact r
      rcases hc with rfl | hc
      · exact hbe
      · rintro rfl
        rcases he with z | z
        · exact nown c b hc z
        · rw [hc] at z; cases z; exact hb rfl
end

structure Un (fs ex : List Addr) (H H' : Hp) (h h' : Heap) : Prop where
  keep : ∀ b o, h.get? b = some o → H b = none → b ∉ fs → b ∉ ex → h'.get? b = some o
  slot : ∀ b o, h.get? b = some o → H b = none → b ∈ fs → b ∉ ex → ∃ sl, h'.get? b = some { o with slots := sl }
  free : ∀ b o, h.get? b = some o → H b = none → b ∉ ex → H' b = none
  there : ∀ b o, h.get? b = some o → b ∉ ex → ∃ o', h'.get? b = some o'
  tups : ∀ b xs, H b = some (.tup xs) → H' b = some (.tup xs)
  frzs : ∀ b o u, H b = some (.frz o u) → H' b = some (.frz o u)
  tbls : ∀ b ps, H b = some (.tbl ps) → ∃ more, H' b = some (.tbl (ps ++ more))
section
variable {fs fs' ex ex' : List Addr} {H H1 H2 : Hp} {h h1 h2 h' : Heap} {a x e : Addr} {o : HO}
theorem Un.any (u : Un fs ex H H1 h h1) {b : Addr} {ob : Obj} (q : h.get? b = some ob) (n : H b = none) (hx : b ∉ ex) : ∃ sl, h1.get? b = some { ob with slots := sl } := by
  by_cases hb : b ∈ fs
  · exact u.slot b ob q n hb hx
  · exact ⟨ob.slots, u.keep b ob q n hb hx⟩
theorem Un.kept (k : ∀ b u, h.get? b = some u → h'.get? b = some u) : Un fs ex H H h h' :=
  ⟨fun b ob q _ _ _ => k b ob q, fun b ob q _ _ _ => ⟨ob.slots, k b ob q⟩, fun _ _ _ n _ => n, fun b ob q _ => ⟨ob, k b ob q⟩, fun _ _ q => q, fun _ _ _ q => q, fun _ ps q => ⟨#[], by rw [q]; simp⟩⟩
theorem Un.refl : Un fs ex H H h h := Un.kept fun _ _ q => q
theorem Un.laid (k : ∀ b u, h.get? b = some u → h'.get? b = some u) (hp : h.objs.size ≤ a) (hn : H a = none) : Un fs ex H (upd H a o) h h' where
  keep := fun b u q _ _ _ => k b u q
  slot := fun b u q _ _ _ => ⟨u.slots, k b u q⟩
  free := fun b u q n _ => by rw [upd_ne (Nat.ne_of_lt (Nat.lt_of_lt_of_le (Heap.lt_size q) hp))]; exact n
  there := fun b u q _ => ⟨u, k b u q⟩
  tups := fun b xs q => by rw [upd_ne (ne_of_none q hn)]; exact q
  frzs := fun b u xs q => by rw [upd_ne (ne_of_none q hn)]; exact q
  tbls := fun b ps q => ⟨#[], by rw [upd_ne (ne_of_none q hn), q]; simp⟩
theorem Un.write (mu : Mut (H x)) (he : e = x ∨ H e = some (.own x)) (k : ∀ b u, b ≠ e → h.get? b = some u → h'.get? b = some u) (heo : ∃ u, h'.get? e = some u) : Un fs ex H (upd H x o) h h' := by
  have hx : ∀ b, H b = none → b ≠ x := fun b n z => by subst z; rw [n] at mu; exact mu
  have hb : ∀ b, H b = none → b ≠ e := fun b n z => by
    subst z
    rcases he with r | r
    · exact hx b n r
    · rw [n] at r; cases r
  have hm : ∀ b u, H b = some u → ¬ Mut (some u) → b ≠ x := fun b u q nm z => by subst z; rw [q] at mu; exact nm mu
  refine ⟨fun b u q n _ _ => k b u (hb b n) q, fun b u q n _ _ => ⟨u.slots, k b u (hb b n) q⟩, fun b u q n _ => by rw [upd_ne (hx b n)]; exact n, fun b u q _ => ?_,
    fun b xs q => by rw [upd_ne (hm b _ q fun z => z)]; exact q, fun b u xs q => by rw [upd_ne (hm b _ q fun z => z)]; exact q, fun b ps q => ⟨#[], by rw [upd_ne (hm b _ q fun z => z), q]; simp⟩⟩
  by_cases hbe : b = e
  · subst hbe; exact heo
  · exact ⟨u, k b u hbe q⟩
end

noncomputable def trk (h : Heap) (H : Hp) : List Addr := (List.range h.objs.size).filter fun a => (H a).isSome
noncomputable def hidT (h : Heap) (H : Hp) : Heap := PySem.W.hideAll h (trk h H)
theorem hidT_size (h : Heap) (H : Hp) : (hidT h H).objs.size = h.objs.size := PySem.W.hideAll_size _ _
theorem hidT_get {h : Heap} {H : Hp} {b : Addr} {o : Obj} (e : h.get? b = some o) (n : H b = none) : (hidT h H).get? b = some o :=
  PySem.W.hideAll_get _ e fun hm => by
    have q : (H b).isSome = true := (List.mem_filter.mp hm).2
    rw [n] at q; simp at q
theorem of_hidT {h : Heap} {H : Hp} {b : Addr} {o : Obj} (e : (hidT h H).get? b = some o) : h.get? b = some o ∧ H b = none := by
  have e' : h.get? b = some o := PySem.W.of_hideAll (trk h H) e
  refine ⟨e', ?_⟩
  cases q : H b with
  | none => rfl
  | some x =>
    have hm : b ∈ trk h H := List.mem_filter.mpr ⟨List.mem_range.mpr (Heap.lt_size e'), by simp [q]⟩
    have z : (hidT h H).get? b = none := PySem.W.hideAll_none (trk h H) hm
    rw [z] at e; cases e

end L2

namespace L2
open PySem PySem.Spec PyProof.Rows

/-- the module's facts, over the base: the heap at the law's entry without what is tracked there -/
structure Mod (K : PySem.W.Frag) (mg : Str → Option Value) (base : Heap) : Prop where
  kin : K.In base
  glob : base.Ns mainGlobals mg
  blt : ∃ mb, base.Ns builtinsNs mb ∧ ∀ x : Str, x ≠ "__name__" → mb x = bootBuiltins x
  nolimit : base.NoLimit

/-- the context: a def's body (or a comprehension's block) running. base: fixed through the whole law; s₀, H₀: the entry; outer: the frames whose slots others may change (a def's callers); stack: all frames that run;
   ex: iterators that were made ahead of the entry and are walked here (a comprehension's); fn: the names whose cells were made at the entry (a def: all; a comprehension's block: its own); calm: not within an except suite; pn: pins that every state bears; xe: what is wanted of an exception that leaves the code -/
structure Cx where
  prog : Program
  w : World
  K : PySem.W.Frag
  mg : Str → Option Value
  base : Heap
  A : Around
  N : List Str
  s₀ : Shared
  H₀ : Hp
  env : Env
  outer : List Env
  stack : List Env
  ex : List Addr
  fn : Str → Bool
  calm : Bool
  pn : List (Addr × Obj)
  xe : Value → Shared → Prop
/-- the callers' frames -/
noncomputable def frs (l : List Env) : List Addr := l.filterMap (·.frame)
noncomputable abbrev Cx.fs (X : Cx) : List Addr := frs X.outer

noncomputable def Vis (sc : Scope) (x : Str) : Prop := sc.names.lookup x = some .local ∨ sc.names.lookup x = some .cell ∨ sc.names.lookup x = some .free
noncomputable def Loc (sc : Scope) (x : Str) : Prop := sc.names.lookup x = some .local ∨ sc.names.lookup x = some .cell
noncomputable def Look (env : Env) (h : Heap) (m : Str → Option Value) (x : Str) (u : Value) : Prop :=
  (env.kindOf x = some .local ∧ m x = some u) ∨ ((env.kindOf x = some .cell ∨ env.kindOf x = some .free) ∧ ∃ c, env.cells.lookup x = some c ∧ h.IsCell c (some u))

structure Cx.Ok (X : Cx) : Prop where
  mod : Mod X.K X.mg X.base
  kind : X.env.scope.kind = .function
  glob : X.env.globals = mainGlobals
  blt : X.env.builtins = builtinsNs
  above : X.s₀.heap.objs.size ≤ X.env.locals
  inj : ∀ x y c, X.env.cells.lookup x = some c → X.env.cells.lookup y = some c → x = y
  has : ∀ x, (X.env.kindOf x = some .cell ∨ X.env.kindOf x = some .free) → ∃ c, X.env.cells.lookup x = some c
  cab : ∀ x c, X.fn x = true → X.env.cells.lookup x = some c → X.s₀.heap.objs.size ≤ c
  hd : X.calm = true → X.A.handled = none
  frames : X.A.frames = some X.stack
  stk : X.stack = X.outer ∨ (X.stack = X.env :: X.outer ∧ X.env.frame = some X.env.locals)
  exf : ∀ b ∈ X.ex, b ≠ X.env.locals ∧ ∀ x c, X.env.cells.lookup x = some c → c ≠ b
  bs : ∀ b o, X.base.get? b = some o → X.s₀.heap.get? b = some o ∧ X.H₀ b = none
  bsz : X.base.objs.size ≤ X.s₀.heap.objs.size
  noex : ∀ b o, X.base.get? b = some o → b ∉ X.ex
  exfs : ∀ b ∈ X.ex, b ∉ X.fs
  funs : X.s₀.heap.FunFrames X.base X.outer
  frf : ∀ b ∈ X.fs, X.H₀ b = none

structure Inv (X : Cx) (pins : List (Addr × Obj)) (σ : List (Option V)) (H : Hp) (s : Shared) : Prop where
  ok : X.Ok
  os : s.os = X.s₀.os
  bare : AllBare s.gens
  base : Un X.fs X.ex X.H₀ H X.s₀.heap s.heap
  loc : ∃ m, s.heap.Ns X.env.locals m ∧ ∀ (i : Nat) (x : Str) (v : V), X.N[i]? = some x → σ[i]? = some (some v) → Vis X.env.scope x → ∃ u, RelV v u ∧ Look X.env s.heap m x u
  cell : ∀ x c, X.env.cells.lookup x = some c → ∃ v, s.heap.IsCell c v
  free : H X.env.locals = none
  freeC : ∀ x c, X.env.cells.lookup x = some c → H c = none
  pin : ∀ p ∈ X.pn ++ pins, s.heap.get? p.1 = some p.2 ∧ H p.1 = none ∧ p.1 ≠ X.env.locals ∧ p.1 ∉ X.fs ∧ ∀ v, p.2.data ≠ .cell v
  hok : HOk X.prog X.w H s.heap
  len : σ.length = X.N.length

section
variable {X : Cx} {pins : List (Addr × Obj)} {σ : List (Option V)} {H H' : Hp} {s : Shared} {h' : Heap}

theorem Cx.Ok.nofr (ok : X.Ok) {b : Addr} {o : Obj} (e : X.base.get? b = some o) : b ∉ X.fs := fun hb => by
  have := (ok.funs.mem hb).1
  rw [e] at this; cases this
theorem Inv.bs (I : Inv X pins σ H s) : ∀ b o, X.base.get? b = some o → s.heap.get? b = some o ∧ H b = none := fun b o e =>
  ⟨I.base.keep b o (I.ok.bs b o e).1 (I.ok.bs b o e).2 (I.ok.nofr e) (I.ok.noex b o e), I.base.free b o (I.ok.bs b o e).1 (I.ok.bs b o e).2 (I.ok.noex b o e)⟩
theorem Inv.bk (I : Inv X pins σ H s) : ∀ b o, X.base.get? b = some o → s.heap.get? b = some o := fun b o e => (I.bs b o e).1
theorem Inv.mod (I : Inv X pins σ H s) : Mod X.K X.mg X.base := I.ok.mod
theorem Inv.kIn (I : Inv X pins σ H s) : X.K.In s.heap := I.ok.mod.kin.keeps I.bk
theorem Inv.lt (I : Inv X pins σ H s) : X.env.locals < s.heap.objs.size := let ⟨_, hn, _⟩ := I.loc; hn.lt
theorem Inv.sz (I : Inv X pins σ H s) : X.s₀.heap.objs.size ≤ s.heap.objs.size := Nat.le_trans I.ok.above (Nat.le_of_lt I.lt)
theorem Inv.nofs (I : Inv X pins σ H s) {a : Addr} (h : s.heap.objs.size ≤ a) : a ∉ X.fs := fun hb => by
  obtain ⟨_, o, ho, _⟩ := I.ok.funs.mem hb
  exact absurd (Nat.lt_of_lt_of_le (Heap.lt_size ho) (Nat.le_trans I.sz h)) (Nat.lt_irrefl _)
theorem Inv.cne (I : Inv X pins σ H s) : ∀ x c, X.env.cells.lookup x = some c → c ≠ X.env.locals := fun x c e z => by
  obtain ⟨v, o, ho, hd⟩ := I.cell x c e
  obtain ⟨m, ⟨o', es, ep, ho', hd', _⟩, _⟩ := I.loc
  rw [z, ho'] at ho; cases ho; rw [hd'] at hd; cases hd
theorem Inv.funs (I : Inv X pins σ H s) : s.heap.FunFrames X.base X.outer := by
  have all : ∀ (l : List Env), (∀ b ∈ frs l, b ∈ X.fs) → X.s₀.heap.FunFrames X.base l → s.heap.FunFrames X.base l := by
    intro l
    induction l with
    | nil => intro _ _; trivial
    | cons env r ih =>
      intro hs hl
      obtain ⟨hk, ⟨L, o, hf, hn, ho, hd⟩, hr⟩ := hl
      have hL : L ∈ X.fs := hs L (by unfold frs; rw [List.filterMap_cons, hf]; exact List.mem_cons_self)
      obtain ⟨sl, e⟩ := I.base.slot L o ho (I.ok.frf L hL) hL fun z => I.ok.exfs L z hL
      exact ⟨hk, ⟨L, _, hf, hn, e, hd⟩, ih (fun b hb => hs b (by unfold frs; rw [List.filterMap_cons, hf]; exact List.mem_cons_of_mem _ hb)) hr⟩
  exact all X.outer (fun _ hb => hb) I.ok.funs

/-- the frames that run, for a call -/
theorem Inv.stack (I : Inv X pins σ H s) : s.heap.FunFrames X.base X.stack := by
  rcases I.ok.stk with e | ⟨e, hf⟩
  · rw [e]; exact I.funs
  · rw [e]
    obtain ⟨m, hn, _⟩ := I.loc
    refine .cons (by rw [I.ok.kind]; decide) hf hn ?_ I.funs
    exact Heap.get?_none_of_le (Nat.le_trans I.ok.bsz I.ok.above)
theorem Inv.stkSub (I : Inv X pins σ H s) : ∀ b ∈ frs X.stack, b ∈ X.env.locals :: X.fs := fun b hb => by
  rcases I.ok.stk with e | ⟨e, hf⟩
  · rw [e] at hb; exact List.mem_cons_of_mem _ hb
  · rw [e] at hb
    unfold frs at hb
    rw [List.filterMap_cons, hf] at hb
    exact hb
theorem Inv.stkFree (I : Inv X pins σ H s) : ∀ b ∈ frs X.stack, H b = none := fun b hb => by
  rcases List.mem_cons.mp (I.stkSub b hb) with e | hb
  · rw [e]; exact I.free
  · obtain ⟨_, o, ho, _⟩ := I.ok.funs.mem hb
    exact I.base.free b o ho (I.ok.frf b hb) fun z => I.ok.exfs b z hb

/-- THE STEP: the untracked objects but the frame and the records at ch are kept (the callers' frames up to slots), the frame's map is kept, the new abstract heap is held -/
theorem Inv.step {g' : Array GenState} {t' : Nat} {d' : Drawn} {ch : List Addr} (I : Inv X pins σ H s)
    (hch : ∀ b ∈ ch, (b ∈ X.ex ∨ X.s₀.heap.objs.size ≤ b) ∧ b ≠ X.env.locals ∧ (∀ x c, X.env.cells.lookup x = some c → c ≠ b) ∧ ∀ p ∈ X.pn ++ pins, p.1 ≠ b)
    (keep : ∀ b o, b ≠ X.env.locals → b ∉ X.fs → b ∉ ch → s.heap.get? b = some o → H b = none → h'.get? b = some o)
    (slot : ∀ b o, b ≠ X.env.locals → b ∈ X.fs → b ∉ ch → s.heap.get? b = some o → H b = none → ∃ sl, h'.get? b = some { o with slots := sl }) (free : ∀ b o, b ∉ ch → s.heap.get? b = some o → H b = none → H' b = none)
    (there : ∀ b o, b ∉ ch → s.heap.get? b = some o → ∃ o', h'.get? b = some o')
    (tups : ∀ b xs, H b = some (.tup xs) → H' b = some (.tup xs)) (frzs : ∀ b o u, H b = some (.frz o u) → H' b = some (.frz o u)) (tbls : ∀ b ps, H b = some (.tbl ps) → ∃ more, H' b = some (.tbl (ps ++ more)))
    (ns : ∀ m, s.heap.Ns X.env.locals m → h'.Ns X.env.locals m) (hok : HOk X.prog X.w H' h') (hg : AllBare g') :
    Inv X pins σ H' { s with heap := h', gens := g', drawn := d', toks := t' } := by
  have neL : ∀ b o, X.s₀.heap.get? b = some o → b ≠ X.env.locals := fun b o e => Nat.ne_of_lt (Nat.lt_of_lt_of_le (Heap.lt_size e) I.ok.above)
  have neC : ∀ b o, X.s₀.heap.get? b = some o → b ∉ X.ex → b ∉ ch := fun b o e hx hb => by
    rcases (hch b hb).1 with z | z
    · exact hx z
    · exact absurd (Nat.lt_of_lt_of_le (Heap.lt_size e) z) (Nat.lt_irrefl _)
  have cellK : ∀ x c, X.env.cells.lookup x = some c → ∀ v, s.heap.IsCell c v → h'.IsCell c v := fun x c e v ⟨o, ho, hd⟩ => by
    have nch : c ∉ ch := fun z => (hch c z).2.2.1 x c e rfl
    by_cases hc : c ∈ X.fs
    · obtain ⟨sl, q⟩ := slot c o (I.cne x c e) hc nch ho (I.freeC x c e)
      exact ⟨_, q, hd⟩
    · exact ⟨o, keep c o (I.cne x c e) hc nch ho (I.freeC x c e), hd⟩
  refine ⟨I.ok, I.os, hg, ⟨fun b o e n hb hx => ?_, fun b o e n hb hx => ?_, fun b o e n hx => ?_, fun b o e hx => ?_, fun b xs e => tups b xs (I.base.tups b xs e), fun b o xs e => frzs b o xs (I.base.frzs b o xs e), fun b ps e => ?_⟩, ?_, fun x c e => ?_, ?_, fun x c e => ?_, fun p hp => ?_, hok, I.len⟩
  · exact keep b o (neL b o e) hb (neC b o e hx) (I.base.keep b o e n hb hx) (I.base.free b o e n hx)
  · obtain ⟨sl, e1⟩ := I.base.slot b o e n hb hx
    obtain ⟨sl', e2⟩ := slot b _ (neL b o e) hb (neC b o e hx) e1 (I.base.free b o e n hx)
    exact ⟨sl', e2⟩
  · obtain ⟨o', e1⟩ := I.base.there b o e hx
    exact free b o' (neC b o e hx) e1 (I.base.free b o e n hx)
  · obtain ⟨o', e1⟩ := I.base.there b o e hx
    exact there b o' (neC b o e hx) e1
  · obtain ⟨m1, e1⟩ := I.base.tbls b ps e
    obtain ⟨m2, e2⟩ := tbls b _ e1
    exact ⟨m1 ++ m2, by rw [e2, Array.append_assoc]⟩
  · obtain ⟨m, hn, hl⟩ := I.loc
    refine ⟨m, ns m hn, fun i x v e1 e2 e3 => ?_⟩
    obtain ⟨u, r, l⟩ := hl i x v e1 e2 e3
    refine ⟨u, r, ?_⟩
    rcases l with l | ⟨k, c, e, z⟩
    · exact .inl l
    · exact .inr ⟨k, c, e, cellK x c e _ z⟩
  · obtain ⟨v, z⟩ := I.cell x c e
    exact ⟨v, cellK x c e v z⟩
  · obtain ⟨m, ⟨o, _, _, ho, _⟩, _⟩ := I.loc
    exact free _ o (fun z => (hch _ z).2.1 rfl) ho I.free
  · obtain ⟨v, o, ho, hd⟩ := I.cell x c e
    exact free c o (fun z => (hch c z).2.2.1 x c e rfl) ho (I.freeC x c e)
  · obtain ⟨e, n, ne, nf, d⟩ := I.pin p hp
    have nch : p.1 ∉ ch := fun z => (hch p.1 z).2.2.2 p hp rfl
    exact ⟨keep p.1 p.2 ne nf nch e n, free p.1 p.2 nch e n, ne, nf, d⟩
/-- .. where the frame's own object is kept too -/
theorem Inv.un {t' : Nat} (I : Inv X pins σ H s) (u : Un X.fs [] H H' s.heap h') (hok : HOk X.prog X.w H' h') : Inv X pins σ H' { s with heap := h', toks := t' } := by
  obtain ⟨m, ⟨o, es, ep, ho, r⟩, _⟩ := id I.loc
  obtain ⟨sl, hL⟩ := u.any ho I.free (by simp)
  exact I.step (g' := s.gens) (d' := s.drawn) (ch := []) (fun _ z => nomatch z) (fun b o _ hb _ e n => u.keep b o e n hb (by simp)) (fun b o _ hb _ e n => u.slot b o e n hb (by simp)) (fun b o _ e n => u.free b o e n (by simp)) (fun b o _ e => u.there b o e (by simp)) u.tups u.frzs u.tbls (fun m' hm => by
    obtain ⟨o', es', ep', ho', r'⟩ := hm
    rw [ho] at ho'; cases ho'
    exact ⟨_, es', ep', hL, r'⟩) hok I.bare
/-- behind a call (or a comprehension's block): the slots of this frame may have changed too, the records at ch may have turned -/
theorem Inv.call {g' : Array GenState} {t' : Nat} {d' : Drawn} {ch : List Addr} (I : Inv X pins σ H s) (u : Un (frs X.stack) ch H H' s.heap h') (hok : HOk X.prog X.w H' h') (hg : AllBare g')
    (hch : ∀ b ∈ ch, (b ∈ X.ex ∨ X.s₀.heap.objs.size ≤ b) ∧ b ≠ X.env.locals ∧ (∀ x c, X.env.cells.lookup x = some c → c ≠ b) ∧ ∀ p ∈ X.pn ++ pins, p.1 ≠ b) :
    Inv X pins σ H' { s with heap := h', gens := g', drawn := d', toks := t' } := by
  obtain ⟨m, ⟨o, es, ep, ho, r⟩, _⟩ := id I.loc
  obtain ⟨sl, hL⟩ := u.any ho I.free fun z => (hch _ z).2.1 rfl
  exact I.step (ch := ch) hch (fun b o hL hb hc e n => u.keep b o e n (fun z => (List.mem_cons.mp (I.stkSub b z)).elim hL hb) hc) (fun b o _ _ hc e n => u.any e n hc) (fun b o hc e n => u.free b o e n hc) (fun b o hc e => u.there b o e hc) u.tups u.frzs u.tbls (fun m' hm => by
    obtain ⟨o', es', ep', ho', r'⟩ := hm
    rw [ho] at ho'; cases ho'
    exact ⟨_, es', ep', hL, r'⟩) hok hg
/-- an untracked record of ours (an iterator) has turned -/
theorem Inv.turned {t' : Nat} {it : Addr} (I : Inv X pins σ H s) (k : ∀ b o, b ≠ it → s.heap.get? b = some o → h'.get? b = some o) (hn : H it = none) (hL : it ≠ X.env.locals)
    (h1 : it ∈ X.ex ∨ X.s₀.heap.objs.size ≤ it) (h2 : ∀ x c, X.env.cells.lookup x = some c → c ≠ it) (h3 : ∀ p ∈ X.pn ++ pins, p.1 ≠ it) : Inv X pins σ H { s with heap := h', toks := t' } := by
  have nit : ∀ b u, H b = some u → b ≠ it := fun b u e z => by rw [z, hn] at e; cases e
  refine I.step (g' := s.gens) (d' := s.drawn) (ch := [it]) (fun b hb => ?_) (fun b o _ _ hc e _ => k b o (fun z => hc (by simp [z])) e) (fun b o _ _ hc e _ => ⟨o.slots, k b o (fun z => hc (by simp [z])) e⟩) (fun _ _ _ _ n => n)
    (fun b o hc e => ⟨o, k b o (fun z => hc (by simp [z])) e⟩) (fun _ _ e => e) (fun _ _ _ e => e) (fun b ps e => ⟨#[], by rw [e]; simp⟩) (fun m hm => ?_) (fun b u e => ?_) I.bare
  · have e : b = it := by simpa using hb
    subst e
    exact ⟨h1, hL, h2, h3⟩
  · obtain ⟨o, es, ep, ho, r⟩ := hm
    exact ⟨o, es, ep, k _ o (Ne.symm hL) ho, r⟩
  · refine (I.hok b u e).stay (fun c v hc q => k c v ?_ q) (fun _ q => q) fun _ _ q => q
    rcases hc with z | z
    · rw [z]; exact nit b u e
    · exact nit c _ z
theorem Inv.tok (I : Inv X pins σ H s) (t : Nat) : Inv X pins σ H { s with toks := t } := I.un (h' := s.heap) (t' := t) Un.refl I.hok
/-- all objects kept -/
theorem Inv.kept {t' : Nat} (I : Inv X pins σ H s) (k : ∀ b u, s.heap.get? b = some u → h'.get? b = some u) : Inv X pins σ H { s with heap := h', toks := t' } := I.un (Un.kept k) (I.hok.kept k)
/-- a new object laid and tracked -/
theorem Inv.laid {a : Addr} {o : HO} {t' : Nat} (I : Inv X pins σ H s) (k : ∀ b u, s.heap.get? b = some u → h'.get? b = some u) (hp : s.heap.objs.size ≤ a) (new : ObjOk X.prog X.w (upd H a o) h' a o) :
    Inv X pins σ (upd H a o) { s with heap := h', toks := t' } := I.un (Un.laid k hp (I.hok.fresh hp)) (I.hok.laid k hp new)
/-- an object written -/
theorem Inv.write {x e : Addr} {o : HO} {t' : Nat} (I : Inv X pins σ H s) (mu : Mut (H x)) (he : e = x ∨ H e = some (.own x)) (k : ∀ b u, b ≠ e → s.heap.get? b = some u → h'.get? b = some u) (heo : ∃ u, h'.get? e = some u)
    (new : ObjOk X.prog X.w (upd H x o) h' x o) : Inv X pins σ (upd H x o) { s with heap := h', toks := t' } := I.un (Un.write mu he k heo) (I.hok.write mu he k heo new)
theorem Inv.pins_of {pins' : List (Addr × Obj)} (I : Inv X pins σ H s) (h : ∀ p ∈ pins', s.heap.get? p.1 = some p.2 ∧ H p.1 = none ∧ p.1 ≠ X.env.locals ∧ p.1 ∉ X.fs ∧ ∀ v, p.2.data ≠ .cell v) : Inv X pins' σ H s :=
  ⟨I.ok, I.os, I.bare, I.base, I.loc, I.cell, I.free, I.freeC, fun p hp => (List.mem_append.mp hp).elim (fun z => I.pin p (List.mem_append_left _ z)) (h p), I.hok, I.len⟩

theorem nodup_ix {N : List Str} (hN : N.Nodup) {i j : Nat} {x : Str} (a : N[i]? = some x) (b : N[j]? = some x) : i = j := by
  obtain ⟨h1, e1⟩ := List.getElem?_eq_some_iff.mp a
  obtain ⟨h2, e2⟩ := List.getElem?_eq_some_iff.mp b
  exact (List.getElem_inj hN).mp (e1.trans e2.symm)

/-- a name is stored; what changed -/
theorem store_ok2 {M : Model} {A : Around} {E : Value → Shared → Prop} {i : Nat} {x : Str} {v : V} {u : Value} {Q : Unit → Shared → Prop} (I : Inv X pins σ H s) (hN : X.N.Nodup) (hi : X.N[i]? = some x) (hx : Loc X.env.scope x) (r : RelV v u)
    (h : ∀ s', Inv X pins (σ.set i (some v)) H s' → (∃ a, Heap.SameBut a s.heap s'.heap ∧ (a = X.env.locals ∨ X.env.cells.lookup x = some a)) → Q () s') (hf : X.fn x = true ∨ X.env.scope.names.lookup x = some .local := by first | exact .inl rfl | exact .inr rfl | assumption) : wpAny M A (storeName X.env x u) Q E s := by
  obtain ⟨m, hn, hl⟩ := id I.loc
  have hcls : (X.env.scope.kind == .class || (X.env.scope.kind == .module && X.env.locals != X.env.globals)) = false := by rw [I.ok.kind]; rfl
  have hiσ : i < σ.length := by rw [I.len]; exact (List.getElem?_eq_some_iff.mp hi).1
  have cne := I.cne
  have tracked : ∀ {a : Addr} {h' : Heap}, (∃ o, s.heap.get? a = some o ∧ H a = none) → Heap.SameBut a s.heap h' → HOk X.prog X.w H h' := fun {a h'} ha hs b ob e => by
    obtain ⟨_, _, hfree⟩ := ha
    refine (I.hok b ob e).stay (fun c w' hc q => (hs.2 c ?_).trans q) (fun _ q => q) fun _ _ q => q
    rintro rfl
    rcases hc with rfl | hc
    · rw [hfree] at e; cases e
    · rw [hfree] at hc; cases hc
  rcases hx with hk | hk
  · refine wpAny_storeName_local hk hn (fun h' hn' hs => ?_) hcls
    obtain ⟨oL, _, _, hoL, _⟩ := id hn
    refine h _ ⟨I.ok, I.os, I.bare, ⟨fun b o e n hb hx => ?_, fun b o e n hb hx => ?_, I.base.free, fun b o e hx => ?_, I.base.tups, I.base.frzs, I.base.tbls⟩, ⟨_, hn', fun j y v' e1 e2 e3 => ?_⟩, fun y c e => ?_, I.free, I.freeC, fun p hp => ?_, tracked ⟨oL, hoL, I.free⟩ hs, by simpa using I.len⟩ ⟨_, hs, .inl rfl⟩
    · exact (hs.2 b (Nat.ne_of_lt (Nat.lt_of_lt_of_le (Heap.lt_size e) I.ok.above))).trans (I.base.keep b o e n hb hx)
    · obtain ⟨sl, e1⟩ := I.base.slot b o e n hb hx
      exact ⟨sl, (hs.2 b (Nat.ne_of_lt (Nat.lt_of_lt_of_le (Heap.lt_size e) I.ok.above))).trans e1⟩
    · obtain ⟨o', e1⟩ := I.base.there b o e hx
      exact ⟨o', (hs.2 b (Nat.ne_of_lt (Nat.lt_of_lt_of_le (Heap.lt_size e) I.ok.above))).trans e1⟩
    · by_cases hj : j = i
      · subst hj
        rw [hi] at e1; cases e1
        rw [List.getElem?_set_self hiσ] at e2
        cases e2
        exact ⟨u, r, .inl ⟨hk, by simp⟩⟩
      · rw [List.getElem?_set_ne (Ne.symm hj)] at e2
        obtain ⟨u', r', q⟩ := hl j y v' e1 e2 e3
        refine ⟨u', r', ?_⟩
        rcases q with ⟨k, e⟩ | ⟨k, c, e, z⟩
        · refine .inl ⟨k, ?_⟩
          have : y ≠ x := fun e => hj (nodup_ix hN e1 (e ▸ hi))
          simp [this, e]
        · exact .inr ⟨k, c, e, z.sameBut hs (cne y c e)⟩
    · obtain ⟨w', z⟩ := I.cell y c e
      exact ⟨w', z.sameBut hs (cne y c e)⟩
    · obtain ⟨e, n, ne, nf, d⟩ := I.pin p hp
      exact ⟨(hs.2 p.1 ne).trans e, n, ne, nf, d⟩
  · have hfn : X.fn x = true := by
      rcases hf with z | z
      · exact z
      · rw [z] at hk; cases hk
    obtain ⟨c, hc⟩ := I.ok.has x (.inl hk)
    obtain ⟨w', z⟩ := I.cell x c hc
    refine wpAny_storeName_cell I.ok.kind hk hc z (fun h' hc' hs => ?_)
    obtain ⟨oc, hoc, hocd⟩ := id z
    refine h { s with heap := h' } ⟨I.ok, I.os, I.bare, ⟨fun b o e n hb hx => ?_, fun b o e n hb hx => ?_, I.base.free, fun b o e hx => ?_, I.base.tups, I.base.frzs, I.base.tbls⟩, ⟨m, hn.sameBut hs (Ne.symm (cne x c hc)), fun j y v' e1 e2 e3 => ?_⟩, fun y c' e => ?_, I.free, I.freeC, fun p hp => ?_, tracked ⟨oc, hoc, I.freeC x c hc⟩ hs, by simpa using I.len⟩ ⟨c, hs, .inr hc⟩
    · exact (hs.2 b (Nat.ne_of_lt (Nat.lt_of_lt_of_le (Heap.lt_size e) (I.ok.cab x c hfn hc)))).trans (I.base.keep b o e n hb hx)
    · obtain ⟨sl, e1⟩ := I.base.slot b o e n hb hx
      exact ⟨sl, (hs.2 b (Nat.ne_of_lt (Nat.lt_of_lt_of_le (Heap.lt_size e) (I.ok.cab x c hfn hc)))).trans e1⟩
    · obtain ⟨o', e1⟩ := I.base.there b o e hx
      exact ⟨o', (hs.2 b (Nat.ne_of_lt (Nat.lt_of_lt_of_le (Heap.lt_size e) (I.ok.cab x c hfn hc)))).trans e1⟩
    · by_cases hj : j = i
      · subst hj
        rw [hi] at e1; cases e1
        rw [List.getElem?_set_self hiσ] at e2
        cases e2
        exact ⟨u, r, .inr ⟨.inl hk, c, hc, hc'⟩⟩
      · rw [List.getElem?_set_ne (Ne.symm hj)] at e2
        obtain ⟨u', r', q⟩ := hl j y v' e1 e2 e3
        refine ⟨u', r', ?_⟩
        rcases q with q | ⟨k, c', e, z'⟩
        · exact .inl q
        · refine .inr ⟨k, c', e, z'.sameBut hs ?_⟩
          rintro rfl
          exact hj (nodup_ix hN e1 (I.ok.inj _ _ _ e hc ▸ hi))
    · by_cases hcc : c' = c
      · subst hcc; exact ⟨_, hc'⟩
      · obtain ⟨w2, z2⟩ := I.cell y c' e
        exact ⟨w2, z2.sameBut hs hcc⟩
    · obtain ⟨e, n, ne, nf, d⟩ := I.pin p hp
      refine ⟨(hs.2 p.1 ?_).trans e, n, ne, nf, d⟩
      intro q
      rw [q, hoc] at e
      have q' : oc = p.2 := Option.some.inj e
      exact d w' (by rw [← q']; exact hocd)
theorem store_ok {M : Model} {A : Around} {E : Value → Shared → Prop} {i : Nat} {x : Str} {v : V} {u : Value} {Q : Unit → Shared → Prop} (I : Inv X pins σ H s) (hN : X.N.Nodup) (hi : X.N[i]? = some x) (hx : Loc X.env.scope x) (r : RelV v u)
    (h : ∀ s', Inv X pins (σ.set i (some v)) H s' → Q () s') (hf : X.fn x = true ∨ X.env.scope.names.lookup x = some .local := by first | exact .inl rfl | exact .inr rfl | assumption) : wpAny M A (storeName X.env x u) Q E s :=
  store_ok2 I hN hi hx r (fun s' I' _ => h s' I') hf
/-- behind a call or a block, the state as it is -/
theorem Inv.call' {s' : Shared} {ch : List Addr} (I : Inv X pins σ H s) (ho : s'.os = s.os) (u : Un (frs X.stack) ch H H' s.heap s'.heap) (hok : HOk X.prog X.w H' s'.heap) (hg : AllBare s'.gens)
    (hch : ∀ b ∈ ch, (b ∈ X.ex ∨ X.s₀.heap.objs.size ≤ b) ∧ b ≠ X.env.locals ∧ (∀ x c, X.env.cells.lookup x = some c → c ≠ b) ∧ ∀ p ∈ X.pn ++ pins, p.1 ≠ b) : Inv X pins σ H' s' := by
  obtain ⟨h', g', d', t', o'⟩ := s'
  have e : o' = s.os := ho
  subst e
  exact I.call (g' := g') (t' := t') (d' := d') u hok hg hch
end

/-- an exception: its class, its own dict's address (where it has one), the abstract heap behind it -/
noncomputable abbrev XK := Value → Option Addr → Hp → Prop
noncomputable abbrev St := List (Option V)
noncomputable abbrev VK := V → Hp → Prop
/-- an expression's reading; a test's; an argument list's -/
noncomputable abbrev TE := St → Hp → VK → Prop
noncomputable abbrev TT := St → Hp → (Bool → Hp → Prop) → Prop
noncomputable abbrev TA := St → Hp → (List V → Hp → Prop) → Prop
/-- what is wanted behind a statement -/
structure Ends where
  nx : St → Hp → Prop
  rt : VK
  bk : St → Hp → Prop := fun _ _ => False
  ct : St → Hp → Prop := fun _ _ => False
noncomputable abbrev TS := Ends → St → Hp → Prop

noncomputable def EP (X : Cx) (pins : List (Addr × Obj)) (σ : St) (Q : VK) (u : Value) (s' : Shared) : Prop := ∃ v H', Inv X pins σ H' s' ∧ RelV v u ∧ Q v H'
noncomputable def TP (X : Cx) (pins : List (Addr × Obj)) (σ : St) (Q : Bool → Hp → Prop) (b : Bool) (s' : Shared) : Prop := ∃ H', Inv X pins σ H' s' ∧ Q b H'
noncomputable def AP (X : Cx) (pins : List (Addr × Obj)) (σ : St) (Q : List V → Hp → Prop) (us : List Value) (s' : Shared) : Prop := ∃ vs H', Inv X pins σ H' s' ∧ Vals vs us ∧ Q vs H'
noncomputable def SP (X : Cx) (pins : List (Addr × Obj)) (D : Ends) (f : Flow) (s' : Shared) : Prop :=
  match f with
  | .next => ∃ σ' H', Inv X pins σ' H' s' ∧ D.nx σ' H'
  | .brk => ∃ σ' H', Inv X pins σ' H' s' ∧ D.bk σ' H'
  | .cont => ∃ σ' H', Inv X pins σ' H' s' ∧ D.ct σ' H'
  | .ret u => ∃ v σ' H', Inv X pins σ' H' s' ∧ RelV v u ∧ D.rt v H'

noncomputable def PE (X : Cx) (e : Expr) (t : TE) : Prop :=
  ∀ (pins : List (Addr × Obj)) (s : Shared) (σ : St) (H : Hp) (Q : VK), Inv X pins σ H s → t σ H Q → wpAny (model X.prog X.w) X.A (eval e X.env) (EP X pins σ Q) X.xe s
noncomputable def PT (X : Cx) (e : Expr) (t : TT) : Prop :=
  ∀ (pins : List (Addr × Obj)) (s : Shared) (σ : St) (H : Hp) (Q : Bool → Hp → Prop), Inv X pins σ H s → t σ H Q → wpAny (model X.prog X.w) X.A (isTrue e X.env (eval e X.env)) (TP X pins σ Q) X.xe s
/-- a test whatever its 'whole' is (and, or) -/
noncomputable def PW (X : Cx) (e : Expr) (t : TT) : Prop :=
  ∀ (whole : Sem Value) (pins : List (Addr × Obj)) (s : Shared) (σ : St) (H : Hp) (Q : Bool → Hp → Prop), Inv X pins σ H s → t σ H Q → wpAny (model X.prog X.w) X.A (isTrue e X.env whole) (TP X pins σ Q) X.xe s
theorem PW.pt {X : Cx} {e : Expr} {t : TT} (h : PW X e t) : PT X e t := h _
/-- an argument list (no star), from the left -/
noncomputable def PA (X : Cx) (es : List Expr) (t : TA) : Prop :=
  ∀ (pos : Pos) (pins : List (Addr × Obj)) (s : Shared) (σ : St) (H : Hp) (Q : List V → Hp → Prop), Inv X pins σ H s → t σ H Q → wpAny (model X.prog X.w) X.A (spliced (backTo pos (starEach es X.env))) (AP X pins σ Q) X.xe s
noncomputable def PS (X : Cx) (st : Stmt) (t : TS) : Prop :=
  ∀ (pins : List (Addr × Obj)) (s : Shared) (σ : St) (H : Hp) (D : Ends), Inv X pins σ H s → t D σ H → wpAny (model X.prog X.w) X.A (exec st X.env) (SP X pins D) X.xe s
noncomputable def PSs (X : Cx) (st : List Stmt) (t : TS) : Prop :=
  ∀ (pins : List (Addr × Obj)) (s : Shared) (σ : St) (H : Hp) (D : Ends), Inv X pins σ H s → t D σ H → wpAny (model X.prog X.w) X.A (execs st X.env) (SP X pins D) X.xe s
/-- weaken the end -/
theorem thn {α : Type} {t : Sem α} {Q Q' : α → Shared → Prop} {M : Model} {A : Around} {E : Value → Shared → Prop} {s : Shared} (h : wpAny M A t Q E s) (hQ : ∀ a s, Q a s → Q' a s) : wpAny M A t Q' E s := wpAny_mono h hQ fun _ _ x => x
end L2

namespace L2
open PySem PySem.Spec PyProof.Rows
section
variable {X : Cx}

noncomputable def tVar (i : Nat) : TE := fun σ H Q => ∃ v, σ[i]? = some (some v) ∧ Q v H
noncomputable def tC (v : V) : TE := fun _ H Q => Q v H
theorem pe_var {i : Nat} {x : Str} {pos : Pos} (hN : X.N[i]? = some x) (hv : Vis X.env.scope x) (hd : (x == ("__debug__" : Str)) = false := by decide) (hcd : (x == ("__classdict__" : Str)) = false := by decide) : PE X (.Name x pos) (tVar i) := by
  intro pins s σ H Q I h
  obtain ⟨v, e, h⟩ := h
  obtain ⟨m, hn, hl⟩ := I.loc
  obtain ⟨u, r, l⟩ := hl i x v hN e hv
  have fin : EP X pins σ Q u s := ⟨v, H, I, r, h⟩
  rcases l with ⟨hk, hm⟩ | ⟨hk, c, hc, hcell⟩
  · exact wpAny_Name (wpAny_loadName_local I.ok.kind hk hn hm fin) hd
  · rcases hk with hk | hk
    · exact wpAny_Name (wpAny_loadName_cell I.ok.kind hk hc hcell fin) hd
    · exact wpAny_Name (wpAny_loadName_free I.ok.kind hk hc hcell fin hcd) hd
theorem pe_int {i j pos} : PE X (.Constant (.int i) j pos) (tC (.int i)) := fun _ _ _ H _ I h => wpAny_Constant_int ⟨.int i, H, I.tok _, ⟨_, rfl⟩, h⟩
theorem pe_bl {b j pos} : PE X (.Constant (.bool b) j pos) (tC (.bl b)) := fun _ _ _ H _ I h => Constant_bool ⟨.bl b, H, I, rfl, h⟩
theorem pe_non {j pos} : PE X (.Constant .none j pos) (tC .non) := fun _ _ _ H _ I h => Constant_none ⟨.non, H, I, rfl, h⟩
/-- a global name of the def -/
noncomputable def Gl (X : Cx) (x : Str) : Prop := X.env.kindOf x = some .globalImplicit
theorem ld_glob {E : Value → Shared → Prop} {pins : List (Addr × Obj)} {s : Shared} {σ : St} {H : Hp} {x : Str} {u : Value} {pos : Pos} {Q : Value → Shared → Prop} (I : Inv X pins σ H s) (hg : Gl X x) (hm : X.mg x = some u) (h : Q u s)
    (hd : (x == ("__debug__" : Str)) = false := by decide) : wpAny (model X.prog X.w) X.A (eval (.Name x pos) X.env) Q E s :=
  Calls.Name_function_global I.ok.kind hg (Calls.loadGlobal_global (by rw [I.ok.glob]; exact I.mod.glob.keeps I.bk) hm h) hd
theorem ld_blt {E : Value → Shared → Prop} {pins : List (Addr × Obj)} {s : Shared} {σ : St} {H : Hp} {x : Str} {u : Value} {pos : Pos} {Q : Value → Shared → Prop} (I : Inv X pins σ H s) (hg : Gl X x) (hm : X.mg x = none) (hv : bootBuiltins x = some u) (h : Q u s)
    (hn : x ≠ "__name__" := by decide) (hd : (x == ("__debug__" : Str)) = false := by decide) : wpAny (model X.prog X.w) X.A (eval (.Name x pos) X.env) Q E s := by
  obtain ⟨mb, h1, h2⟩ := I.mod.blt
  exact Calls.Name_function_global I.ok.kind hg (Calls.loadGlobal_builtin (by rw [I.ok.glob]; exact I.mod.glob.keeps I.bk) hm (by rw [I.ok.blt]; exact h1.keeps I.bk) ((h2 x hn).trans hv) h) hd
theorem pe_bltn {x : Str} {v : V} {u : Value} {pos : Pos} (hg : Gl X x) (hm : X.mg x = none) (hv : bootBuiltins x = some u) (r : RelV v u) (hn : x ≠ "__name__" := by decide) (hd : (x == ("__debug__" : Str)) = false := by decide) : PE X (.Name x pos) (tC v) :=
  fun _ _ _ H _ I h => ld_blt I hg hm hv ⟨v, H, I, r, h⟩ hn hd

variable {a b : Expr} {ta tb : TE} {pos : Pos}
/-- a comparison as a value, as a test -/
noncomputable def tB (t : TE) : TT := fun σ H Q => t σ H fun x H1 => ∃ c, x = .bl c ∧ Q c H1
/-- an expression whose value is a bool, as a test -/
theorem pt_val {e : Expr} {t : TE} (h : PE X e t) (he : ∀ whole, isTrue e X.env whole = (do let v ← whole; standAt e.pos; holding [v] (truthy v)) := by intro _; rfl) : PT X e (tB t) := by
  intro pins s σ H Q I hw
  refine isTrue_plain (thn (h pins s σ H _ I hw) fun v s1 ⟨x, H1, I1, r1, q1⟩ => ?_) (he _)
  obtain ⟨d, rfl, q⟩ := q1
  cases r1
  exact wpAny_truthy_bool ⟨H1, I1, q⟩

variable {tA tB' : TT} {rest : List Expr}
noncomputable def tAnd (t u : TT) : TT := fun σ H Q => t σ H fun c H1 => if c = true then u σ H1 Q else Q false H1
noncomputable def tOr (t u : TT) : TT := fun σ H Q => t σ H fun c H1 => if c = true then Q true H1 else u σ H1 Q
noncomputable def tNot (t : TT) : TT := fun σ H Q => t σ H fun c H1 => Q (!c) H1
theorem pw_and1 (ha : PT X a tA) : PW X (.BoolOp .And [a] pos) tA := by
  intro wh pins s σ H Q I h
  refine isTrue_and (thn (ha pins s σ H Q I h) fun c s1 e => ?_)
  cases c with
  | true => exact isTrue_and_nil e
  | false => exact e
theorem pw_or1 (ha : PT X a tA) : PW X (.BoolOp .Or [a] pos) tA := by
  intro wh pins s σ H Q I h
  refine isTrue_or (thn (ha pins s σ H Q I h) fun c s1 e => ?_)
  cases c with
  | false => exact isTrue_or_nil e
  | true => exact e
theorem pw_and (ha : PT X a tA) (hb : PW X (.BoolOp .And (b :: rest) pos) tB') : PW X (.BoolOp .And (a :: b :: rest) pos) (tAnd tA tB') := by
  intro wh pins s σ H Q I h
  refine isTrue_and (thn (ha pins s σ H _ I h) fun c s1 ⟨H1, I1, q1⟩ => ?_)
  cases c with
  | true => exact hb wh pins s1 σ H1 Q I1 q1
  | false => exact ⟨H1, I1, q1⟩
theorem pw_or (ha : PT X a tA) (hb : PW X (.BoolOp .Or (b :: rest) pos) tB') : PW X (.BoolOp .Or (a :: b :: rest) pos) (tOr tA tB') := by
  intro wh pins s σ H Q I h
  refine isTrue_or (thn (ha pins s σ H _ I h) fun c s1 ⟨H1, I1, q1⟩ => ?_)
  cases c with
  | true => exact ⟨H1, I1, q1⟩
  | false => exact hb wh pins s1 σ H1 Q I1 q1
theorem pt_not (ha : PT X a tA) : PT X (.UnaryOp .Not a pos) (tNot tA) := by
  intro pins s σ H Q I h
  exact isTrue_not (ha pins s σ H (fun c H1 => Q (!c) H1) I h)
/-- .. as values (bools) -/
noncomputable def tAndV (ta tb : TE) : TE := fun σ H Q => ta σ H fun x H1 => ∃ c, x = .bl c ∧ if c = true then tb σ H1 Q else Q (.bl false) H1
noncomputable def tOrV (ta tb : TE) : TE := fun σ H Q => ta σ H fun x H1 => ∃ c, x = .bl c ∧ if c = true then Q (.bl true) H1 else tb σ H1 Q
noncomputable def tNotV (ta : TE) : TE := fun σ H Q => ta σ H fun x H1 => ∃ c, x = .bl c ∧ Q (.bl (!c)) H1
theorem pe_one {op} {t : TE} (h : PE X a t) : PE X (.BoolOp op [a] pos) t := fun pins s σ H Q I hw => BoolOp_one (h pins s σ H Q I hw)
theorem pe_and (ha : PE X a ta) (hb : PE X (.BoolOp .And (b :: rest) pos) tb) : PE X (.BoolOp .And (a :: b :: rest) pos) (tAndV ta tb) := by
  intro pins s σ H Q I h
  refine BoolOp_and (thn (ha pins s σ H _ I h) fun v s1 ⟨x, H1, I1, r1, q1⟩ => ?_)
  obtain ⟨c, rfl, q1⟩ := q1
  cases r1
  refine wpAny_truthy_bool ?_
  cases c with
  | true => exact hb pins s1 σ H1 Q I1 q1
  | false => exact ⟨.bl false, H1, I1, rfl, q1⟩
theorem pe_not (ha : PE X a ta) : PE X (.UnaryOp .Not a pos) (tNotV ta) := by
  intro pins s σ H Q I h
  refine UnaryOp_ (thn (ha pins s σ H _ I h) fun v s1 ⟨x, H1, I1, r1, q1⟩ => ?_)
  obtain ⟨c, rfl, q1⟩ := q1
  cases r1
  exact not_of (wpAny_truthy_bool ⟨.bl (!c), H1, I1, rfl, q1⟩)
/-- a if t else b -/
noncomputable def tIf (t : TT) (ta tb : TE) : TE := fun σ H Q => t σ H fun c H1 => if c = true then ta σ H1 Q else tb σ H1 Q
end
end L2

namespace L2
open PySem PySem.Spec PyProof.Rows

noncomputable def SqL (K : PySem.W.Frag) (H : Hp) (a : Addr) (xs : List V) : Prop :=
  Rd H a (.lst xs) ∨
    ∃ (o : Obj) (its : Array Value) (n : Nat), K.lookup a = some o ∧ o.cls = .type "list" ∧ o.dict = none ∧ o.data = .seq its n ∧ its.size ≤ sizeLine ∧ Vals xs its.toList
noncomputable def SqT (K : PySem.W.Frag) (H : Hp) (a : Addr) (xs : List V) : Prop :=
  Rd H a (.tup xs) ∨
    ∃ (o : Obj) (its : Array Value) (n : Nat), K.lookup a = some o ∧ o.cls = .type "tuple" ∧ o.data = .seq its n ∧ its.size ≤ sizeLine ∧ Vals xs its.toList
noncomputable def absV : Value → Option V
  | .none => some .non
  | .bool b => some (.bl b)
  | .int i _ => some (.int i)
  | .str x _ => some (.str x)
  | .bytes b _ => some (.byt b)
  | .float b _ => some (.flt b)
  | .ref a => some (.ref a)
  | .type n => some (.ty n)
  | _ => none
theorem RelV.abs {x : V} {u : Value} (r : RelV x u) : absV u = some x := by
  cases x with
  | non => cases r; rfl
  | bl _ => cases r; rfl
  | int _ => obtain ⟨t, rfl⟩ := r; rfl
  | str _ => obtain ⟨t, rfl⟩ := r; rfl
  | byt _ => obtain ⟨t, rfl⟩ := r; rfl
  | flt _ => obtain ⟨t, rfl⟩ := r; rfl
  | ref _ => cases r; rfl
  | ty _ => cases r; rfl
theorem RelV.inj {x y : V} {u : Value} (r : RelV x u) (q : RelV y u) : x = y := Option.some.inj (r.abs.symm.trans q.abs)
theorem Vals.inj : ∀ {xs ys : List V} {us : List Value}, Vals xs us → Vals ys us → xs = ys
  | _, _, _, .nil, .nil => rfl
  | _, _, _, .cons r t, .cons r' t' => by rw [r.inj r', Vals.inj t t']
section
variable {X : Cx} {pins : List (Addr × Obj)} {σ : St} {H : Hp} {s : Shared} {a : Addr} {xs ys : List V}
theorem SqL.of {K : PySem.W.Frag} (h : H a = some (.lst xs)) : SqL K H a xs := .inl (.inl h)
theorem SqT.of {K : PySem.W.Frag} (h : H a = some (.tup xs)) : SqT K H a xs := .inl (.inl h)
theorem Inv.list (I : Inv X pins σ H s) (h : SqL X.K H a xs) : ∃ its : List Value, Vals xs its ∧ PlainL s.heap a its.toArray ∧ xs.length ≤ sizeLine := by
  rcases h with h | ⟨o, its, n, hk, hc, hd, hs, hz, r⟩
  · obtain ⟨z, its, n, r, e⟩ := h.ok I.hok
    exact ⟨its, r, ⟨_, n, e, rfl, rfl, rfl⟩, z⟩
  · refine ⟨its.toList, r, ⟨o, n, I.kIn a o hk, hc, hd, by simpa using hs⟩, ?_⟩
    have e := r.length
    simp only [Array.length_toList] at e
    omega
theorem Inv.tuple (I : Inv X pins σ H s) (h : SqT X.K H a xs) : ∃ its : List Value, Vals xs its ∧ IsTup s.heap a its.toArray ∧ xs.length ≤ sizeLine := by
  rcases h with h | ⟨o, its, n, hk, hc, hs, hz, r⟩
  · obtain ⟨z, its, r, p⟩ := h.ok I.hok
    exact ⟨its, r, p, z⟩
  · refine ⟨its.toList, r, ⟨o, I.kIn a o hk, hc, n, by simpa using hs⟩, ?_⟩
    have e := r.length
    simp only [Array.length_toList] at e
    omega
theorem Inv.list_inj (I : Inv X pins σ H s) (h : SqL X.K H a xs) (h' : SqL X.K H a ys) : xs = ys := by
  obtain ⟨its, r, ⟨o, n, e, _, _, d⟩, _⟩ := I.list h
  obtain ⟨its', r', ⟨o', n', e', _, _, d'⟩, _⟩ := I.list h'
  rw [e] at e'; cases e'
  rw [d] at d'
  injection d' with d1 _
  have : its = its' := by simpa using congrArg Array.toList d1
  subst this
  exact r.inj r'
theorem Inv.tuple_inj (I : Inv X pins σ H s) (h : SqT X.K H a xs) (h' : SqT X.K H a ys) : xs = ys := by
  obtain ⟨its, r, ⟨o, e, _, n, d⟩, _⟩ := I.tuple h
  obtain ⟨its', r', ⟨o', e', _, n', d'⟩, _⟩ := I.tuple h'
  rw [e] at e'; cases e'
  rw [d] at d'
  injection d' with d1 _
  have : its = its' := by simpa using congrArg Array.toList d1
  subst this
  exact r.inj r'
end

noncomputable abbrev Cx.wish (X : Cx) (E : Value → Shared → Prop) : Cx := { X with xe := E }
/-- no exception leaves -/
noncomputable abbrev Cx.nox (X : Cx) : Cx := X.wish fun _ _ => False
theorem Cx.Ok.wish {X : Cx} (ok : X.Ok) (E : Value → Shared → Prop) : (X.wish E).Ok :=
  ⟨ok.mod, ok.kind, ok.glob, ok.blt, ok.above, ok.inj, ok.has, ok.cab, ok.hd, ok.frames, ok.stk, ok.exf, ok.bs, ok.bsz, ok.noex, ok.exfs, ok.funs, ok.frf⟩
theorem Cx.Ok.unwish {X : Cx} {E : Value → Shared → Prop} (ok : (X.wish E).Ok) : X.Ok :=
  ⟨ok.mod, ok.kind, ok.glob, ok.blt, ok.above, ok.inj, ok.has, ok.cab, ok.hd, ok.frames, ok.stk, ok.exf, ok.bs, ok.bsz, ok.noex, ok.exfs, ok.funs, ok.frf⟩
section
variable {X : Cx} {pins : List (Addr × Obj)} {σ : St} {H : Hp} {s : Shared} {E : Value → Shared → Prop}
theorem Inv.wish (I : Inv X pins σ H s) (E : Value → Shared → Prop) : Inv (X.wish E) pins σ H s := ⟨I.ok.wish E, I.os, I.bare, I.base, I.loc, I.cell, I.free, I.freeC, I.pin, I.hok, I.len⟩
theorem Inv.unwish (I : Inv (X.wish E) pins σ H s) : Inv X pins σ H s := ⟨I.ok.unwish, I.os, I.bare, I.base, I.loc, I.cell, I.free, I.freeC, I.pin, I.hok, I.len⟩
theorem SP.unwish {D : Ends} {f : Flow} {s' : Shared} (h : SP (X.wish E) pins D f s') : SP X pins D f s' := by
  cases f with
  | next => obtain ⟨σ', H', I, q⟩ := h; exact ⟨σ', H', I.unwish, q⟩
  | brk => obtain ⟨σ', H', I, q⟩ := h; exact ⟨σ', H', I.unwish, q⟩
  | cont => obtain ⟨σ', H', I, q⟩ := h; exact ⟨σ', H', I.unwish, q⟩
  | ret u => obtain ⟨v, σ', H', I, r, q⟩ := h; exact ⟨v, σ', H', I.unwish, r, q⟩
theorem PSs.nox {st : List Stmt} {t : TS} (h : PSs X.nox st t) : PSs X st t := fun pins s σ H D I hw =>
  wpAny_mono (h pins s σ H D (I.wish _) hw) (fun _ _ q => q.unwish) fun _ _ z => False.elim z
end

section
variable {X : Cx} {st : Stmt} {rest : List Stmt} {t u : TS} {e : Expr} {te : TE} {pos : Pos}
noncomputable def tNext : TS := fun D σ H => D.nx σ H
noncomputable def tSeq (t u : TS) : TS := fun D σ H => t { D with nx := u D } σ H
theorem pss_nil : PSs X [] tNext := fun _ _ σ H _ I h => wpAny_execs_nil ⟨σ, H, I, h⟩
theorem pss_cons (h1 : PS X st t) (h2 : PSs X rest u) : PSs X (st :: rest) (tSeq t u) := by
  intro pins s σ H D I h
  refine wpAny_execs_cons (thn (h1 pins s σ H { D with nx := u D } I h) fun f s1 q => ?_)
  cases f with
  | next =>
    obtain ⟨σ', H', I', q⟩ := q
    exact h2 pins s1 σ' H' D I' q
  | ret v => exact q
  | brk => exact q
  | cont => exact q
theorem pss_one (h1 : PS X st t) : PSs X [st] t := by
  intro pins s σ H D I h
  refine wpAny_execs_cons (thn (h1 pins s σ H D I h) fun f s1 q => ?_)
  cases f with
  | next => exact wpAny_execs_nil q
  | ret v => exact q
  | brk => exact q
  | cont => exact q
noncomputable def tBreak : TS := fun D σ H => D.bk σ H
noncomputable def tCont : TS := fun D σ H => D.ct σ H
/-- in a def's body nothing is shown -/
theorem Inv.quiet {pins : List (Addr × Obj)} {σ : St} {H : Hp} {s : Shared} (I : Inv X pins σ H s) : interactive X.env = false := by simp [interactive, I.ok.kind]
/-- an expression whose value is dropped -/
noncomputable def tDrop (te : TE) : TS := fun D σ H => te σ H fun _ H1 => D.nx σ H1
theorem ps_expr (he : PE X e te) (hs : swapsWith e none pos.line X.env = pure false := by rfl) : PS X (.Expr e pos) (tDrop te) := by
  intro pins s σ H D I h
  exact wpAny_Expr_any (thn (he pins s σ H _ I h) fun v s1 ⟨x, H1, I1, r1, q1⟩ => ⟨σ, H1, I1, q1⟩) I.quiet hs
noncomputable def tRet (te : TE) : TS := fun D σ H => te σ H D.rt
theorem ps_ret (he : PE X e te) : PS X (.Return (some e) pos) (tRet te) := by
  intro pins s σ H D I h
  exact wpAny_Return_some (thn (he pins s σ H _ I h) fun v s1 ⟨x, H1, I1, r1, q1⟩ => ⟨x, σ, H1, I1, r1, q1⟩)
noncomputable def tRetN : TS := fun D _ H => D.rt .non H
noncomputable def tIfS (c : TT) (t u : TS) : TS := fun D σ H => c σ H fun b H1 => if b = true then t D σ H1 else u D σ H1
theorem ps_if {c : Expr} {a b : List Stmt} {tc : TT} (hc : PT X c tc) (ha : PSs X a t) (hb : PSs X b u) : PS X (.If c a b pos) (tIfS tc t u) := by
  intro pins s σ H D I h
  refine wpAny_If (thn (hc pins s σ H _ I h) fun d s1 ⟨H1, I1, q1⟩ => ?_)
  cases d with
  | true => exact ha pins s1 σ H1 D I1 q1
  | false => exact hb pins s1 σ H1 D I1 q1
end

noncomputable abbrev TG := V → St → Hp → (St → Hp → Prop) → Prop
noncomputable abbrev TGs := List V → St → Hp → (St → Hp → Prop) → Prop
noncomputable def PG (X : Cx) (target : Expr) (t : TG) : Prop :=
  ∀ (pins : List (Addr × Obj)) (s : Shared) (σ : St) (H : Hp) (v : V) (u : Value) (Q : St → Hp → Prop), Inv X pins σ H s → RelV v u → t v σ H Q →
    wpAny (model X.prog X.w) X.A (assign target X.env u) (fun _ s' => ∃ σ' H', Inv X pins σ' H' s' ∧ Q σ' H') X.xe s
/-- several targets, one after another -/
noncomputable def PGs (X : Cx) (ts : List Expr) (t : TGs) : Prop :=
  ∀ (pins : List (Addr × Obj)) (s : Shared) (σ : St) (H : Hp) (vs : List V) (us : List Value) (Q : St → Hp → Prop), Inv X pins σ H s → Vals vs us → t vs σ H Q →
    wpAny (model X.prog X.w) X.A (assignInOrder ((assignEach ts X.env).map (·.2)) us) (fun _ s' => ∃ σ' H', Inv X pins σ' H' s' ∧ Q σ' H') X.xe s
/-- o[i] = v, by values -/
noncomputable abbrev TSet := V → V → V → Hp → (Hp → Prop) → Prop
section
variable {X : Cx} {pos : Pos}
noncomputable def gName (i : Nat) : TG := fun v σ H Q => Q (σ.set i (some v)) H
theorem pg_name {i : Nat} {x : Str} (hN : X.N.Nodup) (hi : X.N[i]? = some x) (hx : Loc X.env.scope x) (hf : X.fn x = true ∨ X.env.scope.names.lookup x = some .local := by first | exact .inl rfl | exact .inr rfl | assumption) : PG X (.Name x pos) (gName i) := by
  intro pins s σ H v u Q I r h
  exact wpAny_assign_Name (store_ok I hN hi hx r (fun s' I' => ⟨_, H, I', h⟩) hf)
noncomputable def gNil : TGs := fun vs σ H Q => vs = [] ∧ Q σ H
noncomputable def gCons (t : TG) (u : TGs) : TGs := fun vs σ H Q => ∃ v r, vs = v :: r ∧ t v σ H fun σ' H' => u r σ' H' Q
theorem pgs_nil : PGs X [] gNil := by
  intro pins s σ H vs us Q I r h
  obtain ⟨e, h⟩ := h
  subst e
  cases r
  exact assignInOrder_nil ⟨σ, H, I, h⟩
theorem pgs_cons {e : Expr} {es : List Expr} {t : TG} {u : TGs} (h1 : PG X e t) (h2 : PGs X es u)
    (hs : (assignEach (e :: es) X.env).map (·.2) = assign e X.env :: (assignEach es X.env).map (·.2) := by rfl) : PGs X (e :: es) (gCons t u) := by
  intro pins s σ H vs us Q I r h
  obtain ⟨v, vr, e1, h⟩ := h
  subst e1
  cases r with
  | cons r rr =>
    rw [hs]
    refine assignInOrder_cons (thn (h1 pins s σ H _ _ _ I r h) fun _ s1 ⟨σ1, H1, I1, q1⟩ => ?_)
    exact h2 pins s1 σ1 H1 _ _ Q I1 rr q1
/-- (a, b, ..) = a tuple of that length -/
noncomputable def gTup (K : PySem.W.Frag) (n : Nat) (t : TGs) : TG := fun v σ H Q => ∃ a xs, v = .ref a ∧ SqT K H a xs ∧ xs.length = n ∧ t xs σ H Q
theorem pg_tup {es : List Expr} {k : Nat} {t : TGs} {n : Nat} (hc : X.calm = true) (h : PGs X es t)
    (hn : (assignEach es X.env).length = n := by rfl) (hst : (assignEach es X.env).findIdx? (·.1) = none := by rfl) : PG X (.Tuple es k pos) (gTup X.K n t) := by
  intro pins s σ H v u Q I r hw
  obtain ⟨a, xs, e1, hq, hl, hw⟩ := hw
  subst e1
  cases r
  obtain ⟨its, rv, ht, hz⟩ := I.tuple hq
  refine assign_Tuple_tuple (I.ok.hd hc) ht (by simp [hn, ← hl, rv.length]) hst fun h' hx => ?_
  have I1 : Inv X pins σ H { s with heap := h' } := I.kept (t' := s.toks) fun b o e => hx b o (Nat.ne_of_lt (Heap.lt_size e)) e
  exact h pins _ σ H xs _ Q I1 (by simpa using rv) hw
/-- o[i] = .. -/
noncomputable def gSub (to ti : TE) (t : TSet) : TG := fun v σ H Q => to σ H fun o H1 => ti σ H1 fun i H2 => t o i v H2 fun H3 => Q σ H3
/-- target = value -/
noncomputable def tAsg (te : TE) (g : TG) : TS := fun D σ H => te σ H fun x H1 => g x σ H1 D.nx
/-- name = value -/
theorem ps_set {i : Nat} {x : Str} {e : Expr} {te : TE} {pos' : Pos} (hN : X.N.Nodup) (hi : X.N[i]? = some x) (hx : Loc X.env.scope x) (he : PE X e te) (hs : swapsWith e (some (.Name x pos')) pos.line X.env = pure false := by rfl) (hf : X.fn x = true ∨ X.env.scope.names.lookup x = some .local := by first | exact .inl rfl | exact .inr rfl | assumption) :
    PS X (.Assign [.Name x pos'] e pos) (tAsg te (gName i)) := by
  intro pins s σ H D I h
  refine wpAny_Assign_Name (thn (he pins s σ H _ I h) fun v s1 ⟨y, H1, I1, r1, q1⟩ => ?_) hs
  exact store_ok I1 hN hi hx r1 (fun s2 I2 => ⟨_, H1, I2, q1⟩) hf
end

section
variable {X : Cx} {pos : Pos}
end

/-- at turn i: it yields x (the heap may grow), or it stops -/
structure It where
  go : Nat → Hp → Prop
  yld : Nat → Hp → V → Hp → Prop
  stop : Nat → Hp → Prop
/-- the iterator's own objects may turn: they are not the frame's, not pinned, younger than the entry (or a comprehension's own) -/
noncomputable def FpOk (X : Cx) (pins : List (Addr × Obj)) (H : Hp) (b : Addr) : Prop :=
  H b = none ∧ b ≠ X.env.locals ∧ b ∉ X.fs ∧ (b ∈ X.ex ∨ X.s₀.heap.objs.size ≤ b) ∧ (∀ x c, X.env.cells.lookup x = some c → c ≠ b) ∧ ∀ p ∈ X.pn ++ pins, p.1 ≠ b
theorem Inv.fpOk {X : Cx} {pins : List (Addr × Obj)} {σ : St} {H H' : Hp} {s : Shared} {b : Addr} (I : Inv X pins σ H s) (hb : s.heap.objs.size ≤ b) (hn : H' b = none) : FpOk X pins H' b := by
  refine ⟨hn, Nat.ne_of_gt (Nat.lt_of_lt_of_le I.lt hb), I.nofs hb, .inr (Nat.le_trans I.sz hb), fun x c e z => ?_, fun p hp z => ?_⟩
  · obtain ⟨v, q⟩ := I.cell x c e
    exact absurd (Nat.lt_of_lt_of_le q.lt (by rw [z]; exact hb)) (Nat.lt_irrefl _)
  · exact absurd (Nat.lt_of_lt_of_le (Heap.lt_size (I.pin p hp).1) (by rw [z]; exact hb)) (Nat.lt_irrefl _)
structure Turn (P : Program) (w : World) (K : PySem.W.Frag) (tg : Expr) (J : It) (fp : List Addr) (it : Addr) (tn : Nat → Heap → Prop) : Prop where
  mem : it ∈ fp
  obj : ∀ i h, tn i h → ∀ b ∈ fp, ∃ o, h.get? b = some o ∧ ∀ v, o.data ≠ .cell v
  keep : ∀ i h h', tn i h → (∀ b ∈ fp, ∀ o, h.get? b = some o → h'.get? b = some o) → tn i h'
  item : ∀ (X : Cx), X.prog = P → X.w = w → X.K = K → X.calm = true → ∀ (i : Nat) (pins : List (Addr × Obj)) (s : Shared) (σ : St) (H : Hp) (E : Value → Shared → Prop), Inv X pins σ H s → (∀ b ∈ fp, FpOk X pins H b) → tn i s.heap → J.go i H →
    wpAny (model P w) X.A (pyNext (.ref it)) (fun r s1 => ∃ u, r = some u ∧
      wpAny (model P w) X.A (letOwnedTupleGo tg (.ref it) u) (fun _ s2 => ∃ x H', Inv X pins σ H' s2 ∧ RelV x u ∧ J.yld i H x H' ∧ tn (i + 1) s2.heap ∧ ∀ b ∈ fp, H' b = none) E s1) E s
  done : ∀ (X : Cx), X.prog = P → X.w = w → X.K = K → X.calm = true → ∀ (i : Nat) (pins : List (Addr × Obj)) (s : Shared) (σ : St) (H : Hp) (E : Value → Shared → Prop), Inv X pins σ H s → (∀ b ∈ fp, FpOk X pins H b) → tn i s.heap → J.stop i H →
    wpAny (model P w) X.A (pyNext (.ref it)) (fun r s1 => r = none ∧ Inv X pins σ H s1) E s
  self : ∀ (A : Around) (i : Nat) (s : Shared) (Q : Value → Shared → Prop) (E : Value → Shared → Prop), tn i s.heap → Q (.ref it) s → wpAny (model P w) A (pyIter (.ref it)) Q E s
noncomputable abbrev TI := St → Hp → (It → Hp → Prop) → Prop
/-- an iterator has come -/
noncomputable def PIE (X : Cx) (pins : List (Addr × Obj)) (σ : St) (tg : Expr) (R : It → Hp → Prop) (itv : Value) (s2 : Shared) : Prop :=
  ∃ (it : Addr) (fp : List Addr) (tn : Nat → Heap → Prop) (J : It) (H' : Hp), itv = .ref it ∧ Inv X pins σ H' s2 ∧ Turn X.prog X.w X.K tg J fp it tn ∧ tn 0 s2.heap ∧ (∀ b ∈ fp, FpOk X pins H' b) ∧ R J H'
noncomputable def PI (X : Cx) (tg iter : Expr) (wi : TI) : Prop :=
  ∀ (pins : List (Addr × Obj)) (s : Shared) (σ : St) (H : Hp) (R : It → Hp → Prop), Inv X pins σ H s → wi σ H R →
    wpAny (model X.prog X.w) X.A (eval iter X.env) (fun v s1 => wpAny (model X.prog X.w) X.A (pyIter v) (PIE X pins σ tg R) X.xe s1) X.xe s

/-- the step ahead of the store is nothing for an iterator that keeps no tuple -/
theorem go_of {M : Model} {A : Around} {E : Value → Shared → Prop} {s : Shared} {tg : Expr} {it : Addr} {u : Value} {o : Obj} {n : String} {vs : Array Value} {Q : Unit → Shared → Prop} (ho : s.heap.get? it = some o) (hc : o.cls = .type n) (hd : o.data = .fields vs)
    (hn : ["enumerate", "zip", "dict_itemiterator", "dict_reverseitemiterator", "odict_iterator", "itertools.zip_longest", "itertools.pairwise"].contains n = false) (hQ : Q () s) : wpAny M A (letOwnedTupleGo tg (.ref it) u) Q E s := by
  unfold letOwnedTupleGo
  cases tg <;> first
    | exact wpAny_pure hQ
    | (cases u <;> first
        | exact wpAny_pure hQ
        | (refine wpAny_bind (wpAny_load ho ?_)
           rw [hc, hd]
           show wpAny M A (if (["enumerate", "zip", "dict_itemiterator", "dict_reverseitemiterator", "odict_iterator", "itertools.zip_longest", "itertools.pairwise"].contains n && vs[0]? == some (rawInt _)) = true then _ else _) Q E s
           rw [if_neg (by intro h; rw [hn, Bool.false_and] at h; cases h)]
           exact wpAny_pure hQ))

/-- the list at a, as it stands at each turn (a loop may append to it) -/
noncomputable def Itl (K : PySem.W.Frag) (a : Addr) : It :=
  ⟨fun i H => ∃ xs x, SqL K H a xs ∧ xs[i]? = some x, fun i H x H' => H' = H ∧ ∀ xs, SqL K H a xs → xs[i]? = some x, fun i H => ∃ xs, SqL K H a xs ∧ xs.length ≤ i⟩
noncomputable def Itt (K : PySem.W.Frag) (a : Addr) : It :=
  ⟨fun i H => ∃ xs x, SqT K H a xs ∧ xs[i]? = some x, fun i H x H' => H' = H ∧ ∀ xs, SqT K H a xs → xs[i]? = some x, fun i H => ∃ xs, SqT K H a xs ∧ xs.length ≤ i⟩
/-- lo, lo + 1, .. (n of them) -/
noncomputable def Itr (lo : Int) (n : Nat) : It := ⟨fun i _ => i < n, fun i H x H' => H' = H ∧ x = .int (lo + i), fun i _ => n ≤ i⟩
theorem turn_list {P : Program} {w : World} {K : PySem.W.Frag} {tg : Expr} (a it : Addr) : Turn P w K tg (Itl K a) [it] it (fun i h => h.IsListIter it a i) where
  mem := by simp
  obj := fun i h st b hb => by
    have e : b = it := by simpa using hb
    subst e
    obtain ⟨o, e, c, d⟩ := st
    exact ⟨o, e, fun v z => by rw [d] at z; cases z⟩
  keep := fun i h h' st k => st.at fun o e => k it (by simp) o e
  item := by
    intro X hP hw hK hc i pins s σ H E I hf st hg
    subst hP hw hK
    obtain ⟨xs, x, hq, hx⟩ := hg
    obtain ⟨its, rv, p, hz⟩ := I.list hq
    obtain ⟨u, hu, ru⟩ := rv.get hx
    obtain ⟨f0, f1, f2, f3, f4, f5⟩ := hf it (by simp)
    refine wpAny_pyNext_list_item st p.isList (x := u) (by simpa using hu) fun h' st' sb => ?_
    have I1 : Inv X pins σ H { s with heap := h' } := I.turned (t' := s.toks) (fun b o hb e => (sb.2 b hb).trans e) f0 f1 f3 f4 f5
    obtain ⟨o, e, c, d⟩ := id st'
    exact ⟨u, rfl, go_of (s := { s with heap := h' }) e c d (by decide) ⟨x, H, I1, ru, ⟨rfl, fun ys hy => by rw [I.list_inj hy hq]; exact hx⟩, st', fun b hb => (hf b hb).1⟩⟩
  done := by
    intro X hP hw hK hc i pins s σ H E I hf st hg
    subst hP hw hK
    obtain ⟨xs, hq, hx⟩ := hg
    obtain ⟨its, rv, p, hz⟩ := I.list hq
    obtain ⟨f0, f1, f2, f3, f4, f5⟩ := hf it (by simp)
    have hl := rv.length
    exact wpAny_pyNext_list_end (I.ok.hd hc) st p.isList (by simp; omega) fun h' eb => ⟨rfl, I.turned (t' := s.toks) (fun b o hb e => eb b o hb e) f0 f1 f3 f4 f5⟩
  self := fun _ _ _ _ _ st h => wpAny_pyIter_listiter st h
theorem turn_tuple {P : Program} {w : World} {K : PySem.W.Frag} {tg : Expr} (a it : Addr) : Turn P w K tg (Itt K a) [it] it (fun i h => h.IsTupleIter it a i) where
  mem := by simp
  obj := fun i h st b hb => by
    have e : b = it := by simpa using hb
    subst e
    obtain ⟨o, e, c, d⟩ := st
    exact ⟨o, e, fun v z => by rw [d] at z; cases z⟩
  keep := fun i h h' st k => st.at fun o e => k it (by simp) o e
  item := by
    intro X hP hw hK hc i pins s σ H E I hf st hg
    subst hP hw hK
    obtain ⟨xs, x, hq, hx⟩ := hg
    obtain ⟨its, rv, p, hz⟩ := I.tuple hq
    obtain ⟨u, hu, ru⟩ := rv.get hx
    obtain ⟨f0, f1, f2, f3, f4, f5⟩ := hf it (by simp)
    refine wpAny_pyNext_tuple_item st (show s.heap.IsTuple a its.toArray from p) (x := u) (by simpa using hu) fun h' st' sb => ?_
    have I1 : Inv X pins σ H { s with heap := h' } := I.turned (t' := s.toks) (fun b o hb e => (sb.2 b hb).trans e) f0 f1 f3 f4 f5
    obtain ⟨o, e, c, d⟩ := id st'
    exact ⟨u, rfl, go_of (s := { s with heap := h' }) e c d (by decide) ⟨x, H, I1, ru, ⟨rfl, fun ys hy => by rw [I.tuple_inj hy hq]; exact hx⟩, st', fun b hb => (hf b hb).1⟩⟩
  done := by
    intro X hP hw hK hc i pins s σ H E I hf st hg
    subst hP hw hK
    obtain ⟨xs, hq, hx⟩ := hg
    obtain ⟨its, rv, p, hz⟩ := I.tuple hq
    obtain ⟨f0, f1, f2, f3, f4, f5⟩ := hf it (by simp)
    have hl := rv.length
    exact wpAny_pyNext_tuple_end (I.ok.hd hc) st (show s.heap.IsTuple a its.toArray from p) (by simp; omega) fun h' eb => ⟨rfl, I.turned (t' := s.toks) (fun b o hb e => eb b o hb e) f0 f1 f3 f4 f5⟩
  self := fun _ _ _ _ _ st h => wpAny_pyIter_tupleiter st h
theorem turn_range {P : Program} {w : World} {K : PySem.W.Frag} {tg : Expr} (it : Addr) (lo : Int) (n : Nat) : Turn P w K tg (Itr lo n) [it] it (fun i h => IsRangeIter h it (lo + (i : Nat) * 1) ((n : Int) - (i : Nat)) 1) where
  mem := by simp
  obj := fun i h st b hb => by
    have e : b = it := by simpa using hb
    subst e
    exact ⟨_, st, fun v z => by
      have z' : Data.fields _ = Data.cell v := z
      cases z'⟩
  keep := fun i h h' st k => k it (by simp) _ st
  item := by
    intro X hP hw hK hc i pins s σ H E I hf st hg
    subst hP hw hK
    obtain ⟨f0, f1, f2, f3, f4, f5⟩ := hf it (by simp)
    have W := Walks.range (prog := X.prog) (w := X.w) (I.ok.hd hc) it lo 1 n
    refine W.item i s _ _ hg st fun v h' tk hv st' kk => ?_
    obtain ⟨t, rfl⟩ := hv
    have I1 : Inv X pins σ H { s with heap := h', toks := tk } := I.turned (fun b o hb e => kk b o (by simpa using hb) e) f0 f1 f3 f4 f5
    refine ⟨_, rfl, go_of (s := { s with heap := h', toks := tk }) (n := "range_iterator") st' rfl rfl (by decide) ⟨.int (lo + i), H, I1, ⟨t, ?_⟩, ⟨rfl, rfl⟩, st', fun b hb => (hf b hb).1⟩⟩
    rw [Int.mul_one]
  done := by
    intro X hP hw hK hc i pins s σ H E I hf st hg
    subst hP hw hK
    obtain ⟨f0, f1, f2, f3, f4, f5⟩ := hf it (by simp)
    exact wpAny_pyNext_range_end (I.ok.hd hc) st (by have : n ≤ i := hg; omega) fun h' eb => ⟨rfl, I.turned (t' := s.toks) (fun b o hb e => eb b o hb e) f0 f1 f3 f4 f5⟩
  self := fun _ _ _ _ _ st h => wpAny_pyIter_rangeiter st h
end L2

namespace L2
open PySem PySem.Spec PyProof.Rows
section
variable {X : Cx} {tg : Expr}
/-- a range object just made, walked -/
theorem range_it {pins : List (Addr × Obj)} {σ : St} {H : Hp} {s : Shared} {R : It → Hp → Prop} {E : Value → Shared → Prop} {lo hi : Int} {t u v : Tok} {tk : Nat} (I : Inv X pins σ H s) (h1 : -(2 ^ 62) ≤ lo) (h2 : lo < 2 ^ 62) (h3 : -(2 ^ 62) ≤ hi) (h4 : hi < 2 ^ 62)
    (q : R (Itr lo (hi - lo).toNat) H) : wpAny (model X.prog X.w) X.A (pyIter (.ref s.heap.objs.size)) (PIE X pins σ tg R) E { s with heap := s.heap.push { cls := .type "range", data := .fields #[.int lo t, .int hi u, .int 1 v] }, toks := tk } := by
  refine wpAny_pyIter_range (IsRange.new ..) (small_one h1 h2 h3 h4) ?_
  have I1 : Inv X pins σ H { s with heap := s.heap.push { cls := .type "range", data := .fields #[.int lo t, .int hi u, .int 1 v] }, toks := tk } := I.kept fun b o e => Heap.get?_push_of_some _ e
  refine ⟨(s.heap.push { cls := .type "range", data := .fields #[.int lo t, .int hi u, .int 1 v] }).objs.size, [(s.heap.push { cls := .type "range", data := .fields #[.int lo t, .int hi u, .int 1 v] }).objs.size], _, _, H, rfl,
    I1.kept (t' := tk) fun b o e => Heap.get?_push_of_some _ e, turn_range _ lo (hi - lo).toNat, ?_, fun b hb => ?_, q⟩
  · have e1 : lo + ((0 : Nat) : Int) * 1 = lo := by simp
    have e2 : (((hi - lo).toNat : Nat) : Int) - ((0 : Nat) : Int) = Builtin.Range.rangeSize lo hi 1 := by rw [rangeSize_one]; split <;> omega
    show IsRangeIter _ _ (lo + ((0 : Nat) : Int) * 1) ((((hi - lo).toNat : Nat) : Int) - ((0 : Nat) : Int)) 1
    rw [e1, e2]
    exact Heap.get?_push_size _ rfl
  · have e : b = (s.heap.push { cls := .type "range", data := .fields #[.int lo t, .int hi u, .int 1 v] }).objs.size := by simpa using hb
    subst e
    exact I1.fpOk (Nat.le_refl _) (I1.hok.fresh (Nat.le_refl _))
/-- W: the invariant by the turn and a measure; N: what the body is to reach -/
noncomputable def tFor (wi : TI) (g : TG) (tb : TS) : TS := fun D σ H => wi σ H fun J H1 => ∃ W : Nat → Nat → St → Hp → Prop, (∃ m, W 0 m σ H1) ∧ ∀ i m σ H, W i m σ H →
  (J.stop i H ∧ D.nx σ H) ∨ (J.go i H ∧ ∃ N : St → Hp → Prop, (∀ σ' H', N σ' H' → ∃ m', m' < m ∧ W (i + 1) m' σ' H') ∧ ∀ x H', J.yld i H x H' → g x σ H' fun σ2 H2 => tb { D with nx := N, ct := N, bk := D.nx } σ2 H2)
/-- the records at fp as they stand -/
noncomputable def pinsAt (fp : List Addr) (h : Heap) : List (Addr × Obj) := fp.filterMap fun b => (h.get? b).map fun o => (b, o)
theorem mem_pinsAt {fp : List Addr} {h : Heap} {b : Addr} {o : Obj} (hb : b ∈ fp) (e : h.get? b = some o) : (b, o) ∈ pinsAt fp h := List.mem_filterMap.mpr ⟨b, hb, by rw [e]; rfl⟩
theorem of_pinsAt {fp : List Addr} {h : Heap} {p : Addr × Obj} (hp : p ∈ pinsAt fp h) : p.1 ∈ fp ∧ h.get? p.1 = some p.2 := by
  obtain ⟨b, hb, e⟩ := List.mem_filterMap.mp hp
  cases q : h.get? b with
  | none => rw [q] at e; cases e
  | some o =>
    rw [q] at e
    have e' : (b, o) = p := Option.some.inj e
    subst e'
    exact ⟨hb, q⟩
theorem Inv.pinned {pins : List (Addr × Obj)} {σ : St} {H : Hp} {s : Shared} {fp : List Addr} (I : Inv X pins σ H s) (hf : ∀ b ∈ fp, FpOk X pins H b) (ho : ∀ b ∈ fp, ∃ o, s.heap.get? b = some o ∧ ∀ v, o.data ≠ .cell v) : Inv X (pins ++ pinsAt fp s.heap) σ H s :=
  I.pins_of fun p hp => (List.mem_append.mp hp).elim (fun z => I.pin p (List.mem_append_right _ z)) fun z => by
    obtain ⟨hb, e⟩ := of_pinsAt z
    obtain ⟨f0, f1, f2, _⟩ := hf p.1 hb
    obtain ⟨o, e', d⟩ := ho p.1 hb
    rw [e] at e'; cases e'
    exact ⟨e, f0, f1, f2, d⟩
theorem Inv.unpinned {pins pl : List (Addr × Obj)} {σ : St} {H : Hp} {s : Shared} (I : Inv X (pins ++ pl) σ H s) : Inv X pins σ H s := I.pins_of fun p hp => I.pin p (List.mem_append_right _ (List.mem_append_left _ hp))
theorem ps_for {iter : Expr} {body : List Stmt} {wi : TI} {g : TG} {tb : TS} {pos : Pos} (hp : PassesOwn (model X.prog X.w) X.A X.env X.xe) (hc : X.calm = true) (hi : PI X tg iter wi) (hg : PG X tg g) (hb : PSs X body tb)
    (hs : ∀ x, foldedSetIterable iter X.env x = pure x := by intro _; rfl) : PS X (.For tg iter body [] pos) (tFor wi g tb) := by
  intro pins s σ H D I h
  refine wpAny_For (thn (hi pins s σ H _ I h) fun v s1 h1 => thn h1 fun itv s2 h2 => ?_) hs
  obtain ⟨it, fp, tn, J, H2, e, I2, T, st2, f2, W, ⟨m0, w0⟩, turn⟩ := h2
  subst e
  -- what stays true of the iterator's objects through the loop
  have stat : ∀ {H' : Hp}, (∀ b ∈ fp, H' b = none) → ∀ b ∈ fp, FpOk X pins H' b := fun hn b hb => ⟨hn b hb, (f2 b hb).2⟩
  refine codeAny_forLoop_any (fun n s' => ∃ i σ' H', Inv X pins σ' H' s' ∧ tn i s'.heap ∧ (∀ b ∈ fp, H' b = none) ∧ W i n σ' H') ?_ m0 ⟨0, σ, H2, I2, st2, fun b hb => (f2 b hb).1, w0⟩
  rintro n s3 ⟨i, σ3, H3, I3, st3, fr3, w3⟩
  rcases turn i n σ3 H3 w3 with ⟨stop, qn⟩ | ⟨go, N, hN, step⟩
  · refine wpAny_passesOwn hp (thn (T.done X rfl rfl rfl hc i pins s3 σ3 H3 X.xe I3 (stat fr3) st3 stop) fun r s4 ⟨hr, I4⟩ => ?_)
    subst hr
    exact wpAny_execs_nil ⟨σ3, H3, I4, qn⟩
  · refine wpAny_passesOwn hp (thn (T.item X rfl rfl rfl hc i pins s3 σ3 H3 X.xe I3 (stat fr3) st3 go) fun r s4 ⟨u, hr, h4⟩ => ?_)
    subst hr
    refine wpAny_passesOwn hp (thn h4 fun _ s5 ⟨x, H5, I5, r5, y5, st5, fr5⟩ => ?_)
    have I5' := I5.pinned (stat fr5) (T.obj _ _ st5)
    refine wpAny_passesOwn hp (thn (hg _ s5 σ3 H5 x u _ I5' r5 (step x H5 y5)) fun _ s6 ⟨σ6, H6, I6, q6⟩ => ?_)
    refine wpAny_passesOwn hp (thn (hb _ s6 σ6 H6 _ I6 q6) fun f s7 q7 => ?_)
    have again : ∀ {σ7 : St} {H7 : Hp}, Inv X (pins ++ pinsAt fp s5.heap) σ7 H7 s7 → N σ7 H7 → ∃ m, m < n ∧ ∃ i σ' H', Inv X pins σ' H' s7 ∧ tn i s7.heap ∧ (∀ b ∈ fp, H' b = none) ∧ W i m σ' H' := fun {σ7 H7} I7 n7 => by
      obtain ⟨m', hm, w7⟩ := hN σ7 H7 n7
      refine ⟨m', hm, i + 1, σ7, H7, I7.unpinned, T.keep _ _ _ st5 fun b hb o e => (I7.pin (b, o) (List.mem_append_right _ (List.mem_append_right _ (mem_pinsAt hb e)))).1, fun b hb => ?_, w7⟩
      obtain ⟨o, e, d⟩ := T.obj _ _ st5 b hb
      exact (I7.pin (b, o) (List.mem_append_right _ (List.mem_append_right _ (mem_pinsAt hb e)))).2.1
    cases f with
    | next => obtain ⟨σ7, H7, I7, n7⟩ := q7; exact again I7 n7
    | cont => obtain ⟨σ7, H7, I7, n7⟩ := q7; exact again I7 n7
    | brk => obtain ⟨σ7, H7, I7, q7⟩ := q7; exact ⟨σ7, H7, I7.unpinned, q7⟩
    | ret v => obtain ⟨x7, σ7, H7, I7, r7, q7⟩ := q7; exact ⟨x7, σ7, H7, I7.unpinned, r7, q7⟩
end

theorem for_range {lo : Int} {n : Nat} {g : TG} {tb : TS} {D : Ends} {σ : St} {H : Hp} (Pv : Nat → St → Hp → Prop) (h0 : Pv 0 σ H)
    (hs : ∀ i σ H, i < n → Pv i σ H → g (.int (lo + i)) σ H fun σ2 H2 => tb { D with nx := Pv (i + 1), ct := Pv (i + 1), bk := D.nx } σ2 H2) (hd : ∀ σ H, Pv n σ H → D.nx σ H) :
    ∃ W : Nat → Nat → St → Hp → Prop, (∃ m, W 0 m σ H) ∧ ∀ i m σ H, W i m σ H →
      ((Itr lo n).stop i H ∧ D.nx σ H) ∨ ((Itr lo n).go i H ∧ ∃ N : St → Hp → Prop, (∀ σ' H', N σ' H' → ∃ m', m' < m ∧ W (i + 1) m' σ' H') ∧ ∀ x H', (Itr lo n).yld i H x H' → g x σ H' fun σ2 H2 => tb { D with nx := N, ct := N, bk := D.nx } σ2 H2) := by
  refine ⟨fun i m σ H => m = n - i ∧ i ≤ n ∧ Pv i σ H, ⟨n, by simp, Nat.zero_le _, h0⟩, ?_⟩
  rintro i m σ H ⟨rfl, hi, p⟩
  by_cases hlt : i < n
  · refine .inr ⟨hlt, Pv (i + 1), fun σ' H' p' => ⟨n - (i + 1), by omega, rfl, hlt, p'⟩, fun x H' y => ?_⟩
    obtain ⟨e, y⟩ := y
    subst e y
    exact hs i σ _ hlt p
  · have e : i = n := by omega
    subst e
    exact .inl ⟨Nat.le_refl _, hd σ H p⟩
end L2

namespace L2
open PySem PySem.Spec PyProof.Rows

noncomputable abbrev R2 := V → V → Hp → VK → Prop
/-- a two-place operation on values: f is binaryOp op, inplaceOp op or compareOp op -/
noncomputable def OpR (X : Cx) (f : Value → Value → Sem Value) (r : R2) : Prop :=
  ∀ (pins : List (Addr × Obj)) (s : Shared) (σ : St) (H : Hp) (x y : V) (v u : Value) (Q : VK), Inv X pins σ H s → RelV x v → RelV y u → r x y H Q →
    wpAny (model X.prog X.w) X.A (f v u) (EP X pins σ Q) X.xe s
/-- a call of a value that is known (a builtin, a type) with values -/
noncomputable def CallR (X : Cx) (f : Value) (r : List V → Hp → VK → Prop) : Prop :=
  ∀ (pins : List (Addr × Obj)) (s : Shared) (σ : St) (H : Hp) (xs : List V) (us : List Value) (Q : VK), Inv X pins σ H s → Vals xs us → r xs H Q →
    wpAny (model X.prog X.w) X.A (call f us) (EP X pins σ Q) X.xe s
noncomputable def tOp (r : R2) (ta tb : TE) : TE := fun σ H Q => ta σ H fun x H1 => tb σ H1 fun y H2 => r x y H2 Q
noncomputable def tUn (r : V → Hp → VK → Prop) (ta : TE) : TE := fun σ H Q => ta σ H fun x H1 => r x H1 Q
/-- ints in, under C, and a value out -/
noncomputable def rI (C : Int → Int → Prop) (g : Int → Int → V) : R2 := fun x y H Q => ∃ i j, x = .int i ∧ y = .int j ∧ C i j ∧ Q (g i j) H
noncomputable def rI0 (g : Int → Int → V) : R2 := fun x y H Q => ∃ i j, x = .int i ∧ y = .int j ∧ Q (g i j) H
noncomputable def rU (g : Int → V) : V → Hp → VK → Prop := fun x H Q => ∃ i, x = .int i ∧ Q (g i) H

section
variable {X : Cx} {a b c : Expr} {ta tb tc : TE} {pos : Pos}

theorem binT (ha : PE X a ta) (hb : PE X b tb) {pins : List (Addr × Obj)} {s : Shared} {σ : St} {H : Hp} {R : V → V → Hp → Prop} (I : Inv X pins σ H s)
    (h : ta σ H fun x H1 => tb σ H1 fun y H2 => R x y H2) {Q : Value → Shared → Prop} {f : Value → Value → Sem Value}
    (hf : ∀ v u s2 x y H2, Inv X pins σ H2 s2 → RelV x v → RelV y u → R x y H2 → wpAny (model X.prog X.w) X.A (f v u) Q X.xe s2) :
    wpAny (model X.prog X.w) X.A (eval a X.env) (fun v s₁ => wpAny (model X.prog X.w) X.A (eval b X.env) (fun u s₂ => wpAny (model X.prog X.w) X.A (f v u) Q X.xe s₂) X.xe s₁) X.xe s := by
  refine thn (ha pins s σ H _ I h) fun v s1 ⟨x, H1, I1, r1, q1⟩ => ?_
  refine thn (hb pins s1 σ H1 _ I1 q1) fun u s2 ⟨y, H2, I2, r2, q2⟩ => ?_
  exact hf v u s2 x y H2 I2 r1 r2 q2

theorem pe_op {op : Operator} {r : R2} (ho : OpR X (binaryOp op) r) (ha : PE X a ta) (hb : PE X b tb) : PE X (.BinOp a op b pos) (tOp r ta tb) := by
  intro pins s σ H Q I h
  exact wpAny_BinOp (binT ha hb I h fun v u s2 x y H2 I2 rx ry q => ho pins s2 σ H2 x y v u Q I2 rx ry q)
theorem opI {f : Value → Value → Sem Value} {C : Int → Int → Prop} {g : Int → Int → Int}
    (rule : ∀ (i j : Int) (t u : Tok) (s : Shared) (Q : Value → Shared → Prop) (E : Value → Shared → Prop), C i j → Q (.int (g i j) s.toks) { s with toks := s.toks + 1 } → wpAny (model X.prog X.w) X.A (f (.int i t) (.int j u)) Q E s) :
    OpR X f (rI C fun i j => .int (g i j)) := by
  intro pins s σ H x y v u Q I rx ry h
  obtain ⟨i, j, rfl, rfl, hc, q⟩ := h
  obtain ⟨t, rfl⟩ := rx
  obtain ⟨t', rfl⟩ := ry
  exact rule i j t t' s _ _ hc ⟨.int (g i j), H, I.tok _, ⟨_, rfl⟩, q⟩
theorem opI0 {f : Value → Value → Sem Value} {g : Int → Int → Int}
    (rule : ∀ (i j : Int) (t u : Tok) (s : Shared) (Q : Value → Shared → Prop) (E : Value → Shared → Prop), Q (.int (g i j) s.toks) { s with toks := s.toks + 1 } → wpAny (model X.prog X.w) X.A (f (.int i t) (.int j u)) Q E s) :
    OpR X f (rI0 fun i j => .int (g i j)) := by
  intro pins s σ H x y v u Q I rx ry h
  obtain ⟨i, j, rfl, rfl, q⟩ := h
  obtain ⟨t, rfl⟩ := rx
  obtain ⟨t', rfl⟩ := ry
  exact rule i j t t' s _ _ ⟨.int (g i j), H, I.tok _, ⟨_, rfl⟩, q⟩
theorem opB0 {f : Value → Value → Sem Value} {g : Int → Int → Bool}
    (rule : ∀ (i j : Int) (t u : Tok) (s : Shared) (Q : Value → Shared → Prop) (E : Value → Shared → Prop), Q (.bool (g i j)) s → wpAny (model X.prog X.w) X.A (f (.int i t) (.int j u)) Q E s) :
    OpR X f (rI0 fun i j => .bl (g i j)) := by
  intro pins s σ H x y v u Q I rx ry h
  obtain ⟨i, j, rfl, rfl, q⟩ := h
  obtain ⟨t, rfl⟩ := rx
  obtain ⟨t', rfl⟩ := ry
  exact rule i j t t' s _ _ ⟨.bl (g i j), H, I, rfl, q⟩

noncomputable def CDiv (i j : Int) : Prop := 0 < j ∧ j < 1073741824
noncomputable def CMul (i j : Int) : Prop := (-(2 ^ 64) < i ∧ i < 2 ^ 64) ∨ (-(2 ^ 64) < j ∧ j < 2 ^ 64)
theorem CMul.ok {i j : Int} (h : CMul i j) : IntMulOk i j := by
  rcases h with ⟨h1, h2⟩ | ⟨h1, h2⟩
  · exact .of_left (intBits_le_64 h1 h2)
  · exact .of_right (intBits_le_64 h1 h2)
theorem two_pow_nn (k : Nat) : (0 : Int) ≤ 2 ^ k := by
  rw [two_pow_cast]
  exact Int.natCast_nonneg _

theorem op_add : OpR X (binaryOp .Add) (rI0 fun i j => .int (i + j)) := opI0 fun _ _ _ _ _ _ _ q => add_int q
theorem op_sub : OpR X (binaryOp .Sub) (rI0 fun i j => .int (i - j)) := opI0 fun _ _ _ _ _ _ _ q => sub_int q
theorem op_mul : OpR X (binaryOp .Mult) (rI CMul fun i j => .int (i * j)) := opI fun _ _ _ _ _ _ _ hc q => mul_int q hc.ok
/-- // by a positive divisor -/
theorem op_fdiv : OpR X (binaryOp .FloorDiv) (rI CDiv fun i j => .int (i / j)) := opI fun i j _ _ _ _ _ hc q => by
  have h1 : (0 : Int) < j := hc.1
  have h2 : j < 1073741824 := hc.2
  exact floordiv_int (by omega) (by rw [Int.fdiv_eq_ediv_of_nonneg i (by omega)]; exact q) (.inl (PyProof.noPylong_small (by omega)))
/-- % by a positive divisor of any size -/
theorem op_mod : OpR X (binaryOp .Mod) (rI (fun _ j => 0 < j) fun i j => .int (i % j)) := opI fun i j _ _ _ _ _ hc q => by
  have h1 : (0 : Int) < j := hc
  exact mod_int' (by omega) (by rw [Int.fmod_eq_emod_of_nonneg i (by omega)]; exact q)
theorem op_shr : OpR X (binaryOp .RShift) (rI (fun _ j => 0 ≤ j) fun i j => .int (i / 2 ^ j.toNat)) := opI fun i j _ _ _ _ _ hc q =>
  rshift_int hc (by rw [Int.fdiv_eq_ediv_of_nonneg i (two_pow_nn _)]; exact q)
end

/-- the scalars that == tells apart as data does -/
noncomputable def scal : V → V → Bool
  | .non, .non => true | .non, .int _ => true | .int _, .non => true | .non, .bl _ => true | .bl _, .non => true | .non, .str _ => true | .str _, .non => true
  | .int _, .int _ => true | .bl _, .bl _ => true | .str _, .str _ => true | .byt _, .byt _ => true
  | .int _, .str _ => true | .str _, .int _ => true | .bl _, .str _ => true | .str _, .bl _ => true
  | _, _ => false
noncomputable def rEq : R2 := fun x y H Q => scal x y = true ∧ Q (.bl (decide (x = y))) H
noncomputable def rNe : R2 := fun x y H Q => scal x y = true ∧ Q (.bl (!decide (x = y))) H

theorem dec_int {i j : Int} : decide (V.int i = V.int j) = (i == j) := by
  rw [Bool.eq_iff_iff]
  simp
theorem dec_bl {i j : Bool} : decide (V.bl i = V.bl j) = (i == j) := by
  rw [Bool.eq_iff_iff]
  simp
theorem dec_str {i j : Str} : decide (V.str i = V.str j) = (i == j) := by
  rw [Bool.eq_iff_iff]
  simp
theorem dec_byt {i j : Array UInt8} : decide (V.byt i = V.byt j) = (i.toList == j.toList) := by
  rw [Bool.eq_iff_iff]
  cases i
  cases j
  simp

section
variable {X : Cx} {a b c : Expr} {ta tb tc : TE} {pos : Pos}
theorem fin_bl {pins : List (Addr × Obj)} {σ : St} {H : Hp} {s : Shared} {Q : VK} {k k' : Bool} (I : Inv X pins σ H s) (q : Q (.bl k) H) (e : k = k') : EP X pins σ Q (.bool k') s := by
  subst e
  exact ⟨.bl k, H, I, rfl, q⟩
theorem op_eq : OpR X (compareOp .Eq) rEq := by
  intro pins s σ H x y v u Q I rx ry h
  obtain ⟨hs, q⟩ := h
  cases x with
  | non =>
    cases rx
    cases y with
    | non => cases ry; exact PySem.EqNone.eq_none_none (fin_bl I q (by simp))
    | bl j => cases ry; exact PySem.EqNone.eq_none_bool (fin_bl I q (by simp))
    | int j => obtain ⟨t', rfl⟩ := ry; exact PySem.EqNone.eq_none_int (fin_bl I q (by simp))
    | str j => obtain ⟨t', rfl⟩ := ry; exact PySem.EqNone.eq_none_str (fin_bl I q (by simp))
    | _ => exact absurd (show false = true from hs) Bool.false_ne_true
  | bl i =>
    cases rx
    cases y with
    | non => cases ry; exact PySem.EqNone.eq_bool_none (fin_bl I q (by simp))
    | bl j => cases ry; exact eq_bool (fin_bl I q dec_bl)
    | str j => obtain ⟨t', rfl⟩ := ry; exact PySem.EqMixed.eq_bool_str (fin_bl I q (by simp))
    | _ => exact absurd (show false = true from hs) Bool.false_ne_true
  | int i =>
    obtain ⟨t, rfl⟩ := rx
    cases y with
    | non => cases ry; exact PySem.EqNone.eq_int_none (fin_bl I q (by simp))
    | int j => obtain ⟨t', rfl⟩ := ry; exact eq_int (fin_bl I q dec_int)
    | str j => obtain ⟨t', rfl⟩ := ry; exact PySem.EqMixed.eq_int_str (fin_bl I q (by simp))
    | _ => exact absurd (show false = true from hs) Bool.false_ne_true
  | str i =>
    obtain ⟨t, rfl⟩ := rx
    cases y with
    | non => cases ry; exact PySem.EqNone.eq_str_none (fin_bl I q (by simp))
    | bl j => cases ry; exact PySem.EqMixed.eq_str_bool (fin_bl I q (by simp))
    | int j => obtain ⟨t', rfl⟩ := ry; exact PySem.EqMixed.eq_str_int (fin_bl I q (by simp))
    | str j => obtain ⟨t', rfl⟩ := ry; exact eq_str (fin_bl I q dec_str)
    | _ => exact absurd (show false = true from hs) Bool.false_ne_true
  | byt i =>
    obtain ⟨t, rfl⟩ := rx
    cases y with
    | byt j => obtain ⟨t', rfl⟩ := ry; exact PySem.W.eq_bytes (fin_bl I q dec_byt)
    | _ => exact absurd (show false = true from hs) Bool.false_ne_true
  | _ => cases y <;> exact absurd (show false = true from hs) Bool.false_ne_true
theorem op_lt : OpR X (compareOp .Lt) (rI0 fun i j => .bl (decide (i < j))) := opB0 fun _ _ _ _ _ _ _ q => lt_int q
theorem op_gt : OpR X (compareOp .Gt) (rI0 fun i j => .bl (decide (j < i))) := opB0 fun _ _ _ _ _ _ _ q => gt_int q
theorem op_ge : OpR X (compareOp .GtE) (rI0 fun i j => .bl (decide (j ≤ i))) := opB0 fun _ _ _ _ _ _ _ q => ge_int q
/-- is None, is not None: the right side a value none -/
theorem op_isN : OpR X (compareOp .Is) (fun x y H Q => y = .non ∧ Q (.bl (decide (x = .non))) H) := by
  intro pins s σ H x y v u Q I rx ry h
  obtain ⟨rfl, q⟩ := h
  cases ry
  refine is_none_gen (fin_bl I q ?_)
  cases x <;> first
    | (cases rx; rfl)
    | (obtain ⟨t, rfl⟩ := rx; rfl)
/-- two rules for one operation: by cases -/
theorem OpR.or {f : Value → Value → Sem Value} {r r' : R2} (h : OpR X f r) (h' : OpR X f r') : OpR X f (fun x y H Q => r x y H Q ∨ r' x y H Q) := by
  intro pins s σ H x y v u Q I rx ry q
  rcases q with q | q
  · exact h pins s σ H x y v u Q I rx ry q
  · exact h' pins s σ H x y v u Q I rx ry q

theorem nomark (b : Expr) {op : CmpOp} (h : op ≠ .In := by decide) (h2 : op ≠ .NotIn := by decide) : behindInMarks op b = false := by
  have e1 : (op == CmpOp.In) = false := by cases op <;> first | rfl | exact absurd rfl h
  have e2 : (op == CmpOp.NotIn) = false := by cases op <;> first | rfl | exact absurd rfl h2
  cases b <;> simp [behindInMarks, e1, e2]
/-- a comparison as a value; hm: nomark b, or (for in, not in) by with_unfolding_all rfl -/
theorem pe_cmpR {op : CmpOp} {r : R2} (ho : OpR X (compareOp op) r) (ha : PE X a ta) (hb : PE X b tb) (hm : behindInMarks op b = false) : PE X (.Compare a [op] [b] pos) (tOp r ta tb) := by
  intro pins s σ H Q I h
  exact wpAny_Compare1 (binT ha hb I h fun v u s2 x y H2 I2 rx ry q => ho pins s2 σ H2 x y v u Q I2 rx ry q) hm
/-- a reading of a value as a test -/
noncomputable def tTest (t : TE) : TT := fun σ H Q => t σ H fun x H' => ∃ k, x = .bl k ∧ Q k H'
theorem pt_cmpR {op : CmpOp} {r : R2} (ho : OpR X (compareOp op) r) (ha : PE X a ta) (hb : PE X b tb) (hm : behindInMarks op b = false) : PT X (.Compare a [op] [b] pos) (tTest (tOp r ta tb)) := by
  intro pins s σ H Q I h
  refine wpAny_isTrue_Compare1 (thn (ha pins s σ H _ I h) fun v s1 ⟨x, H1, I1, r1, q1⟩ => thn (hb pins s1 σ H1 _ I1 q1) fun u s2 ⟨y, H2, I2, r2, q2⟩ =>
    thn (ho pins s2 σ H2 x y v u _ I2 r1 r2 q2) fun c s3 ⟨z, H3, I3, r3, k, e, q3⟩ => ?_) hm
  subst e
  cases r3
  exact wpAny_truthy_bool ⟨H3, I3, q3⟩
/-- a op1 b op2 c -/
noncomputable def tChain (r r' : R2) (ta tb tc : TE) : TE := fun σ H Q => ta σ H fun x H1 => tb σ H1 fun y H2 => r x y H2 fun z H3 => ∃ k, z = .bl k ∧
  (if k = true then tc σ H3 fun w' H4 => r' y w' H4 Q else Q (.bl false) H3)
theorem line63 : (sizeLine : Nat) < 2 ^ 63 := by rw [sizeLine_eq]; decide
theorem op_add_str : OpR X (binaryOp .Add) (fun x y H Q => ∃ i j, x = .str i ∧ y = .str j ∧ i.length + j.length ≤ sizeLine ∧ Q (.str (i ++ j)) H) := by
  intro pins s σ H x y v u Q I rx ry h
  obtain ⟨i, j, rfl, rfl, hz, q⟩ := h
  obtain ⟨t, rfl⟩ := rx
  obtain ⟨t', rfl⟩ := ry
  exact add_str (fun t' tk => ⟨.str (i ++ j), H, I.tok _, ⟨_, rfl⟩, q⟩) hz
theorem vals1 {x : V} {us : List Value} (r : Vals [x] us) : ∃ u, us = [u] ∧ RelV x u := by
  cases r with
  | cons r1 r2 => cases r2; exact ⟨_, rfl, r1⟩
theorem vals2 {x y : V} {us : List Value} (r : Vals [x, y] us) : ∃ u w', us = [u, w'] ∧ RelV x u ∧ RelV y w' := by
  cases r with
  | cons r1 r2 =>
    cases r2 with
    | cons r3 r4 => cases r4; exact ⟨_, _, rfl, r1, r3⟩
theorem call_max2 (hc : X.calm = true) : CallR X (.builtin "max") (fun xs H Q => ∃ i j, xs = [.int i, .int j] ∧ Q (.int (if j > i then j else i)) H) := by
  intro pins s σ H xs us Q I r h
  obtain ⟨i, j, rfl, q⟩ := h
  obtain ⟨u, w', rfl, ⟨t, rfl⟩, ⟨t', rfl⟩⟩ := vals2 r
  refine max_two_ints (I.ok.hd hc) fun h' tk k => ⟨_, H, I.kept k, ?_, q⟩
  by_cases hj : j > i
  · rw [if_pos hj, if_pos hj]; exact ⟨_, rfl⟩
  · rw [if_neg hj, if_neg hj]; exact ⟨_, rfl⟩
end
end L2

namespace L2
open PySem PySem.Spec PyProof.Rows

structure ObjM (h : Heap) (x dx C : Addr) (mA : Str → Option Value) : Prop where
  obj : h.get? x = some (PySem.W.instObj C dx)
  ns : h.Ns1 dx mA
  ne : dx ≠ x

theorem lookIn_ns {h : Heap} {dx : Addr} {mA : Str → Option Value} (n : h.Ns1 dx mA) : ∃ od, h.get? dx = some od ∧ ∀ name, PySem.W.lookIn name od = some (mA name) := by
  obtain ⟨o, es, ep, ho, hd, hk, _, hm⟩ := n
  refine ⟨o, ho, fun name => ?_⟩
  have e := hm name
  unfold nsFind findBy at e
  rw [← Array.find?_toList] at e
  unfold PySem.W.lookIn
  rw [hd]
  dsimp only
  split
  · rename_i y q
    rw [q] at e
    exact congrArg some e
  · rename_i q
    rw [q] at e
    have a : es.toList.any (·.refKey) = false := by
      rw [List.any_eq_false]
      intro y hy
      obtain ⟨z, t, hkey⟩ := hk y (Array.mem_toList_iff.mp hy)
      simp [DictEntry.refKey, hkey]
    have a' : ¬ es.toList.any (·.refKey) = true := by rw [a]; exact Bool.false_ne_true
    rw [if_neg a']
    exact congrArg some e

theorem ObjM.look {h : Heap} {x dx C : Addr} {mA : Str → Option Value} (I : ObjM h x dx C mA) : ∃ od, PySem.W.InstAt h x (PySem.W.instObj C dx) C (some od) ∧ ∀ name, PySem.W.lookIn name od = some (mA name) :=
  let ⟨od, ho, hl⟩ := lookIn_ns I.ns
  ⟨od, ⟨I.obj, rfl, rfl, ho⟩, hl⟩

section
variable {prog : Program} {w : World} {A : Around} {E : Value → Shared → Prop} {s : Shared} {K : PySem.W.Frag} {x dx C f : Addr} {mA : Str → Option Value} {name : Str} {v : Value}

end

section
variable {P : Program} {w : World} {H H' : Hp} {h h' : Heap} {a C dx : Addr} {fs fs' : List (Str × V)}
theorem ins_get (hok : HOk P w H h) (e : H a = some (.ins C dx fs)) : ∃ mA, ObjM h a dx C mA ∧ (∀ f, RelO (fs.lookup f) (mA f)) ∧ PySem.Within mA (fs.map (·.1)) ∧ fs.length ≤ 1000 ∧ H dx = some (.own a) := by
  obtain ⟨d, z, ne, ob, mA, n, r, q⟩ := (show ObjOk P w H h a (.ins C dx fs) from hok a _ e)
  exact ⟨mA, ⟨ob, n, ne⟩, r, q, z, d⟩
end

structure Cls (K : PySem.W.Frag) (C : Addr) : Prop where
  pg : PySem.W.plainGet K C Str.empty = true
  hd : PySem.W.hasDictIn K C = true
  po : PySem.W.plainOver K C = true
  sa : PySem.W.findIn K (.ref C) "__setattr__" = some (some (.builtin "object.__setattr__"))
theorem Cls.get {K : PySem.W.Frag} {C : Addr} (c : Cls K C) (f : Str) : PySem.W.plainGet K C f = true := c.pg
/-- a constant of the class -/
structure Con (K : PySem.W.Frag) (C : Addr) (f : Str) (v : V) (u : Value) : Prop where
  at_ : PySem.W.findIn K (.ref C) f = some (some u)
  rel : RelV v u
  get : PySem.W.specialIn K u "__get__" = some none
  cp : PySem.W.copiedNames.contains f = false
/-- a method: a plain def of the class or of one above it -/
structure Meth (K : PySem.W.Frag) (C : Addr) (m : Str) (f : Addr) : Prop where
  at_ : PySem.W.findIn K (.ref C) m = some (some (.ref f))
  fn : PySem.W.isFn K (.ref f) = true
  kp : PySem.W.keepIn K (.ref f) = true

section
variable {X : Cx} {pins : List (Addr × Obj)} {σ : St} {H : Hp} {s : Shared} {a C dx : Addr} {fs : List (Str × V)} {f : Str} {v : V} {A : Around} {E : Value → Shared → Prop}

end

section
variable {X : Cx} {o e value : Expr} {f : Str} {pos pos' tpos : Pos} {ta tv : TE}
end

section
variable {X : Cx} {pins : List (Addr × Obj)} {σ : St} {H : Hp} {s : Shared} {A : Around} {E : Value → Shared → Prop} {Q : Value → Shared → Prop} {c : Value} {b : Bool}
/-- the type of a value, as the fragment's deciders take it; for an instance its class -/
inductive TyOf (K : PySem.W.Frag) (H : Hp) : V → Value → Prop where
  | non : TyOf K H .non (.type "NoneType")
  | bl (x : Bool) : TyOf K H (.bl x) (.type "bool")
  | int (i : Int) : TyOf K H (.int i) (.type "int")
  | str (x : Str) : TyOf K H (.str x) (.type "str")
  | flt (x : UInt64) : TyOf K H (.flt x) (.type "float")
  | lst {a : Addr} {xs : List V} (e : H a = some (.lst xs)) : TyOf K H (.ref a) (.type "list")
  | frz {a : Addr} {o : Obj} {xs : List V} (e : H a = some (.frz o (.lst xs))) : TyOf K H (.ref a) (.type "list")
  | tup {a : Addr} {xs : List V} (e : H a = some (.tup xs)) : TyOf K H (.ref a) (.type "tuple")
  | dK {a : Addr} {kvs : List (Key × V)} (e : H a = some (.dK kvs)) : TyOf K H (.ref a) (.type "dict")
  | dT {a : Addr} {kvs : List (List Key × V)} (e : H a = some (.dT kvs)) : TyOf K H (.ref a) (.type "dict")
  | ins {a C dx : Addr} {fs : List (Str × V)} (e : H a = some (.ins C dx fs)) (cl : Cls K C) (ha : PySem.W.findIn K (.ref C) "__class__" = some (some (.builtin "object.__class__")))
      (hn : PySem.W.specialIn K (.builtin "object.__class__") "__get__" = some (some (.builtin "getset_descriptor.__get__"))) (htk : PySem.W.takesIn K (.builtin "object.__class__") = some true)
      (hm : PySem.W.mroIn K C (.type "object") = some true) : TyOf K H (.ref a) (.ref C)
/-- isinstance(x, c) for one class c, a built-in or an own one: kitOne's answer -/
theorem isinst_ok {x : V} {u t : Value} (I : Inv X pins σ H s) (rx : RelV x u) (ty : TyOf X.K H x t) (e : PySem.W.kitOne X.K t c = some b) (h : ∀ tk, Q (.bool b) { s with toks := tk }) :
    wpAny (model X.prog X.w) A (call (.builtin "isinstance") [u, c]) Q E s := by
  cases ty with
  | non => cases (show u = Value.none from rx); exact PySem.W.kia_one PySem.W.kitx_none I.kIn True.intro e (fun z => nomatch z) h
  | bl y => cases (show u = Value.bool y from rx); exact PySem.W.kia_one PySem.W.kitx_bool I.kIn True.intro e (fun z => nomatch z) h
  | int i => obtain ⟨t, q⟩ := (show ∃ t, u = Value.int i t from rx); cases q; exact PySem.W.kia_one PySem.W.kitx_int I.kIn True.intro e (fun z => nomatch z) h
  | str y => obtain ⟨t, q⟩ := (show ∃ t, u = Value.str y t from rx); cases q; exact PySem.W.kia_one PySem.W.kitx_str I.kIn True.intro e (fun z => nomatch z) h
  | flt y => obtain ⟨t, q⟩ := (show ∃ t, u = Value.float y t from rx); cases q; exact PySem.W.kia_one PySem.W.kitx_float I.kIn True.intro e (fun z => nomatch z) h
  | @lst a xs ea =>
    cases (show u = Value.ref a from rx)
    obtain ⟨_, _, n, _, h1⟩ := (show ObjOk X.prog X.w H s.heap a (.lst xs) from I.hok a _ ea)
    exact PySem.W.kia_one PySem.W.kitx_list I.kIn ⟨_, h1, rfl⟩ e (fun z => nomatch z) h
  | @frz a ob xs ea =>
    cases (show u = Value.ref a from rx)
    obtain ⟨_, _, _, n, _, h1⟩ := (show ObjOk X.prog X.w H s.heap a (.frz ob (.lst xs)) from I.hok a _ ea)
    exact PySem.W.kia_one PySem.W.kitx_list I.kIn ⟨_, h1, rfl⟩ e (fun z => nomatch z) h
  | @tup a xs ea =>
    cases (show u = Value.ref a from rx)
    obtain ⟨_, _, _, p⟩ := (show ObjOk X.prog X.w H s.heap a (.tup xs) from I.hok a _ ea)
    obtain ⟨o, h1, h2, _⟩ := p
    exact PySem.W.kia_one PySem.W.kitx_tuple I.kIn ⟨o, h1, h2⟩ e (fun z => nomatch z) h
  | @dK a kvs ea =>
    cases (show u = Value.ref a from rx)
    obtain ⟨_, _, vs, _, p⟩ := (show ObjOk X.prog X.w H s.heap a (.dK kvs) from I.hok a _ ea)
    obtain ⟨o, es, ep, h1, h2, _⟩ := p
    exact PySem.W.kia_one PySem.W.kitx_dict I.kIn ⟨o, h1, h2.1⟩ e (fun z => nomatch z) h
  | @dT a kvs ea =>
    cases (show u = Value.ref a from rx)
    obtain ⟨_, _, xs, _, o, es, ep, h1, h2, _⟩ := (show ObjOk X.prog X.w H s.heap a (.dT kvs) from I.hok a _ ea)
    exact PySem.W.kia_one PySem.W.kitx_dict I.kIn ⟨o, h1, h2.1⟩ e (fun z => nomatch z) h
  | @ins a C dx fs ea cl ha hn htk hm =>
    cases (show u = Value.ref a from rx)
    obtain ⟨mA, O, _⟩ := ins_get I.hok ea
    obtain ⟨od, J, _⟩ := O.look
    exact PySem.W.kia_one (PySem.W.kitx_own (cl.get _) cl.hd ha hn htk hm) I.kIn J e (fun z => nomatch z) h
end
end L2

namespace L2
open PySem PySem.Spec PyProof.Rows

structure Room (k : Nat) (A : Around) : Prop where
  hd : A.handled = none
  dp : A.depth + 3 * k + 5 < recursionLimit
  un : A.units + 16 * k + 200 < cLine
theorem Room.mono {j k : Nat} {A : Around} (r : Room k A) (h : j ≤ k) : Room j A := ⟨r.hd, by have := r.dp; omega, by have := r.un; omega⟩
theorem Room.deeper {k : Nat} {A : Around} (r : Room (k + 1) A) (env : Env) : Room k (A.deeper env) :=
  ⟨r.hd, by have := r.dp; show A.depth + 1 + 3 * k + 5 < _; omega, by have := r.un; show A.units + 3 + 16 * k + 200 < _; omega⟩
theorem Room.depth {k : Nat} {A : Around} (r : Room k A) : A.depth < recursionLimit := by have := r.dp; omega
theorem Room.units {k : Nat} {A : Around} (r : Room k A) : A.units + 64 < cLine := by have := r.un; omega
noncomputable def tNil : TA := fun _ H Q => Q [] H
noncomputable def tCons (ta : TE) (tr : TA) : TA := fun σ H Q => ta σ H fun x H1 => tr σ H1 fun xs H2 => Q (x :: xs) H2
section
variable {X : Cx} {e : Expr} {es : List Expr} {te : TE} {t : TA} {pos : Pos}
theorem pa_nil : PA X [] tNil := fun _ _ _ _ H Q I h => Calls.spliced_nil ⟨[], H, I, .nil, h⟩
theorem pa_cons (ha : PE X e te) (hr : PA X es t) (hs : starEach (e :: es) X.env = (false, eval e X.env) :: starEach es X.env := by rfl) : PA X (e :: es) (tCons te t) := by
  intro pos pins s σ H Q I h
  rw [hs]
  show wpAny _ _ (spliced ((false, eval e X.env) :: backTo pos (starEach es X.env))) _ _ s
  refine Calls.spliced_cons (thn (ha pins s σ H _ I h) fun u s1 ⟨x, H1, I1, r1, q1⟩ => ?_)
  exact thn (hr pos pins s1 σ H1 _ I1 q1) fun us s2 ⟨xs, H2, I2, r2, q2⟩ => ⟨x :: xs, H2, I2, .cons r1 r2, q2⟩

/-- a tuple, a list of written items -/
noncomputable def tTup (t : TA) : TE := fun σ H Q => t σ H fun xs H1 => xs.length ≤ sizeLine ∧ ∀ p, H1 p = none → Q (.ref p) (upd H1 p (.tup xs))
noncomputable def tLst (t : TA) : TE := fun σ H Q => t σ H fun xs H1 => xs.length ≤ sizeLine ∧ ∀ p, H1 p = none → Q (.ref p) (upd H1 p (.lst xs))
theorem pe_tup {x1} (h : PA X es t) : PE X (.Tuple es x1 pos) (tTup t) := by
  intro pins s σ H Q I hq
  refine wpAny_Tuple_spliced (thn (h pos pins s σ H _ I hq) fun us s1 ⟨xs, H1, I1, r, z, q⟩ => ⟨by rw [← r.length]; exact z, ?_⟩)
  have hf : H1 s1.heap.objs.size = none := I1.hok.fresh (Nat.le_refl _)
  refine ⟨.ref s1.heap.objs.size, upd H1 s1.heap.objs.size (.tup xs), I1.laid (t' := s1.toks) (fun b u e => Heap.get?_push_of_some _ e) (Nat.le_refl _) ?_, rfl, q _ hf⟩
  exact ⟨z, us, r, ⟨_, Heap.get?_push_size _ rfl, rfl, _, rfl⟩⟩
theorem pe_lst (h : PA X es t) : PE X (.List es pos) (tLst t) := by
  intro pins s σ H Q I hq
  refine wpAny_List_spliced (thn (h pos pins s σ H _ I hq) fun us s1 ⟨xs, H1, I1, r, z, q⟩ => ⟨by rw [← r.length]; exact z, ?_⟩)
  have hf : H1 s1.heap.objs.size = none := I1.hok.fresh (Nat.le_refl _)
  refine ⟨.ref s1.heap.objs.size, upd H1 s1.heap.objs.size (.lst xs), I1.laid (t' := s1.toks) (fun b u e => Heap.get?_push_of_some _ e) (Nat.le_refl _) ?_, rfl, q _ hf⟩
  exact ⟨z, us, 0, r, Heap.get?_push_size _ rfl⟩
end

/-- a def's promise: the bound arguments in the parameters' order, the heap, the wanted end, the wanted exception -/
noncomputable abbrev Sp := List V → Hp → VK → XK → Prop
/-- how an exception lies behind a call (file 08 gives it): the callers' frames, abstract heap and state ahead of the call, the wish, the exception, the state -/
noncomputable abbrev CXT := List Env → Hp → Shared → XK → Value → Shared → Prop

/-- the state at a call -/
structure Env0 (P : Program) (w : World) (K : PySem.W.Frag) (mg : Str → Option Value) (base : Heap) (A : Around) (outer : List Env) (s : Shared) (H : Hp) : Prop where
  frames : A.frames = some outer
  mod : Mod K mg base
  bs : ∀ b o, base.get? b = some o → s.heap.get? b = some o ∧ H b = none
  bsz : base.objs.size ≤ s.heap.objs.size
  funs : s.heap.FunFrames base outer
  frf : ∀ b ∈ frs outer, H b = none
  hok : HOk P w H s.heap
  bare : AllBare s.gens
/-- a call's end -/
noncomputable def CE (outer : List Env) (P : Program) (w : World) (H : Hp) (s : Shared) (Q : VK) (u : Value) (s' : Shared) : Prop :=
  ∃ v H', s'.os = s.os ∧ AllBare s'.gens ∧ Un (frs outer) [] H H' s.heap s'.heap ∧ HOk P w H' s'.heap ∧ RelV v u ∧ Q v H'
noncomputable def CR (CX : CXT) (outer : List Env) (P : Program) (w : World) (H : Hp) (s : Shared) (Q : VK) (E : XK) (r : Result) (s' : Shared) : Prop :=
  match r with
  | .ok (.ret u) => CE outer P w H s Q u s'
  | .ok _ => False
  | .error e => CX outer H s E e s'
structure FnOk (P : Program) (w : World) (K : PySem.W.Frag) (mg : Str → Option Value) (base : Heap) (CX : CXT) (k : Nat) (f : Addr) (fd : FuncData) (ps : List Str) (sp : Sp) : Prop where
  len : ∀ vs H Q E, sp vs H Q E → vs.length = ps.length
  run : ∀ (A : Around) (outer : List Env) (s : Shared) (H : Hp) (args : Args) (us : List Value) (vs : List V) (Q : VK) (E : XK), Room k A → Env0 P w K mg base A outer s H → BindsTo s fd args (ps.zip us) → Vals vs us → sp vs H Q E →
    codeAny (model P w) A (.call (.ref f) args) (CR CX outer P w H s Q E) s
section
variable {X : Cx} {pins : List (Addr × Obj)} {σ : St} {H : Hp} {s s' : Shared}
/-- from a body: what a callee wants -/
theorem Inv.env0 (I : Inv X pins σ H s) : Env0 X.prog X.w X.K X.mg X.base X.A X.stack s H :=
  ⟨I.ok.frames, I.ok.mod, I.bs, Nat.le_trans I.ok.bsz I.sz, I.stack, I.stkFree, I.hok, I.bare⟩
/-- behind a call -/
theorem Inv.after {Q : VK} {u : Value} (I : Inv X pins σ H s) (h : CE X.stack X.prog X.w H s Q u s') : EP X pins σ Q u s' := by
  obtain ⟨v, H', os, bare, un, hok, r, q⟩ := h
  obtain ⟨hh, g, d, t, os'⟩ := s'
  obtain rfl : os' = s.os := os
  exact ⟨v, H', I.call (h' := hh) (g' := g) (d' := d) (t' := t) (ch := []) un hok bare (fun b z => absurd z (by simp)), r, q⟩
end

/-- f(..): the written arguments, then the defaults dvs; E: what is wanted of an exception -/
noncomputable def tCall (sp : Sp) (dvs : List V) (E : XK) (t : TA) : TE := fun σ H Q => t σ H fun vs H1 => sp (vs ++ dvs) H1 Q E
/-- how the parameters are bound: us the positional arguments, kw the keywords' values by name, ds the defaults that fill up -/
noncomputable def Binds (K : PySem.W.Frag) (fd : FuncData) (ps : List Str) (ds : List Value) : Prop :=
  ∀ (s : Shared) (us : List Value), K.In s.heap → (us ++ ds).length = ps.length → BindsTo s fd ⟨us, []⟩ (ps.zip (us ++ ds))
/-- every parameter is given -/
theorem Binds.all {K : PySem.W.Frag} {fd : FuncData} {ps : List Str} (h : ∀ us : List Value, us.length = ps.length → bindArgs fd ⟨us, []⟩ = pure (ps.zip us)) : Binds K fd ps [] := fun s us _ hl => by
  rw [List.append_nil] at hl ⊢
  exact .of_eq (h us hl)

/-- an exception of a callee reaches what this body wants of exceptions -/
noncomputable def Passes (CX : CXT) (X : Cx) (E : XK) : Prop := ∀ (pins : List (Addr × Obj)) (σ : St) (H : Hp) (s : Shared) (e : Value) (s' : Shared), Inv X pins σ H s → CX X.stack H s E e s' → X.xe e s'

section
variable {X : Cx} {CX : CXT} {k : Nat} {f C : Addr} {fd : FuncData} {ps : List Str} {sp : Sp} {dvs : List V} {ds : List Value} {E : XK} {x m : Str} {p pos apos : Pos} {e o : Expr} {es : List Expr} {ta : TE} {t : TA}

/-- the callee runs -/
theorem run_fn {pins : List (Addr × Obj)} {σ : St} {H : Hp} {s : Shared} {Q : VK} {us : List Value} {vs : List V} (F : FnOk X.prog X.w X.K X.mg X.base CX k f fd ps sp) (hr : Room k X.A) (hb : Binds X.K fd ps ds) (hd : Vals dvs ds) (hx : Passes CX X E)
    (I : Inv X pins σ H s) (r : Vals vs us) (h : sp (vs ++ dvs) H Q E) : wpAny (model X.prog X.w) X.A (call (.ref f) us) (EP X pins σ Q) X.xe s := by
  have r2 : Vals (vs ++ dvs) (us ++ ds) := r.append hd
  have hl : (us ++ ds).length = ps.length := by rw [← r2.length]; exact F.len _ _ _ _ h
  refine wpAny_call (codeAny_mono (F.run X.A X.stack s H ⟨us, []⟩ (us ++ ds) (vs ++ dvs) Q E hr I.env0 (hb s us I.kIn hl) r2 h) fun r s' hq => ?_)
  cases r with
  | error e => exact hx pins σ H s e s' I hq
  | ok fl =>
    cases fl with
    | ret u => exact I.after hq
    | next => exact False.elim hq
    | brk => exact False.elim hq
    | cont => exact False.elim hq

theorem pe_call (F : FnOk X.prog X.w X.K X.mg X.base CX k f fd ps sp) (hr : Room k X.A) (hg : Gl X x) (hm : X.mg x = some (.ref f)) (hk : PySem.W.keepIn X.K (.ref f) = true) (hb : Binds X.K fd ps ds) (hd : Vals dvs ds) (hx : Passes CX X E)
    (ha : PA X (e :: es) t) (hdb : (x == ("__debug__" : Str)) = false := by decide) (he : starEach (e :: es) X.env = (false, eval e X.env) :: starEach es X.env := by rfl) (hpl : (backTo pos (starEach es X.env)).any (·.1) = false := by rfl) :
    PE X (.Call (.Name x p) (e :: es) [] pos) (tCall sp dvs E t) := by
  intro pins s σ H Q I h
  refine wpAny_Call_Name_kw (ld_glob I hg hm ?_ hdb)
  refine PySem.W.callWith_K (h₀ := X.base) I.ok.mod.kin hk (thn (ha pos pins s σ H _ I h) fun us s1 ⟨vs, H1, I1, r, q⟩ => ⟨I1.kIn, ?_⟩) he hpl
  exact run_fn F hr hb hd hx I1 r q
/-- what a class must have to be made -/
structure Mk (K : PySem.W.Frag) (C f : Addr) : Prop where
  makes : PySem.W.makesIn K C = true
  init : PySem.W.findIn K (.ref C) "__init__" = some (some (.ref f))
  fn : PySem.W.isFn K (.ref f) = true
  kp : PySem.W.keepIn K (.ref C) = true

end

section
variable {X : Cx} {CX : CXT} {k : Nat} {f C : Addr} {fd : FuncData} {ps ks : List Str} {sp : Sp} {E : XK} {x m : Str} {p pos apos kpos : Pos} {e o : Expr} {es : List Expr} {kws : List Keyword} {te ta : TE} {t tk : TA} {nm : Option Str}
/-- how a call with keywords binds: g puts the positional values us and the keywords' values ws (names ks) in the parameters' order, defaults among them -/
structure KBinds (K : PySem.W.Frag) (fd : FuncData) (ps ks : List Str) (g : List Value → List Value → List Value) (gV : List V → List V → List V) : Prop where
  to : ∀ (s : Shared) (us ws : List Value), K.In s.heap → (g us ws).length = ps.length → BindsTo s fd ⟨us, ks.zip ws⟩ (ps.zip (g us ws))
  rel : ∀ {vs : List V} {us : List Value} {zs : List V} {ws : List Value}, Vals vs us → Vals zs ws → Vals (gV vs zs) (g us ws)
variable {g : List Value → List Value → List Value} {gV : List V → List V → List V}
end

/-- names: the parameters first -/
structure FnScope (N P : List Str) (sc : Scope) : Prop where
  kind : sc.kind = .function
  co : sc.isCoroutine = false
  gen : sc.isGenerator = false
  nd : N.Nodup
  pre : N.take P.length = P
  par : ∀ x ∈ P, sc.names.lookup x = some .local ∨ sc.names.lookup x = some .cell
  nofree : ∀ y ∈ sc.names, y.2 ≠ .free

theorem bindL_out {kindOf : Str → Option NameKind} {x : Str} : ∀ {binds : List (Str × Value)} {m : Str → Option Value}, (∀ v, (x, v) ∉ binds) → bindL kindOf binds m x = m x
  | [], _, _ => rfl
  | (n, v) :: r, m, h => by
    unfold bindL
    rw [bindL_out fun w hw => h w (List.mem_cons_of_mem _ hw)]
    split
    · have : x ≠ n := by rintro rfl; exact h v List.mem_cons_self
      simp [this]
    · rfl
theorem bindC_out {kindOf : Str → Option NameKind} {x : Str} : ∀ {binds : List (Str × Value)} {m : Str → Option Value}, (∀ v, (x, v) ∉ binds) → bindC kindOf binds m x = m x
  | [], _, _ => rfl
  | (n, v) :: r, m, h => by
    unfold bindC
    rw [bindC_out fun w hw => h w (List.mem_cons_of_mem _ hw)]
    split
    · rfl
    · have : x ≠ n := by rintro rfl; exact h v List.mem_cons_self
      simp [this]
theorem bindL_get {kindOf : Str → Option NameKind} {x : Str} {v : Value} : ∀ {P : List Str} {vs : List Value} {i : Nat} {m : Str → Option Value}, P.Nodup → P[i]? = some x → vs[i]? = some v → kindOf x = some .local →
    bindL kindOf (P.zip vs) m x = some v
  | [], _, _, _, _, h, _, _ => by simp at h
  | _ :: _, [], _, _, _, _, h, _ => by simp at h
  | p :: P, w :: vs, 0, m, nd, h1, h2, hk => by
    simp at h1 h2; subst h1; subst h2
    show bindL kindOf ((p, w) :: P.zip vs) m p = _
    unfold bindL
    rw [bindL_out fun v hv => (List.nodup_cons.mp nd).1 (List.of_mem_zip hv).1, if_pos hk]
    simp
  | p :: P, w :: vs, i + 1, m, nd, h1, h2, hk => by
    show bindL kindOf ((p, w) :: P.zip vs) m x = _
    unfold bindL
    exact bindL_get (i := i) (List.nodup_cons.mp nd).2 (by simpa using h1) (by simpa using h2) hk
theorem bindC_get {kindOf : Str → Option NameKind} {x : Str} {v : Value} : ∀ {P : List Str} {vs : List Value} {i : Nat} {m : Str → Option Value}, P.Nodup → P[i]? = some x → vs[i]? = some v → kindOf x ≠ some .local →
    bindC kindOf (P.zip vs) m x = some v
  | [], _, _, _, _, h, _, _ => by simp at h
  | _ :: _, [], _, _, _, _, h, _ => by simp at h
  | p :: P, w :: vs, 0, m, nd, h1, h2, hk => by
    simp at h1 h2; subst h1; subst h2
    show bindC kindOf ((p, w) :: P.zip vs) m p = _
    unfold bindC
    rw [bindC_out fun v hv => (List.nodup_cons.mp nd).1 (List.of_mem_zip hv).1, if_neg hk]
    simp
  | p :: P, w :: vs, i + 1, m, nd, h1, h2, hk => by
    show bindC kindOf ((p, w) :: P.zip vs) m x = _
    unfold bindC
    exact bindC_get (i := i) (List.nodup_cons.mp nd).2 (by simpa using h1) (by simpa using h2) hk

/-- the names' values at the entry -/
noncomputable def start (N : List Str) (vs : List V) : St := vs.map some ++ List.replicate (N.length - vs.length) none

/-- the context of a def's body, at its entry; an exception leaves the frame, then lies as CX says -/
noncomputable def cxOf (CX : CXT) (P : Program) (w : World) (K : PySem.W.Frag) (mg : Str → Option Value) (base : Heap) (N : List Str) (qual : Str) (scope : Scope) (f : Addr) (cd : Value) (A : Around) (outer : List Env) (s : Shared) (H : Hp) (E : XK) : Cx where
  prog := P
  w := w
  K := K
  mg := mg
  base := base
  A := A.deeper (envOfC qual scope s.heap.objs.size f cd)
  N := N
  s₀ := s
  H₀ := H
  env := envOfC qual scope s.heap.objs.size f cd
  outer := outer
  stack := envOfC qual scope s.heap.objs.size f cd :: outer
  ex := []
  calm := true
  fn := fun _ => true
  pn := []
  xe := fun e s' => wpAny (model P w) (A.deeper (envOfC qual scope s.heap.objs.size f cd)) (leaving (envOfC qual scope s.heap.objs.size f cd) e) (fun _ s'' => CX outer H s E e s'') (fun e' s'' => CX outer H s E e' s'') s'

theorem cell_has {sc : Scope} {n : Nat} {x : Str} (h : sc.names.lookup x = some .cell) : ∃ c, (cellsFrom n sc.names []).lookup x = some c := by
  have q := PySem.W.cellsFrom_some sc.names n [] (.inl h)
  exact Option.isSome_iff_exists.mp q

theorem inv_start {CX : CXT} {P : Program} {w : World} {K : PySem.W.Frag} {mg : Str → Option Value} {base : Heap} {N ps : List Str} {qual : Str} {scope : Scope} {f : Addr} {cd : Value} {A : Around} {outer : List Env} {s s1 : Shared} {H : Hp} {E : XK} {us : List Value} {vs : List V}
    (S : FnScope N ps scope) (hd : A.handled = none) (e0 : Env0 P w K mg base A outer s H) (hl : vs.length = ps.length) (r : Vals vs us)
    (x : InCallC s s.heap.objs.size (bindL (envOfC qual scope s.heap.objs.size f cd).kindOf (ps.zip us) fun _ => none) (cellsFrom (s.heap.objs.size + 1) scope.names []) (bindC (envOfC qual scope s.heap.objs.size f cd).kindOf (ps.zip us) fun _ => none) s1) :
    Inv (cxOf CX P w K mg base N qual scope f cd A outer s H E) [] (start N vs) H s1 := by
  have hpl : ps.length ≤ N.length := by have := congrArg List.length S.pre; rw [List.length_take] at this; omega
  obtain ⟨h1, tk, rfl, hk⟩ := x.done
  have noA : ∀ b : Addr, b ∉ (cxOf CX P w K mg base N qual scope f cd A outer s H E).ex := fun b z => absurd (show b ∈ ([] : List Addr) from z) (by simp)
  refine ⟨⟨e0.mod, S.kind, rfl, rfl, Nat.le_refl _, fun y z c h1 h2 => ?_, fun y hy => ?_, fun y c _ h => ?_, fun _ => hd, Around.frames_deeper e0.frames, .inr ⟨rfl, rfl⟩, fun b z => absurd z (noA b), e0.bs, e0.bsz, fun b _ _ => noA b, fun b z => absurd z (noA b), e0.funs, e0.frf⟩,
    rfl, e0.bare, Un.kept hk, ⟨_, x.toInCall.ns, fun i y v h1 h2 h3 => ?_⟩, fun y c h => ⟨_, x.cell y c h⟩, e0.hok.fresh (Nat.le_refl _), fun y c h => ?_, fun p hp => absurd (show p ∈ ([] : List (Addr × Obj)) from hp) (by simp), e0.hok.kept hk, ?_⟩
  · exact name_of_addr x.apart (PySem.mem_of_lookup h1) (PySem.mem_of_lookup h2)
  · have hy : scope.names.lookup y = some .cell ∨ scope.names.lookup y = some .free := hy
    rcases hy with hy | hy
    · exact cell_has hy
    · exact absurd rfl (S.nofree _ (PySem.mem_of_lookup hy))
  · exact Nat.le_of_lt (x.above y c (PySem.mem_of_lookup h))
  · have hi : i < vs.length := by
      unfold start at h2
      by_cases hi : i < vs.length
      · exact hi
      · rw [List.getElem?_append_right (by simpa using hi)] at h2
        rw [List.getElem?_replicate] at h2
        split at h2 <;> cases h2
    have ha : vs[i]? = some v := by
      unfold start at h2
      rw [List.getElem?_append_left (by simpa using hi), List.getElem?_map] at h2
      cases e : vs[i]? with
      | none => rw [e] at h2; cases h2
      | some a => rw [e] at h2; cases h2; rfl
    obtain ⟨u, hu, rv⟩ := r.get ha
    have hp : ps[i]? = some y := by
      rw [← S.pre, List.getElem?_take_of_lt (by omega)]; exact h1
    have ndP : ps.Nodup := by rw [← S.pre]; exact S.nd.sublist (List.take_sublist _ _)
    refine ⟨u, rv, ?_⟩
    rcases S.par y (List.mem_of_getElem? hp) with k | k
    · exact .inl ⟨k, bindL_get ndP hp hu k⟩
    · obtain ⟨c, e⟩ := cell_has (n := s.heap.objs.size + 1) k
      refine .inr ⟨.inl k, c, e, ?_⟩
      have q := x.cell y c e
      rw [bindC_get ndP hp hu (by show scope.names.lookup y ≠ _; rw [k]; decide)] at q
      exact q
  · exact e0.hok.fresh (Nat.le_of_lt (x.above y c (PySem.mem_of_lookup h)))
  · unfold start
    show _ = N.length
    rw [List.length_append, List.length_map, List.length_replicate]
    omega

/-- THE RULE: a def (or a method) of the text, by its body. The body's reading t is chosen for each entry; it is run at the parameters' values -/
theorem fn_of {CX : CXT} {P : Program} {w : World} {K : PySem.W.Frag} {mg : Str → Option Value} {base : Heap} {k : Nat} {f : Addr} {name qual : Str} {params : Arguments} {body : List Stmt} {scope : Scope} {dV kV doc pm cdv ct oc : Value} {an od : Option Addr}
    {osl : Array (Option Value)} {N ps : List Str} {sp : Sp} (lk : K.lookup f = some ⟨oc, od, .func (PySem.W.fnOf name qual params body scope dV kV doc pm an cdv ct), osl⟩) (hcd : PySem.W.codeIn K cdv qual = true) (S : FnScope N ps scope)
    (len : ∀ vs H Q E, sp vs H Q E → vs.length = ps.length)
    (hbody : ∀ (A : Around) (outer : List Env) (s : Shared) (H : Hp) (vs : List V) (Q : VK) (E : XK), Room k (A.deeper (envOfC qual scope s.heap.objs.size f cdv)) → sp vs H Q E →
      ∃ t, PSs (cxOf CX P w K mg base N qual scope f cdv A outer s H E) body t ∧ t { nx := fun _ H' => Q .non H', rt := Q } (start N vs) H) :
    FnOk P w K mg base CX (k + 1) f (PySem.W.fnOf name qual params body scope dV kV doc pm an cdv ct) ps sp := by
  refine ⟨len, fun A outer s H args us vs Q E hr e0 hb r hsp => ?_⟩
  have hl := len _ _ _ _ hsp
  have KX : K.In s.heap := e0.mod.kin.keeps fun b o e => (e0.bs b o e).1
  have lim : s.heap.NoLimit := e0.mod.nolimit.keeps fun b o e => (e0.bs b o e).1
  have hkind : ∀ y ∈ ps.zip us, scope.names.lookup y.1 = some .local ∨ (scope.names.lookup y.1 = some .cell ∧ ((cellsFrom (s.heap.objs.size + 1) scope.names []).lookup y.1).isSome = true) := fun ⟨n, v⟩ hy => by
    rcases S.par n (List.of_mem_zip hy).1 with q | q
    · exact .inl q
    · exact .inr ⟨q, PySem.W.cellsFrom_some _ _ _ (.inl q)⟩
  refine codeAny_call_function hr.depth (KX _ _ lk) rfl S.co S.gen rfl (PySem.W.codeRec_of KX hcd) (hb _ _ _ _ ?_)
  refine wpAny_newFunctionEnv_cells S.kind hkind fun env he s1 x => ?_
  subst he
  refine ⟨lim.keeps x.toInCall.keep, codeAny_func ?_⟩
  obtain ⟨t, ht, hq⟩ := hbody A outer s H vs Q E (hr.deeper _) hsp
  have I : Inv (cxOf CX P w K mg base N qual scope f cdv A outer s H E) [] (start N vs) H s1 := inv_start S hr.hd e0 hl r x
  refine wpAny_mono (ht [] s1 (start N vs) H _ I hq) (fun fl s' hs => ?_) fun e s' hs => hs
  have fin : ∀ {σ' : St} {H' : Hp} {v : V} {u : Value}, Inv (cxOf CX P w K mg base N qual scope f cdv A outer s H E) [] σ' H' s' → RelV v u → Q v H' → CE outer P w H s Q u s' :=
    fun {σ' H' v u} J rv q => ⟨v, H', J.os, J.bare, J.base, J.hok, rv, q⟩
  cases fl with
  | ret u =>
    obtain ⟨v, σ', H', J, rv, q⟩ := hs
    exact fin J rv q
  | next =>
    obtain ⟨σ', H', J, q⟩ := hs
    exact fin (v := V.non) (u := Value.none) J rfl q
  | brk =>
    obtain ⟨_, _, _, q⟩ := hs
    exact False.elim q
  | cont =>
    obtain ⟨_, _, _, q⟩ := hs
    exact False.elim q
end L2

namespace L2
open PySem PySem.Spec PyProof.Rows
section
variable {X : Cx} {x : Str} {p pos : Pos} {e : Expr} {es : List Expr} {t : TA} {id T : String} {r : List V → Hp → VK → Prop}

noncomputable def tCB (r : List V → Hp → VK → Prop) (t : TA) : TE := fun σ H Q => t σ H fun vs H1 => r vs H1 Q
/-- f(e, ..), f a built-in function -/
theorem pe_callB (hc : CallR X (.builtin id) r) (hg : Gl X x) (hm : X.mg x = none) (hv : bootBuiltins x = some (.builtin id)) (ha : PA X (e :: es) t) (hn : x ≠ "__name__" := by decide) (hdb : (x == ("__debug__" : Str)) = false := by decide)
    (he : starEach (e :: es) X.env = (false, eval e X.env) :: starEach es X.env := by rfl) (hpl : (backTo pos (starEach es X.env)).any (·.1) = false := by rfl) : PE X (.Call (.Name x p) (e :: es) [] pos) (tCB r t) := by
  intro pins s σ H Q I h
  refine wpAny_Call_Name_kw (ld_blt I hg hm hv ?_ hn hdb)
  exact PyProof.Rows.callWith_builtin1 (thn (ha pos pins s σ H _ I h) fun us s1 ⟨vs, H1, I1, r1, q1⟩ => hc pins s1 σ H1 vs us Q I1 r1 q1) he hpl
/-- T(e, ..), T a built-in type -/
theorem pe_callTy (hc : CallR X (.type T) r) (hg : Gl X x) (hm : X.mg x = none) (hv : bootBuiltins x = some (.type T)) (ha : PA X (e :: es) t) (hn : x ≠ "__name__" := by decide) (hdb : (x == ("__debug__" : Str)) = false := by decide)
    (he : starEach (e :: es) X.env = (false, eval e X.env) :: starEach es X.env := by rfl) (hpl : (backTo pos (starEach es X.env)).any (·.1) = false := by rfl) : PE X (.Call (.Name x p) (e :: es) [] pos) (tCB r t) := by
  intro pins s σ H Q I h
  refine wpAny_Call_Name_kw (ld_blt I hg hm hv ?_ hn hdb)
  exact PyProof.Rows.callWith_type1 (thn (ha pos pins s σ H _ I h) fun us s1 ⟨vs, H1, I1, r1, q1⟩ => hc pins s1 σ H1 vs us Q I1 r1 q1) he hpl
end
end L2

namespace HT
open PySem PyProof.Rows

section
open PySem.SeqAt
open PySem.AutoSeq1 (wpAny_loadPart')
open PySem.MeetsSeq PySem.MeetsSeq2 PySem.MeetsSeq3

end

section
variable {prog : Program} {w : World} {A : Around} {E : Value → Shared → Prop} {s : Shared}

/-- t + u, t not empty -/
theorem cat_tup {t b : Addr} {vs ws : List Value} {Q : Value → Shared → Prop} (ht : IsTup s.heap t vs.toArray) (hb : IsTup s.heap b ws.toArray) (hv : vs ≠ [])
    (h1 : ws = [] → Q (.ref t) s) (h2 : ws ≠ [] → Q (.ref s.heap.objs.size) { s with heap := s.heap.push { cls := .type "tuple", data := .seq (vs ++ ws).toArray } })
    (hsz : vs.length + ws.length ≤ sizeLine) : wpAny (model prog w) A (binaryOp .Add (.ref t) (.ref b)) Q E s := by
  obtain ⟨⟨cls, dd, data, sl⟩, ho, hc, n, hd⟩ := id ht
  obtain ⟨⟨cls2, dd2, data2, sl2⟩, ho2, hc2, n2, hd2⟩ := id hb
  simp only at hc hd hc2 hd2
  subst hc hd hc2 hd2
  have e : vs.toArray ++ ws.toArray = (vs ++ ws).toArray := by simp
  by_cases hw : ws = []
  · exact concat_meets ⟨_, ho, rfl⟩ ⟨_, ho2, rfl⟩ noFill_tuple_add seq_tuple_add PySem.F.slot_tuple_add PySem.F.entry_tuple_add (PySem.F.args_tuple_add_2 _ _)
      (tuple_addW1 t b vs.toArray ws.toArray n n2 dd dd2 sl sl2 (by simpa using hv) (by simp [hw])) ⟨ho, ho2, h1 hw⟩
  · refine concat_meets ⟨_, ho, rfl⟩ ⟨_, ho2, rfl⟩ noFill_tuple_add seq_tuple_add PySem.F.slot_tuple_add PySem.F.entry_tuple_add (PySem.F.args_tuple_add_2 _ _)
      (tuple_addW2 t b vs.toArray ws.toArray n n2 dd dd2 sl sl2 (by simpa using hv) (by simpa using hw) (by rw [List.size_toArray, List.size_toArray]; exact hsz)) ⟨ho, ho2, ?_⟩
    rw [e]
    exact h2 hw

/-- a slice's bound as a place among n (d where it is left out) -/
noncomputable def sIx (n d : Nat) : Option Int → Nat
  | none => d
  | some v => if v < 0 then (v + (n : Int)).toNat else min v.toNat n
theorem sIx_le (n d : Nat) (hd : d ≤ n) (o : Option Int) : sIx n d o ≤ n := by
  cases o with
  | none => exact hd
  | some v =>
    show (if v < 0 then (v + (n : Int)).toNat else min v.toNat n) ≤ n
    by_cases hv : v < 0
    · rw [if_pos hv]; omega
    · rw [if_neg hv]; exact Nat.min_le_right _ _
theorem clip_eq (v : Int) (n d : Nat) : (if v < 0 then max (v + (n : Int)) 0 else min v (n : Int)) = ((sIx n d (some v) : Nat) : Int) := by
  show (if v < 0 then max (v + (n : Int)) 0 else min v (n : Int)) = (((if v < 0 then (v + (n : Int)).toNat else min v.toNat n) : Nat) : Int)
  by_cases hv : v < 0
  · simp only [if_pos hv]; omega
  · simp only [if_neg hv]; omega
theorem adjust_gen (lo hi : Option Int) (n : Nat) : Builtin.Slice.sliceAdjust lo hi 1 (n : Int) = (((sIx n 0 lo : Nat) : Int), ((sIx n n hi : Nat) : Int)) := by
  have h1 : ¬ ((1 : Int) < 0) := by omega
  unfold Builtin.Slice.sliceAdjust
  simp only [h1, if_false]
  refine Prod.ext ?_ ?_
  · cases lo with
    | none => rfl
    | some v => exact clip_eq v n 0
  · cases hi with
    | none => rfl
    | some v => exact clip_eq v n n
theorem places_gen (i j : Nat) : Builtin.Slice.slicePlaces (i : Int) (j : Int) 1 = j - i := by
  unfold Builtin.Slice.slicePlaces
  have h1 : (1 : Int) > 0 := by omega
  simp only [h1, if_true, Int.ediv_one]
  split <;> omega
theorem slicePart_ {v : Value} {o : Option Int} {Q : Option Int → Shared → Prop} (p : IsPart v o) (h : Q o s) : wpAny (model prog w) A (Builtin.Slice.slicePartIndex v) Q E s := by
  cases p with
  | none => exact slicePart_none h
  | int i t => exact slicePart_int h
theorem sliceApplied_gen {sl : Addr} {vl vu : Value} {lo hi : Option Int} {n : Nat} {Q : Int × Int × Nat → Shared → Prop} (hs : s.heap.IsSliceOf sl vl vu .none) (pl : IsPart vl lo) (pu : IsPart vu hi)
    (h : Q (((sIx n 0 lo : Nat) : Int), 1, sIx n n hi - sIx n 0 lo) s) : wpAny (model prog w) A (Builtin.Slice.sliceApplied (.ref sl) (pure (n : Int))) Q E s := by
  obtain ⟨os, hos, hcs, hds⟩ := id hs
  unfold Builtin.Slice.sliceApplied Builtin.Slice.sliceFields
  refine wpAny_bind (wpAny_bind (wpAny_field hos hds (x := vl) rfl (wpAny_bind (wpAny_field hos hds (x := vu) rfl (wpAny_bind (wpAny_field hos hds (x := .none) rfl (wpAny_pure ?_)))))))
  refine wpAny_bind (slicePart_none ?_)
  show wpAny _ _ (if ((1 : Int) == 0) = true then _ else _) _ _ s
  rw [if_neg (by decide)]
  refine wpAny_bind (slicePart_ pl (wpAny_bind (slicePart_ pu (wpAny_bind (wpAny_pure ?_)))))
  show wpAny _ _ (match Builtin.Slice.sliceAdjust lo hi 1 (n : Int) with | (lo, hi) => pure (lo, (1 : Int), Builtin.Slice.slicePlaces lo hi 1)) _ _ s
  rw [adjust_gen lo hi n]
  show wpAny _ _ (pure (((sIx n 0 lo : Nat) : Int), (1 : Int), Builtin.Slice.slicePlaces ((sIx n 0 lo : Nat) : Int) ((sIx n n hi : Nat) : Int) 1)) _ _ s
  rw [places_gen]
  exact wpAny_pure h
theorem pick_gen (xs : Array Value) (i k : Nat) : ((List.range k).filterMap fun (m : Nat) => xs[((i : Int) + (m : Int) * 1).toNat]?).toArray = ((xs.toList.drop i).take k).toArray := by
  have e : (fun (m : Nat) => xs[((i : Int) + (m : Int) * 1).toNat]?) = fun m => xs[i + m]? := by
    funext m
    have : ((i : Int) + (m : Int) * 1).toNat = i + m := by omega
    rw [this]
  rw [e]
  have := pick_run xs i k
  rw [List.filterMap_map] at this
  have e2 : ((fun x => xs[x]?) ∘ fun x => i + x) = fun m => xs[i + m]? := rfl
  rw [e2] at this
  rw [this]

theorem getItem_tuple_cut {t sl : Addr} {items : Array Value} {vl vu : Value} {lo hi : Option Int} {Q : Value → Shared → Prop} (ht : IsTup s.heap t items) (hs : s.heap.IsSliceOf sl vl vu .none) (pl : IsPart vl lo) (pu : IsPart vu hi)
    (hw : ¬ (sIx items.size 0 lo = 0 ∧ sIx items.size items.size hi = items.size))
    (h : Q (.ref s.heap.objs.size) { s with heap := s.heap.push { cls := .type "tuple", data := .seq ((items.toList.drop (sIx items.size 0 lo)).take (sIx items.size items.size hi - sIx items.size 0 lo)).toArray } })
    (hsz : items.size ≤ sizeLine) : wpAny (model prog w) A (getItem (.ref t) (.ref sl)) Q E s := by
  have htake : sizeOk (.seq ((items.toList.drop (sIx items.size 0 lo)).take (sIx items.size items.size hi - sIx items.size 0 lo)).toArray) := by
    show ((items.toList.drop (sIx items.size 0 lo)).take (sIx items.size items.size hi - sIx items.size 0 lo)).toArray.size ≤ sizeLine
    rw [List.size_toArray, List.length_take, List.length_drop, Array.length_toList]
    omega
  have hj : sIx items.size items.size hi ≤ items.size := sIx_le _ _ (Nat.le_refl _) hi
  obtain ⟨os, hos, hcs, hds⟩ := id hs
  have hTs : s.TypeIs (.ref sl) "slice" := ⟨os, hos, hcs⟩
  unfold getItem
  try with_reducible refine wpAny_holding ?_
  first | refine wpAny_bind (wpAny_pure ?_) | skip
  refine wpAny_bind (wpAny_sequenceKey ht.typeIs (by decide) ?_)
  refine wpAny_bind (wpAny_callSpecial?_slot (name := Str.ofString "__getitem__") ht.typeIs PyProof.Rows.slot_tuple_getitem
    (wpAny_call_entry PyProof.Rows.slot_tuple_getitem ht.typeIs entry_tuple_getitem ?_ (args_tuple_getitem _ _)))
  show wpAny _ _ (Builtin.Tuple.tupleItemsOf (.ref t) >>= _) _ _ s
  refine wpAny_bind (tupleItemsOf_ ht ?_)
  refine wpAny_bind (wpAny_typeOf hTs ?_)
  rw [if_pos (by decide)]
  refine wpAny_bind (sliceApplied_gen hs pl pu ?_)
  have hno : ¬ ((((sIx items.size 0 lo : Nat) : Int) == 0 && (1 : Int) == 1 && (sIx items.size items.size hi - sIx items.size 0 lo) == items.size) = true) := by
    intro q
    rw [Bool.and_eq_true, Bool.and_eq_true] at q
    have q1 : ((sIx items.size 0 lo : Nat) : Int) = 0 := eq_of_beq q.1.1
    have q2 : sIx items.size items.size hi - sIx items.size 0 lo = items.size := eq_of_beq q.2
    exact hw ⟨by omega, by omega⟩
  show wpAny _ _ (if (((sIx items.size 0 lo : Nat) : Int) == 0 && (1 : Int) == 1 && (sIx items.size items.size hi - sIx items.size 0 lo) == items.size) = true then _ else _) _ _ s
  rw [if_neg hno, pick_gen]
  first
    | exact wpAny_bind (m := Builtin.Tuple.tupleExact _) (wpAny_newObj_type (wpAny_pure ⟨_, rfl, wpAny_pure h⟩) htake)
    | exact wpAny_bind (m := Builtin.Tuple.tupleExact _) (wpAny_newObj_type (wpAny_bind (wpAny_pure (wpAny_pure ⟨_, rfl, wpAny_pure h⟩))) htake)
    | exact wpAny_bind (wpAny_bind (m := Builtin.Tuple.tupleExact _) (wpAny_newObj_type (wpAny_pure (wpAny_pure ⟨_, rfl, wpAny_pure h⟩)) htake))
    | exact wpAny_bind (wpAny_bind (m := Builtin.Tuple.tupleExact _) (wpAny_newObj_type (wpAny_pure ⟨_, rfl, wpAny_pure h⟩) htake))
end
end HT

namespace L2
open PySem PySem.Spec PyProof.Rows

noncomputable abbrev TO := St → Hp → (Option Int → Hp → Prop) → Prop
/-- a slice's part (left out, or an int) -/
noncomputable def PO (X : Cx) (e : Option Expr) (t : TO) : Prop :=
  ∀ (pins : List (Addr × Obj)) (s : Shared) (σ : St) (H : Hp) (Q : Option Int → Hp → Prop), Inv X pins σ H s → t σ H Q →
    wpAny (model X.prog X.w) X.A (evalPart e X.env) (fun u s' => ∃ o H', Inv X pins σ H' s' ∧ IsPart u o ∧ Q o H') X.xe s
noncomputable def tNoPart : TO := fun _ H Q => Q none H
noncomputable def tPart (t : TE) : TO := fun σ H Q => t σ H fun x H1 => ∃ i, x = .int i ∧ Q (some i) H1

section
variable {X : Cx} {e : Expr} {te : TE} {lo hi : Option Expr} {tl th : TO} {pos p2 : Pos}

theorem po_none : PO X none tNoPart := by
  intro pins s σ H Q I h
  rw [evalPart_none]
  exact wpAny_pure ⟨none, H, I, .none, h⟩
theorem po_some (h : PE X e te) : PO X (some e) (tPart te) := by
  intro pins s σ H Q I hw
  rw [evalPart_some]
  refine thn (h pins s σ H _ I hw) fun u s1 ⟨x, H1, I1, r1, q1⟩ => ?_
  obtain ⟨i, rfl, q⟩ := q1
  obtain ⟨t, rfl⟩ := r1
  exact ⟨some i, H1, I1, .int i t, q⟩

/-- what a slice of a value is, by values: the slice object stands at sl -/
noncomputable def SlR (X : Cx) (r : V → Option Int → Option Int → Hp → VK → Prop) : Prop :=
  ∀ (pins : List (Addr × Obj)) (s : Shared) (σ : St) (H : Hp) (x : V) (v vl vu : Value) (lo hi : Option Int) (sl : Addr) (Q : VK), Inv X pins σ H s → RelV x v → s.heap.IsSliceOf sl vl vu .none → IsPart vl lo → IsPart vu hi → r x lo hi H Q →
    ∃ T id, typeLookup (.type T) "__getitem__" = pure (some (.builtin id)) ∧ s.TypeIs v T ∧ wpAny (model X.prog X.w) X.A (getItem v (.ref sl)) (EP X pins σ Q) X.xe s
theorem SlR.or {r r' : V → Option Int → Option Int → Hp → VK → Prop} (h : SlR X r) (h' : SlR X r') : SlR X (fun x lo hi H Q => r x lo hi H Q ∨ r' x lo hi H Q) := by
  intro pins s σ H x v vl vu lo hi sl Q I rx hs pl pu q
  rcases q with q | q
  · exact h pins s σ H x v vl vu lo hi sl Q I rx hs pl pu q
  · exact h' pins s σ H x v vl vu lo hi sl Q I rx hs pl pu q
noncomputable def tSl (r : V → Option Int → Option Int → Hp → VK → Prop) (te : TE) (tl th : TO) : TE := fun σ H Q => te σ H fun x H1 => tl σ H1 fun l H2 => th σ H2 fun u H3 => r x l u H3 Q
/-- a[lo:hi], any a -/
theorem pe_slice {r : V → Option Int → Option Int → Hp → VK → Prop} (hr : SlR X r) (he : PE X e te) (hl : PO X lo tl) (hu : PO X hi th) : PE X (.Subscript e (.Slice lo hi none p2) pos) (tSl r te tl th) := by
  intro pins s σ H Q I h
  refine Subscript_ (thn (he pins s σ H _ I h) fun v s1 ⟨x, H1, I1, r1, q1⟩ => ?_)
  refine wpAny_Slice (thn (hl pins s1 σ H1 _ I1 q1) fun vl s2 ⟨l, H2, I2, pl, q2⟩ => thn (hu pins s2 σ H2 _ I2 q2) fun vu s3 ⟨u, H3, I3, pu, q3⟩ => ?_)
  rw [evalPart_none]
  refine wpAny_pure ?_
  have I4 : Inv X pins σ H3 { s3 with heap := s3.heap.push { cls := .type "slice", data := .fields #[vl, vu, .none] } } := I3.kept (t' := s3.toks) fun b ob q => Heap.get?_push_of_some _ q
  obtain ⟨T, id, hT, ht, hg⟩ := hr pins { s3 with heap := s3.heap.push { cls := .type "slice", data := .fields #[vl, vu, .none] } } σ H3 x v vl vu l u s3.heap.objs.size Q I4 r1 (Heap.IsSliceOf.new ..) pl pu q3
  show wpAny (model X.prog X.w) X.A (subscriptTail e (.Slice lo hi none p2) v (.ref s3.heap.objs.size)) (EP X pins σ Q) X.xe { s3 with heap := s3.heap.push { cls := .type "slice", data := .fields #[vl, vu, .none] } }
  exact tail_any (ops := [.ref s3.heap.objs.size, v]) ht hT hg (by with_unfolding_all rfl)

/-- the items of xs[lo:hi] -/
noncomputable def cutV (xs : List V) (lo hi : Option Int) : List V := (xs.drop (HT.sIx xs.length 0 lo)).take (HT.sIx xs.length xs.length hi - HT.sIx xs.length 0 lo)
theorem cutV_length (xs : List V) (lo hi : Option Int) : (cutV xs lo hi).length ≤ xs.length := by
  unfold cutV
  rw [List.length_take, List.length_drop]
  omega
/-- t[lo:hi], not the whole of it (the whole would be t itself) -/
noncomputable def rSlT (K : PySem.W.Frag) : V → Option Int → Option Int → Hp → VK → Prop := fun x lo hi H Q => ∃ a xs, x = .ref a ∧ SqT K H a xs ∧
  ¬ (HT.sIx xs.length 0 lo = 0 ∧ HT.sIx xs.length xs.length hi = xs.length) ∧ ∀ p, H p = none → Q (.ref p) (upd H p (.tup (cutV xs lo hi)))
theorem sl_tup : SlR X (rSlT X.K) := by
  intro pins s σ H x v vl vu lo hi sl Q I rx hs pl pu h
  obtain ⟨a, xs, rfl, hx, hw, q⟩ := h
  cases rx
  obtain ⟨its, r, ht, hz⟩ := I.tuple hx
  have hlen : its.toArray.size = xs.length := by rw [List.size_toArray]; exact r.length.symm
  refine ⟨"tuple", _, PyProof.Rows.slot_tuple_getitem.lookup, ht.typeIs, ?_⟩
  refine HT.getItem_tuple_cut ht hs pl pu (by rw [hlen]; exact hw) ?_ (by rw [hlen]; exact hz)
  rw [hlen]
  refine ⟨.ref s.heap.objs.size, _, I.laid (t' := s.toks) (o := .tup (cutV xs lo hi)) (fun b ob q => Heap.get?_push_of_some _ q) (Nat.le_refl _) ?_, rfl, q _ (I.hok.fresh (Nat.le_refl _))⟩
  exact ⟨Nat.le_trans (cutV_length xs lo hi) hz, _, (r.drop (HT.sIx xs.length 0 lo)).take (HT.sIx xs.length xs.length hi - HT.sIx xs.length 0 lo), IsTup.new _ _⟩

/-- t + u, t not empty: u empty gives t itself -/
noncomputable def rCatT (K : PySem.W.Frag) : R2 := fun x y H Q => ∃ a b xs ys, x = .ref a ∧ y = .ref b ∧ SqT K H a xs ∧ SqT K H b ys ∧ xs ≠ [] ∧ xs.length + ys.length ≤ sizeLine ∧
  (ys = [] → Q (.ref a) H) ∧ (ys ≠ [] → ∀ p, H p = none → Q (.ref p) (upd H p (.tup (xs ++ ys))))
theorem Vals.nil_iff {xs : List V} {us : List Value} (r : Vals xs us) : us = [] ↔ xs = [] := by
  cases r with
  | nil => simp
  | cons _ _ => simp
theorem op_catT : OpR X (binaryOp .Add) (rCatT X.K) := by
  intro pins s σ H x y v u Q I rx ry h
  obtain ⟨a, b, xs, ys, rfl, rfl, ha, hb, hx, hz, q1, q2⟩ := h
  cases rx
  cases ry
  obtain ⟨its, r1, p1, _⟩ := I.tuple ha
  obtain ⟨its2, r2, p2, _⟩ := I.tuple hb
  refine HT.cat_tup p1 p2 (fun z => hx (r1.nil_iff.mp z)) (fun z => ⟨.ref a, H, I, rfl, q1 (r2.nil_iff.mp z)⟩) (fun z => ?_) (by rw [← r1.length, ← r2.length]; exact hz)
  refine ⟨.ref s.heap.objs.size, _, I.laid (t' := s.toks) (o := .tup (xs ++ ys)) (fun b ob q => Heap.get?_push_of_some _ q) (Nat.le_refl _) ?_, rfl, q2 (fun w => z (r2.nil_iff.mpr w)) _ (I.hok.fresh (Nat.le_refl _))⟩
  exact ⟨by rw [List.length_append]; exact hz, _, r1.append r2, IsTup.new _ _⟩
end
end L2

namespace L2
open PySem PySem.Spec PyProof.Rows

/-- the place that an index of any sign means -/
noncomputable def ixN (n : Nat) (i : Int) : Option Nat := if 0 ≤ i then (if i < n then some i.toNat else none) else if -(n : Int) ≤ i then some (i + n).toNat else none
noncomputable def atI {α : Type} (xs : List α) (i : Int) : Option α := (ixN xs.length i).bind fun j => xs[j]?
theorem ixN_seq {n : Nat} {i : Int} {j : Nat} (h : ixN n i = some j) : seqIndex? i n = some j ∧ j < n ∧ -(n : Int) ≤ i ∧ i < n := by
  unfold ixN at h
  by_cases h0 : 0 ≤ i
  · rw [if_pos h0] at h
    by_cases h1 : i < n
    · rw [if_pos h1] at h
      have e : i.toNat = j := Option.some.inj h
      exact ⟨by rw [seqIndex_of h0 h1, e], by omega, by omega, h1⟩
    · rw [if_neg h1] at h; cases h
  · rw [if_neg h0] at h
    by_cases h1 : -(n : Int) ≤ i
    · rw [if_pos h1] at h
      have e : (i + n).toNat = j := Option.some.inj h
      exact ⟨by rw [seqIndex_neg (by omega) h1, e], by omega, h1, by omega⟩
    · rw [if_neg h1] at h; cases h
theorem atI_get {α : Type} {xs : List α} {i : Int} {v : α} (h : atI xs i = some v) : ∃ j, seqIndex? i xs.length = some j ∧ xs[j]? = some v ∧ j < xs.length ∧ -(xs.length : Int) ≤ i ∧ i < xs.length := by
  unfold atI at h
  cases e : ixN xs.length i with
  | none => rw [e] at h; cases h
  | some j =>
    rw [e] at h
    obtain ⟨h1, h2, h3, h4⟩ := ixN_seq e
    exact ⟨j, h1, h, h2, h3, h4⟩
theorem atI_nat {α : Type} {xs : List α} {j : Nat} {v : α} (h : xs[j]? = some v) : atI xs (j : Int) = some v := by
  have hj : j < xs.length := (List.getElem?_eq_some_iff.mp h).1
  have e : ixN xs.length (j : Int) = some j := by
    unfold ixN
    rw [if_pos (by omega), if_pos (by omega)]; simp
  unfold atI; rw [e]; exact h
theorem atI_last {α : Type} (xs : List α) (v : α) : atI (xs ++ [v]) (-1) = some v := by
  have hl : (xs ++ [v]).length = xs.length + 1 := by simp
  have e : ixN (xs ++ [v]).length (-1) = some xs.length := by
    unfold ixN
    rw [hl, if_neg (by decide), if_pos (by omega)]
    congr 1
    omega
  unfold atI
  rw [e]
  show (xs ++ [v])[xs.length]? = some v
  simp

/-- what stands as an index of a plain subscript -/
noncomputable def PlainIx (b : Expr) : Prop := ∀ o i, subscripted b false o i = operate [o, i] (getItem o i)
/-- a subscript by values -/
noncomputable def IxR (X : Cx) (r : R2) : Prop :=
  ∀ (value slice : Expr) (pins : List (Addr × Obj)) (s : Shared) (σ : St) (H : Hp) (x y : V) (v u : Value) (Q : VK), Inv X pins σ H s → RelV x v → RelV y u → r x y H Q →
    subscripted slice false v u = operate [v, u] (getItem v u) → wpAny (model X.prog X.w) X.A (subscriptTail value slice v u) (EP X pins σ Q) X.xe s
/-- a call of a builtin's method by values: the receiver, the arguments -/
noncomputable def MtR (X : Cx) (id : String) (r : V → List V → Hp → VK → Prop) : Prop :=
  ∀ (pins : List (Addr × Obj)) (s : Shared) (σ : St) (H : Hp) (x : V) (xs : List V) (v : Value) (us : List Value) (Q : VK), Inv X pins σ H s → RelV x v → Vals xs us → r x xs H Q →
    wpAny (model X.prog X.w) X.A (call (.builtin id) (v :: us)) (EP X pins σ Q) X.xe s
section
variable {X : Cx} {a b : Expr} {ta tb : TE} {pos : Pos}
theorem IxR.or {r r' : R2} (h : IxR X r) (h' : IxR X r') : IxR X (fun x y H Q => r x y H Q ∨ r' x y H Q) := by
  intro value slice pins s σ H x y v u Q I rx ry q hs
  rcases q with q | q
  · exact h value slice pins s σ H x y v u Q I rx ry q hs
  · exact h' value slice pins s σ H x y v u Q I rx ry q hs
/-- a[b] -/
theorem pe_ix {r : R2} (hr : IxR X r) (ha : PE X a ta) (hb : PE X b tb) (hs : PlainIx b) : PE X (.Subscript a b pos) (tOp r ta tb) := by
  intro pins s σ H Q I h
  exact Subscript_ (binT ha hb I h fun v u s2 x y H2 I2 rx ry q => hr a b pins s2 σ H2 x y v u Q I2 rx ry q (hs _ _))

noncomputable def rIxL (K : PySem.W.Frag) : R2 := fun x y H Q => ∃ p xs i v, x = .ref p ∧ y = .int i ∧ SqL K H p xs ∧ atI xs i = some v ∧ Q v H
noncomputable def rIxT (K : PySem.W.Frag) : R2 := fun x y H Q => ∃ p xs i v, x = .ref p ∧ y = .int i ∧ SqT K H p xs ∧ atI xs i = some v ∧ Q v H
noncomputable def rIxS : R2 := fun x y H Q => ∃ z i c, x = .str z ∧ y = .int i ∧ z.length ≤ sizeLine ∧ atI z.cps.toList i = some c ∧ Q (.str ⟨#[c]⟩) H
theorem ix_list : IxR X (rIxL X.K) := by
  intro value slice pins s σ H x y v u Q I rx ry h hs
  obtain ⟨p, xs, i, z, rfl, rfl, hq, he, q⟩ := h
  cases rx
  obtain ⟨t, rfl⟩ := ry
  obtain ⟨its, r, pl, hz⟩ := I.list hq
  obtain ⟨j, h1, h2, h3, h4, h5⟩ := atI_get he
  obtain ⟨w, ew, rw'⟩ := r.get h2
  have hl := r.length
  have hn := line63
  have fin : EP X pins σ Q w s := ⟨z, H, I, rw', q⟩
  by_cases h0 : 0 ≤ i
  · have hj : i.toNat = j := by
      rw [seqIndex_of h0 h5] at h1
      exact Option.some.inj h1
    exact item_listR pl.isList h0 (by omega) (by rw [hj]; simpa using ew) fin hs
  · have hj : (i + (its.toArray.size : Int)).toNat = j := by
      rw [seqIndex_neg (by omega) h4] at h1
      rw [List.size_toArray, ← hl]
      exact Option.some.inj h1
    exact subscriptTail_builtinR (x := w) pl.isList.typeIs slot_list_getitem.lookup
      (wpAny_getItem_list_neg (Q := fun r s' => r = w ∧ EP X pins σ Q r s') pl.isList (by omega) (by rw [List.size_toArray] <;> omega) (by omega) (by rw [hj]; simpa using ew) ⟨rfl, fin⟩) hs
theorem ix_tup : IxR X (rIxT X.K) := by
  intro value slice pins s σ H x y v u Q I rx ry h hs
  obtain ⟨p, xs, i, z, rfl, rfl, hq, he, q⟩ := h
  cases rx
  obtain ⟨t, rfl⟩ := ry
  obtain ⟨its, r, pl, hz⟩ := I.tuple hq
  obtain ⟨j, h1, h2, h3, h4, h5⟩ := atI_get he
  obtain ⟨w, ew, rw'⟩ := r.get h2
  have hl := r.length
  have hn := line63
  have fin : EP X pins σ Q w s := ⟨z, H, I, rw', q⟩
  exact subscriptTail_builtinR (x := w) pl.typeIs slot_tuple_getitem.lookup
    (getItem_tuple (j := j) (Q := fun r s' => r = w ∧ EP X pins σ Q r s') pl (by omega) (by omega) (by rw [List.size_toArray, ← hl]; exact h1) (by simpa using ew) ⟨rfl, fin⟩) hs
theorem ix_str : IxR X rIxS := by
  intro value slice pins s σ H x y v u Q I rx ry h hs
  obtain ⟨z, i, c, rfl, rfl, hz, he, q⟩ := h
  obtain ⟨t, rfl⟩ := rx
  obtain ⟨t', rfl⟩ := ry
  obtain ⟨j, h1, h2, h3, h4, h5⟩ := atI_get he
  have hl : z.cps.toList.length = z.length := by simp [Str.length]
  rw [hl] at h1 h4 h5
  have hn := line63
  exact tail_any (typeIs_str s z t) slot_str_getitem.lookup (getItem_str (c := c) (by
    have e1 : decide (i < -(2 ^ 63 : Int)) = false := decide_eq_false (by omega)
    have e2 : decide (i ≥ 2 ^ 63) = false := decide_eq_false (by omega)
    rw [e1, e2, Bool.or_false]) (by rw [h1]; simpa using h2) ⟨.str ⟨#[c]⟩, H, I.tok _, ⟨_, rfl⟩, q⟩) hs
/-- list, tuple or str -/
noncomputable def rIx (K : PySem.W.Frag) : R2 := fun x y H Q => rIxL K x y H Q ∨ rIxT K x y H Q ∨ rIxS x y H Q
theorem ix_seq : IxR X (rIx X.K) := ix_list.or (ix_tup.or ix_str)

theorem slice_bounds (lo hi : Option Int) (n : Nat) : (sliceBounds lo hi none n).1 = ((HT.sIx n 0 lo : Nat) : Int) ∧ (sliceBounds lo hi none n).2.1 = ((HT.sIx n n hi : Nat) : Int) ∧ (sliceBounds lo hi none n).2.2 = 1 := by
  refine ⟨?_, ?_, rfl⟩
  · cases lo with
    | none => simp [sliceBounds, HT.sIx]
    | some i =>
      simp only [sliceBounds, HT.sIx, Option.getD_none, show (1 : Int) > 0 by decide, if_true]
      by_cases h : i < 0
      · simp only [h, if_true] <;> omega
      · simp only [h, if_false] <;> omega
  · cases hi with
    | none => simp [sliceBounds, HT.sIx]
    | some i =>
      simp only [sliceBounds, HT.sIx, Option.getD_none, show (1 : Int) > 0 by decide, if_true]
      by_cases h : i < 0
      · simp only [h, if_true] <;> omega
      · simp only [h, if_false] <;> omega
theorem slicePick_cut (its : List Value) (lo hi : Option Int) : slicePick its.toArray lo hi none = ((its.drop (HT.sIx its.length 0 lo)).take (HT.sIx its.length its.length hi - HT.sIx its.length 0 lo)).toArray := by
  obtain ⟨h1, h2, h3⟩ := slice_bounds lo hi its.toArray.size
  unfold slicePick
  rw [h1, h2, h3]
  simp only [sliceRange_one, pick_run, List.size_toArray] <;> rfl
/-- xs[lo:hi] of a list: a new list -/
noncomputable def rSlL (K : PySem.W.Frag) : V → Option Int → Option Int → Hp → VK → Prop := fun x lo hi H Q => ∃ a xs, x = .ref a ∧ SqL K H a xs ∧ ∀ p, H p = none → Q (.ref p) (upd H p (.lst (cutV xs lo hi)))
theorem sl_list : SlR X (rSlL X.K) := by
  intro pins s σ H x v vl vu lo hi sl Q I rx hs pl pu h
  obtain ⟨a, xs, rfl, hx, q⟩ := h
  cases rx
  obtain ⟨its, r, ht, hz⟩ := I.list hx
  have hlen := r.length
  refine ⟨"list", _, slot_list_getitem.lookup, ht.isList.typeIs, ?_⟩
  refine wpAny_getItem_list_slice ht.isList hs pl pu .none (by simp) ?_ (by rw [List.size_toArray] <;> omega)
  rw [slicePick_cut, ← hlen]
  refine ⟨.ref s.heap.objs.size, _, I.laid (t' := s.toks) (o := .lst (cutV xs lo hi)) (fun b ob q => Heap.get?_push_of_some _ q) (Nat.le_refl _) ?_, rfl, q _ (I.hok.fresh (Nat.le_refl _))⟩
  exact ⟨Nat.le_trans (cutV_length xs lo hi) hz, _, 0, (r.drop (HT.sIx xs.length 0 lo)).take (HT.sIx xs.length xs.length hi - HT.sIx xs.length 0 lo), Heap.get?_push_size _ rfl⟩

noncomputable def flatV : V → Bool
  | .non => true
  | .bl _ => true
  | .int _ => true
  | .str _ => true
  | _ => false
/-- == of flat values -/
noncomputable def eqV : V → V → Bool
  | .non, .non => true
  | .bl a, .bl b => a == b
  | .bl a, .int b => (if a then 1 else 0) == b
  | .int a, .bl b => a == (if b then 1 else 0)
  | .int a, .int b => a == b
  | .str a, .str b => a == b
  | _, _ => false
noncomputable def inV (x : V) (xs : List V) : Bool := xs.any fun y => eqV y x
theorem call_len_seq : CallR X (.builtin "len") (fun xs H Q => ∃ p ys, xs = [.ref p] ∧ (SqL X.K H p ys ∨ SqT X.K H p ys) ∧ Q (.int ys.length) H) := by
  intro pins s σ H xs us Q I r h
  obtain ⟨p, ys, rfl, hq, q⟩ := h
  obtain ⟨u, rfl, rx⟩ := vals1 r
  cases rx
  have hn := line63
  rcases hq with hq | hq
  · obtain ⟨its, r', pl, hz⟩ := I.list hq
    have hlen := r'.length
    exact Calls.call_len_list pl.isList (by simp only [List.size_toArray] <;> omega) ⟨.int ys.length, H, I.tok _, ⟨s.toks + 1, by rw [List.size_toArray, hlen]⟩, q⟩
  · obtain ⟨its, r', pl, hz⟩ := I.tuple hq
    have hlen := r'.length
    exact len_tuple pl (by simp only [List.size_toArray] <;> omega) ⟨.int ys.length, H, I.tok _, ⟨s.toks + 1, by rw [List.size_toArray, hlen]⟩, q⟩
theorem call_len_str : CallR X (.builtin "len") (fun xs H Q => ∃ z, xs = [.str z] ∧ z.length ≤ sizeLine ∧ Q (.int z.length) H) := by
  intro pins s σ H xs us Q I r h
  obtain ⟨z, rfl, hz, q⟩ := h
  obtain ⟨u, rfl, t, rfl⟩ := vals1 r
  have hn := line63
  exact len_str (by omega) ⟨.int z.length, H, I.tok _, ⟨_, rfl⟩, q⟩
theorem CallR.or {f : Value} {r r' : List V → Hp → VK → Prop} (h : CallR X f r) (h' : CallR X f r') : CallR X f (fun xs H Q => r xs H Q ∨ r' xs H Q) := by
  intro pins s σ H xs us Q I rs q
  rcases q with q | q
  · exact h pins s σ H xs us Q I rs q
  · exact h' pins s σ H xs us Q I rs q
theorem call_list_of : CallR X (.type "list") (fun xs H Q => ∃ p ys, xs = [.ref p] ∧ (SqL X.K H p ys ∨ SqT X.K H p ys) ∧ ∀ l, H l = none → Q (.ref l) (upd H l (.lst ys))) := by
  intro pins s σ H xs us Q I r h
  obtain ⟨p, ys, rfl, hq, q⟩ := h
  obtain ⟨u, rfl, rx⟩ := vals1 r
  cases rx
  have fin : ∀ (its : List Value), Vals ys its → ys.length ≤ sizeLine → ∀ (h' : Heap) (c' : Nat), (∀ b o', s.heap.get? b = some o' → h'.get? b = some o') →
      h'.get? s.heap.objs.size = some { cls := .type "list", dict := none, data := .seq its.toArray c', slots := #[] } → EP X pins σ Q (.ref s.heap.objs.size) { s with heap := h' } := fun its r' hz h' c' kp e =>
    ⟨.ref s.heap.objs.size, _, I.laid (t' := s.toks) kp (Nat.le_refl _) (show ObjOk X.prog X.w _ h' _ (.lst ys) from ⟨hz, its, c', r', e⟩), rfl, q _ (I.hok.fresh (Nat.le_refl _))⟩
  rcases hq with hq | hq
  · obtain ⟨its, r', pl, hz⟩ := I.list hq
    have hlen := r'.length
    obtain ⟨o, ho, hc, n, hd⟩ := pl.isList
    exact call_list_seq p (.inl rfl) ho hc hd (fun h' c' kp e => fin its r' hz h' c' kp e) (by simp only [List.size_toArray] <;> omega)
  · obtain ⟨its, r', pl, hz⟩ := I.tuple hq
    have hlen := r'.length
    obtain ⟨o, ho, hc, n, hd⟩ := pl
    exact call_list_seq p (.inr rfl) ho hc hd (fun h' c' kp e => fin its r' hz h' c' kp e) (by simp only [List.size_toArray] <;> omega)
/-- the value is of that builtin type -/
noncomputable def tyV (K : PySem.W.Frag) (T : String) (x : V) (H : Hp) : Prop := match x with
  | .str _ => T = "str"
  | .int _ => T = "int"
  | .ref p => (T = "list" ∧ ∃ xs, SqL K H p xs) ∨ (T = "tuple" ∧ ∃ o, K.lookup p = some o ∧ o.cls = .type "tuple" ∧ o.dict = none) ∨
      (T = "dict" ∧ ((∃ kvs, H p = some (.dK kvs)) ∨ ∃ kvs, H p = some (.dT kvs))) ∨ (T = "set" ∧ ∃ S n, H p = some (.set S n))
  | _ => False
theorem tyV_is {pins : List (Addr × Obj)} {σ : St} {H : Hp} {s : Shared} {T : String} {x : V} {v : Value} (I : Inv X pins σ H s) (r : RelV x v) (ty : tyV X.K T x H) :
    s.TypeIs v T ∧ ∀ a, v = .ref a → ∃ ob, s.heap.get? a = some ob ∧ ob.dict = none := by
  cases x with
  | str z =>
    obtain ⟨t, rfl⟩ := r
    cases (show T = "str" from ty)
    exact ⟨typeIs_str s z t, fun _ e => nomatch e⟩
  | int i =>
    obtain ⟨t, rfl⟩ := r
    cases (show T = "int" from ty)
    exact ⟨typeIs_int s i t, fun _ e => nomatch e⟩
  | ref p =>
    cases r
    rcases ty with ⟨rfl, xs, hq⟩ | ⟨rfl, o, hk, hc, hd⟩ | ⟨rfl, hk⟩ | ⟨rfl, S, n, hk⟩
    · obtain ⟨its, _, pl, _⟩ := I.list hq
      refine ⟨pl.isList.typeIs, fun a e => ?_⟩
      cases e
      obtain ⟨o, n, e, c, hd, _⟩ := pl
      exact ⟨o, e, hd⟩
    · refine ⟨⟨o, I.kIn p o hk, hc⟩, fun a e => ?_⟩
      cases e
      exact ⟨o, I.kIn _ o hk, hd⟩
    · have z : ∃ o, s.heap.get? p = some o ∧ o.ExactDict := by
        rcases hk with ⟨kvs, hk⟩ | ⟨kvs, hk⟩
        · obtain ⟨_, _, _, _, o, _, _, e, ex, _⟩ := I.hok p _ hk
          exact ⟨o, e, ex⟩
        · obtain ⟨_, _, _, _, o, _, _, e, ex, _⟩ := I.hok p _ hk
          exact ⟨o, e, ex⟩
      obtain ⟨o, e, ex⟩ := z
      refine ⟨⟨o, e, ex.1⟩, fun a e2 => ?_⟩
      cases e2
      exact ⟨o, e, ex.2.1⟩
    · obtain ⟨o, _, _, _, e, ex, _⟩ := I.hok p _ hk
      refine ⟨⟨o, e, ex.1⟩, fun a e2 => ?_⟩
      cases e2
      exact ⟨o, e, ex.2.1⟩
  | _ => exact False.elim ty
noncomputable def tBM0 (K : PySem.W.Frag) (T : String) (r : V → List V → Hp → VK → Prop) (to : TE) : TE := fun σ H Q => to σ H fun x H1 => tyV K T x H1 ∧ r x [] H1 Q
noncomputable def tBM (K : PySem.W.Frag) (T : String) (r : V → List V → Hp → VK → Prop) (to : TE) (t : TA) : TE := fun σ H Q => to σ H fun x H1 => tyV K T x H1 ∧ t σ H1 fun xs H2 => r x xs H2 Q
variable {o e : Expr} {es : List Expr} {to : TE} {t : TA} {name : Str} {apos cpos : Pos} {T id : String} {r : V → List V → Hp → VK → Prop}
theorem pe_bm (pa : PlainAttrs T) (slot : Slot T name id) (hty : typeOf (.builtin id) = pure (.type "method_descriptor")) (hm : MtR X id r) (ho : PE X o to) (ha : PA X (e :: es) t)
    (hbase : attributeBase o name X.env (eval o X.env) = eval o X.env := by rfl)
    (hfew : ((backTo cpos (starEach (e :: es) X.env)).all (fun x => !x.1) && (backToKw cpos (keywordEach [] X.env)).all (fun x => x.1.isSome)
      && decide ((e :: es).length + ([] : List Keyword).length + (if ([] : List Keyword).isEmpty then 0 else 1) < 30)) = true := by rfl)
    (hline : (apos.endLine == cpos.line) = true := by rfl) (hs : starEach (e :: es) X.env = (false, eval e X.env) :: starEach es X.env := by rfl) (hplain : (backTo cpos (starEach es X.env)).any (·.1) = false := by rfl) :
    PE X (.Call (.Attribute o name apos) (e :: es) [] cpos) (tBM X.K T r to t) := by
  intro pins s σ H Q I h
  refine wpAny_Call_method_late hbase hfew hline rfl (thn (ho pins s σ H _ I h) fun v s1 ⟨x, H1, I1, r1, ty, q1⟩ => ?_)
  obtain ⟨h1, h2⟩ := tyV_is I1 r1 ty
  refine ⟨T, id, pa, slot, hty, h1, h2, ?_⟩
  have hA := ha cpos pins s1 σ H1 _ I1 q1
  rw [hs] at hA ⊢
  refine Calls.callWith_builtin (by show (false || (backTo cpos (starEach es X.env)).any (·.1)) = false; rw [hplain] <;> rfl) (Calls.evalArgs_plain ?_)
  exact thn hA fun us s2 ⟨vs, H2, I2, r2, q2⟩ => hm pins s2 σ H2 x vs v us Q I2 r1 r2 q2
/- xs.append(e), list.index on a module's tuple .. are MtR facts of 06m -/
end
end L2

namespace L2
open PySem PySem.Spec PyProof.Rows

noncomputable def MtM (X : Cx) (id : String) (r : V → List V → Hp → VK → Prop) : Prop :=
  ∀ (pins : List (Addr × Obj)) (s : Shared) (σ : St) (H : Hp) (x : V) (xs : List V) (v : Value) (us : List Value) (Q : VK), Inv X pins σ H s → RelV x v → Vals xs us → r x xs H Q →
    wpAny (model X.prog X.w) X.A (call (.builtin id) (v :: us)) (EP X pins σ Q) X.xe s

theorem Vals.one : ∀ {x : V} {us : List Value}, Vals [x] us → ∃ u, us = [u] ∧ RelV x u
  | _, _, .cons r .nil => ⟨_, rfl, r⟩
section
variable {X : Cx} {pins : List (Addr × Obj)} {σ : St} {H : Hp} {s : Shared} {l b : Addr} {xs ys zs : List V}

theorem Inv.lset {its its' : List Value} {n : Nat} {f : Array Value → Array Value} {t' : Nat} (I : Inv X pins σ H s) (hH : H l = some (.lst xs))
    (e : s.heap.get? l = some { cls := .type "list", data := .seq its.toArray n }) (hf : f its.toArray = its'.toArray) (hv : Vals ys its') (hz : ys.length ≤ sizeLine) :
    Inv X pins σ (upd H l (.lst ys)) { s with heap := s.heap.update l (Obj.mapSeq f), toks := t' } := by
  have q := PySem.IsL.update e f
  rw [hf] at q
  refine I.write (x := l) (e := l) (by rw [hH]; exact trivial) (.inl rfl) (fun b' u hb hu => (Heap.get?_update_other s.heap (Obj.mapSeq f) (Ne.symm hb)).trans hu) ⟨_, q⟩ ?_
  exact ⟨hz, its', _, hv, q⟩
theorem Inv.lnew {its : List Value} {t' : Nat} (I : Inv X pins σ H s) (hv : Vals ys its) (hz : ys.length ≤ sizeLine) :
    Inv X pins σ (upd H s.heap.objs.size (.lst ys)) { s with heap := s.heap.push { cls := .type "list", data := .seq its.toArray }, toks := t' } :=
  I.laid (fun _ _ q => Heap.get?_push_of_some _ q) (Nat.le_refl _) ⟨hz, its, 0, hv, Heap.get?_push_size _ rfl⟩
theorem Inv.fresh (I : Inv X pins σ H s) : H s.heap.objs.size = none := I.hok.fresh (Nat.le_refl _)
theorem Inv.lstM (I : Inv X pins σ H s) (hH : H l = some (.lst xs)) : xs.length ≤ sizeLine ∧ ∃ (its : List Value) (n : Nat), Vals xs its ∧ xs.length = its.length ∧ s.heap.get? l = some { cls := .type "list", data := .seq its.toArray n } := by
  obtain ⟨z, its, n, r, e⟩ := I.hok l _ hH
  exact ⟨z, its, n, r, r.length, e⟩

end

section
variable {X : Cx}

noncomputable def rAppend : V → List V → Hp → VK → Prop := fun x vs H Q => ∃ l xs y, x = .ref l ∧ vs = [y] ∧ H l = some (.lst xs) ∧ xs.length < sizeLine ∧ Q .non (upd H l (.lst (xs ++ [y])))
theorem mt_append : MtM X "list.append" rAppend := by
  intro pins s σ H x vs v us Q I rx rv h
  obtain ⟨l, xs, y, rfl, rfl, hH, hz, q⟩ := h
  cases rx
  obtain ⟨u, rfl, ru⟩ := rv.one
  obtain ⟨z, its, n, r, hl, e⟩ := I.lstM hH
  refine call_meets F.slot_list_append ⟨_, e, rfl⟩ F.entry_list_append (F.args_list_append_2 _ _) (PySem.list_append l its.toArray n u (by rw [List.size_toArray]; omega)) ⟨e, ?_⟩
  refine ⟨.non, _, I.lset (its' := its ++ [u]) hH e (by simp) (r.append (.cons ru .nil)) ?_, rfl, q⟩
  rw [List.length_append, List.length_singleton]
  omega

noncomputable def rCat : R2 := fun x y H Q => ∃ l b xs zs, x = .ref l ∧ y = .ref b ∧ H l = some (.lst xs) ∧ H b = some (.lst zs) ∧ xs.length + zs.length ≤ sizeLine ∧ ∀ p, H p = none → Q (.ref p) (upd H p (.lst (xs ++ zs)))
theorem op_cat : OpR X (binaryOp .Add) rCat := by
  intro pins s σ H x y v u Q I rx ry h
  obtain ⟨l, b, xs, zs, rfl, rfl, hH, hB, hz, q⟩ := h
  cases rx
  cases ry
  obtain ⟨z, its, n, r, hl, e⟩ := I.lstM hH
  obtain ⟨z2, its2, n2, r2, hl2, e2⟩ := I.lstM hB
  refine PySem.P.add_list e e2 ?_ (by rw [List.size_toArray, List.size_toArray]; omega)
  have ea : its.toArray ++ its2.toArray = (its ++ its2).toArray := by simp
  rw [ea]
  exact ⟨.ref _, _, I.lnew (t' := s.toks) (r.append r2) (by rw [List.length_append]; omega), rfl, q _ I.fresh⟩
end

section
variable {prog : Program} {w : World} {A : Around} {E : Value → Shared → Prop} {s : Shared}
end

section
variable {X : Cx}
end
end L2

namespace Att
open PySem PySem.W PySem.Calls PyProof.Rows

theorem ints_of_wellAll {P : Params} {h : Heap} : ∀ (ns : List Int) (vs : List Value), WellAll P h vs (ns.map WData.int) → IntsAre vs ns := by
  intro ns
  induction ns with
  | nil =>
    intro vs w
    rw [List.map_nil] at w
    cases w
    exact .nil
  | cons n ns ih =>
    intro vs w
    rw [List.map_cons] at w
    cases w with
    | cons a b =>
      cases a
      exact .cons _ _ (ih _ b)

theorem script_of {l : OpenLaw} {n : Nat} (hn : l.most = some n) {P : Params} {h : Heap} {args : List WData} {vals : List Value}
    (hpre : l.row.toRowW.claim.pre args = true) (hwl : WellAll P h vals args) :
    ∃ a vs ns, vals = [Value.ref a] ∧ args = [WData.list (ns.map WData.int)] ∧ h.get? a = some { cls := .type "list", data := .seq vs.toArray } ∧ IntsAre vs ns ∧ ns.length ≤ n := by
  have hsh : WShape.hasAll [] args [.list .int] = true := (pre_splitW hpre).1
  have hc : l.pre.holds [] { args := args } = true := (pre_splitW hpre).2
  obtain ⟨d, r, rfl, h1, h2⟩ := hasAllW_cons hsh
  obtain rfl := hasAllW_nil h2
  obtain ⟨xs, rfl, h3⟩ := hasW_list h1
  obtain ⟨ns, rfl⟩ := items_int h3
  have hlen : ns.length ≤ n := by
    unfold OpenLaw.pre at hc
    have h4 : (WTm.not (.lt (.lit (.int (n : Int))) (.len (.arg 0)))).holds [] { args := [.list (ns.map .int)] } = true := by
      have h4 := (holds_andW hc).1
      rw [hn] at h4
      exact h4
    have h5 := condW_of h4 (w_not (w_lt w_lit (w_len_list (w_arg rfl))))
    rw [List.length_map] at h5
    refine Nat.le_of_not_lt fun q => ?_
    have q' : (n : Int) < ((ns.length : Nat) : Int) := by omega
    first
      | (rw [decide_eq_true q'] at h5; exact absurd h5 (by decide))
      | (simp at h5; omega)
  cases hwl with
  | cons w1 w2 =>
    cases w2
    cases w1 with
    | list ho hall => exact ⟨_, _, ns, rfl, rfl, ho, ints_of_wellAll ns _ hall, hlen⟩

theorem post_true (l : OpenLaw) (args : List WData) : l.row.toRowW.claim.post args (.bool true) args = true :=
  postW_of (r := l.row.toRowW) (X := (true == true))
    (show WShape.has [] (.bool true) .bool = true by first | rfl | decide | simp [WShape.has, WShape.arms, WShape.armsAll])
    (show (WTm.eq .res (.lit (.bool true))).value [] { args := args, res := some (.bool true), after := args } = some (.bool (true == true)) from w_eq_bool (w_res rfl) w_lit) rfl

/-- the same from a codeAny of the CALL (for a layer whose function contracts speak of calls) -/
theorem attach_call {l : OpenLaw} {n : Nat} {q : Program} {loose : List Str} {XP : (Str → Option Value) → Heap → Prop} {YP : World → Heap → Prop} {d : DefRec}
    (hn : l.most = some n) (hdf : d.params.defaults = [])
    (call : ∀ (w : World) (s₀ s₁ : Shared) (mg mb : Str → Option Value) (fa : Addr) (o : Obj) (pm cd doc : Value) (a : Addr) (vs : List Value) (ns : List Int),
      Ground q loose [] XP w s₀ mg mb s₁.heap → YP w s₁.heap →
      s₁.heap.get? fa = some o → o.data = .func (docDef d.name d.params d.body d.scope pm cd doc) → s₁.heap.CodeRec cd d.name → mg d.name = some (.ref fa) →
      s₁.heap.get? a = some { cls := .type "list", data := .seq vs.toArray } → IntsAre vs ns → ns.length ≤ n → s₁.gens = #[] →
      codeAny (model l.prog w) callerA (.call (.ref fa) ⟨[.ref a], []⟩) (fun r s' => r = .ok (.ret (.bool true)) ∧ OldK s₁.heap s'.heap ∧ s'.os = s₁.os ∧ AllBare s'.gens) s₁) :
    WalkO q loose XP YP l.row.toRowW d [] (fun f vs => PySem.call f vs) := by
  intro w s₀ s₁ mg mb G Y fa o pm cd doc dV kV ho hd hcd hD hmg hg args vals as hpre hlay hrd hwl hlo
  obtain rfl : dV = .none := Dflts.none hD hdf
  obtain rfl : kV = .none := Dflts.noKw hD
  obtain ⟨a, vs, ns, rfl, rfl, hobj, hints, hlen⟩ := script_of hn hpre hwl
  refine enter_call (codeAny_mono (call w s₀ s₁ mg mb fa o pm cd doc a vs ns G Y ho (fd_plain hd) hcd hmg hobj hints hlen hg) fun r s' hq => ?_)
  obtain ⟨rfl, h2, h3, h4⟩ := hq
  exact ⟨.inl ⟨.bool true, .bool true, [], rfl, fun _ => rfl, .bool true, post_true l _, fun _ => ⟨List.Pairwise.nil, fun _ hm => (nomatch hm)⟩⟩, h2, h3, h4⟩

section
variable {prog : Program} {w : World} {A : Around} {E : Value → Shared → Prop} {s : Shared} {K : Frag}

end
end Att

namespace L2
open PySem PySem.Spec PyProof.Rows

theorem vals_ints : ∀ {vs : List Value} {ns : List Int}, IntsAre vs ns → Vals (ns.map V.int) vs
  | _, _, .nil => .nil
  | _, _, .cons n t h => .cons ⟨t, rfl⟩ (vals_ints h)

/-- nothing is tracked but the script, known to the object (or it is an object of the module) -/
noncomputable def Only (H : Hp) : Prop := ∀ b, H b = none ∨ ∃ o xs, H b = some (.frz o (.lst xs))

/-- THE HEAD: the law's promise, at the heap behind the top. F, the promise of the law's def, may use that base is part of the heap (so K.In base, base.Ns mainGlobals mg stand in Mod) -/
theorem law_call {P : Program} {w : World} {K : PySem.W.Frag} {mg mb : Str → Option Value} {CX : CXT} {k : Nat} {fa a : Addr} {fd : FuncData} {x : Str} {sp : Sp} {s₁ : Shared} {vs : List Value} {ns : List Int}
    (KX : K.In s₁.heap) (hns : s₁.heap.Ns mainGlobals mg) (hb : s₁.heap.Ns builtinsNs mb) (hbb : ∀ x : Str, x ≠ "__name__" → mb x = bootBuiltins x) (hlim : s₁.heap.NoLimit) (hg : s₁.gens = #[])
    (ha : s₁.heap.get? a = some { cls := .type "list", data := .seq vs.toArray }) (hi : IntsAre vs ns) (hl : ns.length ≤ sizeLine) (hr : Room k callerA)
    (F : ∀ base : Heap, K.In base → base.Ns mainGlobals mg → FnOk P w K mg base CX k fa fd [x] sp) (hbind : ∀ (s : Shared) (u : Value), BindsTo s fd ⟨[u], []⟩ [(x, u)])
    (hsp : ∀ H : Hp, Only H → SqL K H a (ns.map V.int) → sp [.ref a] H (fun v _ => v = .bl true) fun _ _ _ => False)
    (hCX : ∀ H e s', CX [] H s₁ (fun _ _ _ => False) e s' → False) :
    codeAny (model P w) callerA (.call (.ref fa) ⟨[.ref a], []⟩) (fun r s' => r = .ok (.ret (.bool true)) ∧ OldK s₁.heap s'.heap ∧ s'.os = s₁.os ∧ AllBare s'.gens) s₁ := by
  have rv := vals_ints hi
  have lenV := hi.length
  -- from an abstract heap in which nothing but the script may be tracked
  have core : ∀ H : Hp, Only H → SqL K H a (ns.map V.int) → HOk P w H s₁.heap → (∀ b, H b ≠ none → b = a) → (H a ≠ none → K.lookup a = none) →
      codeAny (model P w) callerA (.call (.ref fa) ⟨[.ref a], []⟩) (fun r s' => r = .ok (.ret (.bool true)) ∧ OldK s₁.heap s'.heap ∧ s'.os = s₁.os ∧ AllBare s'.gens) s₁ := by
    intro H hO hS hok hA hK
    have base_of : ∀ {b : Addr} {o : Obj}, s₁.heap.get? b = some o → H b = none → (hidT s₁.heap H).get? b = some o := fun e n => hidT_get e n
    have noA : ∀ {b : Addr} {o : Obj} {es : Array DictEntry} {ep : Nat}, s₁.heap.get? b = some o → o.data = .dict es ep → H b = none := fun {b o es ep} e d => by
      cases q : H b with
      | none => rfl
      | some u =>
        have e' : b = a := hA b (by rw [q]; simp)
        subst e'
        rw [ha] at e; cases e
        have d' : Data.seq vs.toArray _ = Data.dict es ep := d
        cases d'
    have nsK : ∀ {b : Addr} {m : Str → Option Value}, s₁.heap.Ns b m → (hidT s₁.heap H).Ns b m := fun {b m} ⟨o, es, ep, e, d, r⟩ => ⟨o, es, ep, base_of e (noA e d), d, r⟩
    have hKb : K.In (hidT s₁.heap H) := fun b o e => base_of (KX b o e) (by
      cases q : H b with
      | none => rfl
      | some u =>
        have e' : b = a := hA b (by rw [q]; simp)
        subst e'
        rw [hK (by rw [q]; simp)] at e; cases e)
    have hM : Mod K mg (hidT s₁.heap H) := ⟨hKb, nsK hns, ⟨mb, nsK hb, hbb⟩, let ⟨mc, h1, h2⟩ := hlim; ⟨mc, nsK h1, h2⟩⟩
    have e0 : Env0 P w K mg (hidT s₁.heap H) callerA [] s₁ H := ⟨rfl, hM, fun b o e => of_hidT e, Nat.le_of_eq (hidT_size _ _), trivial, fun b hb => absurd (show b ∈ ([] : List Addr) from hb) (by simp), hok, .of_eq hg⟩
    refine codeAny_mono ((F _ hKb (nsK hns)).run callerA [] s₁ H ⟨[.ref a], []⟩ [.ref a] [.ref a] _ _ hr e0 (hbind s₁ (.ref a)) (.cons rfl .nil) (hsp H hO hS)) fun r s' h => ?_
    cases r with
    | error e => exact (hCX H e s' h).elim
    | ok fl =>
      cases fl with
      | next => exact False.elim h
      | brk => exact False.elim h
      | cont => exact False.elim h
      | ret u =>
        obtain ⟨v, H', os, bare, un, hok', r', q⟩ := h
        have q' : v = .bl true := q
        subst q'
        obtain rfl : u = Value.bool true := r'
        refine ⟨rfl, OldK.of_keep fun b o e => ?_, os, bare⟩
        cases q : H b with
        | none => exact un.keep b o e q (by intro z; exact absurd (show b ∈ ([] : List Addr) from z) (by simp)) (by simp)
        | some u =>
          rcases hO b with z | ⟨ob, xs, z⟩
          · rw [q] at z; cases z
          · have z2 := un.frzs b ob _ z
            obtain ⟨e1, _⟩ := hok b _ z
            obtain ⟨e2, _⟩ := hok' b _ z2
            rw [e] at e1; cases e1
            exact e2
  cases hk : K.lookup a with
  | some o =>
    -- the script is one of the module's own objects
    have e := KX a o hk
    rw [ha] at e
    cases e
    refine core (fun _ => none) (fun _ => .inl rfl) (.inr ⟨_, vs.toArray, _, hk, rfl, rfl, rfl, by rw [List.size_toArray, lenV]; exact hl, by simpa using rv⟩) (fun b u z => by have z' : (none : Option HO) = some u := z; cases z') (fun b z => absurd rfl z) fun z => absurd rfl z
  | none =>
    refine core (fun b => if b = a then some (.frz { cls := .type "list", data := .seq vs.toArray } (.lst (ns.map V.int))) else none) (fun b => ?_) (.inl (.inr ⟨{ cls := .type "list", data := .seq vs.toArray }, if_pos rfl⟩)) (fun b u z => ?_) (fun b z => ?_) fun _ => hk
    · by_cases hb : b = a
      · exact .inr ⟨_, _, if_pos hb⟩
      · exact .inl (if_neg hb)
    · by_cases hb : b = a
      · have z' := (if_pos hb).symm.trans z
        cases z'
        subst hb
        exact ⟨ha, by rw [List.length_map]; exact hl, vs, _, rv, ha⟩
      · have z' := (if_neg hb).symm.trans z
        cases z'
    · by_cases hb : b = a
      · exact hb
      · exact absurd (if_neg hb) z
end L2

namespace L2
open PySem PySem.Spec PyProof.Rows

/-- the goal that k_head leaves (case hc), from the law's promise. F gives the function object fd (K's own) once, then the promise over every base -/
theorem walk_of {l : PySem.W.OpenLaw} {n k : Nat} {q : Program} {loose : List Str} {XP : (Str → Option Value) → Heap → Prop} {YP : World → Heap → Prop} {d : DefRec} {K : Params → PySem.W.Frag} {CX : World → CXT} {sp : World → Sp} {x : Str}
    (hn : l.most = some n) (hn2 : n ≤ sizeLine) (hdf : d.params.defaults = []) (hr : Room k callerA)
    (hY : ∀ (w : World) (h : Heap), YP w h → (K w.params).In h)
    (F : ∀ (w : World) (mg : Str → Option Value) (fa : Addr) (h : Heap), (K w.params).In h → h.Ns mainGlobals mg → mg d.name = some (.ref fa) →
      ∃ fd : FuncData, (∀ (s : Shared) (u : Value), BindsTo s fd ⟨[u], []⟩ [(x, u)]) ∧
        ∀ base : Heap, (K w.params).In base → base.Ns mainGlobals mg → FnOk l.prog w (K w.params) mg base (CX w) k fa fd [x] (sp w))
    (hsp : ∀ (w : World) (H : Hp) (a : Addr) (ns : List Int), ns.length ≤ n → Only H → SqL (K w.params) H a (ns.map V.int) → sp w [.ref a] H (fun v _ => v = .bl true) fun _ _ _ => False)
    (hCX : ∀ (w : World) (H : Hp) (s : Shared) (e : Value) (s' : Shared), CX w [] H s (fun _ _ _ => False) e s' → False) :
    PySem.W.WalkO q loose XP YP l.row.toRowW d [] (fun f vs => PySem.call f vs) := by
  refine Att.attach_call hn hdf fun w s₀ s₁ mg mb fa o pm cd doc a vs ns G Y ho hd hcd hmg hobj hints hlen hg => ?_
  have KX := hY w _ Y
  obtain ⟨fd, hb, hF⟩ := F w mg fa _ KX G.T.g hmg
  exact law_call KX G.T.g G.T.b G.T.builtins G.T.nolimit hg hobj hints (Nat.le_trans hlen hn2) hr hF hb (fun H hO hS => hsp w H a ns hlen hO hS) fun H e s' => hCX w H s₁ e s'
/-- the same where the promise hangs on the written part alone: (sp := My.sp_law), no hole under a binder -/
theorem walk_ofK {l : PySem.W.OpenLaw} {n k : Nat} {q : Program} {loose : List Str} {XP : (Str → Option Value) → Heap → Prop} {YP : World → Heap → Prop} {d : DefRec} {K : Params → PySem.W.Frag} {CX : CXT} {sp : PySem.W.Frag → Sp} {x : Str}
    (hn : l.most = some n) (hn2 : n ≤ sizeLine) (hdf : d.params.defaults = []) (hr : Room k callerA)
    (hY : ∀ (w : World) (h : Heap), YP w h → (K w.params).In h)
    (F : ∀ (w : World) (mg : Str → Option Value) (fa : Addr) (h : Heap), (K w.params).In h → h.Ns mainGlobals mg → mg d.name = some (.ref fa) →
      ∃ fd : FuncData, (∀ (s : Shared) (u : Value), BindsTo s fd ⟨[u], []⟩ [(x, u)]) ∧
        ∀ base : Heap, (K w.params).In base → base.Ns mainGlobals mg → FnOk l.prog w (K w.params) mg base CX k fa fd [x] (sp (K w.params)))
    (hsp : ∀ (K : PySem.W.Frag) (H : Hp) (a : Addr) (ns : List Int), ns.length ≤ n → Only H → SqL K H a (ns.map V.int) → sp K [.ref a] H (fun v _ => v = .bl true) fun _ _ _ => False)
    (hCX : ∀ (H : Hp) (s : Shared) (e : Value) (s' : Shared), CX [] H s (fun _ _ _ => False) e s' → False) :
    PySem.W.WalkO q loose XP YP l.row.toRowW d [] (fun f vs => PySem.call f vs) :=
  walk_of (K := K) (CX := fun _ => CX) (sp := fun w => sp (K w.params)) hn hn2 hdf hr hY F (fun w H a ns h1 h2 h3 => hsp (K w.params) H a ns h1 h2 h3) fun _ H s e s' => hCX H s e s'
end L2

/- THE LAST THEOREM (shape; LID, My.* are yours):
   My.Adr: a structure of the addresses that your layer names (classes, functions); My.Txt K t: a structure (Prop) of the equations over K;
   My.txt_mk : {K} {implicit addresses ..} (e1 : nsIn K mainGlobals "law" = some (some (.ref f))) (e2 : K.lookup f = some ⟨oc, od, .func (fnOf "law" "law" params body scope dV kV doc pm an cdv ct), sl⟩) (e3 : codeIn K cdv "law" = true) .. : ∃ t, My.Txt K t

set_option maxRecDepth 100000 in
set_option maxHeartbeats 0 in
theorem PySem.Challenge.cw_LID_holds : PySem.Challenge.rw_LID.Holds := by
  w_on; o_law; k_head; (case hw => w_witness2)
  k_fill
  refine L2.walk_of (l := PySem.Challenge.rw_LID) (n := 63) (k := 40) (x := "script") (CX := fun w => ..) (sp := fun _ => My.sp_law) rfl (by decide) rfl ⟨rfl, by decide, by decide⟩ (fun w h Y => PySem.W.kIn_of Y) ?F ?S ?C
  case F =>
    intro w mg fa h KX G hmg
    have T : ∃ t, My.Txt (L2.KOf KX) t := by
      dsimp only []                          -- K must stand as «<heap const> w.params» for k_is
      refine' My.txt_mk ?e1 ?e2 ?e3 ..
      (case e1 => PySem.W.k_is)                    -- in the order: a name -> its address -> its object -> its parts
      (case e2 => PySem.W.k_is)
      ..
    obtain ⟨t, T⟩ := T
    have e0 := hmg.symm.trans (PySem.W.mg_of KX G T.law)
    cases e0                                       -- fa is the law's own address
    exact ⟨_, fun s u => .of_eq rfl, fun base kb nb => My.law_fn T kb nb⟩     -- if «.of_eq rfl» comes too early: refine' ⟨_, ?b, fun base kb nb => My.law_fn T kb nb⟩; exact fun s u => .of_eq rfl
  case S => exact fun w H a ns hl hO hS => ..
  case C => exact ..
(the tactic k_is has no namespace: write k_is) -/

namespace L2
open PySem PySem.Spec PyProof.Rows

noncomputable def defArgs (s : Stmt) : Arguments := match s with
  | .FunctionDef _ a _ _ _ _ _ _ _ _ => a
  | _ => { posonlyargs := [], args := [], vararg := none, kwonlyargs := [], kw_defaults := [], kwarg := none, defaults := [] }
noncomputable def defBody (s : Stmt) : List Stmt := match s with
  | .FunctionDef _ _ b _ _ _ _ _ _ _ => b
  | _ => []
noncomputable def defScope (s : Stmt) : Scope := match s with
  | .FunctionDef _ _ _ _ _ _ sc _ _ _ => sc
  | _ => { kind := .function, names := [], isGenerator := false, isCoroutine := false }

noncomputable abbrev CX0 : CXT := fun _ _ _ _ _ _ => False
noncomputable abbrev E0 : XK := fun _ _ _ => False
theorem pass0 {X : Cx} : Passes CX0 X E0 := fun _ _ _ _ _ _ _ h => h.elim

structure Fun (K : PySem.W.Frag) (x qual : Str) (st : Stmt) (f : Addr) (fd : FuncData) : Prop where
  ex : ∃ (oc : Value) (od : Option Addr) (kV doc pm : Value) (an : Option Addr) (cdv ct : Value) (osl : Array (Option Value)),
    fd = PySem.W.fnOf x qual (defArgs st) (defBody st) (defScope st) .none kV doc pm an cdv ct ∧ K.lookup f = some ⟨oc, od, .func fd, osl⟩ ∧ PySem.W.codeIn K cdv qual = true
  kp : PySem.W.keepIn K (.ref f) = true
section
variable {P : Program} {w : World} {K : PySem.W.Frag} {mg : Str → Option Value} {base : Heap}
/-- how its arguments bind (no defaults): h is «fun _ _ _ _ _ _ us hl => match us, hl with | [_, _], _ => rfl», one _ a parameter -/
theorem Fun.binds {x qual : Str} {st : Stmt} {f : Addr} {fd : FuncData} {ps : List Str} (F : Fun K x qual st f fd)
    (h : ∀ (kV doc pm : Value) (an : Option Addr) (cdv ct : Value) (us : List Value), us.length = ps.length → bindArgs (PySem.W.fnOf x qual (defArgs st) (defBody st) (defScope st) .none kV doc pm an cdv ct) ⟨us, []⟩ = pure (ps.zip us)) : Binds K fd ps [] := by
  obtain ⟨oc, od, kV, doc, pm, an, cdv, ct, osl, rfl, lk, hcd⟩ := F.ex
  exact .all (h kV doc pm an cdv ct)
theorem fun_mk {x qual : Str} {st : Stmt} {f : Addr} {oc : Value} {od an : Option Addr} {osl : Array (Option Value)} {kV doc pm cdv ct : Value} (l : K.lookup f = some ⟨oc, od, .func (PySem.W.fnOf x qual (defArgs st) (defBody st) (defScope st) .none kV doc pm an cdv ct), osl⟩)
    (c : PySem.W.codeIn K cdv qual = true) (k : PySem.W.keepIn K (.ref f) = true) : Fun K x qual st f (PySem.W.fnOf x qual (defArgs st) (defBody st) (defScope st) .none kV doc pm an cdv ct) := ⟨⟨oc, od, kV, doc, pm, an, cdv, ct, osl, rfl, l, c⟩, k⟩
end
section
variable {X : Cx}
theorem pv (i : Nat) {x : Str} {pos : Pos} (hN : X.N[i]? = some x := by rfl) (hv : Vis X.env.scope x := by first | exact Or.inl rfl | exact Or.inr (Or.inl rfl) | exact Or.inr (Or.inr rfl)) (hd : (x == ("__debug__" : Str)) = false := by decide)
    (hcd : (x == ("__classdict__" : Str)) = false := by decide) : PE X (.Name x pos) (tVar i) := pe_var hN hv hd hcd
end

/-- all that was tracked is as it was -/
noncomputable def Same (H H' : Hp) : Prop := ∀ b o, H b = some o → H' b = some o
theorem Same.refl (H : Hp) : Same H H := fun _ _ h => h
theorem Same.seq {K : PySem.W.Frag} {H H' : Hp} {a : Addr} {xs : List V} (e : Same H H') (h : SqL K H a xs) : SqL K H' a xs := by
  rcases h with (h | ⟨o, h⟩) | h
  · exact .inl (.inl (e _ _ h))
  · exact .inl (.inr ⟨o, e _ _ h⟩)
  · exact .inr h

end L2


set_option maxRecDepth 100000
namespace L2
open PySem PySem.Spec PyProof.Rows

section
variable {κ : Type} [DecidableEq κ]
end


section
variable {P : Program} {w : World} {H : Hp} {h : Heap} {a : Addr}
end

section
variable {X : Cx} {pins : List (Addr × Obj)} {σ : St} {H : Hp} {s : Shared} {a : Addr} {y v : V} {u r : Value} {o : Option V} {A : Around} {E : Value → Shared → Prop}

end

section
variable {X : Cx} {pins : List (Addr × Obj)} {σ : St} {H : Hp} {s : Shared} {a : Addr} {kvs : List (Key × V)} {k : Key} {u : Value} {A : Around} {E : Value → Shared → Prop}
end


section
variable {X : Cx} {o i e value : Expr} {pos pos' tpos : Pos} {td ty tv : TE}
end


section
variable {X : Cx} {pos : Pos}
end

/-- a method call o.m(e) of a built-in, with one argument: what must be seen of the text -/
structure M1 (X : Cx) (o : Expr) (m : Str) (apos : Pos) (e : Expr) (cpos : Pos) : Prop where
  base : attributeBase o m X.env (eval o X.env) = eval o X.env
  few : ((backTo cpos (starEach [e] X.env)).all (fun x => !x.1) && (backToKw cpos (keywordEach [] X.env)).all (fun x => x.1.isSome)
    && decide (([e] : List Expr).length + ([] : List Keyword).length + (if ([] : List Keyword).isEmpty then 0 else 1) < 30)) = true
  line : (apos.endLine == cpos.line) = true
  trees : backTo cpos (starEach [e] X.env) = [(false, eval e X.env)]
structure M2 (X : Cx) (o : Expr) (m : Str) (apos : Pos) (e f : Expr) (cpos : Pos) : Prop where
  base : attributeBase o m X.env (eval o X.env) = eval o X.env
  few : ((backTo cpos (starEach [e, f] X.env)).all (fun x => !x.1) && (backToKw cpos (keywordEach [] X.env)).all (fun x => x.1.isSome)
    && decide (([e, f] : List Expr).length + ([] : List Keyword).length + (if ([] : List Keyword).isEmpty then 0 else 1) < 30)) = true
  line : (apos.endLine == cpos.line) = true
  trees : backTo cpos (starEach [e, f] X.env) = [(false, eval e X.env), (false, eval f X.env)]

section
variable {X : Cx} {pins : List (Addr × Obj)} {σ : St} {H : Hp} {s : Shared} {a : Addr} {y d : V} {u r : Value} {o : Option V} {A : Around} {E : Value → Shared → Prop}
end

section
variable {X : Cx} {o e f : Expr} {apos cpos : Pos} {td ty tx : TE}
end

section
variable {X : Cx} {pins : List (Addr × Obj)} {σ : St} {H : Hp} {s : Shared} {a : Addr} {kvs : List (Key × V)} {A : Around} {E : Value → Shared → Prop}
end


section
variable {X : Cx} {pins : List (Addr × Obj)} {σ : St} {H : Hp} {s : Shared} {a : Addr} {y : V} {u : Value} {A : Around} {E : Value → Shared → Prop}
end
end L2
namespace L2
open PySem PySem.Spec PyProof.Rows
section
variable {X : Cx}
end
section
variable {κ : Type} [DecidableEq κ]
end
end L2


set_option maxRecDepth 100000
namespace L2
open PySem PySem.Spec PyProof.Rows

noncomputable def FnAt (P : Program) (w : World) (K : PySem.W.Frag) (mg : Str → Option Value) (base : Heap) (CX : CXT) (x : Str) (k : Nat) (ps : List Str) (sp : Sp) : Prop :=
  ∃ f fd, FnOk P w K mg base CX k f fd ps sp ∧ mg x = some (.ref f) ∧ PySem.W.keepIn K (.ref f) = true ∧ Binds K fd ps [] ∧ ∃ oc od osl, K.lookup f = some ⟨oc, od, .func fd, osl⟩
noncomputable def DefAt (K : PySem.W.Frag) (mg : Str → Option Value) (x : Str) (st : Stmt) : Prop := ∃ f fd, Fun K x x st f fd ∧ mg x = some (.ref f)
/-- exceptions that nobody wants do not come -/
class Quiet (CX : CXT) : Prop where
  pass : ∀ (X : Cx), Passes CX X E0
noncomputable instance : Quiet CX0 := ⟨fun _ => pass0⟩
theorem defat_mk {K : PySem.W.Frag} {h : Heap} {mg : Str → Option Value} {x : Str} {st : Stmt} {f : Addr} {oc : Value} {od an : Option Addr} {osl : Array (Option Value)} {kV doc pm cdv ct : Value} (X : K.In h) (G : h.Ns mainGlobals mg)
    (a : PySem.W.nsIn K mainGlobals x = some (some (.ref f)))
    (l : K.lookup f = some ⟨oc, od, .func (PySem.W.fnOf x x (defArgs st) (defBody st) (defScope st) .none kV doc pm an cdv ct), osl⟩) (c : PySem.W.codeIn K cdv x = true) (k : PySem.W.keepIn K (.ref f) = true) : DefAt K mg x st :=
  ⟨f, _, fun_mk l c k, PySem.W.mg_of X G a⟩
section
variable {P : Program} {w : World} {K : PySem.W.Frag} {mg : Str → Option Value} {base : Heap} {CX : CXT}
/-- a def whose body lets no exception out -/
theorem DefAt.fn {x : Str} {st : Stmt} {N ps : List Str} {k : Nat} {sp : Sp} (F : DefAt K mg x st) (S : FnScope N ps (defScope st))
    (hb : ∀ (kV doc pm : Value) (an : Option Addr) (cdv ct : Value) (us : List Value), us.length = ps.length → bindArgs (PySem.W.fnOf x x (defArgs st) (defBody st) (defScope st) .none kV doc pm an cdv ct) ⟨us, []⟩ = pure (ps.zip us))
    (len : ∀ vs H Q E, sp vs H Q E → vs.length = ps.length)
    (hbody : ∀ (f : Addr) (cdv : Value) (A : Around) (outer : List Env) (s : Shared) (H : Hp) (vs : List V) (Q : VK) (E : XK), Room k (A.deeper (envOfC x (defScope st) s.heap.objs.size f cdv)) → sp vs H Q E →
      ∃ t, PSs (cxOf CX P w K mg base N x (defScope st) f cdv A outer s H E).nox (defBody st) t ∧ t { nx := fun _ H' => Q .non H', rt := Q } (start N vs) H) : FnAt P w K mg base CX x (k + 1) ps sp := by
  obtain ⟨f, fd, F, hm⟩ := F
  have bd := F.binds hb
  have kp := F.kp
  obtain ⟨oc, od, kV, doc, pm, an, cdv, ct, osl, rfl, lk, hcd⟩ := F.ex
  refine ⟨f, _, fn_of lk hcd S len fun A outer s H vs Q E hr hsp => ?_, hm, kp, bd, oc, od, osl, lk⟩
  obtain ⟨t, h, q⟩ := hbody f cdv A outer s H vs Q E hr hsp
  exact ⟨t, h.nox, q⟩
end
section
variable {X : Cx} {CX : CXT} {k n : Nat} {ps : List Str} {sp : Sp} {x : Str} {p pos : Pos} {e : Expr} {es : List Expr} {t : TA}
theorem pe_fn [Quiet CX] (G : FnAt X.prog X.w X.K X.mg X.base CX x k ps sp) (hr : Room n X.A) (hk : k ≤ n) (hg : Gl X x) (ha : PA X (e :: es) t)
    (hdb : (x == ("__debug__" : Str)) = false := by decide) (he : starEach (e :: es) X.env = (false, eval e X.env) :: starEach es X.env := by rfl) (hpl : (backTo pos (starEach es X.env)).any (·.1) = false := by rfl) :
    PE X (.Call (.Name x p) (e :: es) [] pos) (tCall sp [] E0 t) := by
  obtain ⟨f, fd, F, hm, kp, b, _⟩ := G
  exact pe_call F (hr.mono hk) hg hm kp b .nil (Quiet.pass X) ha hdb he hpl
end

noncomputable def ItrS (lo c : Int) (n : Nat) : It := ⟨fun i _ => i < n, fun i H x H' => H' = H ∧ x = .int (lo + i * c), fun i _ => n ≤ i⟩
/-- how many turns range(lo, hi, c) has -/
noncomputable def rcount (lo hi c : Int) : Nat := (Builtin.Range.rangeSize lo hi c).toNat
section
variable {X : Cx} {tg : Expr}
end
end L2


set_option maxRecDepth 100000
namespace L2
open PySem PySem.Spec PyProof.Rows

section
variable {g : Int → Int → V} {C : Int → Int → Prop} {i j : Int} {H : Hp} {Q : VK}
theorem rI0_int : rI0 g (.int i) (.int j) H Q = Q (g i j) H := by
  apply propext
  constructor
  · rintro ⟨a, b, e1, e2, q⟩
    cases e1; cases e2; exact q
  · intro q; exact ⟨i, j, rfl, rfl, q⟩
theorem rI_int : rI C g (.int i) (.int j) H Q = (C i j ∧ Q (g i j) H) := by
  apply propext
  constructor
  · rintro ⟨a, b, e1, e2, q⟩
    cases e1; cases e2; exact q
  · intro q; exact ⟨i, j, rfl, rfl, q⟩
theorem rU_int {f : Int → V} : rU f (.int i) H Q = Q (f i) H := by
  apply propext
  constructor
  · rintro ⟨a, e1, q⟩
    cases e1; exact q
  · intro q; exact ⟨i, rfl, q⟩
theorem ex_bl {b : Bool} {P : Bool → Prop} : (∃ k, V.bl b = .bl k ∧ P k) = P b := by
  apply propext
  constructor
  · rintro ⟨k, e, q⟩
    cases e; exact q
  · intro q; exact ⟨b, rfl, q⟩
theorem ex_sv {v : V} {P : V → Prop} : (∃ u, some (some v) = some (some u) ∧ P u) = P v := by
  apply propext
  constructor
  · rintro ⟨k, e, q⟩
    cases e; exact q
  · intro q; exact ⟨v, rfl, q⟩
theorem rEq_int : rEq (.int i) (.int j) H Q = Q (.bl (decide (i = j))) H := by
  have e : decide (V.int i = V.int j) = decide (i = j) := by
    by_cases h : i = j
    · subst h; simp
    · rw [decide_eq_false h, decide_eq_false (fun q => h (V.int.inj q))]
  unfold rEq
  rw [e]
  apply propext
  exact ⟨fun h => h.2, fun h => ⟨rfl, h⟩⟩
theorem rNe_int : rNe (.int i) (.int j) H Q = Q (.bl (!decide (i = j))) H := by
  have e : decide (V.int i = V.int j) = decide (i = j) := by
    by_cases h : i = j
    · subst h; simp
    · rw [decide_eq_false h, decide_eq_false (fun q => h (V.int.inj q))]
  unfold rNe
  rw [e]
  apply propext
  exact ⟨fun h => h.2, fun h => ⟨rfl, h⟩⟩
theorem rEq_str {a b : Str} : rEq (.str a) (.str b) H Q = Q (.bl (decide (a = b))) H := by
  have e : decide (V.str a = V.str b) = decide (a = b) := by
    by_cases h : a = b
    · subst h; simp
    · rw [decide_eq_false h, decide_eq_false (fun q => h (V.str.inj q))]
  unfold rEq
  rw [e]
  apply propext
  exact ⟨fun h => h.2, fun h => ⟨rfl, h⟩⟩
theorem rNe_str {a b : Str} : rNe (.str a) (.str b) H Q = Q (.bl (!decide (a = b))) H := by
  have e : decide (V.str a = V.str b) = decide (a = b) := by
    by_cases h : a = b
    · subst h; simp
    · rw [decide_eq_false h, decide_eq_false (fun q => h (V.str.inj q))]
  unfold rNe
  rw [e]
  apply propext
  exact ⟨fun h => h.2, fun h => ⟨rfl, h⟩⟩
theorem rEq_bl {a b : Bool} : rEq (.bl a) (.bl b) H Q = Q (.bl (decide (a = b))) H := by
  have e : decide (V.bl a = V.bl b) = decide (a = b) := by
    by_cases h : a = b
    · subst h; simp
    · rw [decide_eq_false h, decide_eq_false (fun q => h (V.bl.inj q))]
  unfold rEq
  rw [e]
  apply propext
  exact ⟨fun h => h.2, fun h => ⟨rfl, h⟩⟩
theorem rNe_bl {a b : Bool} : rNe (.bl a) (.bl b) H Q = Q (.bl (!decide (a = b))) H := by
  have e : decide (V.bl a = V.bl b) = decide (a = b) := by
    by_cases h : a = b
    · subst h; simp
    · rw [decide_eq_false h, decide_eq_false (fun q => h (V.bl.inj q))]
  unfold rNe
  rw [e]
  apply propext
  exact ⟨fun h => h.2, fun h => ⟨rfl, h⟩⟩
end

theorem OpR.imp {X : Cx} {f : Value → Value → Sem Value} {r r' : R2} (h : OpR X f r) (i : ∀ x y H Q, r' x y H Q → r x y H Q) : OpR X f r' :=
  fun pins s σ H x y v u Q I rx ry q => h pins s σ H x y v u Q I rx ry (i _ _ _ _ q)
theorem CallR.imp {X : Cx} {f : Value} {r r' : List V → Hp → VK → Prop} (h : CallR X f r) (i : ∀ xs H Q, r' xs H Q → r xs H Q) : CallR X f r' :=
  fun pins s σ H xs us Q I rs q => h pins s σ H xs us Q I rs (i _ _ _ q)
noncomputable def rAddA (K : PySem.W.Frag) : R2 := fun x y H Q => match x, y with
  | .int i, .int j => Q (.int (i + j)) H
  | .str a, .str b => a.length + b.length ≤ sizeLine ∧ Q (.str (a ++ b)) H
  | .ref l, .ref b => rCat (.ref l) (.ref b) H Q ∨ rCatT K (.ref l) (.ref b) H Q
  | _, _ => False
section
variable {X : Cx}
theorem op_addA : OpR X (binaryOp .Add) (rAddA X.K) := by
  refine OpR.imp (op_add.or (op_add_str.or (op_cat.or op_catT))) fun x y H Q h => ?_
  unfold rAddA at h
  split at h
  · exact .inl ⟨_, _, rfl, rfl, h⟩
  · exact .inr (.inl ⟨_, _, rfl, rfl, h⟩)
  · exact .inr (.inr h)
  · exact h.elim
/-- << , the left side below 2 ^ 512 -/
noncomputable def CShl (i j : Int) : Prop := (0 ≤ j ∧ j ≤ 1000000) ∧ -(2 ^ 512) < i ∧ i < 2 ^ 512
theorem CShl.bits {i j : Int} (h : CShl i j) : (Builtin.Int.intBits i : Int) + j ≤ 2 ^ 27 := by
  have hb : Builtin.Int.intBits i ≤ 512 := by
    unfold Builtin.Int.intBits
    split
    · omega
    · rename_i hz
      have hz' : i ≠ 0 := fun q => hz (by rw [q]; rfl)
      have : i.natAbs.log2 < 512 := (Nat.log2_lt (by omega)).mpr (by have := h.2; omega)
      omega
  have := h.1.2
  omega
theorem op_shlA : OpR X (binaryOp .LShift) (rI CShl fun i j => .int (i * 2 ^ j.toNat)) := opI fun _ _ _ _ _ _ _ hc q => lshift_int hc.1.1 hc.bits q
end
noncomputable def CPowA (i j : Int) : Prop := (0 ≤ j ∧ j ≤ 1000000) ∧ -(2 ^ 64) < i ∧ i < 2 ^ 64
noncomputable def rLenA (K : PySem.W.Frag) : List V → Hp → VK → Prop := fun xs H Q => match xs with
  | [.str z] => z.length ≤ sizeLine ∧ Q (.int z.length) H
  | [.ref p] => ∃ ys, (SqL K H p ys ∨ SqT K H p ys) ∧ Q (.int ys.length) H
  | _ => False
section
variable {X : Cx}
theorem call_lenA : CallR X (.builtin "len") (rLenA X.K) := by
  refine CallR.imp (call_len_seq.or call_len_str) fun xs H Q h => ?_
  unfold rLenA at h
  split at h
  · exact .inr ⟨_, rfl, h.1, h.2⟩
  · obtain ⟨ys, h1, h2⟩ := h
    exact .inl ⟨_, ys, rfl, h1, h2⟩
  · exact h.elim
noncomputable def rMinA : List V → Hp → VK → Prop := fun xs H Q => match xs with
  | [.int i, .int j] => Q (.int (if j < i then j else i)) H
  | _ => False
noncomputable def rMaxA : List V → Hp → VK → Prop := fun xs H Q => match xs with
  | [.int i, .int j] => Q (.int (if i < j then j else i)) H
  | _ => False
theorem call_maxA (hc : X.calm = true) : CallR X (.builtin "max") rMaxA := by
  refine CallR.imp (call_max2 hc) fun xs H Q h => ?_
  unfold rMaxA at h
  split at h
  · exact ⟨_, _, rfl, h⟩
  · exact h.elim
/-- isinstance(x, T), T a built-in type, x a scalar -/
noncomputable def isiF : V → String → Option Bool
  | .int _, "int" => some true
  | .int _, "bool" => some false
  | .int _, "str" => some false
  | .bl _, "int" => some true
  | .bl _, "bool" => some true
  | .str _, "str" => some true
  | .str _, "int" => some false
  | _, _ => none
noncomputable def rIsi (K : PySem.W.Frag) : List V → Hp → VK → Prop := fun xs H Q => match xs with
  | [x, .ty T] => (match isiF x T with
    | some b => Q (.bl b) H
    | none => ∃ t b, TyOf K H x t ∧ PySem.W.kitOne K t (.type T) = some b ∧ Q (.bl b) H)
  | _ => False
theorem kit_ii (K : PySem.W.Frag) : PySem.W.kitOne K (.type "int") (.type "int") = some true := by first | rfl | kernel_rfl
theorem kit_ib (K : PySem.W.Frag) : PySem.W.kitOne K (.type "int") (.type "bool") = some false := by first | rfl | kernel_rfl
theorem kit_is (K : PySem.W.Frag) : PySem.W.kitOne K (.type "int") (.type "str") = some false := by first | rfl | kernel_rfl
theorem kit_bi (K : PySem.W.Frag) : PySem.W.kitOne K (.type "bool") (.type "int") = some true := by first | rfl | kernel_rfl
theorem kit_bb (K : PySem.W.Frag) : PySem.W.kitOne K (.type "bool") (.type "bool") = some true := by first | rfl | kernel_rfl
theorem kit_ss (K : PySem.W.Frag) : PySem.W.kitOne K (.type "str") (.type "str") = some true := by first | rfl | kernel_rfl
theorem kit_si (K : PySem.W.Frag) : PySem.W.kitOne K (.type "str") (.type "int") = some false := by first | rfl | kernel_rfl
theorem kit_ll (K : PySem.W.Frag) : PySem.W.kitOne K (.type "list") (.type "list") = some true := by first | rfl | kernel_rfl
theorem kit_tt (K : PySem.W.Frag) : PySem.W.kitOne K (.type "tuple") (.type "tuple") = some true := by first | rfl | kernel_rfl
theorem call_isi : CallR X (.builtin "isinstance") (rIsi X.K) := by
  intro pins s σ H xs us Q I rs q
  unfold rIsi at q
  split at q
  · rename_i x T
    obtain ⟨u, c, rfl, ru, rc⟩ := vals2 rs
    obtain rfl : c = Value.type T := rc
    have key : ∀ {t b}, TyOf X.K H x t → PySem.W.kitOne X.K t (.type T) = some b → Q (.bl b) H → wpAny (model X.prog X.w) X.A (call (.builtin "isinstance") [u, .type T]) (EP X pins σ Q) X.xe s := fun {t b} ty e h =>
      isinst_ok I ru ty e fun tk => ⟨.bl b, H, I.tok tk, rfl, h⟩
    split at q
    · rename_i b e
      have h := q
      unfold isiF at e
      split at e <;> cases e
      · exact key (.int _) (kit_ii _) h
      · exact key (.int _) (kit_ib _) h
      · exact key (.int _) (kit_is _) h
      · exact key (.bl _) (kit_bi _) h
      · exact key (.bl _) (kit_bb _) h
      · exact key (.str _) (kit_ss _) h
      · exact key (.str _) (kit_si _) h
    · obtain ⟨t, b, ty, e, h⟩ := q
      exact key ty e h
  · exact q.elim
theorem pe_ty {x : Str} {T : String} {pos : Pos} (hg : Gl X x) (hm : X.mg x = none) (hv : bootBuiltins x = some (.type T)) (hn : x ≠ "__name__" := by decide) (hd : (x == ("__debug__" : Str)) = false := by decide) : PE X (.Name x pos) (tC (.ty T)) :=
  pe_bltn hg hm hv rfl hn hd
end
theorem bt_len : bootBuiltins "len" = some (.builtin "len") := by decide +kernel
theorem bt_max : bootBuiltins "max" = some (.builtin "max") := by decide +kernel
theorem bt_any : bootBuiltins "any" = some (.builtin "any") := by decide +kernel
theorem bt_isinstance : bootBuiltins "isinstance" = some (.builtin "isinstance") := by decide +kernel
theorem bt_int : bootBuiltins "int" = some (.type "int") := by decide +kernel
theorem bt_bool : bootBuiltins "bool" = some (.type "bool") := by decide +kernel
theorem bt_list : bootBuiltins "list" = some (.type "list") := by decide +kernel
section
variable {K : PySem.W.Frag} {H : Hp} {Q : VK}
theorem rAddA_int {i j : Int} : rAddA K (.int i) (.int j) H Q = Q (.int (i + j)) H := rfl
theorem rAddA_str {i j : Str} : rAddA K (.str i) (.str j) H Q = (i.length + j.length ≤ sizeLine ∧ Q (.str (i ++ j)) H) := rfl
theorem rLenA_str {z : Str} : rLenA K [.str z] H Q = (z.length ≤ sizeLine ∧ Q (.int z.length) H) := rfl
theorem rLenA_ref {p : Addr} : rLenA K [.ref p] H Q = (∃ ys, (SqL K H p ys ∨ SqT K H p ys) ∧ Q (.int ys.length) H) := rfl
theorem rIsi_ii {i : Int} : rIsi K [.int i, .ty "int"] H Q = Q (.bl true) H := rfl
theorem rIsi_ib {i : Int} : rIsi K [.int i, .ty "bool"] H Q = Q (.bl false) H := rfl
theorem rIsi_is {i : Int} : rIsi K [.int i, .ty "str"] H Q = Q (.bl false) H := rfl
theorem rIsi_bi {i : Bool} : rIsi K [.bl i, .ty "int"] H Q = Q (.bl true) H := rfl
theorem rIsi_bb {i : Bool} : rIsi K [.bl i, .ty "bool"] H Q = Q (.bl true) H := rfl
theorem rIsi_ss {i : Str} : rIsi K [.str i, .ty "str"] H Q = Q (.bl true) H := rfl
theorem rIsi_si {i : Str} : rIsi K [.str i, .ty "int"] H Q = Q (.bl false) H := rfl
theorem rMinA_int {i j : Int} : rMinA [.int i, .int j] H Q = Q (.int (if j < i then j else i)) H := rfl
theorem rMaxA_int {i j : Int} : rMaxA [.int i, .int j] H Q = Q (.int (if i < j then j else i)) H := rfl
end
theorem cxOf_K {CX : CXT} {P : Program} {w : World} {K : PySem.W.Frag} {mg : Str → Option Value} {base : Heap} {N : List Str} {qual : Str} {scope : Scope} {f : Addr} {cd : Value} {A : Around} {outer : List Env} {s : Shared} {H : Hp} {E : XK} :
    (cxOf CX P w K mg base N qual scope f cd A outer s H E).K = K := rfl
end L2


set_option maxRecDepth 100000
namespace L2
open PySem PySem.Spec PyProof.Rows

section
variable {ta : TA} {tl : TE} {K : PySem.W.Frag} {g : TG} {tb : TS} {D : Ends} {σ : St} {H : Hp}
end
theorem law_fin {P : Program} {w : World} {K : PySem.W.Frag} {mg : Str → Option Value} {CX : CXT} {k : Nat} {fa : Addr} {x nm : Str} {st : Stmt} {sp : Sp} (hmg : mg nm = some (.ref fa)) (D : DefAt K mg nm st)
    (hb : ∀ (kV doc pm : Value) (an : Option Addr) (cdv ct : Value) (us : List Value), us.length = ([x] : List Str).length → bindArgs (PySem.W.fnOf nm nm (defArgs st) (defBody st) (defScope st) .none kV doc pm an cdv ct) ⟨us, []⟩ = pure (([x] : List Str).zip us))
    (ok : ∀ base : Heap, FnAt P w K mg base CX nm k [x] sp) :
    ∃ fd : FuncData, (∀ (s : Shared) (u : Value), BindsTo s fd ⟨[u], []⟩ [(x, u)]) ∧ ∀ base : Heap, K.In base → base.Ns mainGlobals mg → FnOk P w K mg base CX k fa fd [x] sp := by
  obtain ⟨f, fd, F, hm⟩ := D
  rw [hmg] at hm
  cases hm
  obtain ⟨oc, od, kV, doc, pm, an, cdv, ct, osl, e, lk, hcd⟩ := F.ex
  refine ⟨fd, fun s u => ?_, fun base _ _ => ?_⟩
  · rw [e]
    exact .of_eq (hb kV doc pm an cdv ct [u] rfl)
  · obtain ⟨f', fd', h, hm', _, _, oc', od', osl', lk'⟩ := ok base
    rw [hmg] at hm'
    cases hm'
    rw [lk] at lk'
    cases lk'
    exact h
/-- a law takes a list of at most 63 ints and gives True -/
noncomputable def spLaw (K : PySem.W.Frag) : Sp := fun vs H Q _ => match vs with
  | [.ref a] => ∃ ns : List Int, SqL K H a (ns.map V.int) ∧ ns.length ≤ 63 ∧ Only H ∧ ∀ H', Q (.bl true) H'
  | _ => False
theorem law_walk {l : PySem.W.OpenLaw} {k : Nat} {q : Program} {loose : List Str} {XP : (Str → Option Value) → Heap → Prop} {YP : World → Heap → Prop} {d : DefRec} {K : Params → PySem.W.Frag} {x : Str} (hn : l.most = some 63) (hdf : d.params.defaults = [])
    (hr : Room k callerA) (hY : ∀ (w : World) (h : Heap), YP w h → (K w.params).In h)
    (F : ∀ (w : World) (mg : Str → Option Value) (fa : Addr) (h : Heap), (K w.params).In h → h.Ns mainGlobals mg → mg d.name = some (.ref fa) →
      ∃ fd : FuncData, (∀ (s : Shared) (u : Value), BindsTo s fd ⟨[u], []⟩ [(x, u)]) ∧ ∀ base : Heap, (K w.params).In base → base.Ns mainGlobals mg → FnOk l.prog w (K w.params) mg base CX0 k fa fd [x] (spLaw (K w.params))) :
    PySem.W.WalkO q loose XP YP l.row.toRowW d [] (fun f vs => PySem.call f vs) :=
  L2.walk_ofK (n := 63) (CX := CX0) (sp := spLaw) hn (by decide) hdf hr hY F (fun K H a ns hl hO hS => ⟨ns, hS, hl, hO, fun _ => rfl⟩) fun _ _ _ _ z => z
end L2


set_option maxRecDepth 100000
namespace L2
open PySem PySem.Spec PyProof.Rows

noncomputable def Cx.comp (X : Cx) (scope : Scope) (cl : List (Str × Addr)) (C : Addr) (N : List Str) (s : Shared) (H : Hp) (ex : List Addr) : Cx :=
  { prog := X.prog, w := X.w, K := X.K, mg := X.mg, base := X.base, A := X.A, N := N, s₀ := s, H₀ := H, env := compEnvC scope cl C X.env, outer := X.stack, stack := X.stack, ex := ex, fn := fun _ => false, calm := X.calm, pn := [], xe := fun _ _ => False }

/-- the free names of a block are cells of the frame -/
theorem closure_ok {env : Env} {scope : Scope} (h : ∀ y ∈ scope.names, y.2 = .free → ∃ c, env.cells.lookup y.1 = some c) :
    ∃ cl, closureFor scope env = pure cl ∧ (∀ y c, cl.lookup y = some c → env.cells.lookup y = some c) ∧ ∀ y ∈ scope.names, y.2 = .free → ∃ c, cl.lookup y.1 = some c := by
  have key : ∀ (l : List (Str × NameKind)) (acc : List (Str × Addr)), (∀ y ∈ l, y.2 = .free → ∃ c, env.cells.lookup y.1 = some c) → (∀ y c, acc.lookup y = some c → env.cells.lookup y = some c) →
      ∃ cl, (forIn l acc fun (x : Str × NameKind) (cs : List (Str × Addr)) => if (x.2 == NameKind.free) = true then do let a ← cellOf env x.1; pure (ForInStep.yield ((x.1, a) :: cs)) else pure (ForInStep.yield cs)) = (pure cl : Sem (List (Str × Addr))) ∧
        (∀ y c, cl.lookup y = some c → env.cells.lookup y = some c) ∧ (∀ y c, acc.lookup y = some c → ∃ c, cl.lookup y = some c) ∧ ∀ y ∈ l, y.2 = .free → ∃ c, cl.lookup y.1 = some c := by
    intro l
    induction l with
    | nil => intro acc _ ha; exact ⟨acc, rfl, ha, fun y c e => ⟨c, e⟩, fun y hy => nomatch hy⟩
    | cons x r ih =>
      intro acc hl ha
      obtain ⟨n, k⟩ := x
      by_cases hk : k = .free
      · subst hk
        obtain ⟨c, hc⟩ := hl (n, .free) List.mem_cons_self rfl
        have ha' : ∀ y d, ((n, c) :: acc).lookup y = some d → env.cells.lookup y = some d := fun y d e => by
          simp only [List.lookup_cons] at e
          cases q : y == n with
          | true => rw [q] at e; cases e; rw [beq_iff_eq.mp q]; exact hc
          | false => rw [q] at e; exact ha y d e
        obtain ⟨cl, e, h1, h2, h3⟩ := ih ((n, c) :: acc) (fun y hy => hl y (List.mem_cons_of_mem _ hy)) ha'
        have top : ∃ d, cl.lookup n = some d := h2 n c (by simp [List.lookup_cons])
        refine ⟨cl, ?_, h1, fun y d q => ?_, fun y hy hf => ?_⟩
        · rw [List.forIn_cons]
          have ec : cellOf env n = pure c := by unfold cellOf; rw [hc]
          show ((if (NameKind.free == NameKind.free) = true then (do let a ← cellOf env n; pure (ForInStep.yield ((n, a) :: acc))) else _) >>= _) = _
          rw [if_pos (by decide), ec]
          exact e
        · cases z : y == n with
          | true => rw [beq_iff_eq.mp z]; exact top
          | false => exact h2 y d (by simp only [List.lookup_cons, z]; exact q)
        · rcases List.mem_cons.mp hy with rfl | hy
          · exact top
          · exact h3 y hy hf
      · have hb : (k == NameKind.free) = false := by simpa using hk
        obtain ⟨cl, e, h1, h2, h3⟩ := ih acc (fun y hy => hl y (List.mem_cons_of_mem _ hy)) ha
        refine ⟨cl, ?_, h1, h2, fun y hy hf => ?_⟩
        · rw [List.forIn_cons]
          show ((if (k == NameKind.free) = true then _ else pure (ForInStep.yield acc)) >>= _) = _
          rw [hb, if_neg Bool.false_ne_true]
          exact e
        · rcases List.mem_cons.mp hy with rfl | hy
          · exact absurd hf hk
          · exact h3 y hy hf
  obtain ⟨cl, e, h1, _, h3⟩ := key scope.names [] h (fun y c q => by simp at q)
  refine ⟨cl, ?_, h1, h3⟩
  unfold closureFor
  exact (bind_congr (fun _ => rfl)).trans (by rw [e]; rfl)

theorem relabel_look {scope : Scope} {env : Env} {x : Str} {k : NameKind} (h : (relabel scope env).names.lookup x = some k) : scope.names.lookup x = some k ∨ (scope.names.lookup x = some .free ∧ k = .cell) := by
  unfold relabel at h
  have key : ∀ l : List (Str × NameKind), (l.map fun (n, k) => if (k == NameKind.free && env.scope.kind == .function && env.kindOf n == some .cell) then (n, NameKind.cell) else (n, k)).lookup x = some k → l.lookup x = some k ∨ (l.lookup x = some .free ∧ k = .cell) := by
    intro l
    induction l with
    | nil => intro h; simp at h
    | cons y r ih =>
      obtain ⟨n, j⟩ := y
      intro h
      rw [List.map_cons] at h
      simp only [List.lookup_cons]
      cases q : x == n with
      | true =>
        by_cases hc : (j == NameKind.free && env.scope.kind == .function && env.kindOf n == some .cell) = true
        · simp only [hc, if_true, List.lookup_cons, q] at h
          cases h
          have : j = .free := by
            simp only [Bool.and_eq_true, beq_iff_eq] at hc
            exact hc.1.1
          subst this
          exact .inr ⟨rfl, rfl⟩
        · have hc' : (j == NameKind.free && env.scope.kind == .function && env.kindOf n == some .cell) = false := by simpa using hc
          simp only [hc', Bool.false_eq_true, if_false, List.lookup_cons, q] at h
          exact .inl h
      | false =>
        by_cases hc : (j == NameKind.free && env.scope.kind == .function && env.kindOf n == some .cell) = true
        · simp only [hc, if_true, List.lookup_cons, q] at h
          exact ih h
        · have hc' : (j == NameKind.free && env.scope.kind == .function && env.kindOf n == some .cell) = false := by simpa using hc
          simp only [hc', Bool.false_eq_true, if_false, List.lookup_cons, q] at h
          exact ih h
  exact key _ h

theorem lt_ne {h : Heap} {b n : Addr} {o : Obj} (e : h.get? b = some o) (hn : h.objs.size ≤ n) : b ≠ n := Nat.ne_of_lt (Nat.lt_of_lt_of_le (Heap.lt_size e) hn)
/-- what of its scope a comprehension must have; nv: its own names, ix: the places of the frame's names that it reads -/
structure CScope (X : Cx) (scope : Scope) (N : List Str) (nv : Nat) (ix : List Nat) : Prop where
  kind : scope.kind = .function
  nocell : ∀ y ∈ scope.names, y.2 ≠ .cell
  names : ∀ y ∈ scope.names, y.2 = .local → scope.names.lookup y.1 = some .local
  fre : ∀ y ∈ scope.names, y.2 = .free → X.env.kindOf y.1 = some .cell ∨ X.env.kindOf y.1 = some .free
  len : N.length = nv + ix.length
  at_ : ∀ j y, N[nv + j]? = some y → ∃ i, ix[j]? = some i ∧ X.N[i]? = some y ∧ (X.env.kindOf y = some .cell ∨ X.env.kindOf y = some .free) ∧ scope.names.lookup y = some .free
noncomputable def compSt (nv : Nat) (ix : List Nat) (σ : St) : St := List.replicate nv none ++ ix.map fun i => (σ[i]?).join

section
variable {X : Cx} {pins : List (Addr × Obj)} {σ : St} {H : Hp} {s : Shared} {scope : Scope} {N : List Str} {nv : Nat} {ix : List Nat}
theorem comp_start {h1 : Heap} {tk : Nat} {cl : List (Str × Addr)} {fp : List Addr} {C D : Addr} {oD : Obj} (S : CScope X scope N nv ix) (I : Inv X pins σ H s) (hcl : ∀ y c, cl.lookup y = some c → X.env.cells.lookup y = some c)
    (hcl2 : ∀ y ∈ scope.names, y.2 = .free → ∃ c, cl.lookup y.1 = some c) (hfp : ∀ b ∈ fp, FpOk X pins H b) (hob : ∀ b ∈ fp, b < s.heap.objs.size)
    (hC : s.heap.objs.size ≤ C) (hD : s.heap.objs.size ≤ D) (hDC : D ≠ C) (old : ∀ b o, s.heap.get? b = some o → h1.get? b = some o) {m : Str → Option Value} (hm : h1.Ns C m) (hoD : h1.get? D = some oD) (hdat : ∀ v, oD.data ≠ .cell v) :
    Inv (X.comp scope cl C N s H fp) [(D, oD)] (compSt nv ix σ) H { s with heap := h1, toks := tk } := by
  refine ⟨⟨I.ok.mod, S.kind, I.ok.glob, I.ok.blt, hC, fun x y c e1 e2 => I.ok.inj x y c (hcl x c e1) (hcl y c e2), fun x hx => ?_, fun _ _ z => absurd z Bool.false_ne_true, I.ok.hd, I.ok.frames, .inl rfl, fun b hb => ⟨fun z => ?_, fun x c e => (hfp b hb).2.2.2.2.1 x c (hcl x c e)⟩, I.bs,
    Nat.le_trans I.ok.bsz I.sz, fun b o e hb => ?_, fun b hb z => ?_, I.stack, I.stkFree⟩, rfl, I.bare, Un.kept old, ⟨m, hm, fun i x v e1 e2 e3 => ?_⟩, fun x c e => ?_, I.hok.fresh hC, fun x c e => I.freeC x c (hcl x c e), fun p hp => ?_, I.hok.kept old, ?_⟩
  · have hx' : (relabel scope X.env).names.lookup x = some .cell ∨ (relabel scope X.env).names.lookup x = some .free := hx
    have fr : scope.names.lookup x = some .free := by
      rcases hx' with z | z
      · rcases relabel_look z with q | q
        · exact absurd rfl (S.nocell _ (PySem.mem_of_lookup q))
        · exact q.1
      · rcases relabel_look z with q | q
        · exact q
        · cases q.2
    exact hcl2 (x, .free) (PySem.mem_of_lookup fr) rfl
  · exact Nat.ne_of_lt (Nat.lt_of_lt_of_le (hob b hb) hC) z
  · rcases (hfp b hb).2.2.2.1 with z | z
    · exact I.ok.noex b o e z
    · exact lt_ne e (Nat.le_trans I.ok.bsz z) rfl
  · rcases List.mem_cons.mp (I.stkSub b z) with q | q
    · exact (hfp b hb).2.1 q
    · exact (hfp b hb).2.2.1 q
  · have e1' : N[i]? = some x := e1
    by_cases hi : i < nv
    · have e2' : (compSt nv ix σ)[i]? = some (some v) := e2
      unfold compSt at e2'
      rw [List.getElem?_append_left (by simpa using hi), List.getElem?_replicate, if_pos hi] at e2'
      cases e2'
    · obtain ⟨j, rfl⟩ : ∃ j, i = nv + j := ⟨i - nv, by omega⟩
      obtain ⟨k, hk, hN, hkd, hsc⟩ := S.at_ j x e1'
      have e2' : (compSt nv ix σ)[nv + j]? = some (some v) := e2
      unfold compSt at e2'
      rw [List.getElem?_append_right (by simp), List.length_replicate, Nat.add_sub_cancel_left, List.getElem?_map, hk] at e2'
      have e4 : σ[k]? = some (some v) := by
        have e5 : (σ[k]?).join = some v := by simpa using e2'
        cases q : σ[k]? with
        | none => rw [q] at e5; cases e5
        | some z => rw [q] at e5; have : z = some v := e5; rw [this]
      obtain ⟨m0, _, hl⟩ := I.loc
      have vis : Vis X.env.scope x := by
        rcases hkd with z | z
        · exact .inr (.inl z)
        · exact .inr (.inr z)
      obtain ⟨u, r, l⟩ := hl k x v hN e4 vis
      refine ⟨u, r, ?_⟩
      rcases l with ⟨z, _⟩ | ⟨_, c, hc, hcell⟩
      · rcases hkd with q | q <;> rw [q] at z <;> cases z
      · obtain ⟨c', hc'⟩ := hcl2 (x, .free) (PySem.mem_of_lookup hsc) rfl
        have := hcl x c' hc'
        rw [hc] at this
        cases this
        refine .inr ⟨?_, c, hc', hcell.keeps old⟩
        rcases e3 with z | z | z
        · rcases relabel_look z with q | q
          · rw [hsc] at q; cases q
          · cases q.2
        · exact .inl z
        · exact .inr z
  · obtain ⟨v, q⟩ := I.cell x c (hcl x c e)
    exact ⟨v, q.keeps old⟩
  · have hp' : p ∈ [(D, oD)] := hp
    have e : p = (D, oD) := by simpa using hp'
    subst e
    refine ⟨hoD, I.hok.fresh hD, hDC, fun z => ?_, hdat⟩
    rcases List.mem_cons.mp (I.stkSub D z) with q | q
    · exact Nat.ne_of_gt (Nat.lt_of_lt_of_le I.lt hD) q
    · exact I.nofs hD q
  · show (compSt nv ix σ).length = N.length
    unfold compSt
    rw [List.length_append, List.length_replicate, List.length_map, S.len]
/-- out of the block -/
theorem comp_end {cl : List (Str × Addr)} {fp : List Addr} {C D : Addr} {its : List Value} {ys : List V} {n : Nat} {σ' : St} {H' : Hp} {s' : Shared} (I : Inv X pins σ H s) (hfp : ∀ b ∈ fp, FpOk X pins H b) (hD : s.heap.objs.size ≤ D)
    (J : Inv (X.comp scope cl C N s H fp) [(D, { cls := .type "list", data := .seq its.toArray n })] σ' H' s') (r : Vals ys its) (hl : ys.length ≤ sizeLine) : Inv X pins σ (upd H' D (.lst ys)) s' := by
  obtain ⟨eD, fD, _⟩ := J.pin (D, { cls := .type "list", data := .seq its.toArray n }) (by simp [Cx.comp])
  have U : Un (frs X.stack) fp H H' s.heap s'.heap := J.base
  have neD : ∀ b o, s.heap.get? b = some o → b ≠ D := fun b o e => lt_ne e hD
  refine I.call' (ch := fp) J.os ⟨U.keep, U.slot, fun b o e n hx => ?_, U.there, fun b xs e => ?_, fun b o xs e => ?_, fun b ps e => ?_⟩ (fun b u e => ?_) J.bare fun b hb => (hfp b hb).2.2.2 |> fun z => ⟨z.1, (hfp b hb).2.1, z.2.1, z.2.2⟩
  · rw [upd_ne (neD b o e)]; exact U.free b o e n hx
  · have q := U.tups b xs e
    rw [upd_ne (ne_of_none q fD)]; exact q
  · have q := U.frzs b o xs e
    rw [upd_ne (ne_of_none q fD)]; exact q
  · obtain ⟨more, q⟩ := U.tbls b ps e
    exact ⟨more, by rw [upd_ne (ne_of_none q fD)]; exact q⟩
  · by_cases hb : b = D
    · subst hb
      rw [upd_same] at e
      cases e
      exact ⟨hl, its, n, r, eD⟩
    · rw [upd_ne hb] at e
      exact (J.hok b u e).stay (fun c v _ q => q) (fun c q => by rw [upd_ne (ne_of_none q fD)]; exact q) fun c xs q => by rw [upd_ne (ne_of_none q fD)]; exact q
end

section
variable {prog : Program} {w : World} {A : Around} {E : Value → Shared → Prop} {R : Result → Shared → Prop} {s : Shared}
/-- the loop, the step ahead of the store within -/
theorem compLoop_own {elt target iter : Expr} {ifs : List Expr} {scope : Scope} {pos : Pos} {it acc : Value} {env : Env} (I : Nat → Shared → Prop)
    (turn : ∀ n s, I n s → wpAny (model prog w) A (pyNext it) (fun r s₁ => match r with
      | none => R (.ok .next) s₁
      | some v => wpAny (model prog w) A (letOwnedTupleGo target it v) (fun _ s₀ => wpAny (model prog w) A (assign target env v) (fun _ s₂ =>
          wpAny (model prog w) A (forIn ifs true fun c r => if r = true then do let ok ← isTrue c env (eval c env); pure (ForInStep.yield ok) else pure (ForInStep.yield r)) (fun ok s₃ =>
            if ok = true then wpAny (model prog w) A (eval elt env) (fun x s₄ =>
              wpAny (model prog w) A (call (.builtin "list.append") [acc, x]) (fun _ s₅ => ∃ m, m < n ∧ I m s₅) (fun _ _ => False) s₄) (fun _ _ => False) s₃
            else ∃ m, m < n ∧ I m s₃) (fun _ _ => False) s₂) (fun _ _ => False) s₀) (fun _ _ => False) s₁) (fun _ _ => False) s)
    (n : Nat) (h : I n s) :
    codeAny (model prog w) A (.compLoop (.ListComp elt [⟨target, iter, ifs, 0⟩] scope pos) 0 it acc env) R s := by
  refine codeAny_loop rfl I (fun n s hI => ?_) n h
  show wpAny _ A ((compTurn (.ListComp elt [⟨target, iter, ifs, 0⟩] scope pos) 0 it acc env).onRaise (fun x => do noteFrame x env; theTreesLotGoes x)) _ _ s
  refine wpAny_noted ?_
  rw [compTurn_list]
  refine wpAny_bind (wpAny_standAt (wpAny_bind (wpAny_mono (turn n s hI) (fun r s₁ h₁ => ?_) fun _ _ h' => h'.elim)))
  cases r with
  | none => exact wpAny_pure h₁
  | some v =>
    refine wpAny_bind (wpAny_mono h₁ (fun _ s₀ h₀ => ?_) fun _ _ h' => h'.elim)
    refine wpAny_bind (wpAny_mono h₀ (fun _ s₂ h₂ => wpAny_bind (wpAny_mono h₂ (fun ok s₃ h₃ => ?_) fun _ _ h' => h'.elim)) fun _ _ h' => h'.elim)
    cases ok with
    | false => exact wpAny_pure ⟨rfl, h₃⟩
    | true =>
      exact wpAny_bind (wpAny_bind (wpAny_mono h₃ (fun x s₄ h₄ => wpAny_bind (wpAny_mono h₄ (fun _ s₅ h₅ => wpAny_pure (wpAny_pure ⟨rfl, h₅⟩)) fun _ _ h' => h'.elim)) fun _ _ h' => h'.elim))
end

/-- tests of a comprehension -/
noncomputable def tYes : TT := fun _ H Q => Q true H
/-- the reading -/
noncomputable def compR (J : It) (g : TG) (tt : TT) (te : TE) (σ₀ : St) (H1 : Hp) (Q : List V → Hp → Prop) : Prop :=
  ∃ W : Nat → Nat → List V → St → Hp → Prop, (∃ m, W 0 m [] σ₀ H1) ∧ ∀ i m ys σ' H', W i m ys σ' H' →
    (J.stop i H' ∧ Q ys H') ∨ (J.go i H' ∧ ys.length < sizeLine ∧ ∃ N : List V → St → Hp → Prop, (∀ ys' σ'' H'', N ys' σ'' H'' → ∃ m', m' < m ∧ W (i + 1) m' ys' σ'' H'') ∧
      ∀ x H'', J.yld i H' x H'' → g x σ' H'' fun σ2 H2 => tt σ2 H2 fun b H3 => if b = true then te σ2 H3 fun y H4 => N (ys ++ [y]) σ2 H4 else N ys σ2 H3)
noncomputable def tComp (nv : Nat) (ix : List Nat) (wi : TI) (g : TG) (tt : TT) (te : TE) : TE := fun σ H Q => wi σ H fun J H1 => compR J g tt te (compSt nv ix σ) H1 fun ys H' => ys.length ≤ sizeLine ∧ ∀ D, H' D = none → Q (.ref D) (upd H' D (.lst ys))

section
variable {X : Cx} {tg elt iter : Expr} {ifs : List Expr} {scope : Scope} {N : List Str} {nv : Nat} {ix : List Nat} {pos spos : Pos} {wi : TI} {g : TG} {tt : TT} {te : TE}
/-- the tests of a block -/
noncomputable def PTs (X : Cx) (ifs : List Expr) (tt : TT) : Prop :=
  ∀ (pins : List (Addr × Obj)) (s : Shared) (σ : St) (H : Hp) (Q : Bool → Hp → Prop), Inv X pins σ H s → tt σ H Q →
    wpAny (model X.prog X.w) X.A (forIn ifs true fun c r => if r = true then do let ok ← isTrue c X.env (eval c X.env); pure (ForInStep.yield ok) else pure (ForInStep.yield r)) (TP X pins σ Q) X.xe s
theorem pts_nil : PTs X [] tYes := fun _ _ _ H _ I h => wpAny_tests_nil ⟨H, I, h⟩
theorem pts_one {c : Expr} (h : PT X c tt) : PTs X [c] tt := fun pins s σ H Q I hw => wpAny_tests_one (h pins s σ H Q I hw)

theorem comp_core {use : Option (Value → Sem Unit)} {Qv : Value → Shared → Prop} {pins : List (Addr × Obj)} {s : Shared} {σ : St} {H : Hp} {Q : List V → Hp → Prop} (hc : X.calm = true) (S : CScope X scope N nv ix) (hi : PI X tg iter wi)
    (hg : ∀ cl C s H ex, PG (X.comp scope cl C N s H ex) tg g) (ht : ∀ cl C s H ex, PTs (X.comp scope cl C N s H ex) ifs tt) (he : ∀ cl C s H ex, PE (X.comp scope cl C N s H ex) elt te) (I : Inv X pins σ H s)
    (h : wi σ H fun J H1 => compR J g tt te (compSt nv ix σ) H1 fun ys H' => ys.length ≤ sizeLine ∧ Q ys H')
    (fin : ∀ ys D C H' s' (s2 : Shared) (σ2 : St), Q ys H' → H' D = none → D ≠ C → Inv X pins σ (upd H' D (.lst ys)) s' → (∃ m, s'.heap.Ns C m) → (∀ H'', H'' C = none → FpOk X pins H'' C) → H' C = none → compPost (model X.prog X.w) X.A X.xe use Qv (.ref D) C (.ok .next) s')
    (hs : ∀ x, foldedSetIterable iter X.env x = pure x) :
    wpAny (model X.prog X.w) X.A (comprehension (.ListComp elt [⟨tg, iter, ifs, 0⟩] scope pos) scope X.env (firstIterPos [⟨tg, iter, ifs, 0⟩] pos) (newList []) false (eval iter X.env) use) Qv X.xe s := by
  obtain ⟨cl, hclos, hcl, hcl2⟩ := closure_ok (env := X.env) (scope := scope) fun y hy hf => I.ok.has y.1 (S.fre y hy hf)
  refine wpAny_comprehension_free (use := use) rfl hs hclos S.kind S.names (thn (hi pins s σ H _ I h) fun v s1 h1 => thn h1 fun itv s2 h2 => ?_)
  obtain ⟨it, fp, tn, J, H2, e, I2, T, st2, f2, W, ⟨m0, w0⟩, turn⟩ := h2
  subst e
  refine wpAny_newObj_type (wpAny_newFunctionEnv S.nocell (by intro y hy; simp at hy) (fun h₁ hns₁ hsb₁ => ?_) S.kind)
  dsimp only at hns₁ hsb₁ ⊢
  generalize hH2 : s2.heap.push { cls := .type "list", dict := none, data := .seq ([] : List Value).toArray } = G2 at hns₁ hsb₁ ⊢
  have hC : G2.objs.size = s2.heap.objs.size + 1 := by rw [← hH2, Heap.size_push]
  have hDC : s2.heap.objs.size ≠ G2.objs.size := by rw [hC]; exact Nat.ne_of_lt (Nat.lt_succ_self _)
  have old : ∀ b o, s2.heap.get? b = some o → h₁.get? b = some o := fun b o e => hsb₁.extBut b o (lt_ne e (by rw [hC]; exact Nat.le_succ _)) (Heap.get?_push_of_some _ (hH2 ▸ Heap.get?_push_of_some _ e))
  have hacc : h₁.get? s2.heap.objs.size = some { cls := .type "list", data := .seq ([] : List Value).toArray 0 } := hsb₁.extBut _ _ hDC (Heap.get?_push_of_some _ (hH2 ▸ Heap.get?_push_size _ rfl))
  have hob : ∀ b ∈ fp, b < s2.heap.objs.size := fun b hb => by
    obtain ⟨o, e, _⟩ := T.obj _ _ st2 b hb
    exact Heap.lt_size e
  have hCle : s2.heap.objs.size ≤ G2.objs.size := by rw [hC]; exact Nat.le_succ _
  have I4 : ∀ tk, Inv (X.comp scope cl G2.objs.size N s2 H2 fp) [(s2.heap.objs.size, { cls := .type "list", data := .seq ([] : List Value).toArray 0 })] (compSt nv ix σ) H2 { s2 with heap := h₁, toks := tk } := fun tk =>
    comp_start S I2 hcl hcl2 f2 hob hCle (Nat.le_refl _) hDC old hns₁ hacc (fun v z => by cases z)
  have hst₁ : tn 0 h₁ := T.keep _ _ _ st2 fun b _ o e => old b o e
  have stat : ∀ {H' : Hp} {pns : List (Addr × Obj)}, (∀ p ∈ pns, p.1 = s2.heap.objs.size) → (∀ b ∈ fp, H' b = none) → ∀ b ∈ fp, FpOk (X.comp scope cl G2.objs.size N s2 H2 fp) pns H' b := fun {H' pns} hp hn b hb => by
    obtain ⟨f0, f1, f3, f4, f5, f6⟩ := f2 b hb
    have hlt := hob b hb
    refine ⟨hn b hb, fun z => ?_, fun z => ?_, .inl hb, fun x c e => f5 x c (hcl x c e), fun p hp' z => ?_⟩
    · exact Nat.ne_of_lt (Nat.lt_of_lt_of_le hlt hCle) z
    · rcases List.mem_cons.mp (I2.stkSub b z) with q | q
      · exact f1 q
      · exact f3 q
    · have hp'' : p ∈ pns := by simpa [Cx.comp] using hp'
      exact Nat.ne_of_gt (by rw [hp p hp'']; exact hlt) z
  have loop : ∀ s₃ : Shared, s₃ = { s2 with heap := h₁, toks := s2.toks + ([] : List (Str × Value)).length } →
      codeAny (model X.prog X.w) X.A (.compLoop (.ListComp elt [⟨tg, iter, ifs, 0⟩] scope pos) 0 (.ref it) (.ref s2.heap.objs.size) (compEnvC scope cl G2.objs.size X.env))
        (compPost (model X.prog X.w) X.A X.xe use Qv (.ref s2.heap.objs.size) G2.objs.size) s₃ := by
    rintro s₃ rfl
    refine compLoop_own (fun n s' => ∃ i ys its σ' H', Inv (X.comp scope cl G2.objs.size N s2 H2 fp) [(s2.heap.objs.size, { cls := .type "list", data := .seq its.toArray its.length })] σ' H' s' ∧ tn i s'.heap ∧ (∀ b ∈ fp, H' b = none) ∧ Vals ys its ∧ W i n ys σ' H') ?_ m0
      ⟨0, [], [], _, H2, I4 _, hst₁, fun b hb => (f2 b hb).1, .nil, w0⟩
    rintro n s' ⟨i, ys, its, σ', H', I', st', fr', rv, w'⟩
    have pin1 : ∀ {o : Obj}, ∀ p ∈ [(s2.heap.objs.size, o)], p.1 = s2.heap.objs.size := fun {o} p hp => by
      exact congrArg Prod.fst (List.mem_singleton.mp hp)
    rcases turn i n ys σ' H' w' with ⟨stop, hl, qn⟩ | ⟨go, hlen, Nx, hN, step⟩
    · refine thn (T.done (X.comp scope cl G2.objs.size N s2 H2 fp) rfl rfl rfl hc i _ s' σ' H' (fun _ _ => False) I' (stat pin1 fr') st' stop) fun r s4 ⟨hr, I5⟩ => ?_
      subst hr
      obtain ⟨m5, hm5, _⟩ := I5.loc
      have fD := (I5.pin (s2.heap.objs.size, { cls := .type "list", data := .seq its.toArray its.length }) (List.mem_append_right _ (by simp))).2.1
      exact fin ys _ _ H' s4 s2 σ' qn fD hDC (comp_end I2 f2 (Nat.le_refl _) I5 rv hl) ⟨m5, hm5⟩ (fun H'' hn => I2.fpOk hCle hn) I5.free
    · refine thn (T.item (X.comp scope cl G2.objs.size N s2 H2 fp) rfl rfl rfl hc i _ s' σ' H' (fun _ _ => False) I' (stat pin1 fr') st' go) fun r s4 ⟨u, hr, h4⟩ => ?_
      subst hr
      refine thn h4 fun _ s5 ⟨x, H5, I5, r5, y5, st5, fr5⟩ => ?_
      have I5' := I5.pinned (stat pin1 fr5) (T.obj _ _ st5)
      refine thn (hg _ _ _ _ _ _ s5 σ' H5 x u _ I5' r5 (step x H5 y5)) fun _ s6 ⟨σ6, H6, I6, q6⟩ => ?_
      refine thn (ht _ _ _ _ _ _ s6 σ6 H6 _ I6 q6) fun b s7 ⟨H7, I7, q7⟩ => ?_
      have back : ∀ {σ8 : St} {H8 : Hp} {s8 : Shared}, Inv (X.comp scope cl G2.objs.size N s2 H2 fp) ([(s2.heap.objs.size, { cls := .type "list", data := .seq its.toArray its.length })] ++ pinsAt fp s5.heap) σ8 H8 s8 → tn (i + 1) s8.heap ∧ ∀ b ∈ fp, H8 b = none := fun {σ8 H8 s8} J =>
        ⟨T.keep _ _ _ st5 fun b hb o e => (J.pin (b, o) (List.mem_append_right _ (List.mem_append_right _ (mem_pinsAt hb e)))).1, fun b hb => by
          obtain ⟨o, e, d⟩ := T.obj _ _ st5 b hb
          exact (J.pin (b, o) (List.mem_append_right _ (List.mem_append_right _ (mem_pinsAt hb e)))).2.1⟩
      cases b with
      | false =>
        rw [if_neg Bool.false_ne_true] at q7
        obtain ⟨m', hm, w7⟩ := hN _ _ _ q7
        exact ⟨m', hm, i + 1, ys, its, σ6, H7, I7.unpinned, (back I7).1, (back I7).2, rv, w7⟩
      | true =>
        rw [if_pos rfl] at q7
        refine thn (he _ _ _ _ _ _ s7 σ6 H7 _ I7 q7) fun y s8 ⟨yv, H8, I8, r8, q8⟩ => ?_
        obtain ⟨eD, fD, nD, nfD, dD⟩ := I8.pin (s2.heap.objs.size, { cls := .type "list", data := .seq its.toArray its.length }) (List.mem_append_right _ (by simp))
        refine append_at (hsz := by rw [List.size_toArray, ← rv.length]; exact Nat.le_of_lt hlen) eD fun h₅ hs₅ hD₅ => ?_
        obtain ⟨m', hm, w8⟩ := hN _ _ _ q8
        have fpD : s2.heap.objs.size ∉ fp := fun z => Nat.lt_irrefl _ (hob _ z)
        have I9 : Inv (X.comp scope cl G2.objs.size N s2 H2 fp) [] σ6 H8 s8 := I8.pins_of fun p hp => absurd hp (by simp)
        have fk := I2.fpOk (H' := H8) (Nat.le_refl _) fD
        have I10 : Inv (X.comp scope cl G2.objs.size N s2 H2 fp) [] σ6 H8 { s8 with heap := h₅, toks := s8.toks } :=
          I9.turned (it := s2.heap.objs.size) (fun b o hb e => hs₅.extBut b o hb e) fD nD (.inr (Nat.le_refl _)) (fun x c e => fk.2.2.2.2.1 x c (hcl x c e)) (fun p hp => absurd hp (by simp [Cx.comp]))
        refine ⟨m', hm, i + 1, ys ++ [yv], its ++ [y], σ6, H8, I10.pins_of fun p hp => ?_, ?_, (back I8).2, rv.append (.cons r8 .nil), w8⟩
        · have e : p = (s2.heap.objs.size, { cls := .type "list", data := .seq (its ++ [y]).toArray (its ++ [y]).length }) := by simpa using hp
          subst e
          refine ⟨?_, fD, nD, nfD, fun v z => by cases z⟩
          show h₅.get? s2.heap.objs.size = _
          rw [hD₅, List.push_toArray, List.length_append, List.length_singleton]
        · exact T.keep _ _ _ (back I8).1 fun b hb o e => hs₅.extBut b o (fun z => fpD (by have z' : b = s2.heap.objs.size := z; rw [← z']; exact hb)) e
  exact codeAny_compStart_list (loop _ rfl) (T.self _ 0 _ _ _ hst₁ (loop _ rfl))

theorem pe_comp (hc : X.calm = true) (S : CScope X scope N nv ix) (hi : PI X tg iter wi)
    (hg : ∀ cl C s H ex, PG (X.comp scope cl C N s H ex) tg g) (ht : ∀ cl C s H ex, PTs (X.comp scope cl C N s H ex) ifs tt) (he : ∀ cl C s H ex, PE (X.comp scope cl C N s H ex) elt te)
    (hs : ∀ x, foldedSetIterable iter X.env x = pure x := by intro _; rfl) : PE X (.ListComp elt [⟨tg, iter, ifs, 0⟩] scope pos) (tComp nv ix wi g tt te) := by
  intro pins s σ H Q I h
  rw [eval_ListComp]
  refine comp_core (Q := fun ys H' => ∀ D, H' D = none → Q (.ref D) (upd H' D (.lst ys))) (use := none) hc S hi hg ht he I ?_ (fun ys D C H' s' s2 σ2 q fD hDC J hm fk fC => ?_) hs
  · exact h
  · obtain ⟨m, hm⟩ := hm
    refine ⟨m, hm, fun h' sb => ⟨.ref D, _, ?_, rfl, q D fD⟩⟩
    have fC' : upd H' D (.lst ys) C = none := by rw [upd_ne (Ne.symm hDC)]; exact fC
    obtain ⟨f0, f1, f2, f3, f4, f5⟩ := fk _ fC'
    exact J.turned (t' := s'.toks) (it := C) (fun b o hb e => sb.extBut b o hb e) f0 f1 f3 f4 f5
/-- name = a comprehension (the store ahead of the block's own names being let go) -/
theorem ps_setc {i : Nat} {x : Str} {px : Pos} (hc : X.calm = true) (hN : X.N.Nodup) (hi' : X.N[i]? = some x) (hx : X.env.scope.names.lookup x = some .local) (S : CScope X scope N nv ix) (hi : PI X tg iter wi)
    (hg : ∀ cl C s H ex, PG (X.comp scope cl C N s H ex) tg g) (ht : ∀ cl C s H ex, PTs (X.comp scope cl C N s H ex) ifs tt) (he : ∀ cl C s H ex, PE (X.comp scope cl C N s H ex) elt te)
    (hsw : swapsWith (.ListComp elt [⟨tg, iter, ifs, 0⟩] scope pos) (some (.Name x px)) spos.line X.env = pure true := by rfl)
    (hs : ∀ x, foldedSetIterable iter X.env x = pure x := by intro _; rfl) : PS X (.Assign [.Name x px] (.ListComp elt [⟨tg, iter, ifs, 0⟩] scope pos) spos) (tAsg (tComp nv ix wi g tt te) (gName i)) := by
  intro pins s σ H D I h
  rw [exec_Assign_Name_used _ _ _ _ hsw]
  refine wpAny_bind (wpAny_standAt (wpAny_bind ?_))
  show wpAny _ _ (do let _ ← comprehension (.ListComp elt [⟨tg, iter, ifs, 0⟩] scope pos) scope X.env (firstIterPos [⟨tg, iter, ifs, 0⟩] pos) (newList []) false (eval iter X.env) (some (assign (.Name x px) X.env))) _ _ s
  refine wpAny_bind (thn (comp_core (Q := fun ys H' => ∀ l, H' l = none → D.nx (σ.set i (some (.ref l))) (upd H' l (.lst ys))) (use := some (assign (.Name x px) X.env)) (Qv := fun _ s' => SP X pins D .next s') hc S hi hg ht he I h (fun ys l C H' s' s2 σ2 q fD hDC J hm fk fC => ?_) hs)
    fun _ s' hq => wpAny_pure (wpAny_pure hq))
  obtain ⟨m, hm⟩ := hm
  have fC' : upd H' l (.lst ys) C = none := by rw [upd_ne (Ne.symm hDC)]; exact fC
  obtain ⟨f0, f1, f2, f3, f4, f5⟩ := fk _ fC'
  show wpAny _ _ (assign (.Name x px) X.env (.ref l)) _ _ s'
  refine wpAny_assign_Name (store_ok2 J hN hi' (.inl hx) (v := .ref l) (u := .ref l) rfl (fun s'' J' ⟨a, sb, ha⟩ => ?_) (.inr hx))
  have hCa : C ≠ a := by
    rcases ha with z | z
    · rw [z]; exact f1
    · exact Ne.symm (f4 x a z)
  refine ⟨m, hm.sameBut sb hCa, fun h' sb' => ⟨_, _, ?_, q l fD⟩⟩
  exact J'.turned (t' := s''.toks) (it := C) (fun b o hb e => sb'.extBut b o hb e) f0 f1 f3 f4 f5
end
end L2


set_option maxRecDepth 100000
namespace L2
open PySem PySem.Spec PyProof.Rows

noncomputable def Its (x : Str) : It := ⟨fun i _ => i < x.cps.size, fun i H v H' => H' = H ∧ ∃ c, x.cps[i]? = some c ∧ v = .str ⟨#[c]⟩, fun i _ => x.cps.size ≤ i⟩
theorem turn_str {P : Program} {w : World} {K : PySem.W.Frag} {tg : Expr} (it : Addr) (x : Str) (t : Tok) (T : String) (hT : T = "str_ascii_iterator" ∨ T = "str_iterator") : Turn P w K tg (Its x) [it] it (fun i h => h.IsStrIter it T x t i) where
  mem := by simp
  obj := fun i h st b hb => by
    have e : b = it := by simpa using hb
    subst e
    obtain ⟨o, e, c, d⟩ := st
    exact ⟨o, e, fun v z => by rw [d] at z; cases z⟩
  keep := fun i h h' st k => by
    obtain ⟨o, e, r⟩ := st
    exact ⟨o, k it (by simp) o e, r⟩
  item := by
    intro X hP hw hK hc i pins s σ H E I hf st hg
    subst hP hw hK
    obtain ⟨f0, f1, f2, f3, f4, f5⟩ := hf it (by simp)
    have hg' : i < x.cps.size := hg
    have W : Walks X.prog X.w X.A it [it] [it] x.cps.size (SignAt x) (fun i h => h.IsStrIter it T x t i) := by
      rcases hT with rfl | rfl
      · exact Walks.strAscii (I.ok.hd hc) it x t
      · exact Walks.strWide (I.ok.hd hc) it x t
    refine W.item i s _ _ hg' st fun v h' tk hv st' kk => ?_
    obtain ⟨c, u, hcx, rfl⟩ := hv
    have I1 : Inv X pins σ H { s with heap := h', toks := tk } := I.turned (fun b o hb e => kk b o (by simpa using hb) e) f0 f1 f3 f4 f5
    obtain ⟨o, e, c', d⟩ := id st'
    refine ⟨_, rfl, go_of (s := { s with heap := h', toks := tk }) e c' d (by rcases hT with rfl | rfl <;> decide) ⟨.str ⟨#[c]⟩, H, I1, ⟨u, rfl⟩, ⟨rfl, c, hcx, rfl⟩, st', fun b hb => (hf b hb).1⟩⟩
  done := by
    intro X hP hw hK hc i pins s σ H E I hf st hg
    subst hP hw hK
    obtain ⟨f0, f1, f2, f3, f4, f5⟩ := hf it (by simp)
    have hg' : x.cps.size ≤ i := hg
    have he : x.cps[i]? = none := by simp [hg']
    rcases hT with rfl | rfl
    · exact wpAny_pyNext_ascii_end (I.ok.hd hc) st he fun h' eb => ⟨rfl, I.turned (t' := s.toks) (fun b o hb e => eb b o hb e) f0 f1 f3 f4 f5⟩
    · exact wpAny_pyNext_wide_end (I.ok.hd hc) st he fun h' eb => ⟨rfl, I.turned (t' := s.toks) (fun b o hb e => eb b o hb e) f0 f1 f3 f4 f5⟩
  self := fun _ _ _ _ _ st h => by
    rcases hT with rfl | rfl
    · exact wpAny_pyIter_striter_ascii st h
    · exact wpAny_pyIter_striter_wide st h

noncomputable def seqR (K : PySem.W.Frag) (x : V) (H1 : Hp) (R : It → Hp → Prop) : Prop := match x with
  | .ref a => (∃ xs, SqL K H1 a xs ∧ R (Itl K a) H1) ∨ (∃ xs, SqT K H1 a xs ∧ R (Itt K a) H1)
  | .str z => R (Its z) H1
  | _ => False
noncomputable def iSeq (K : PySem.W.Frag) (tl : TE) : TI := fun σ H R => tl σ H fun x H1 => seqR K x H1 R
theorem pi_seq {X : Cx} {tg l : Expr} {tl : TE} (hl : PE X l tl) : PI X tg l (iSeq X.K tl) := by
  intro pins s σ H R I h
  refine thn (hl pins s σ H _ I h) fun v s1 ⟨x, H1, I1, r1, q1⟩ => ?_
  cases x with
  | ref a =>
    cases r1
    rcases q1 with ⟨xs, hq, q⟩ | ⟨xs, hq, q⟩
    · obtain ⟨its, rv, p, hz⟩ := I1.list hq
      refine wpAny_pyIter_list p.isList ?_
      refine ⟨s1.heap.objs.size, [s1.heap.objs.size], _, _, H1, rfl, I1.kept (t' := s1.toks) fun b o e => Heap.get?_push_of_some _ e, turn_list a _, ⟨_, Heap.get?_push_size _ rfl, rfl, rfl⟩, fun b hb => ?_, q⟩
      have e : b = s1.heap.objs.size := by simpa using hb
      subst e
      exact I1.fpOk (Nat.le_refl _) (I1.hok.fresh (Nat.le_refl _))
    · obtain ⟨its, rv, p, hz⟩ := I1.tuple hq
      refine wpAny_pyIter_tuple (show s1.heap.IsTuple a its.toArray from p) ?_
      refine ⟨s1.heap.objs.size, [s1.heap.objs.size], _, _, H1, rfl, I1.kept (t' := s1.toks) fun b o e => Heap.get?_push_of_some _ e, turn_tuple a _, ⟨_, Heap.get?_push_size _ rfl, rfl, rfl⟩, fun b hb => ?_, q⟩
      have e : b = s1.heap.objs.size := by simpa using hb
      subst e
      exact I1.fpOk (Nat.le_refl _) (I1.hok.fresh (Nat.le_refl _))
  | str z =>
    obtain ⟨t, rfl⟩ := r1
    have fp : ∀ b ∈ [s1.heap.objs.size], FpOk X pins H1 b := fun b hb => by
      have e : b = s1.heap.objs.size := by simpa using hb
      subst e
      exact I1.fpOk (Nat.le_refl _) (I1.hok.fresh (Nat.le_refl _))
    cases ha : z.cps.all (· < 128)
    · exact wpAny_pyIter_wide ha ⟨s1.heap.objs.size, [s1.heap.objs.size], _, _, H1, rfl, I1.kept (t' := s1.toks) fun b o e => Heap.get?_push_of_some _ e, turn_str _ z t _ (.inr rfl), ⟨_, Heap.get?_push_size _ rfl, rfl, rfl⟩, fp, q1⟩
    · exact wpAny_pyIter_ascii ha ⟨s1.heap.objs.size, [s1.heap.objs.size], _, _, H1, rfl, I1.kept (t' := s1.toks) fun b o e => Heap.get?_push_of_some _ e, turn_str _ z t _ (.inl rfl), ⟨_, Heap.get?_push_size _ rfl, rfl, rfl⟩, fp, q1⟩
  | _ => exact q1.elim

noncomputable def forR (J : It) (g : TG) (tb : TS) (D : Ends) (σ : St) (H : Hp) : Prop := ∃ W : Nat → Nat → St → Hp → Prop, (∃ m, W 0 m σ H) ∧ ∀ i m σ H, W i m σ H →
  (J.stop i H ∧ D.nx σ H) ∨ (J.go i H ∧ ∃ N : St → Hp → Prop, (∀ σ' H', N σ' H' → ∃ m', m' < m ∧ W (i + 1) m' σ' H') ∧ ∀ x H', J.yld i H x H' → g x σ H' fun σ2 H2 => tb { D with nx := N, ct := N, bk := D.nx } σ2 H2)
section
variable {K : PySem.W.Frag} {tl : TE} {g : TG} {tb : TS} {D : Ends} {σ : St} {H : Hp} {tt : TT} {te : TE} {nv : Nat} {ix : List Nat} {Q : VK} {ta : TA}
theorem tFor_seq : tFor (iSeq K tl) g tb D σ H = tl σ H fun x H1 => seqR K x H1 fun J H2 => forR J g tb D σ H2 := rfl
theorem tComp_seq : tComp nv ix (iSeq K tl) g tt te σ H Q = tl σ H fun x H1 => seqR K x H1 fun J H2 => compR J g tt te (compSt nv ix σ) H2 fun ys H' => ys.length ≤ sizeLine ∧ ∀ l, H' l = none → Q (.ref l) (upd H' l (.lst ys)) := rfl
noncomputable def rngR1 (vs : List V) (H1 : Hp) (R : It → Hp → Prop) : Prop := match vs with
  | [.int j] => (-(2 ^ 62) ≤ j ∧ j < 2 ^ 62) ∧ R (Itr 0 j.toNat) H1
  | _ => False
noncomputable def rngR2 (vs : List V) (H1 : Hp) (R : It → Hp → Prop) : Prop := match vs with
  | [.int i, .int j] => (-(2 ^ 62) ≤ i ∧ i < 2 ^ 62 ∧ -(2 ^ 62) ≤ j ∧ j < 2 ^ 62) ∧ R (Itr i (j - i).toNat) H1
  | _ => False
noncomputable def jRng1 (ta : TA) : TI := fun σ H R => ta σ H fun vs H1 => rngR1 vs H1 R
noncomputable def jRng2 (ta : TA) : TI := fun σ H R => ta σ H fun vs H1 => rngR2 vs H1 R
noncomputable def rngR3 (vs : List V) (H1 : Hp) (R : It → Hp → Prop) : Prop := match vs with
  | [.int i, .int j, .int c] => (-(2 ^ 61) ≤ i ∧ i < 2 ^ 61 ∧ -(2 ^ 61) ≤ j ∧ j < 2 ^ 61 ∧ 0 < c ∧ c < 1000000) ∧ R (ItrS i c (rcount i j c)) H1
  | _ => False
noncomputable def jRng3 (ta : TA) : TI := fun σ H R => ta σ H fun vs H1 => rngR3 vs H1 R
theorem tFor_rng1 : tFor (jRng1 ta) g tb D σ H = ta σ H fun vs H1 => rngR1 vs H1 fun J H2 => forR J g tb D σ H2 := rfl
theorem tFor_rng2 : tFor (jRng2 ta) g tb D σ H = ta σ H fun vs H1 => rngR2 vs H1 fun J H2 => forR J g tb D σ H2 := rfl
theorem tFor_rng3 : tFor (jRng3 ta) g tb D σ H = ta σ H fun vs H1 => rngR3 vs H1 fun J H2 => forR J g tb D σ H2 := rfl
theorem tComp_rng1 : tComp nv ix (jRng1 ta) g tt te σ H Q = ta σ H fun vs H1 => rngR1 vs H1 fun J H2 => compR J g tt te (compSt nv ix σ) H2 fun ys H' => ys.length ≤ sizeLine ∧ ∀ l, H' l = none → Q (.ref l) (upd H' l (.lst ys)) := rfl
theorem tComp_rng2 : tComp nv ix (jRng2 ta) g tt te σ H Q = ta σ H fun vs H1 => rngR2 vs H1 fun J H2 => compR J g tt te (compSt nv ix σ) H2 fun ys H' => ys.length ≤ sizeLine ∧ ∀ l, H' l = none → Q (.ref l) (upd H' l (.lst ys)) := rfl
theorem tComp_rng3 : tComp nv ix (jRng3 ta) g tt te σ H Q = ta σ H fun vs H1 => rngR3 vs H1 fun J H2 => compR J g tt te (compSt nv ix σ) H2 fun ys H' => ys.length ≤ sizeLine ∧ ∀ l, H' l = none → Q (.ref l) (upd H' l (.lst ys)) := rfl
theorem rngR1_int {j : Int} {R : It → Hp → Prop} : rngR1 [.int j] H R = ((-(2 ^ 62) ≤ j ∧ j < 2 ^ 62) ∧ R (Itr 0 j.toNat) H) := rfl
theorem rngR2_int {i j : Int} {R : It → Hp → Prop} : rngR2 [.int i, .int j] H R = ((-(2 ^ 62) ≤ i ∧ i < 2 ^ 62 ∧ -(2 ^ 62) ≤ j ∧ j < 2 ^ 62) ∧ R (Itr i (j - i).toNat) H) := rfl
theorem rngR3_int {i j c : Int} {R : It → Hp → Prop} : rngR3 [.int i, .int j, .int c] H R = ((-(2 ^ 61) ≤ i ∧ i < 2 ^ 61 ∧ -(2 ^ 61) ≤ j ∧ j < 2 ^ 61 ∧ 0 < c ∧ c < 1000000) ∧ R (ItrS i c (rcount i j c)) H) := rfl
end
section
variable {X : Cx} {tg : Expr}
theorem pj_range1 {a : Expr} {ta : TA} {p pos : Pos} (hg : Gl X "range") (hm : X.mg "range" = none) (ha : PA X [a] ta) (hs : starEach [a] X.env = [(false, eval a X.env)] := by rfl) : PI X tg (.Call (.Name "range" p) [a] [] pos) (jRng1 ta) := by
  intro pins s σ H R I h
  refine Call_ (ld_blt I hg hm boot_range (PyProof.Rows.callWith_type1 (thn (ha pos pins s σ H _ I h) fun us s1 ⟨vs, H1, I1, r1, q1⟩ => ?_) hs rfl))
  replace q1 : rngR1 vs H1 R := q1
  unfold rngR1 at q1
  split at q1
  · obtain ⟨⟨q1, q2⟩, q⟩ := q1
    cases r1 with
    | cons r rr =>
      cases rr
      obtain ⟨t, rfl⟩ := r
      exact call_range_1 (range_it I1 (by omega) (by omega) q1 q2 (by simpa using q))
  · exact q1.elim
theorem pj_range2 {a b : Expr} {ta : TA} {p pos : Pos} (hg : Gl X "range") (hm : X.mg "range" = none) (ha : PA X [a, b] ta) (hs : starEach [a, b] X.env = [(false, eval a X.env), (false, eval b X.env)] := by rfl) (hs2 : starEach [b] X.env = [(false, eval b X.env)] := by rfl) :
    PI X tg (.Call (.Name "range" p) [a, b] [] pos) (jRng2 ta) := by
  intro pins s σ H R I h
  refine Call_ (ld_blt I hg hm boot_range (PyProof.Rows.callWith_type1 (thn (ha pos pins s σ H _ I h) fun us s1 ⟨vs, H1, I1, r1, q1⟩ => ?_) (by rw [hs, hs2]) (by rw [hs2]; rfl)))
  replace q1 : rngR2 vs H1 R := q1
  unfold rngR2 at q1
  split at q1
  · obtain ⟨⟨q1, q2, q3, q4⟩, q⟩ := q1
    cases r1 with
    | cons r rr =>
      cases rr with
      | cons r' rr =>
        cases rr
        obtain ⟨t, rfl⟩ := r
        obtain ⟨t', rfl⟩ := r'
        exact call_range_2 (range_it I1 q1 q2 q3 q4 q)
  · exact q1.elim
end
section
variable {K : PySem.W.Frag} {g : TG} {tb : TS} {D : Ends} {σ : St} {H : Hp}
theorem fo_rng {lo : Int} {n : Nat} (Pv : Nat → St → Hp → Prop) (h0 : Pv 0 σ H)
    (hs : ∀ (i : Nat) σ H, i < n → Pv i σ H → g (.int (lo + i)) σ H fun σ2 H2 => tb { D with nx := Pv (i + 1), ct := Pv (i + 1), bk := D.nx } σ2 H2) (hd : ∀ σ H, Pv n σ H → D.nx σ H) :
    forR (Itr lo n) g tb D σ H := for_range Pv h0 hs hd
end

section
variable {K : PySem.W.Frag} {tt : TT} {te : TE} {H : Hp} {tail : St} {Q : List V → Hp → Prop} {p : V → Bool} {f : V → V}
theorem compSt_one {ix : List Nat} {σ : St} : compSt 1 ix σ = none :: ix.map fun i => (σ[i]?).join := rfl
end
end L2


set_option maxRecDepth 100000
namespace L2
open PySem PySem.Spec PyProof.Rows

section
variable {X : Cx}
noncomputable def rIsB (neg : Bool) : R2 := fun x y H Q => match y with
  | .bl b => Q (.bl (if neg then !decide (x = .bl b) else decide (x = .bl b))) H
  | _ => False
theorem dec_blbl {a b : Bool} : decide (V.bl a = V.bl b) = decide (a = b) := by
  cases a <;> cases b <;> decide
theorem rIsB_bl {a b : Bool} {H : Hp} {Q : VK} : rIsB false (.bl a) (.bl b) H Q = Q (.bl (decide (a = b))) H := by
  show Q (.bl (if false = true then _ else decide (V.bl a = V.bl b))) H = _
  rw [if_neg Bool.false_ne_true, dec_blbl]
theorem rIsnotB_bl {a b : Bool} {H : Hp} {Q : VK} : rIsB true (.bl a) (.bl b) H Q = Q (.bl (!decide (a = b))) H := by
  show Q (.bl (if true = true then !decide (V.bl a = V.bl b) else _)) H = _
  rw [if_pos rfl, dec_blbl]

noncomputable def rIsN (neg : Bool) : R2 := fun x y H Q => match y with
  | .non => Q (.bl (if neg then !decide (x = .non) else decide (x = .non))) H
  | _ => False
theorem op_isNA : OpR X (compareOp .Is) (rIsN false) := OpR.imp op_isN fun x y H Q h => by
  unfold rIsN at h
  split at h
  · exact ⟨rfl, h⟩
  · exact h.elim
theorem rIsN_f {x : V} {H : Hp} {Q : VK} : rIsN false x .non H Q = Q (.bl (decide (x = .non))) H := rfl
theorem rIsN_t {x : V} {H : Hp} {Q : VK} : rIsN true x .non H Q = Q (.bl (!decide (x = .non))) H := rfl

noncomputable def rBitlen : V → List V → Hp → VK → Prop := fun x vs H Q => match x, vs with
  | .int i, [] => Q (.int ((Builtin.Int.intBits i : Nat) : Int)) H
  | _, _ => False
theorem tyV_int {K : PySem.W.Frag} {i : Int} {H : Hp} : tyV K "int" (.int i) H = True := by
  show ("int" = "int") = True
  simp
theorem tyV_str {K : PySem.W.Frag} {z : Str} {H : Hp} : tyV K "str" (.str z) H = True := by
  show ("str" = "str") = True
  simp
theorem rBitlen_int {i : Int} {H : Hp} {Q : VK} : rBitlen (.int i) [] H Q = Q (.int ((Builtin.Int.intBits i : Nat) : Int)) H := rfl

noncomputable def rSlS : V → Option Int → Option Int → Hp → VK → Prop := fun x lo hi H Q => ∃ z, x = .str z ∧ z.length ≤ sizeLine ∧ Q (.str (Txt.slice z lo hi)) H
theorem part_val {v : Value} {o : Option Int} (h : IsPart v o) : ∃ l : Option (Int × Tok), v = partValue l ∧ l.map (·.1) = o := by
  cases h with
  | none => exact ⟨none, rfl, rfl⟩
  | int i t => exact ⟨some (i, t), rfl, rfl⟩
theorem sl_str : SlR X rSlS := by
  intro pins s σ H x v vl vu lo hi sl Q I rx hs pl pu h
  obtain ⟨z, rfl, hz, q⟩ := h
  obtain ⟨t, rfl⟩ := rx
  obtain ⟨l, rfl, el⟩ := part_val pl
  obtain ⟨u, rfl, eu⟩ := part_val pu
  refine ⟨"str", _, F.slot_str_getitem.lookup, typeIs_str _ _ _, wpAny_getItem_str_slice (l := l) (u := u) (st := none) hs rfl ?_⟩
  unfold sliceMade
  have e : slicePicked z l u none = Builtin.Str.strSliceIndices lo hi 1 z.length := by
    unfold slicePicked
    rw [el, eu]
    rfl
  rw [e]
  have hq : Txt.slice z lo hi = if ((1 : Int) == 1 && (Builtin.Str.strSliceIndices lo hi 1 z.length).length == z.length) = true then z else ⟨((Builtin.Str.strSliceIndices lo hi 1 z.length).filterMap (z.cps[·]?)).toArray⟩ := rfl
  have hle := Txt.slice_le z lo hi
  rw [hq] at q hle
  show (if ((1 : Int) == 1 && (Builtin.Str.strSliceIndices lo hi 1 z.length).length == z.length) = true then Made.val (.str z t) else _).post _ s
  by_cases c : ((1 : Int) == 1 && (Builtin.Str.strSliceIndices lo hi 1 z.length).length == z.length) = true
  · rw [if_pos c] at q ⊢
    exact ⟨.str z, H, I, ⟨t, rfl⟩, q⟩
  · rw [if_neg c] at q hle ⊢
    exact ⟨Nat.le_trans hle hz, .str _, H, I.tok _, ⟨_, rfl⟩, q⟩
noncomputable def rSlA (K : PySem.W.Frag) : V → Option Int → Option Int → Hp → VK → Prop := fun x lo hi H Q => match x with
  | .ref a => (∃ xs, SqL K H a xs ∧ ∀ p, H p = none → Q (.ref p) (upd H p (.lst (cutV xs lo hi)))) ∨ rSlT K (.ref a) lo hi H Q
  | .str z => z.length ≤ sizeLine ∧ Q (.str (Txt.slice z lo hi)) H
  | _ => False
theorem SlR.imp {r r' : V → Option Int → Option Int → Hp → VK → Prop} (h : SlR X r) (i : ∀ x lo hi H Q, r' x lo hi H Q → r x lo hi H Q) : SlR X r' :=
  fun pins s σ H x v vl vu lo hi sl Q I rx hs pl pu q => h pins s σ H x v vl vu lo hi sl Q I rx hs pl pu (i _ _ _ _ _ q)
theorem sl_A : SlR X (rSlA X.K) := by
  refine SlR.imp (sl_list.or (sl_tup.or sl_str)) fun x lo hi H Q h => ?_
  unfold rSlA at h
  split at h
  · rcases h with ⟨xs, h1, h2⟩ | h
    · exact .inl ⟨_, xs, rfl, h1, h2⟩
    · exact .inr (.inl h)
  · exact .inr (.inr ⟨_, rfl, h.1, h.2⟩)
  · exact h.elim
theorem rSlA_str {K : PySem.W.Frag} {z : Str} {lo hi : Option Int} {H : Hp} {Q : VK} : rSlA K (.str z) lo hi H Q = (z.length ≤ sizeLine ∧ Q (.str (Txt.slice z lo hi)) H) := rfl
theorem rSlA_list {K : PySem.W.Frag} {a : Addr} {xs : List V} {lo hi : Option Int} {H : Hp} {Q : VK} (hS : SqL K H a xs) (h : ∀ p, H p = none → Q (.ref p) (upd H p (.lst (cutV xs lo hi)))) : rSlA K (.ref a) lo hi H Q := .inl ⟨xs, hS, h⟩
noncomputable def rInA (K : PySem.W.Frag) (neg : Bool) : R2 := fun x y H Q => match y with
  | .ref p => ∃ xs, (SqL K H p xs ∨ SqT K H p xs) ∧ flatV x = true ∧ xs.all flatV = true ∧ Q (.bl (if neg then !inV x xs else inV x xs)) H
  | .str j => (match x with
    | .str i => Q (.bl (if neg then !(!(Builtin.Str.occurrences j i 0 j.length 1).isEmpty) else !(Builtin.Str.occurrences j i 0 j.length 1).isEmpty)) H
    | _ => False)
  | _ => False
theorem rInA_ref {K : PySem.W.Frag} {neg : Bool} {x : V} {p : Addr} {H : Hp} {Q : VK} : rInA K neg x (.ref p) H Q = (∃ xs, (SqL K H p xs ∨ SqT K H p xs) ∧ flatV x = true ∧ xs.all flatV = true ∧ Q (.bl (if neg then !inV x xs else inV x xs)) H) := rfl
theorem rInA_str {K : PySem.W.Frag} {neg : Bool} {i j : Str} {H : Hp} {Q : VK} : rInA K neg (.str i) (.str j) H Q = Q (.bl (if neg then !(!(Builtin.Str.occurrences j i 0 j.length 1).isEmpty) else !(Builtin.Str.occurrences j i 0 j.length 1).isEmpty)) H := rfl
end

inductive Dt where
  | non | int (i : Int) | str (z : Str) | l (ds : List Dt) | t (ds : List Dt)
/-- the value stands for the datum; n bounds the depth -/
noncomputable def Den (K : PySem.W.Frag) (H : Hp) : Nat → V → Dt → Prop
  | 0, x, d => (x = .non ∧ d = .non) ∨ (∃ i, x = .int i ∧ d = .int i) ∨ (∃ z, x = .str z ∧ d = .str z)
  | n + 1, x, d => Den K H n x d ∨ (∃ a xs ds, x = .ref a ∧ d = .l ds ∧ SqL K H a xs ∧ Paired (Den K H n) xs ds) ∨ (∃ a xs ds, x = .ref a ∧ d = .t ds ∧ SqT K H a xs ∧ Paired (Den K H n) xs ds)
theorem Paired.get {α β : Type} {F : α → β → Prop} : ∀ {xs : List α} {ys : List β} {i : Nat} {x : α}, Paired F xs ys → xs[i]? = some x → ∃ y, ys[i]? = some y ∧ F x y
  | _, _, _, _, .nil, e => by simp at e
  | _, _, 0, _, .cons r _, e => by simp at e; subst e; exact ⟨_, rfl, r⟩
  | _, _, i + 1, x, .cons _ t, e => by
    obtain ⟨u, h1, h2⟩ := Paired.get (i := i) (x := x) t (by simpa using e)
    exact ⟨u, by simpa using h1, h2⟩
open Classical in
theorem all_range_eq {α : Type} {xs ys : List α} {e : Nat → Bool} (hl : xs.length = ys.length) (h : ∀ j a b, xs[j]? = some a → ys[j]? = some b → e j = decide (a = b)) : (List.range xs.length).all e = decide (xs = ys) := by
  rw [Bool.eq_iff_iff, List.all_eq_true, decide_eq_true_eq]
  constructor
  · intro q
    refine List.ext_getElem hl fun j h1 h2 => ?_
    have := q j (List.mem_range.mpr h1)
    rw [h j xs[j] ys[j] (by simp [h1]) (by simp [h2]), decide_eq_true_eq] at this
    exact this
  · rintro rfl j hj
    have hj' := List.mem_range.mp hj
    rw [h j xs[j] xs[j] (by simp [hj']) (by simp [hj']), decide_eq_true_eq]
section
variable {X : Cx} {pins : List (Addr × Obj)} {σ : St} {H : Hp} {s : Shared}
open Classical in
theorem den_scal {A : Around} {x y : V} {u v : Value} {d e : Dt} (rx : RelV x u) (ry : RelV y v) (hx : Den X.K H 0 x d) (hy : Den X.K H 0 y e) : SeqAt.EqAt A s u v (decide (d = e)) := by
  rcases hx with ⟨rfl, rfl⟩ | ⟨i, rfl, rfl⟩ | ⟨i, rfl, rfl⟩ <;> rcases hy with ⟨rfl, rfl⟩ | ⟨j, rfl, rfl⟩ | ⟨j, rfl, rfl⟩
  · cases rx; cases ry; rw [decide_eq_true rfl]; exact SeqAt.EqAt.same _
  · cases rx; obtain ⟨t, rfl⟩ := ry; rw [decide_eq_false (fun z => nomatch z)]; exact SeqAt.EqAt.none_int _ _
  · cases rx; obtain ⟨t, rfl⟩ := ry; rw [decide_eq_false (fun z => nomatch z)]; exact SeqAt.EqAt.none_str _ _
  · obtain ⟨t, rfl⟩ := rx; cases ry; rw [decide_eq_false (fun z => nomatch z)]; exact SeqAt.EqAt.int_none _ _
  · obtain ⟨t, rfl⟩ := rx; obtain ⟨t', rfl⟩ := ry
    have e : decide (Dt.int i = Dt.int j) = (i == j) := by
      rw [Bool.eq_iff_iff, decide_eq_true_eq, beq_iff_eq]
      exact ⟨fun q => Dt.int.inj q, fun q => by rw [q]⟩
    rw [e]; exact SeqAt.EqAt.int_int _ _ _ _
  · obtain ⟨t, rfl⟩ := rx; obtain ⟨t', rfl⟩ := ry; rw [decide_eq_false (fun z => nomatch z)]; exact SeqAt.EqAt.int_str _ _ _ _
  · obtain ⟨t, rfl⟩ := rx; cases ry; rw [decide_eq_false (fun z => nomatch z)]; exact SeqAt.EqAt.str_none _ _
  · obtain ⟨t, rfl⟩ := rx; obtain ⟨t', rfl⟩ := ry; rw [decide_eq_false (fun z => nomatch z)]; exact SeqAt.EqAt.str_int _ _ _ _
  · obtain ⟨t, rfl⟩ := rx; obtain ⟨t', rfl⟩ := ry
    have e : decide (Dt.str i = Dt.str j) = (i == j) := by
      rw [Bool.eq_iff_iff, decide_eq_true_eq, beq_iff_eq]
      exact ⟨fun q => Dt.str.inj q, fun q => by rw [q]⟩
    rw [e]; exact SeqAt.EqAt.str_str _ _ _ _
/-- the depth's parts -/
theorem Den.cases {K : PySem.W.Frag} {H : Hp} : ∀ {n : Nat} {x : V} {d : Dt}, Den K H n x d → Den K H 0 x d ∨ (∃ m, m < n ∧ ∃ a xs ds, x = .ref a ∧ d = .l ds ∧ SqL K H a xs ∧ Paired (Den K H m) xs ds) ∨ (∃ m, m < n ∧ ∃ a xs ds, x = .ref a ∧ d = .t ds ∧ SqT K H a xs ∧ Paired (Den K H m) xs ds)
  | 0, _, _, h => .inl h
  | n + 1, _, _, h => by
    rcases h with h | h | h
    · rcases Den.cases h with q | ⟨m, hm, q⟩ | ⟨m, hm, q⟩
      · exact .inl q
      · exact .inr (.inl ⟨m, by omega, q⟩)
      · exact .inr (.inr ⟨m, by omega, q⟩)
    · exact .inr (.inl ⟨n, by omega, h⟩)
    · exact .inr (.inr ⟨n, by omega, h⟩)
theorem Den.up {K : PySem.W.Frag} {H : Hp} {n m : Nat} {x : V} {d : Dt} (h : Den K H n x d) (hm : n ≤ m) : Den K H m x d := by
  induction m with
  | zero => have : n = 0 := by omega
            subst this; exact h
  | succ m ih =>
    by_cases e : n = m + 1
    · subst e; exact h
    · exact .inl (ih (by omega))
theorem paired_det {F G : V → Dt → Prop} : ∀ {xs : List V} {ds es : List Dt}, Paired F xs ds → Paired G xs es → (∀ x d e, F x d → G x e → d = e) → ds = es
  | _, _, _, .nil, .nil, _ => rfl
  | _, _, _, .cons r t, .cons r' t', f => by rw [f _ _ _ r r', paired_det t t' f]
theorem list_not_tuple {a : Addr} {xs ys : List V} (I : Inv X pins σ H s) (h : SqL X.K H a xs) (h' : SqT X.K H a ys) : False := by
  obtain ⟨its, _, p, _⟩ := I.list h
  obtain ⟨its', _, p', _⟩ := I.tuple h'
  obtain ⟨o, n, e, c, _⟩ := p
  obtain ⟨o', e', c', _⟩ := p'
  rw [e] at e'
  cases e'
  rw [c] at c'
  injection c' with z
  exact absurd z (by decide)
theorem den_det (n : Nat) : ∀ {m : Nat} {x : V} {d e : Dt}, Inv X pins σ H s → Den X.K H n x d → Den X.K H m x e → d = e := by
  induction n using Nat.strongRecOn with
  | _ n ih =>
  intro m x d e I hx hy
  rcases hx.cases with hx | ⟨m1, hm, a, xs, ds, rfl, rfl, ha, pa⟩ | ⟨m1, hm, a, xs, ds, rfl, rfl, ha, pa⟩
  · rcases hy.cases with hy | ⟨k, hk, b, ys, es, rfl, rfl, hb, pb⟩ | ⟨k, hk, b, ys, es, rfl, rfl, hb, pb⟩
    · rcases hx with ⟨rfl, rfl⟩ | ⟨i, rfl, rfl⟩ | ⟨i, rfl, rfl⟩ <;> rcases hy with ⟨z, rfl⟩ | ⟨j, z, rfl⟩ | ⟨j, z, rfl⟩ <;> first | rfl | (cases z; rfl) | cases z
    · rcases hx with ⟨z, _⟩ | ⟨i, z, _⟩ | ⟨i, z, _⟩ <;> cases z
    · rcases hx with ⟨z, _⟩ | ⟨i, z, _⟩ | ⟨i, z, _⟩ <;> cases z
  · rcases hy.cases with hy | ⟨k, hk, b, ys, es, e1, rfl, hb, pb⟩ | ⟨k, hk, b, ys, es, e1, rfl, hb, pb⟩
    · rcases hy with ⟨z, _⟩ | ⟨i, z, _⟩ | ⟨i, z, _⟩ <;> cases z
    · cases e1
      have := I.list_inj ha hb
      subst this
      rw [paired_det pa pb fun x d e h1 h2 => ih m1 hm I h1 h2]
    · cases e1
      exact (list_not_tuple I ha hb).elim
  · rcases hy.cases with hy | ⟨k, hk, b, ys, es, e1, rfl, hb, pb⟩ | ⟨k, hk, b, ys, es, e1, rfl, hb, pb⟩
    · rcases hy with ⟨z, _⟩ | ⟨i, z, _⟩ | ⟨i, z, _⟩ <;> cases z
    · cases e1
      exact (list_not_tuple I hb ha).elim
    · cases e1
      have := I.tuple_inj ha hb
      subst this
      rw [paired_det pa pb fun x d e h1 h2 => ih m1 hm I h1 h2]
theorem size_ne {its its2 : List Value} (h : ¬ its.length = its2.length) : (its.toArray.size != its2.toArray.size) = true := by
  rw [List.size_toArray, List.size_toArray, bne_iff_ne]
  exact h
open Classical in
/-- the items' answers -/
theorem den_items {n : Nat} {A : Around} {xs ys : List V} {its its2 : List Value} {ds es : List Dt} {m k : Nat} (r1 : Vals xs its) (r2 : Vals ys its2) (pa : Paired (Den X.K H m) xs ds) (pb : Paired (Den X.K H k) ys es)
    (ih : ∀ x y u v d e, RelV x u → RelV y v → Den X.K H m x d → Den X.K H k y e → SeqAt.EqAt A s u v (decide (d = e))) :
    ∀ j (h1 : j < its.toArray.size) (h2 : j < its2.toArray.size), SeqAt.EqAt A s its.toArray[j] its2.toArray[j] (decide (ds[j]? = es[j]?)) := by
  intro j h1 h2
  have h1' : j < its.length := by simpa using h1
  have h2' : j < its2.length := by simpa using h2
  have l1 := r1.length
  have l2 := r2.length
  have x1 : xs[j]? = some xs[j] := by simp
  have y1 : ys[j]? = some ys[j] := by simp
  obtain ⟨d', hd', pd⟩ := Paired.get pa x1
  obtain ⟨e', he', pe⟩ := Paired.get pb y1
  obtain ⟨u', hu1, ru⟩ := r1.get x1
  obtain ⟨v', hv1, rv⟩ := r2.get y1
  have e1 : its.toArray[j] = u' := by
    have : its[j]? = some its[j] := by simp
    rw [hu1] at this
    simpa using (Option.some.inj this).symm
  have e2 : its2.toArray[j] = v' := by
    have : its2[j]? = some its2[j] := by simp
    rw [hv1] at this
    simpa using (Option.some.inj this).symm
  have e3 : decide (ds[j]? = es[j]?) = decide (d' = e') := by
    rw [hd', he', Bool.eq_iff_iff, decide_eq_true_eq, decide_eq_true_eq]
    exact ⟨fun q => Option.some.inj q, fun q => by rw [q]⟩
  rw [e1, e2, e3]
  exact ih _ _ _ _ _ _ ru rv pd pe
open Classical in
theorem all_items {ds es : List Dt} {n : Nat} (hn : n = ds.length) (hl : ds.length = es.length) : (List.range n).all (fun j => decide (ds[j]? = es[j]?)) = decide (ds = es) := by
  subst hn
  exact all_range_eq hl fun j a b ha hb => by
    rw [ha, hb, Bool.eq_iff_iff, decide_eq_true_eq, decide_eq_true_eq]
    exact ⟨fun q => Option.some.inj q, fun q => by rw [q]⟩
open Classical in
theorem den_rc (n : Nat) : ∀ {A : Around} {x y : V} {u v : Value} {d e : Dt}, Inv X pins σ H s → A.units + n < cLine → RelV x u → RelV y v → Den X.K H n x d → Den X.K H n y e → SeqAt.EqAt A s u v (decide (d = e)) ∧ ∀ a b, x = .ref a → y = .ref b → SeqAt.RcAt A s (.ref a) (.ref b) (decide (d = e)) := by
  induction n using Nat.strongRecOn with
  | _ n ih =>
  intro A x y u v d e I hu rx ry hx hy
  have lift : ∀ {a b : Addr}, x = .ref a → y = .ref b → SeqAt.RcAt A s (.ref a) (.ref b) (decide (d = e)) → SeqAt.EqAt A s (.ref a) (.ref b) (decide (d = e)) := fun {a b} ea eb q => by
    by_cases hab : a = b
    · subst hab
      subst ea
      subst eb
      rw [decide_eq_true (den_det n I hx hy)]
      exact SeqAt.EqAt.same _
    · exact SeqAt.EqAt.of_refs hab q
  have hu' : A.units < cLine := by omega
  rcases hx.cases with hx' | ⟨m, hm, a, xs, ds, rfl, rfl, ha, pa⟩ | ⟨m, hm, a, xs, ds, rfl, rfl, ha, pa⟩
  · rcases hy.cases with hy' | ⟨k, hk, b, ys, es, rfl, rfl, hb, pb⟩ | ⟨k, hk, b, ys, es, rfl, rfl, hb, pb⟩
    · refine ⟨den_scal rx ry hx' hy', fun a b e1 e2 => ?_⟩
      subst e1
      rcases hx' with ⟨z, _⟩ | ⟨i, z, _⟩ | ⟨i, z, _⟩ <;> cases z
    · cases ry
      obtain ⟨its, _, p, _⟩ := I.list hb
      rcases hx' with ⟨rfl, rfl⟩ | ⟨i, rfl, rfl⟩ | ⟨i, rfl, rfl⟩
      · cases rx; rw [decide_eq_false (fun z => nomatch z)]; exact ⟨SeqAt.EqAt.none_list p.isList hu', fun a b z => nomatch z⟩
      · obtain ⟨t, rfl⟩ := rx; rw [decide_eq_false (fun z => nomatch z)]; exact ⟨SeqAt.EqAt.int_list _ _ p.isList hu', fun a b z => nomatch z⟩
      · obtain ⟨t, rfl⟩ := rx; rw [decide_eq_false (fun z => nomatch z)]; exact ⟨SeqAt.EqAt.str_list _ _ p.isList hu', fun a b z => nomatch z⟩
    · cases ry
      obtain ⟨its, _, p, _⟩ := I.tuple hb
      rcases hx' with ⟨rfl, rfl⟩ | ⟨i, rfl, rfl⟩ | ⟨i, rfl, rfl⟩
      · cases rx; rw [decide_eq_false (fun z => nomatch z)]; exact ⟨SeqAt.EqAt.none_tuple p hu', fun a b z => nomatch z⟩
      · obtain ⟨t, rfl⟩ := rx; rw [decide_eq_false (fun z => nomatch z)]; exact ⟨SeqAt.EqAt.int_tuple _ _ p hu', fun a b z => nomatch z⟩
      · obtain ⟨t, rfl⟩ := rx; rw [decide_eq_false (fun z => nomatch z)]; exact ⟨SeqAt.EqAt.str_tuple _ _ p hu', fun a b z => nomatch z⟩
  · cases rx
    obtain ⟨its, r1, p, hz⟩ := I.list ha
    rcases hy.cases with hy' | ⟨k, hk, b, ys, es, rfl, rfl, hb, pb⟩ | ⟨k, hk, b, ys, es, rfl, rfl, hb, pb⟩
    · rcases hy' with ⟨rfl, rfl⟩ | ⟨i, rfl, rfl⟩ | ⟨i, rfl, rfl⟩
      · cases ry; rw [decide_eq_false (fun z => nomatch z)]; exact ⟨SeqAt.EqAt.list_none p.isList hu', fun a b _ z => nomatch z⟩
      · obtain ⟨t, rfl⟩ := ry; rw [decide_eq_false (fun z => nomatch z)]; exact ⟨SeqAt.EqAt.list_int _ _ p.isList hu', fun a b _ z => nomatch z⟩
      · obtain ⟨t, rfl⟩ := ry; rw [decide_eq_false (fun z => nomatch z)]; exact ⟨SeqAt.EqAt.list_str _ _ p.isList hu', fun a b _ z => nomatch z⟩
    · cases ry
      obtain ⟨its2, r2, p2, hz2⟩ := I.list hb
      have l1 := r1.length
      have l2 := r2.length
      have l3 := Paired.length pa
      have l4 := Paired.length pb
      have eqd : decide (Dt.l ds = Dt.l es) = decide (ds = es) := by
        rw [Bool.eq_iff_iff, decide_eq_true_eq, decide_eq_true_eq]
        exact ⟨fun q => Dt.l.inj q, fun q => by rw [q]⟩
      have rc : SeqAt.RcAt A s (.ref a) (.ref b) (decide (Dt.l ds = Dt.l es)) := by
        rw [eqd]
        by_cases hl : its.length = its2.length
        · have key := SeqAt.RcAt.lists (e := fun j => decide (ds[j]? = es[j]?)) p.isList p2.isList (by simpa using hl) hu' (den_items (n := n) r1 r2 pa pb fun x y u v d e rx ry h1 h2 =>
            (ih (max m k) (by omega) (A := A.in1) I (by show A.units + 1 + max m k < cLine; omega) rx ry (h1.up (Nat.le_max_left _ _)) (h2.up (Nat.le_max_right _ _))).1)
          rw [all_items (by rw [List.size_toArray]; omega) (by omega)] at key
          exact key
        · have hne : ds ≠ es := fun q => hl (by rw [q] at l3; omega)
          rw [decide_eq_false hne]
          exact SeqAt.RcAt.lists_lengths p.isList p2.isList (size_ne hl) hu'
      exact ⟨lift rfl rfl rc, fun a' b' e1 e2 => by cases e1; cases e2; exact rc⟩
    · cases ry
      obtain ⟨its2, r2, p2, _⟩ := I.tuple hb
      rw [decide_eq_false (fun z => nomatch z)]
      exact ⟨SeqAt.EqAt.list_tuple p.isList p2 hu', fun a' b' e1 e2 => by cases e1; cases e2; exact SeqAt.RcAt.list_tuple p.isList p2 hu'⟩
  · cases rx
    obtain ⟨its, r1, p, hz⟩ := I.tuple ha
    rcases hy.cases with hy' | ⟨k, hk, b, ys, es, rfl, rfl, hb, pb⟩ | ⟨k, hk, b, ys, es, rfl, rfl, hb, pb⟩
    · rcases hy' with ⟨rfl, rfl⟩ | ⟨i, rfl, rfl⟩ | ⟨i, rfl, rfl⟩
      · cases ry; rw [decide_eq_false (fun z => nomatch z)]; exact ⟨SeqAt.EqAt.tuple_none p hu', fun a b _ z => nomatch z⟩
      · obtain ⟨t, rfl⟩ := ry; rw [decide_eq_false (fun z => nomatch z)]; exact ⟨SeqAt.EqAt.tuple_int _ _ p hu', fun a b _ z => nomatch z⟩
      · obtain ⟨t, rfl⟩ := ry; rw [decide_eq_false (fun z => nomatch z)]; exact ⟨SeqAt.EqAt.tuple_str _ _ p hu', fun a b _ z => nomatch z⟩
    · cases ry
      obtain ⟨its2, r2, p2, _⟩ := I.list hb
      rw [decide_eq_false (fun z => nomatch z)]
      exact ⟨SeqAt.EqAt.tuple_list p p2.isList hu', fun a' b' e1 e2 => by cases e1; cases e2; exact SeqAt.RcAt.tuple_list p p2.isList hu'⟩
    · cases ry
      obtain ⟨its2, r2, p2, hz2⟩ := I.tuple hb
      have l1 := r1.length
      have l2 := r2.length
      have l3 := Paired.length pa
      have l4 := Paired.length pb
      have eqd : decide (Dt.t ds = Dt.t es) = decide (ds = es) := by
        rw [Bool.eq_iff_iff, decide_eq_true_eq, decide_eq_true_eq]
        exact ⟨fun q => Dt.t.inj q, fun q => by rw [q]⟩
      have rc : SeqAt.RcAt A s (.ref a) (.ref b) (decide (Dt.t ds = Dt.t es)) := by
        rw [eqd]
        have key := SeqAt.RcAt.tuples (e := fun j => decide (ds[j]? = es[j]?)) p p2 hu' (den_items (n := n) r1 r2 pa pb fun x y u v d e rx ry h1 h2 =>
            (ih (max m k) (by omega) (A := A.in1) I (by show A.units + 1 + max m k < cLine; omega) rx ry (h1.up (Nat.le_max_left _ _)) (h2.up (Nat.le_max_right _ _))).1)
        by_cases hl : its.length = its2.length
        · rw [show min its.toArray.size its2.toArray.size = ds.length by rw [List.size_toArray, List.size_toArray]; omega, all_items rfl (by omega), show (its.toArray.size == its2.toArray.size) = true by rw [List.size_toArray, List.size_toArray, beq_iff_eq]; exact hl, Bool.and_true] at key
          exact key
        · have hne : ds ≠ es := fun q => hl (by rw [q] at l3; omega)
          rw [decide_eq_false hne]
          rw [show (its.toArray.size == its2.toArray.size) = false by rw [List.size_toArray, List.size_toArray, beq_eq_false_iff_ne]; exact hl, Bool.and_false] at key
          exact key
      exact ⟨lift rfl rfl rc, fun a' b' e1 e2 => by cases e1; cases e2; exact rc⟩
end

noncomputable def rEqA (K : PySem.W.Frag) (neg : Bool) : R2 := fun x y H Q => match x, y with
  | .ref a, .ref b => ∃ n d e, n ≤ 60 ∧ Den K H n (.ref a) d ∧ Den K H n (.ref b) e ∧ ((d = e ∧ Q (.bl (!neg)) H) ∨ (d ≠ e ∧ Q (.bl neg) H))
  | x, y => scal x y = true ∧ Q (.bl (if neg then !decide (x = y) else decide (x = y))) H
section
variable {X : Cx}
open Classical in
theorem op_eqA (hu : X.A.units + 64 < cLine) : OpR X (compareOp .Eq) (rEqA X.K false) := by
  intro pins s σ H x y v u Q I rx ry h
  unfold rEqA at h
  split at h
  · obtain ⟨n, d, e, hn, hd, he, q⟩ := h
    obtain ⟨_, rc⟩ := den_rc n (A := X.A) I (by omega) rx ry hd he
    cases rx
    cases ry
    have := rc _ _ rfl rfl
    refine (this X.prog X.w _ _ ?_ : wpAny (model X.prog X.w) X.A (richCompare .Eq _ _) (EP X pins σ Q) X.xe s)
    rcases q with ⟨c, q⟩ | ⟨c, q⟩
    · rw [decide_eq_true c]; exact ⟨.bl true, H, I, rfl, q⟩
    · rw [decide_eq_false c]; exact ⟨.bl false, H, I, rfl, q⟩
  · exact op_eq pins s σ H _ _ v u Q I rx ry ⟨h.1, by simpa using h.2⟩
open Classical in
end
section
variable {K : PySem.W.Frag} {H : Hp} {Q : VK}
theorem rEqA_int {i j : Int} : rEqA K false (.int i) (.int j) H Q = Q (.bl (decide (i = j))) H := by
  show (scal (.int i) (.int j) = true ∧ Q (.bl (if false = true then _ else decide (V.int i = V.int j))) H) = _
  rw [if_neg Bool.false_ne_true]
  exact rEq_int
theorem rNeA_int {i j : Int} : rEqA K true (.int i) (.int j) H Q = Q (.bl (!decide (i = j))) H := by
  show (scal (.int i) (.int j) = true ∧ Q (.bl (if true = true then !decide (V.int i = V.int j) else _)) H) = _
  rw [if_pos rfl]
  exact rNe_int
theorem rEqA_str {i j : Str} : rEqA K false (.str i) (.str j) H Q = Q (.bl (decide (i = j))) H := by
  show (scal (.str i) (.str j) = true ∧ Q (.bl (if false = true then _ else decide (V.str i = V.str j))) H) = _
  rw [if_neg Bool.false_ne_true]
  exact rEq_str
theorem rNeA_str {i j : Str} : rEqA K true (.str i) (.str j) H Q = Q (.bl (!decide (i = j))) H := by
  show (scal (.str i) (.str j) = true ∧ Q (.bl (if true = true then !decide (V.str i = V.str j) else _)) H) = _
  rw [if_pos rfl]
  exact rNe_str
theorem rEqA_bl {i j : Bool} : rEqA K false (.bl i) (.bl j) H Q = Q (.bl (decide (i = j))) H := by
  show (scal (.bl i) (.bl j) = true ∧ Q (.bl (if false = true then _ else decide (V.bl i = V.bl j))) H) = _
  rw [if_neg Bool.false_ne_true]
  exact rEq_bl
theorem rNeA_bl {i j : Bool} : rEqA K true (.bl i) (.bl j) H Q = Q (.bl (!decide (i = j))) H := by
  show (scal (.bl i) (.bl j) = true ∧ Q (.bl (if true = true then !decide (V.bl i = V.bl j) else _)) H) = _
  rw [if_pos rfl]
  exact rNe_bl
end
end L2


set_option maxRecDepth 100000
namespace L2
open PySem PySem.Spec PyProof.Rows

noncomputable def csOk (osc scope : Scope) (ON N : List Str) (nv : Nat) (ix : List Nat) : Bool :=
  scope.kind == .function && scope.names.all (fun y => y.2 != .cell && (y.2 != .local || scope.names.lookup y.1 == some .local) && (y.2 != .free || (osc.names.lookup y.1 == some .cell || osc.names.lookup y.1 == some .free))) &&
    N.length == nv + ix.length && (List.range ix.length).all fun j => match N[nv + j]?, ix[j]? with
      | some y, some i => ON[i]? == some y && (osc.names.lookup y == some .cell || osc.names.lookup y == some .free) && scope.names.lookup y == some .free
      | _, _ => false
theorem cs_of {X : Cx} {scope : Scope} {N : List Str} {nv : Nat} {ix : List Nat} (h : csOk X.env.scope scope X.N N nv ix = true) : CScope X scope N nv ix := by
  unfold csOk at h
  simp only [Bool.and_eq_true, beq_iff_eq, List.all_eq_true, List.mem_range, Bool.or_eq_true, bne_iff_ne, ne_eq] at h
  obtain ⟨⟨⟨h1, h2⟩, h3⟩, h4⟩ := h
  refine ⟨h1, fun y hy => (h2 y hy).1.1, fun y hy hl => ?_, fun y hy hf => ?_, h3, fun j y e => ?_⟩
  · rcases (h2 y hy).1.2 with z | z
    · exact absurd hl z
    · exact z
  · rcases (h2 y hy).2 with z | z
    · exact absurd hf z
    · exact z
  · have hj : j < ix.length := by
      have := (List.getElem?_eq_some_iff.mp e).1
      omega
    have q := h4 j hj
    rw [e, List.getElem?_eq_getElem hj] at q
    simp only [Bool.and_eq_true, beq_iff_eq, Bool.or_eq_true] at q
    exact ⟨ix[j], List.getElem?_eq_getElem hj, q.1.1, q.1.2, q.2⟩

noncomputable def tTC (K : PySem.W.Frag) (vs : List V) : TE := fun _ H Q => ∀ a, (∀ H, SqT K H a vs) → (∀ H, tyV K "tuple" (.ref a) H) → Q (.ref a) H
theorem any_range_bools (bs : List Bool) : (List.range bs.length).any (fun i => bs.getD i false) = bs.any id := by
  rw [Bool.eq_iff_iff, List.any_eq_true, List.any_eq_true]
  constructor
  · rintro ⟨i, hi, h⟩
    have hi' := List.mem_range.mp hi
    exact ⟨bs[i], List.getElem_mem hi', by simpa [List.getD, hi'] using h⟩
  · rintro ⟨b, hb, h⟩
    obtain ⟨i, hi, rfl⟩ := List.getElem_of_mem hb
    exact ⟨i, List.mem_range.mpr hi, by simpa [List.getD, hi] using h⟩
section
variable {X : Cx}
noncomputable def rAll (K : PySem.W.Frag) (any : Bool) : List V → Hp → VK → Prop := fun xs H Q => match xs with
  | [.ref p] => ∃ bs : List Bool, SqL K H p (bs.map V.bl) ∧ Q (.bl (if any then bs.any id else bs.all id)) H
  | _ => False
theorem truth_bools {prog : Program} {w : World} {A : Around} {bs : List Bool} {its : List Value} (r : Vals (bs.map V.bl) its) : TruthOf prog w A (fun i v => its.toArray[i]? = some v) (fun i => bs.getD i false) := by
  intro i v s Q E hP hQ
  have hP' : its[i]? = some v := by simpa using hP
  have hi : i < bs.length := by
    have := (List.getElem?_eq_some_iff.mp hP').1
    have l := r.length
    rw [List.length_map] at l
    omega
  obtain ⟨u, hu, ru⟩ := r.get (i := i) (x := .bl bs[i]) (by rw [List.getElem?_map, List.getElem?_eq_getElem hi]; rfl)
  rw [hP'] at hu
  cases hu
  cases ru
  have e : bs.getD i false = bs[i] := by simp [List.getD, hi]
  replace hQ : Q (bs.getD i false) s := hQ
  rw [e] at hQ
  exact wpAny_truthy_bool hQ
theorem call_any (hc : X.calm = true) : CallR X (.builtin "any") (rAll X.K true) := by
  intro pins s σ H xs us Q I rs q
  unfold rAll at q
  split at q
  · rename_i p
    obtain ⟨u, rfl, ru⟩ := vals1 rs
    cases ru
    obtain ⟨bs, hS, q⟩ := q
    obtain ⟨its, r, pl, hz⟩ := I.list hS
    have hlt : p < s.heap.objs.size := by obtain ⟨o, e, _⟩ := pl.isList; exact Heap.lt_size e
    have hlen := r.length
    rw [List.length_map] at hlen
    refine call_any_walk (wpAny_pyIter_list pl.isList ⟨s.heap.objs.size, _, _, _, _, _, _, rfl, Walks.list (A := X.A.in1) (I.ok.hd hc) s.heap.objs.size p (Nat.ne_of_lt hlt) its.toArray, ⟨⟨_, Heap.get?_push_size _ rfl, rfl, rfl⟩, pl.isList.push _⟩, truth_bools r, fun h' tk hk => ?_⟩)
    refine ⟨.bl _, H, I.kept (h' := h') (t' := tk) fun b o e => hk b o (fun z => lt_ne e (Nat.le_refl _) (List.mem_singleton.mp z)) (Heap.get?_push_of_some _ e), ?_, q⟩
    rw [List.size_toArray, ← hlen, any_range_bools]
    rfl
  · exact q.elim
noncomputable def rSum (K : PySem.W.Frag) : List V → Hp → VK → Prop := fun xs H Q => match xs with
  | [.ref p] => ∃ ns : List Int, SqL K H p (ns.map V.int) ∧ Q (.int ns.sum) H
  | _ => False
theorem rAll_ref {K : PySem.W.Frag} {p : Addr} {H : Hp} {Q : VK} : rAll K false [.ref p] H Q = (∃ bs : List Bool, SqL K H p (bs.map V.bl) ∧ Q (.bl (bs.all id)) H) := rfl
theorem rAny_ref {K : PySem.W.Frag} {p : Addr} {H : Hp} {Q : VK} : rAll K true [.ref p] H Q = (∃ bs : List Bool, SqL K H p (bs.map V.bl) ∧ Q (.bl (bs.any id)) H) := rfl
theorem rSum_ref {K : PySem.W.Frag} {p : Addr} {H : Hp} {Q : VK} : rSum K [.ref p] H Q = (∃ ns : List Int, SqL K H p (ns.map V.int) ∧ Q (.int ns.sum) H) := rfl

noncomputable def rListA (K : PySem.W.Frag) : List V → Hp → VK → Prop := fun xs H Q => match xs with
  | [.ref p] => ∃ ys, (SqL K H p ys ∨ SqT K H p ys) ∧ ∀ l, H l = none → Q (.ref l) (upd H l (.lst ys))
  | _ => False
theorem call_listA : CallR X (.type "list") (rListA X.K) := CallR.imp call_list_of fun xs H Q h => by
  unfold rListA at h
  split at h
  · obtain ⟨ys, h1, h2⟩ := h
    exact ⟨_, ys, rfl, h1, h2⟩
  · exact h.elim
noncomputable def rTupleA (K : PySem.W.Frag) : List V → Hp → VK → Prop := fun xs H Q => match xs with
  | [.ref p] => ∃ ys, (SqL K H p ys ∧ ∀ l, H l = none → Q (.ref l) (upd H l (.tup ys))) ∨ (SqT K H p ys ∧ Q (.ref p) H)
  | _ => False
theorem rListA_ref {K : PySem.W.Frag} {p : Addr} {H : Hp} {Q : VK} : rListA K [.ref p] H Q = (∃ ys, (SqL K H p ys ∨ SqT K H p ys) ∧ ∀ l, H l = none → Q (.ref l) (upd H l (.lst ys))) := rfl
theorem rTupleA_ref {K : PySem.W.Frag} {p : Addr} {H : Hp} {Q : VK} : rTupleA K [.ref p] H Q = (∃ ys, (SqL K H p ys ∧ ∀ l, H l = none → Q (.ref l) (upd H l (.tup ys))) ∨ (SqT K H p ys ∧ Q (.ref p) H)) := rfl
noncomputable def rDivmodA : List V → Hp → VK → Prop := fun xs H Q => match xs with
  | [.int i, .int j] => CDiv i j ∧ ∀ p, H p = none → Q (.ref p) (upd H p (.tup [.int (i / j), .int (i % j)]))
  | _ => False
theorem rDivmodA_int {i j : Int} {H : Hp} {Q : VK} : rDivmodA [.int i, .int j] H Q = (CDiv i j ∧ ∀ p, H p = none → Q (.ref p) (upd H p (.tup [.int (i / j), .int (i % j)]))) := rfl

noncomputable def rAppendA : V → List V → Hp → VK → Prop := fun x vs H Q => match x, vs with
  | .ref l, [y] => ∃ xs, H l = some (.lst xs) ∧ xs.length < sizeLine ∧ Q .non (upd H l (.lst (xs ++ [y])))
  | _, _ => False
theorem mt_appendA : MtR X "list.append" rAppendA := by
  intro pins s σ H x xs v us Q I rx rs q
  unfold rAppendA at q
  split at q
  · obtain ⟨ys, h1, h2, h3⟩ := q
    exact mt_append pins s σ H _ _ v us Q I rx rs ⟨_, ys, _, rfl, rfl, h1, h2, h3⟩
  · exact q.elim
theorem pe_append {o e : Expr} {to te : TE} {apos cpos : Pos} (ho : PE X o to) (he : PE X e te) (hbase : attributeBase o "append" X.env (eval o X.env) = eval o X.env := by rfl)
    (hfew : ((backTo cpos (starEach [e] X.env)).all (fun x => !x.1) && (backToKw cpos (keywordEach [] X.env)).all (fun x => x.1.isSome)
      && decide ([e].length + ([] : List Keyword).length + (if ([] : List Keyword).isEmpty then 0 else 1) < 30)) = true := by rfl)
    (hline : (apos.endLine == cpos.line) = true := by rfl) (hs : starEach [e] X.env = (false, eval e X.env) :: starEach [] X.env := by rfl) (hplain : (backTo cpos (starEach [] X.env)).any (·.1) = false := by rfl) :
    PE X (.Call (.Attribute o "append" apos) [e] [] cpos) (tBM X.K "list" rAppendA to (tCons te tNil)) :=
  pe_bm F.plainAttrs_list F.slot_list_append F.type_list_append mt_appendA ho (pa_cons he pa_nil hs) hbase hfew hline hs hplain
theorem tyV_list {K : PySem.W.Frag} {a : Addr} {xs : List V} {H : Hp} (h : SqL K H a xs) : tyV K "list" (.ref a) H := .inl ⟨rfl, xs, h⟩
theorem rAppendA_ref {l : Addr} {y : V} {H : Hp} {Q : VK} : rAppendA (.ref l) [y] H Q = (∃ xs, H l = some (.lst xs) ∧ xs.length < sizeLine ∧ Q .non (upd H l (.lst (xs ++ [y])))) := rfl
/-- xs[i] = v -/
noncomputable def rSetA : V → V → V → Hp → (Hp → Prop) → Prop := fun o i v H Q => match o, i with
  | .ref p, .int k => ∃ xs j, H p = some (.lst xs) ∧ ixN xs.length k = some j ∧ Q (upd H p (.lst (xs.set j v)))
  | _, _ => False
theorem rSetA_ref {p : Addr} {k : Int} {v : V} {H : Hp} {Q : Hp → Prop} : rSetA (.ref p) (.int k) v H Q = (∃ xs j, H p = some (.lst xs) ∧ ixN xs.length k = some j ∧ Q (upd H p (.lst (xs.set j v)))) := rfl
/-- xs[i] -/
noncomputable def rIxA (K : PySem.W.Frag) : R2 := fun x y H Q => match x, y with
  | .ref p, .int i => ∃ xs v, (SqL K H p xs ∨ SqT K H p xs) ∧ atI xs i = some v ∧ Q v H
  | .str z, .int i => ∃ c, z.length ≤ sizeLine ∧ atI z.cps.toList i = some c ∧ Q (.str ⟨#[c]⟩) H
  | _, _ => False
theorem IxR.imp {r r' : R2} (h : IxR X r) (i : ∀ x y H Q, r' x y H Q → r x y H Q) : IxR X r' := fun value slice pins s σ H x y v u Q I rx ry q hs => h value slice pins s σ H x y v u Q I rx ry (i _ _ _ _ q) hs
theorem ix_A : IxR X (rIxA X.K) := IxR.imp ix_seq fun x y H Q h => by
  unfold rIxA at h
  split at h
  · obtain ⟨xs, v, h1, h2, h3⟩ := h
    rcases h1 with h1 | h1
    · exact .inl ⟨_, xs, _, v, rfl, rfl, h1, h2, h3⟩
    · exact .inr (.inl ⟨_, xs, _, v, rfl, rfl, h1, h2, h3⟩)
  · obtain ⟨c, h1, h2, h3⟩ := h
    exact .inr (.inr ⟨_, _, c, rfl, rfl, h1, h2, h3⟩)
  · exact h.elim
theorem ixA_list {K : PySem.W.Frag} {p : Addr} {i : Int} {H : Hp} {Q : VK} {xs : List V} {v : V} (h : SqL K H p xs) (e : atI xs i = some v) (q : Q v H) : rIxA K (.ref p) (.int i) H Q := ⟨xs, v, .inl h, e, q⟩
theorem ixA_tup {K : PySem.W.Frag} {p : Addr} {i : Int} {H : Hp} {Q : VK} {xs : List V} {v : V} (h : SqT K H p xs) (e : atI xs i = some v) (q : Q v H) : rIxA K (.ref p) (.int i) H Q := ⟨xs, v, .inr h, e, q⟩
theorem ixA_ints {K : PySem.W.Frag} {H : Hp} {a : Addr} {ns : List Int} {k : Int} {Q : VK} (hS : SqL K H a (ns.map V.int)) (h0 : 0 ≤ k) (h1 : k < (ns.length : Int)) (q : Q (.int (ns.getD k.toNat 0)) H) : rIxA K (.ref a) (.int k) H Q := by
  refine ixA_list hS ?_ q
  obtain ⟨j, rfl⟩ : ∃ j : Nat, k = (j : Int) := ⟨k.toNat, by omega⟩
  refine atI_nat ?_
  have hj : j < ns.length := by omega
  rw [List.getElem?_map, List.getElem?_eq_getElem hj]
  simp [List.getD, hj]
end
section
variable {K : PySem.W.Frag} {H : Hp} {σ : St}
theorem gTup_ref {n : Nat} {t : TGs} {a : Addr} {Q : St → Hp → Prop} : gTup K n t (.ref a) σ H Q = (∃ xs, SqT K H a xs ∧ xs.length = n ∧ t xs σ H Q) := by
  apply propext
  constructor
  · rintro ⟨b, xs, e, h⟩
    cases e
    exact ⟨xs, h⟩
  · rintro ⟨xs, h⟩
    exact ⟨a, xs, rfl, h⟩
theorem gCons_cons {t : TG} {u : TGs} {v : V} {r : List V} {Q : St → Hp → Prop} : gCons t u (v :: r) σ H Q = t v σ H fun σ' H' => u r σ' H' Q := by
  apply propext
  constructor
  · rintro ⟨v', r', e, h⟩
    cases e
    exact h
  · intro h
    exact ⟨v, r, rfl, h⟩
theorem gNil_nil {Q : St → Hp → Prop} : gNil [] σ H Q = Q σ H := by
  apply propext
  exact ⟨fun h => h.2, fun h => ⟨rfl, h⟩⟩
theorem ex_int {i : Int} {P : Int → Prop} : (∃ k, V.int i = .int k ∧ P k) = P i := by
  apply propext
  constructor
  · rintro ⟨k, e, q⟩
    cases e; exact q
  · intro q; exact ⟨i, rfl, q⟩
theorem small_line {n : Nat} (h : n ≤ 1000) : (n ≤ sizeLine) = True := by
  have := sizeLine_eq
  simp only [eq_iff_iff, iff_true]
  omega
theorem small_lt {n : Nat} (h : n ≤ 1000) : (n < sizeLine) = True := by
  have := sizeLine_eq
  simp only [eq_iff_iff, iff_true]
  omega
end
end L2


set_option maxRecDepth 100000
namespace L2
open PySem PySem.Spec PyProof.Rows
section
variable {X : Cx} (K : PySem.W.Frag) (h : X.K = K)
theorem op_addK (h : X.K = K) : OpR X (binaryOp .Add) (rAddA K) := h ▸ op_addA
theorem call_lenK (h : X.K = K) : CallR X (.builtin "len") (rLenA K) := h ▸ call_lenA
theorem call_isiK (h : X.K = K) : CallR X (.builtin "isinstance") (rIsi K) := h ▸ call_isi
theorem sl_K (h : X.K = K) : SlR X (rSlA K) := h ▸ sl_A
theorem ix_K (h : X.K = K) : IxR X (rIxA K) := h ▸ ix_A
theorem pi_seqK {tg l : Expr} {tl : TE} (h : X.K = K) (hl : PE X l tl) : PI X tg l (iSeq K tl) := h ▸ pi_seq hl
theorem op_eqK (h : X.K = K) (hu : X.A.units + 64 < cLine) : OpR X (compareOp .Eq) (rEqA K false) := h ▸ op_eqA hu
theorem call_anyK (h : X.K = K) (hc : X.calm = true) : CallR X (.builtin "any") (rAll K true) := h ▸ call_any hc
theorem call_listK (h : X.K = K) : CallR X (.type "list") (rListA K) := h ▸ call_listA
theorem pg_tupK {es : List Expr} {k : Nat} {pos : Pos} {t : TGs} {n : Nat} (h : X.K = K) (hc : X.calm = true) (hh : PGs X es t)
    (hn : (assignEach es X.env).length = n := by rfl) (hst : (assignEach es X.env).findIdx? (·.1) = none := by rfl) : PG X (.Tuple es k pos) (gTup K n t) := h ▸ pg_tup hc hh hn hst
theorem pe_appendK {o e : Expr} {to te : TE} {apos cpos : Pos} (h : X.K = K) (ho : PE X o to) (he : PE X e te) (hbase : attributeBase o "append" X.env (eval o X.env) = eval o X.env := by rfl)
    (hfew : ((backTo cpos (starEach [e] X.env)).all (fun x => !x.1) && (backToKw cpos (keywordEach [] X.env)).all (fun x => x.1.isSome)
      && decide ([e].length + ([] : List Keyword).length + (if ([] : List Keyword).isEmpty then 0 else 1) < 30)) = true := by rfl)
    (hline : (apos.endLine == cpos.line) = true := by rfl) (hs : starEach [e] X.env = (false, eval e X.env) :: starEach [] X.env := by rfl) (hplain : (backTo cpos (starEach [] X.env)).any (·.1) = false := by rfl) :
    PE X (.Call (.Attribute o "append" apos) [e] [] cpos) (tBM K "list" rAppendA to (tCons te tNil)) := h ▸ pe_append ho he hbase hfew hline hs hplain
end
end L2


set_option maxRecDepth 100000
namespace L2
open PySem PySem.Spec PyProof.Rows
noncomputable def isStar : Expr → Bool
  | .Starred .. => true
  | _ => false
theorem starEach_of {e : Expr} {es : List Expr} {env : Env} (h : isStar e = false) : starEach (e :: es) env = (false, eval e env) :: starEach es env := by
  cases e <;> first | rfl | exact absurd h (by simp [isStar])
theorem noStars {pos : Pos} {env : Env} : ∀ {es : List Expr}, es.any isStar = false → (backTo pos (starEach es env)).any (·.1) = false
  | [], _ => rfl
  | e :: es, h => by
    rw [List.any_cons, Bool.or_eq_false_iff] at h
    rw [starEach_of h.1]
    show (false || (backTo pos (starEach es env)).any (·.1)) = false
    rw [noStars h.2]
    rfl
theorem assignEach_of {e : Expr} {es : List Expr} {env : Env} (h : isStar e = false) : (assignEach (e :: es) env).map (·.2) = assign e env :: (assignEach es env).map (·.2) := by
  cases e <;> first | rfl | exact absurd h (by simp [isStar])
theorem assignEach_len {env : Env} : ∀ {es : List Expr}, (assignEach es env).length = es.length
  | [] => rfl
  | e :: es => by
    have ih := @assignEach_len env es
    cases e <;> (show (assignEach es env).length + 1 = es.length + 1; rw [ih])
theorem assignEach_nostar {env : Env} : ∀ {es : List Expr}, es.any isStar = false → (assignEach es env).findIdx? (·.1) = none
  | [], _ => rfl
  | e :: es, h => by
    rw [List.any_cons, Bool.or_eq_false_iff] at h
    have ih := assignEach_nostar (env := env) h.2
    have e1 : assignEach (e :: es) env = (false, assign e env) :: assignEach es env := by
      have := h.1
      cases e <;> first | rfl | exact absurd this (by simp [isStar])
    rw [e1, List.findIdx?_cons, ih]
    rfl
/-- a test that is asked for its value's truth -/
noncomputable def plainTest : Expr → Bool
  | .UnaryOp .Not _ _ => false
  | .BoolOp .. => false
  | .IfExp .. => false
  | .Compare .. => false
  | _ => true
theorem isTrue_of {e : Expr} {env : Env} (h : plainTest e = true) (whole : Sem Value) : isTrue e env whole = (do let v ← whole; standAt e.pos; holding [v] (truthy v)) := by
  cases e with
  | UnaryOp op a p => cases op <;> first | rfl | exact absurd h (by simp [plainTest])
  | BoolOp => exact absurd h (by simp [plainTest])
  | IfExp => exact absurd h (by simp [plainTest])
  | Compare => exact absurd h (by simp [plainTest])
  | _ => rfl
section
variable {X : Cx} {CX : CXT} {k n : Nat} {ps : List Str} {sp : Sp} {x : Str} {p pos : Pos} {e : Expr} {es : List Expr} {t : TA} {te : TE} {id T : String} {r : List V → Hp → VK → Prop}
theorem pa_q (ha : PE X e te) (hr : PA X es t) (h : isStar e = false := by rfl) : PA X (e :: es) (tCons te t) := pa_cons ha hr (starEach_of h)
theorem pe_fnQ [Quiet CX] (G : FnAt X.prog X.w X.K X.mg X.base CX x k ps sp) (hr : Room n X.A) (hk : k ≤ n) (hg : Gl X x) (ha : PA X (e :: es) t)
    (hdb : (x == ("__debug__" : Str)) = false := by decide) (h : (e :: es).any isStar = false := by rfl) : PE X (.Call (.Name x p) (e :: es) [] pos) (tCall sp [] E0 t) := by
  rw [List.any_cons, Bool.or_eq_false_iff] at h
  exact pe_fn G hr hk hg ha hdb (starEach_of h.1) (noStars h.2)
theorem pe_callBQ (hc : CallR X (.builtin id) r) (hg : Gl X x) (hm : X.mg x = none) (hv : bootBuiltins x = some (.builtin id)) (ha : PA X (e :: es) t) (hn : x ≠ "__name__" := by decide) (hdb : (x == ("__debug__" : Str)) = false := by decide)
    (h : (e :: es).any isStar = false := by rfl) : PE X (.Call (.Name x p) (e :: es) [] pos) (tCB r t) := by
  rw [List.any_cons, Bool.or_eq_false_iff] at h
  exact pe_callB hc hg hm hv ha hn hdb (starEach_of h.1) (noStars h.2)
theorem pe_callTyQ (hc : CallR X (.type T) r) (hg : Gl X x) (hm : X.mg x = none) (hv : bootBuiltins x = some (.type T)) (ha : PA X (e :: es) t) (hn : x ≠ "__name__" := by decide) (hdb : (x == ("__debug__" : Str)) = false := by decide)
    (h : (e :: es).any isStar = false := by rfl) : PE X (.Call (.Name x p) (e :: es) [] pos) (tCB r t) := by
  rw [List.any_cons, Bool.or_eq_false_iff] at h
  exact pe_callTy hc hg hm hv ha hn hdb (starEach_of h.1) (noStars h.2)
theorem pgs_q {g : TG} {u : TGs} (h1 : PG X e g) (h2 : PGs X es u) (h : isStar e = false := by rfl) : PGs X (e :: es) (gCons g u) := pgs_cons h1 h2 (assignEach_of h)
theorem pg_tupQ (K : PySem.W.Frag) {j n : Nat} {u : TGs} (hK : X.K = K) (hc : X.calm = true) (hh : PGs X es u) (hn : es.length = n := by rfl) (h : es.any isStar = false := by rfl) : PG X (.Tuple es j pos) (gTup K n u) :=
  pg_tupK K hK hc hh (by rw [assignEach_len]; exact hn) (assignEach_nostar h)
theorem pt_q (he : PE X e te) (h : plainTest e = true := by rfl) : PT X e (tB te) := pt_val he (isTrue_of h)
end
end L2
namespace L2
open PySem PySem.Spec PyProof.Rows
noncomputable def isComp : Expr → Bool
  | .ListComp .. => true
  | .SetComp .. => true
  | .DictComp .. => true
  | _ => false
theorem swaps_of {e : Expr} {tg : Option Expr} {l : Nat} {env : Env} (h : isComp e = false) : swapsWith e tg l env = pure false := by
  cases e <;> first | rfl | exact absurd h (by simp [isComp])
section
variable {X : Cx} {pos : Pos}
theorem ps_setQ {i : Nat} {x : Str} {e : Expr} {te : TE} {pos' : Pos} (hN : X.N.Nodup) (hi : X.N[i]? = some x) (hx : Loc X.env.scope x) (he : PE X e te) (h : isComp e = false := by rfl) (hf : X.fn x = true ∨ X.env.scope.names.lookup x = some .local := by first | exact .inl rfl | exact .inr rfl | assumption) :
    PS X (.Assign [.Name x pos'] e pos) (tAsg te (gName i)) := ps_set hN hi hx he (swaps_of h) hf
theorem ps_exprQ {e : Expr} {te : TE} (he : PE X e te) (h : isComp e = false := by rfl) : PS X (.Expr e pos) (tDrop te) := ps_expr he (swaps_of h)
end
end L2
namespace L2
open PySem PySem.Spec PyProof.Rows
noncomputable def tCs (vs : List V) : TA := fun _ H Q => Q vs H
end L2
namespace L2
open PySem PySem.Spec PyProof.Rows
end L2


namespace BitM
end BitM


namespace Rem
end Rem


namespace BitI
open PySem L2
end BitI


namespace Com
open PySem L2
theorem same_upd {H : Hp} {p : Addr} {o : HO} (h : H p = none) : Same H (upd H p o) := fun b u e => by rw [upd_ne (ne_of_none e h)]; exact e
theorem same_lst {K : PySem.W.Frag} {H H' : Hp} {a : Addr} {xs : List V} (e : Same H H') (h : SqL K H a xs) : SqL K H' a xs := e.seq h
theorem upd_old {H : Hp} {p q : Addr} {o x : HO} (h : H p = some x) (hn : H q = none) : upd H q o p = some x := by rw [upd_ne (ne_of_none h hn)]; exact h
theorem addA_lists {K : PySem.W.Frag} {H : Hp} {Q : VK} {l b : Addr} {xs zs : List V} (h1 : H l = some (.lst xs)) (h2 : H b = some (.lst zs)) (hz : xs.length + zs.length ≤ sizeLine) (q : ∀ p, H p = none → Q (.ref p) (upd H p (.lst (xs ++ zs)))) : rAddA K (.ref l) (.ref b) H Q :=
  .inl ⟨l, b, xs, zs, rfl, rfl, h1, h2, hz, q⟩
theorem small_ok {n : Nat} (h : n ≤ 1000) : n ≤ sizeLine := by rw [sizeLine_eq]; omega
theorem isi_list {K : PySem.W.Frag} {H : Hp} {a : Addr} {xs : List V} {Q : VK} (h : H a = some (.lst xs)) (q : Q (.bl true) H) : rIsi K [.ref a, .ty "list"] H Q := ⟨_, true, .lst h, kit_ll K, q⟩
theorem isi_tup {K : PySem.W.Frag} {H : Hp} {a : Addr} {xs : List V} {Q : VK} (h : H a = some (.tup xs)) (q : Q (.bl true) H) : rIsi K [.ref a, .ty "tuple"] H Q := ⟨_, true, .tup h, kit_tt K, q⟩
end Com


set_option maxRecDepth 100000
namespace L2
open PySem PySem.Spec PyProof.Rows

structure KlsAt (K : PySem.W.Frag) (mg : Str → Option Value) (x : Str) (C : Addr) : Prop where
  mgC : mg x = some (.ref C)
  cl : Cls K C
  mks : PySem.W.makesIn K C = true
  kp : PySem.W.keepIn K (.ref C) = true
section
variable {P : Program} {w : World} {K : PySem.W.Frag} {mg : Str → Option Value} {base : Heap} {CX : CXT}
end

theorem ex_som {x : V} {N : V → Prop} : (∃ v, some x = some v ∧ N v) = N x := by
  apply propext; constructor
  · rintro ⟨v, e, h⟩; cases e; exact h
  · exact fun h => ⟨x, rfl, h⟩
section
variable {X : Cx} {C : Addr} {o e value : Expr} {es : List Expr} {f m x : Str} {p pos pos' tpos apos : Pos} {ta tv : TE} {t : TA} {k n : Nat} {ps : List Str} {sp : Sp}
end
end L2


set_option maxRecDepth 100000
namespace L2
open PySem PySem.Spec PyProof.Rows
noncomputable def ixO (K : PySem.W.Frag) (p : Addr) (i : Int) (H : Hp) (Q : VK) : Option HO → Prop
  | some (.lst xs) => ∃ v, atI xs i = some v ∧ Q v H
  | some (.tup xs) => ∃ v, atI xs i = some v ∧ Q v H
  | _ => rIxA K (.ref p) (.int i) H Q
noncomputable def rIxB (K : PySem.W.Frag) : R2 := fun x y H Q => match x, y with
  | .ref p, .int i => ixO K p i H Q (H p)
  | x, y => rIxA K x y H Q
theorem rIxB_ref {K : PySem.W.Frag} {p : Addr} {i : Int} {H : Hp} {Q : VK} : rIxB K (.ref p) (.int i) H Q = ixO K p i H Q (H p) := rfl
theorem rIxB_str {K : PySem.W.Frag} {z : Str} {i : Int} {H : Hp} {Q : VK} : rIxB K (.str z) (.int i) H Q = rIxA K (.str z) (.int i) H Q := rfl
theorem ixO_lst {K : PySem.W.Frag} {p : Addr} {i : Int} {H : Hp} {Q : VK} {xs : List V} : ixO K p i H Q (some (.lst xs)) = ∃ v, atI xs i = some v ∧ Q v H := rfl
theorem ixO_tup {K : PySem.W.Frag} {p : Addr} {i : Int} {H : Hp} {Q : VK} {xs : List V} : ixO K p i H Q (some (.tup xs)) = ∃ v, atI xs i = some v ∧ Q v H := rfl
theorem ixO_imp {K : PySem.W.Frag} {p : Addr} {i : Int} {H : Hp} {Q : VK} (h : ixO K p i H Q (H p)) : rIxA K (.ref p) (.int i) H Q := by
  unfold ixO at h
  split at h
  · rename_i xs e; obtain ⟨v, a, b⟩ := h; exact ixA_list (SqL.of e) a b
  · rename_i xs e; obtain ⟨v, a, b⟩ := h; exact ixA_tup (SqT.of e) a b
  · exact h
theorem ix_B {X : Cx} (K : PySem.W.Frag) (h : X.K = K) : IxR X (rIxB K) := IxR.imp (ix_K K h) fun x y H Q h => by
  unfold rIxB at h
  split at h
  · exact ixO_imp h
  · exact h
theorem atI_n {α : Type} {xs : List α} {i : Nat} {x : α} (h : xs[i]? = some x) : atI xs (i : Int) = some x := by
  have hl : i < xs.length := (List.getElem?_eq_some_iff.mp h).1
  unfold atI ixN
  rw [if_pos (by omega), if_pos (by omega)]
  exact h
theorem atI_0 {α : Type} {a : α} {l : List α} : atI (a :: l) 0 = some a := atI_n (i := 0) rfl
theorem atI_1 {α : Type} {a b : α} {l : List α} : atI (a :: b :: l) 1 = some b := atI_n (i := 1) rfl
theorem atI_2 {α : Type} {a b c : α} {l : List α} : atI (a :: b :: c :: l) 2 = some c := atI_n (i := 2) rfl
theorem atI_3 {α : Type} {a b c d : α} {l : List α} : atI (a :: b :: c :: d :: l) 3 = some d := atI_n (i := 3) rfl
theorem atI_4 {α : Type} {a b c d e : α} {l : List α} : atI (a :: b :: c :: d :: e :: l) 4 = some e := atI_n (i := 4) rfl
theorem atI_5 {α : Type} {a b c d e f : α} {l : List α} : atI (a :: b :: c :: d :: e :: f :: l) 5 = some f := atI_n (i := 5) rfl
noncomputable def gO (K : PySem.W.Frag) (n : Nat) (t : TGs) (a : Addr) (σ : St) (H : Hp) (Q : St → Hp → Prop) : Option HO → Prop
  | some (.tup xs) => xs.length = n ∧ t xs σ H Q
  | _ => ∃ xs, SqT K H a xs ∧ xs.length = n ∧ t xs σ H Q
noncomputable def gTupB (K : PySem.W.Frag) (n : Nat) (t : TGs) : TG := fun v σ H Q => match v with
  | .ref a => gO K n t a σ H Q (H a)
  | _ => False
theorem gTupB_ref {K : PySem.W.Frag} {n : Nat} {t : TGs} {a : Addr} {σ : St} {H : Hp} {Q : St → Hp → Prop} : gTupB K n t (.ref a) σ H Q = gO K n t a σ H Q (H a) := rfl
theorem gO_tup {K : PySem.W.Frag} {n : Nat} {t : TGs} {a : Addr} {σ : St} {H : Hp} {Q : St → Hp → Prop} {xs : List V} : gO K n t a σ H Q (some (.tup xs)) = (xs.length = n ∧ t xs σ H Q) := rfl
theorem pg_tupB {X : Cx} {es : List Expr} {pos : Pos} (K : PySem.W.Frag) {j n : Nat} {u : TGs} (hK : X.K = K) (hc : X.calm = true) (hh : PGs X es u) (hn : es.length = n := by rfl) (h : es.any isStar = false := by rfl) : PG X (.Tuple es j pos) (gTupB K n u) := by
  intro pins s σ H v w Q I r q
  refine pg_tupQ K (j := j) hK hc hh hn h pins s σ H v w Q I r ?_
  unfold gTupB at q
  split at q
  · rename_i a
    unfold gO at q
    split at q
    · rename_i xs e; exact ⟨a, xs, rfl, SqT.of e, q⟩
    · obtain ⟨xs, h1, h2⟩ := q; exact ⟨a, xs, rfl, h1, h2⟩
  · exact q.elim
noncomputable def lenO (K : PySem.W.Frag) (p : Addr) (H : Hp) (Q : VK) : Option HO → Prop
  | some (.lst xs) => Q (.int xs.length) H
  | some (.tup xs) => Q (.int xs.length) H
  | _ => rLenA K [.ref p] H Q
noncomputable def rLenB (K : PySem.W.Frag) : List V → Hp → VK → Prop := fun xs H Q => match xs with
  | [.ref p] => lenO K p H Q (H p)
  | xs => rLenA K xs H Q
theorem rLenB_ref {K : PySem.W.Frag} {p : Addr} {H : Hp} {Q : VK} : rLenB K [.ref p] H Q = lenO K p H Q (H p) := rfl
theorem rLenB_str {K : PySem.W.Frag} {z : Str} {H : Hp} {Q : VK} : rLenB K [.str z] H Q = rLenA K [.str z] H Q := rfl
theorem lenO_lst {K : PySem.W.Frag} {p : Addr} {H : Hp} {Q : VK} {xs : List V} : lenO K p H Q (some (.lst xs)) = Q (.int xs.length) H := rfl
theorem lenO_tup {K : PySem.W.Frag} {p : Addr} {H : Hp} {Q : VK} {xs : List V} : lenO K p H Q (some (.tup xs)) = Q (.int xs.length) H := rfl
theorem call_lenB {X : Cx} (K : PySem.W.Frag) (h : X.K = K) : CallR X (.builtin "len") (rLenB K) := CallR.imp (call_lenK K h) fun xs H Q h => by
  unfold rLenB at h
  split at h
  · rename_i p
    unfold lenO at h
    split at h
    · rename_i xs e; exact ⟨xs, .inl (SqL.of e), h⟩
    · rename_i xs e; exact ⟨xs, .inr (SqT.of e), h⟩
    · exact h
  · exact h
noncomputable def isiO (K : PySem.W.Frag) (p : Addr) (n : String) (H : Hp) (Q : VK) : Option HO → Prop
  | some (.lst _) => if n = "list" then Q (.bl true) H else rIsi K [.ref p, .ty n] H Q
  | some (.tup _) => if n = "tuple" then Q (.bl true) H else rIsi K [.ref p, .ty n] H Q
  | _ => rIsi K [.ref p, .ty n] H Q
noncomputable def rIsiB (K : PySem.W.Frag) : List V → Hp → VK → Prop := fun xs H Q => match xs with
  | [.ref p, .ty n] => isiO K p n H Q (H p)
  | xs => rIsi K xs H Q
theorem call_isiB {X : Cx} (K : PySem.W.Frag) (h : X.K = K) : CallR X (.builtin "isinstance") (rIsiB K) := CallR.imp (call_isiK K h) fun xs H Q h => by
  unfold rIsiB at h
  split at h
  · rename_i p n
    unfold isiO at h
    split at h
    · rename_i xs e
      split at h
      · rename_i c; subst c; exact Com.isi_list e h
      · exact h
    · rename_i xs e
      split at h
      · rename_i c; subst c; exact Com.isi_tup e h
      · exact h
    · exact h
  · exact h
theorem rIsiB_ref {K : PySem.W.Frag} {p : Addr} {n : String} {H : Hp} {Q : VK} : rIsiB K [.ref p, .ty n] H Q = isiO K p n H Q (H p) := rfl
theorem isiO_tup {K : PySem.W.Frag} {p : Addr} {H : Hp} {Q : VK} {xs : List V} : isiO K p "tuple" H Q (some (.tup xs)) = Q (.bl true) H := by simp [isiO]
theorem isiO_lst {K : PySem.W.Frag} {p : Addr} {H : Hp} {Q : VK} {xs : List V} : isiO K p "list" H Q (some (.lst xs)) = Q (.bl true) H := by simp [isiO]
theorem rIsiB_i {K : PySem.W.Frag} {i : Int} {n : String} {H : Hp} {Q : VK} : rIsiB K [.int i, .ty n] H Q = rIsi K [.int i, .ty n] H Q := rfl
theorem rIsiB_b {K : PySem.W.Frag} {i : Bool} {n : String} {H : Hp} {Q : VK} : rIsiB K [.bl i, .ty n] H Q = rIsi K [.bl i, .ty n] H Q := rfl
theorem rIsiB_s {K : PySem.W.Frag} {i : Str} {n : String} {H : Hp} {Q : VK} : rIsiB K [.str i, .ty n] H Q = rIsi K [.str i, .ty n] H Q := rfl
theorem ex_lst {l : List V} {N : List V → Prop} : (∃ xs, some (HO.lst l) = some (HO.lst xs) ∧ N xs) = N l := by
  apply propext; constructor
  · rintro ⟨xs, e, h⟩; cases e; exact h
  · exact fun h => ⟨l, rfl, h⟩
theorem ex_lst2 {l : List V} {k : Int} {N : List V → Nat → Prop} : (∃ xs j, some (HO.lst l) = some (HO.lst xs) ∧ ixN xs.length k = some j ∧ N xs j) = ∃ j, ixN l.length k = some j ∧ N l j := by
  apply propext; constructor
  · rintro ⟨xs, j, e, h⟩; cases e; exact ⟨j, h⟩
  · rintro ⟨j, h⟩; exact ⟨l, j, rfl, h⟩
end L2


namespace MeterM
end MeterM
namespace MeterM
end MeterM


namespace WaysM
structure IsLow (t b t' b' s : Int) : Prop where
  s0 : 0 < s
  tt : t = s * t'
  bb : b = s * b'
  t0 : 0 ≤ t'
  b0 : 0 < b'
  od : ¬ (t' % 2 = 0 ∧ b' % 2 = 0)
  tl : t' ≤ t
  bl : b' ≤ b
end WaysM


set_option maxRecDepth 100000
namespace L2
open PySem PySem.Spec PyProof.Rows
noncomputable def Bd (n : Nat) (x : Int) : Prop := x.natAbs < 2 ^ n
theorem Bd.bits {n : Nat} {x : Int} (h : Bd n x) : Builtin.Int.intBits x ≤ n := by
  unfold Builtin.Int.intBits
  split
  · omega
  · rename_i c
    have hx : x.natAbs ≠ 0 := by simpa using c
    have := (Nat.log2_lt hx).mpr h
    omega
noncomputable def CMulW (i j : Int) : Prop := CMul i j ∨ (Bd 8000 i ∧ Bd 8000 j)
theorem op_mulW {X : Cx} : OpR X (binaryOp .Mult) (rI CMulW fun i j => .int (i * j)) := opI fun _ _ _ _ _ _ _ hc q => mul_int q (by
  rcases hc with hc | ⟨h1, h2⟩
  · exact hc.ok
  · exact IntMulOk.of_bits (Nat.le_trans h1.bits (by decide)) (Nat.le_trans h2.bits (by decide)))
end L2
namespace L2
end L2
namespace WaysI
open PySem L2
end WaysI


set_option maxRecDepth 100000
namespace L2
open PySem PySem.Spec PyProof.Rows
noncomputable def swO (i j : Nat) (D : Ends) (σ : St) (H : Hp) : Option HO → Prop
  | some (.tup [a, b]) => D.nx ((σ.set j (some b)).set i (some a)) H
  | _ => False
noncomputable def swV (i j : Nat) (D : Ends) (σ : St) (v : V) (H : Hp) : Prop := match v with
  | .ref p => swO i j D σ H (H p)
  | _ => False
noncomputable def tSw (i j : Nat) (te : TE) : TS := fun D σ H => te σ H fun v H1 => swV i j D σ v H1
theorem swV_ref {i j : Nat} {D : Ends} {σ : St} {p : Addr} {H : Hp} : swV i j D σ (.ref p) H = swO i j D σ H (H p) := rfl
theorem swO_tup {i j : Nat} {D : Ends} {σ : St} {H : Hp} {a b : V} : swO i j D σ H (some (.tup [a, b])) = D.nx ((σ.set j (some b)).set i (some a)) H := rfl
end L2


set_option maxRecDepth 100000
namespace L2
open PySem PySem.Spec PyProof.Rows
theorem ints_are : ∀ {ns : List Int} {its : List Value}, Vals (ns.map V.int) its → IntsAre its ns
  | [], _, .nil => .nil
  | n :: ns, _, .cons r rr => by
    obtain ⟨t, rfl⟩ := r
    exact .cons n t (ints_are rr)
noncomputable def rMinB (K : PySem.W.Frag) : List V → Hp → VK → Prop := fun xs H Q => match xs with
  | [.int i, .int j] => Q (.int (if j < i then j else i)) H
  | [.ref p] => ∃ ns : List Int, SqL K H p (ns.map V.int) ∧ 0 < ns.length ∧ ∀ M, M ∈ ns → (∀ a, a ∈ ns → M ≤ a) → Q (.int M) H
  | _ => False
noncomputable def rMaxB (K : PySem.W.Frag) : List V → Hp → VK → Prop := fun xs H Q => match xs with
  | [.int i, .int j] => Q (.int (if i < j then j else i)) H
  | [.ref p] => ∃ ns : List Int, SqL K H p (ns.map V.int) ∧ 0 < ns.length ∧ ∀ M, M ∈ ns → (∀ a, a ∈ ns → a ≤ M) → Q (.int M) H
  | _ => False
theorem call_maxB {X : Cx} (K : PySem.W.Frag) (hK : X.K = K) (hc : X.calm = true) : CallR X (.builtin "max") (rMaxB K) := by
  subst hK
  intro pins s σ H xs us Q I rs q
  unfold rMaxB at q
  split at q
  · exact call_maxA hc pins s σ H _ us Q I rs q
  · rename_i p
    obtain ⟨u, rfl, ru⟩ := vals1 rs
    cases ru
    obtain ⟨ns, hS, hne, q⟩ := q
    obtain ⟨its, r, pl, hz⟩ := I.list hS
    have hi := ints_are r
    have hl := pl.isList
    obtain ⟨xs, e⟩ := hi.allInts.items
    have hns : ns = xs.toList.map (·.1) := by rw [← hi.numsOf, ← nums_intItems, ← e]
    have hsz : 0 < xs.size := by
      have h3 := hne; rw [hns, List.length_map, Array.length_toList] at h3; exact h3
    rw [e] at hl
    refine max_intList (I.ok.hd hc) hl hsz fun v h' tk hv hk => ?_
    obtain ⟨t, rfl⟩ := intItems_at hv
    obtain ⟨h1, h2⟩ := argBest_gt (numAt xs) (xs.size - 1)
    refine ⟨.int _, H, I.kept (t' := tk) hk, ⟨t, rfl⟩, q _ ?_ fun a ha => ?_⟩
    · rw [hns, numAt_eq]; exact getD_mem (by rw [List.length_map, Array.length_toList]; omega)
    · rw [hns] at ha
      obtain ⟨j, hj, rfl⟩ := mem_getD ha
      rw [List.length_map, Array.length_toList] at hj
      rw [← numAt_eq]; exact h2 j (by omega)
  · exact q.elim
theorem rMinB_ref {K : PySem.W.Frag} {p : Addr} {H : Hp} {Q : VK} : rMinB K [.ref p] H Q = ∃ ns : List Int, SqL K H p (ns.map V.int) ∧ 0 < ns.length ∧ ∀ M, M ∈ ns → (∀ a, a ∈ ns → M ≤ a) → Q (.int M) H := rfl
theorem rMaxB_ref {K : PySem.W.Frag} {p : Addr} {H : Hp} {Q : VK} : rMaxB K [.ref p] H Q = ∃ ns : List Int, SqL K H p (ns.map V.int) ∧ 0 < ns.length ∧ ∀ M, M ∈ ns → (∀ a, a ∈ ns → a ≤ M) → Q (.int M) H := rfl
end L2


set_option maxRecDepth 100000
namespace L2
open PySem PySem.Spec PyProof.Rows
section
variable {X : Cx} {i o e value : Expr} {ti to te tv : TE} {pos pos' apos cpos : Pos}
end
end L2


set_option maxRecDepth 100000
namespace L2
open PySem PySem.Spec PyProof.Rows
end L2


set_option maxRecDepth 100000
namespace L2
open PySem PySem.Spec PyProof.Rows
end L2


set_option maxRecDepth 100000
namespace L2
open PySem PySem.Spec PyProof.Rows
section
variable {X : Cx} {K : PySem.W.Frag}
end
end L2


set_option maxRecDepth 100000
namespace L2
open PySem PySem.Spec PyProof.Rows
section
variable {X : Cx} {a b c d : Expr} {ta tb tc td : TE} {pos : Pos}
end
end L2


set_option maxRecDepth 100000
namespace L2
open PySem PySem.Spec PyProof.Rows
section
variable {X : Cx} {i o e value : Expr} {ti to te tv : TE} {pos pos' apos cpos : Pos}
end
end L2


set_option maxRecDepth 100000
namespace L2
open PySem PySem.Spec PyProof.Rows
noncomputable def Ite (a : Addr) : It :=
  ⟨fun i H => ∃ xs x, H a = some (.lst xs) ∧ xs[i]? = some x, fun i H v H' => ∃ p x, (∀ xs, H a = some (.lst xs) → xs[i]? = some x) ∧ H p = none ∧ v = .ref p ∧ H' = upd H p (.tup [.int i, x]), fun i H => ∃ xs, H a = some (.lst xs) ∧ xs.length ≤ i⟩
section
variable {X : Cx} {pins : List (Addr × Obj)} {σ : St} {H : Hp} {s : Shared} {h' : Heap}
theorem Inv.tupd {t' : Nat} {p : Addr} {ch : List Addr} {xs : List V} (I : Inv X pins σ H s) (k : ∀ b o, b ∉ ch → s.heap.get? b = some o → h'.get? b = some o) (f : ∀ b ∈ ch, FpOk X pins H b)
    (hp : s.heap.objs.size ≤ p) (new : ObjOk X.prog X.w (upd H p (.tup xs)) h' p (.tup xs)) : Inv X pins σ (upd H p (.tup xs)) { s with heap := h', toks := t' } := by
  have hn := I.hok.fresh hp
  have nit : ∀ b u, H b = some u → b ∉ ch := fun b u q z => by rw [(f b z).1] at q; cases q
  refine I.step (g' := s.gens) (d' := s.drawn) (ch := ch) (fun b hb => ?_) (fun b o _ _ hc q _ => k b o hc q) (fun b o _ _ hc q _ => ⟨o.slots, k b o hc q⟩)
    (fun b o _ q n => by rw [upd_ne (Nat.ne_of_lt (Nat.lt_of_lt_of_le (Heap.lt_size q) hp))]; exact n)
    (fun b o hc q => ⟨o, k b o hc q⟩) (fun b xs q => by rw [upd_ne (ne_of_none q hn)]; exact q) (fun b u xs q => by rw [upd_ne (ne_of_none q hn)]; exact q) (fun b ps q => ⟨#[], by rw [upd_ne (ne_of_none q hn), q]; simp⟩) (fun m hm => ?_) (fun b u q => ?_) I.bare
  · obtain ⟨e0, e1, e2, e3, e4, e5⟩ := f b hb
    exact ⟨e3, e1, e4, e5⟩
  · obtain ⟨o, es, ep, ho, r⟩ := hm
    exact ⟨o, es, ep, k _ o (fun z => (f _ z).2.1 rfl) ho, r⟩
  · by_cases hb : b = p
    · subst hb; rw [upd_same] at q; cases q; exact new
    · rw [upd_ne hb] at q
      refine (I.hok b u q).stay (fun c v hc q2 => ?_) (fun c q => by rw [upd_ne (ne_of_none q hn)]; exact q) fun c xs q => by rw [upd_ne (ne_of_none q hn)]; exact q
      rcases hc with z | z
      · subst z; exact k _ v (nit _ u q) q2
      · exact k c v (nit c _ z) q2
theorem Inv.turnedL {t' : Nat} {ch : List Addr} (I : Inv X pins σ H s) (k : ∀ b o, b ∉ ch → s.heap.get? b = some o → h'.get? b = some o) (f : ∀ b ∈ ch, FpOk X pins H b) : Inv X pins σ H { s with heap := h', toks := t' } := by
  have nit : ∀ b u, H b = some u → b ∉ ch := fun b u q z => by rw [(f b z).1] at q; cases q
  refine I.step (g' := s.gens) (d' := s.drawn) (ch := ch) (fun b hb => ?_) (fun b o _ _ hc q _ => k b o hc q) (fun b o _ _ hc q _ => ⟨o.slots, k b o hc q⟩)
    (fun b o _ q n => n) (fun b o hc q => ⟨o, k b o hc q⟩) (fun b xs q => q) (fun b u xs q => q) (fun b ps q => ⟨#[], by rw [q]; simp⟩) (fun m hm => ?_) (fun b u q => ?_) I.bare
  · obtain ⟨e0, e1, e2, e3, e4, e5⟩ := f b hb
    exact ⟨e3, e1, e4, e5⟩
  · obtain ⟨o, es, ep, ho, r⟩ := hm
    exact ⟨o, es, ep, k _ o (fun z => (f _ z).2.1 rfl) ho, r⟩
  · refine (I.hok b u q).stay (fun c v hc q2 => ?_) (fun c q => q) fun c xs q => q
    rcases hc with z | z
    · subst z; exact k _ v (nit _ u q) q2
    · exact k c v (nit c _ z) q2
end
theorem turn_enum {P : Program} {w : World} {K : PySem.W.Frag} {elts : List Expr} {x1} {pos : Pos} (a e it : Addr) (ne : e ≠ it) : Turn P w K (.Tuple elts x1 pos) (Ite a) [e, it] e (fun i h => (∃ old, IsEnum h e it ((i : Nat) : Int) old) ∧ h.IsListIter it a i) where
  mem := by simp
  obj := fun i h st b hb => by
    obtain ⟨⟨old, he⟩, ⟨o, ho, c, d⟩⟩ := st
    have q : b = e ∨ b = it := by simpa using hb
    rcases q with rfl | rfl
    · exact ⟨_, he, fun v z => by cases z⟩
    · exact ⟨o, ho, fun v z => by rw [d] at z; cases z⟩
  keep := fun i h h' st k => ⟨st.1.elim fun old he => ⟨old, k e (by simp) _ he⟩, st.2.at fun o q => k it (by simp) o q⟩
  item := by
    intro X hP hw hK hc i pins s σ H E I hf st hg
    subst hP hw hK
    obtain ⟨⟨old, he⟩, hit⟩ := st
    obtain ⟨xs, x, hq, hx⟩ := hg
    obtain ⟨z, its, n, r, eo⟩ := I.hok a _ hq
    obtain ⟨u, hu, ru⟩ := r.get hx
    have fe := hf e (by simp)
    have fi := hf it (by simp)
    have hes : e < s.heap.objs.size := Heap.lt_size he
    have his : it < s.heap.objs.size := by obtain ⟨o, ho, _⟩ := hit; exact Heap.lt_size ho
    have hp := I.hok.fresh (Nat.le_refl s.heap.objs.size)
    refine wpAny_pyNext_enum_item he hit ⟨_, eo, rfl, n, rfl⟩ (x := u) (by simpa using hu) ne fun h1 heo hit1 ht1 hz1 hk1 => ⟨_, rfl, wpAny_letOwnedTupleGo_enum heo fun h2 he2 hs2 => ?_⟩
    replace hs2 : Heap.SameBut e h1 h2 := hs2
    have ht2 : h2.get? s.heap.objs.size = some { cls := .type "tuple", data := .seq #[.int i s.toks, u] } := (hs2.2 _ (Nat.ne_of_gt hes)).trans ht1
    refine ⟨.ref s.heap.objs.size, upd H s.heap.objs.size (.tup [.int i, x]), ?_, rfl, ⟨_, x, fun ys hy => by rw [hq] at hy; cases hy; exact hx, hp, rfl, rfl⟩, ⟨⟨u, ?_⟩, ?_⟩, fun b hb => ?_⟩
    · refine I.tupd (t' := s.toks + 1) (ch := [e, it]) (fun b o bn q => (hs2.2 b (fun z => bn (by simp [z]))).trans (hk1 b o (fun z => bn (by simp [z])) (fun z => bn (by simp [z])) q)) hf (Nat.le_refl _) ⟨by show 2 ≤ sizeLine; rw [sizeLine_eq]; decide, [.int i s.toks, u], .cons ⟨_, rfl⟩ (.cons ru .nil), ?_⟩
      exact ⟨_, ht2, rfl, _, rfl⟩
    · have : ((i + 1 : Nat) : Int) = (i : Int) + 1 := by push_cast; rfl
      rw [this]; exact he2
    · exact hit1.extBut hs2.extBut (Ne.symm ne)
    · have q : b = e ∨ b = it := by simpa using hb
      rcases q with rfl | rfl
      · rw [upd_ne (Nat.ne_of_lt hes)]; exact fe.1
      · rw [upd_ne (Nat.ne_of_lt his)]; exact fi.1
  done := by
    intro X hP hw hK hc i pins s σ H E I hf st hg
    subst hP hw hK
    obtain ⟨⟨old, he⟩, hit⟩ := st
    obtain ⟨xs, hq, hx⟩ := hg
    obtain ⟨z, its, n, r, eo⟩ := I.hok a _ hq
    have hl := r.length
    obtain ⟨f0, f1, f2, f3, f4, f5⟩ := hf it (by simp)
    exact wpAny_pyNext_enum_end (I.ok.hd hc) he hit ⟨_, eo, rfl, n, rfl⟩ (by simp; omega) fun h' eb => ⟨rfl, I.turned (t' := s.toks) (fun b o hb q => eb b o hb q) f0 f1 f3 f4 f5⟩
  self := fun _ _ _ _ _ st h => st.1.elim fun old he => wpAny_pyIter_enum he h
theorem boot_enumerate : bootBuiltins "enumerate" = some (.type "enumerate") := by decide +kernel
noncomputable def enR (x : V) (H1 : Hp) (R : It → Hp → Prop) : Prop := match x with
  | .ref a => ∃ xs, H1 a = some (.lst xs) ∧ R (Ite a) H1
  | _ => False
noncomputable def jEnum (ta : TA) : TI := fun σ H R => ta σ H fun vs H1 => match vs with
  | [x] => enR x H1 R
  | _ => False
section
variable {X : Cx} {elts : List Expr} {x1 : _} {tpos : Pos}
theorem pj_enum {a : Expr} {ta : TA} {p pos : Pos} (hg : Gl X "enumerate") (hm : X.mg "enumerate" = none) (ha : PA X [a] ta) (hs : starEach [a] X.env = [(false, eval a X.env)] := by rfl) : PI X (.Tuple elts x1 tpos) (.Call (.Name "enumerate" p) [a] [] pos) (jEnum ta) := by
  intro pins s σ H R I h
  refine Call_ (ld_blt I hg hm boot_enumerate (PyProof.Rows.callWith_type1 (thn (ha pos pins s σ H _ I h) fun us s1 ⟨vs, H1, I1, r1, q1⟩ => ?_) hs rfl))
  cases r1 with
  | nil => exact q1.elim
  | @cons x u xs us r rr =>
    cases rr with
    | cons _ _ => exact q1.elim
    | nil =>
      replace q1 : enR x H1 R := q1
      unfold enR at q1
      split at q1
      · rename_i b
        obtain ⟨ys, hb, q⟩ := q1
        cases r
        obtain ⟨z, its, n, rv, eo⟩ := I1.hok b _ hb
        refine call_enumerate_1 eo fun h' he hit hz hk => ?_
        refine wpAny_pyIter_enum he ?_
        refine ⟨_, [s1.heap.objs.size + 1, s1.heap.objs.size], _, _, H1, rfl, I1.kept (t' := s1.toks) fun b o e => hk b o e, turn_enum b (s1.heap.objs.size + 1) s1.heap.objs.size (Nat.succ_ne_self _), ⟨⟨_, he⟩, hit⟩, fun c hc => ?_, q⟩
        have e : c = s1.heap.objs.size + 1 ∨ c = s1.heap.objs.size := by simpa using hc
        rcases e with rfl | rfl
        · exact I1.fpOk (Nat.le_succ _) (I1.hok.fresh (Nat.le_succ _))
        · exact I1.fpOk (Nat.le_refl _) (I1.hok.fresh (Nat.le_refl _))
      · exact q1.elim
end
section
variable {K : PySem.W.Frag} {g : TG} {tb : TS} {D : Ends} {σ : St} {H : Hp} {ta : TA}
theorem tFor_enum : tFor (jEnum ta) g tb D σ H = ta σ H fun vs H1 => match vs with
  | [x] => enR x H1 fun J H2 => forR J g tb D σ H2
  | _ => False := by
  unfold tFor jEnum
  rfl
end
end L2


set_option maxRecDepth 100000
namespace L2
open PySem PySem.Spec PyProof.Rows
section
variable {X : Cx} {o e f : Expr} {to te tf : TE} {apos cpos : Pos}
end
section
variable {X : Cx} {pos : Pos}
/-- a rule's premise in a shell: the elaborator does not look into it -/
structure QE (X : Cx) (e : Expr) (t : TE) : Prop where
  h : PE X e t
structure QS (X : Cx) (st : Stmt) (t : TS) : Prop where
  h : PS X st t
structure QSs (X : Cx) (l : List Stmt) (t : TS) : Prop where
  h : PSs X l t
end
end L2


set_option maxRecDepth 100000
namespace L2
open PySem PySem.Spec PyProof.Rows
noncomputable def Itz (a b : Addr) : It :=
  ⟨fun i H => ∃ xs ys x y, H a = some (.lst xs) ∧ H b = some (.lst ys) ∧ xs[i]? = some x ∧ ys[i]? = some y,
   fun i H v H' => ∃ p x y, (∀ xs, H a = some (.lst xs) → xs[i]? = some x) ∧ (∀ ys, H b = some (.lst ys) → ys[i]? = some y) ∧ H p = none ∧ v = .ref p ∧ H' = upd H p (.tup [x, y]),
   fun i H => ∃ xs ys, H a = some (.lst xs) ∧ H b = some (.lst ys) ∧ (xs.length ≤ i ∨ ys.length ≤ i)⟩
noncomputable def TnZ (z TI TO i1 i2 a b : Addr) (i : Nat) (h : Heap) : Prop := IsZip h z TI TO .none ∧ IsPair h TI (.ref i1) (.ref i2) ∧ (∃ u v, IsPair h TO u v) ∧ h.IsListIter i1 a i ∧ h.IsListIter i2 b i
theorem turn_zip {P : Program} {w : World} {K : PySem.W.Frag} {elts : List Expr} {x1} {pos : Pos} (a b z TI TO i1 i2 : Addr) (D : ZipApart z TI TO i1 i2 a b) : Turn P w K (.Tuple elts x1 pos) (Itz a b) [z, TI, TO, i1, i2] z (TnZ z TI TO i1 i2 a b) where
  mem := by simp
  obj := fun i h st c hb => by
    obtain ⟨hz, hTI, ⟨u, v, hTO⟩, ⟨o1, ho1, c1, d1⟩, ⟨o2, ho2, c2, d2⟩⟩ := st
    have q : c = z ∨ c = TI ∨ c = TO ∨ c = i1 ∨ c = i2 := by simpa using hb
    rcases q with rfl | rfl | rfl | rfl | rfl
    · exact ⟨_, hz, fun v z => by cases z⟩
    · exact ⟨_, hTI, fun v z => by cases z⟩
    · exact ⟨_, hTO, fun v z => by cases z⟩
    · exact ⟨o1, ho1, fun v z => by rw [d1] at z; cases z⟩
    · exact ⟨o2, ho2, fun v z => by rw [d2] at z; cases z⟩
  keep := fun i h h' st k => by
    obtain ⟨hz, hTI, ⟨u, v, hTO⟩, h1, h2⟩ := st
    exact ⟨k z (by simp) _ hz, k TI (by simp) _ hTI, ⟨u, v, k TO (by simp) _ hTO⟩, h1.at fun o q => k i1 (by simp) o q, h2.at fun o q => k i2 (by simp) o q⟩
  item := by
    intro X hP hw hK hc i pins s σ H E I hf st hg
    subst hP hw hK
    obtain ⟨hz, hTI, ⟨u, v, hTO⟩, h1, h2⟩ := st
    obtain ⟨xs, ys, x, y, hqa, hqb, hx, hy⟩ := hg
    obtain ⟨_, its1, n1, r1, eo1⟩ := I.hok a _ hqa
    obtain ⟨_, its2, n2, r2, eo2⟩ := I.hok b _ hqb
    obtain ⟨u1, hu1, ru1⟩ := r1.get hx
    obtain ⟨u2, hu2, ru2⟩ := r2.get hy
    have hp := I.hok.fresh (Nat.le_refl s.heap.objs.size)
    have zs : z < s.heap.objs.size := Heap.lt_size hz
    refine wpAny_pyNext_zip_item D hz hTI hTO h1 h2 ⟨_, eo1, rfl, n1, rfl⟩ ⟨_, eo2, rfl, n2, rfl⟩ (x := u1) (y := u2) (by simpa using hu1) (by simpa using hu2) fun h' hz' hTO' h1' h2' hT' hs' hk' => ⟨_, rfl, wpAny_letOwnedTupleGo_zip hz' fun h'' hz'' hs'' => ?_⟩
    replace hs'' : Heap.SameBut z h' h'' := hs''
    have ht2 : h''.get? s.heap.objs.size = some { cls := .type "tuple", data := .seq #[u1, u2] } := (hs''.2 _ (Nat.ne_of_gt zs)).trans hT'
    have hTI' : IsPair h' TI (.ref i1) (.ref i2) := hk' _ _ D.TIz D.TITO D.TIi1 D.TIi2 hTI
    refine ⟨.ref s.heap.objs.size, upd H s.heap.objs.size (.tup [x, y]), ?_, rfl, ⟨_, x, y, fun zs hzs => by rw [hqa] at hzs; cases hzs; exact hx, fun zs hzs => by rw [hqb] at hzs; cases hzs; exact hy, hp, rfl, rfl⟩, ⟨hz'', (hs''.2 _ D.TIz).trans hTI', ⟨_, _, (hs''.2 _ D.TOz).trans hTO'⟩, h1'.extBut hs''.extBut D.i1z, h2'.extBut hs''.extBut D.i2z⟩, fun c hb => ?_⟩
    · refine I.tupd (t' := s.toks) (ch := [z, TI, TO, i1, i2]) (fun c o bn q => (hs''.2 c (fun e => bn (by simp [e]))).trans (hk' c o (fun e => bn (by simp [e])) (fun e => bn (by simp [e])) (fun e => bn (by simp [e])) (fun e => bn (by simp [e])) q)) hf (Nat.le_refl _) ⟨by show 2 ≤ sizeLine; rw [sizeLine_eq]; decide, [u1, u2], .cons ru1 (.cons ru2 .nil), ?_⟩
      exact ⟨_, ht2, rfl, _, rfl⟩
    · have fo := (hf c hb).1
      have cs : c < s.heap.objs.size := by
        have q : c = z ∨ c = TI ∨ c = TO ∨ c = i1 ∨ c = i2 := by simpa using hb
        obtain ⟨_, q1, _⟩ := h1
        obtain ⟨_, q2, _⟩ := h2
        rcases q with rfl | rfl | rfl | rfl | rfl
        · exact zs
        · exact Heap.lt_size hTI
        · exact Heap.lt_size hTO
        · exact Heap.lt_size q1
        · exact Heap.lt_size q2
      rw [upd_ne (Nat.ne_of_lt cs)]; exact fo
  done := by
    intro X hP hw hK hc i pins s σ H E I hf st hg
    subst hP hw hK
    obtain ⟨hz, hTI, ⟨u, v, hTO⟩, h1, h2⟩ := st
    obtain ⟨xs, ys, hqa, hqb, hlen⟩ := hg
    obtain ⟨_, its1, n1, r1, eo1⟩ := I.hok a _ hqa
    obtain ⟨_, its2, n2, r2, eo2⟩ := I.hok b _ hqb
    have l1 := r1.length
    have l2 := r2.length
    refine wpAny_pyNext_zip_end (I.ok.hd hc) D hz hTI hTO h1 h2 ⟨_, eo1, rfl, n1, rfl⟩ ⟨_, eo2, rfl, n2, rfl⟩ ?_ fun h' hk => ⟨rfl, I.turnedL (t' := s.toks) (ch := [z, TI, TO, i1, i2]) (fun c o bn q => hk c o (fun e => bn (by simp [e])) (fun e => bn (by simp [e])) (fun e => bn (by simp [e])) (fun e => bn (by simp [e])) q) hf⟩
    rcases hlen with q | q
    · exact .inl (by simp; omega)
    · exact .inr (by simp; omega)
  self := fun _ _ _ _ _ st h => wpAny_pyIter_zip st.1 h
theorem boot_zip : bootBuiltins "zip" = some (.type "zip") := by decide +kernel
noncomputable def znR (x y : V) (H1 : Hp) (R : It → Hp → Prop) : Prop := match x, y with
  | .ref a, .ref b => ∃ xs ys, H1 a = some (.lst xs) ∧ H1 b = some (.lst ys) ∧ R (Itz a b) H1
  | _, _ => False
noncomputable def jZip (ta : TA) : TI := fun σ H R => ta σ H fun vs H1 => match vs with
  | [x, y] => znR x y H1 R
  | _ => False
section
variable {X : Cx} {elts : List Expr} {x1 : _} {tpos : Pos}
theorem pj_zip {a b : Expr} {ta : TA} {p pos : Pos} (hg : Gl X "zip") (hm : X.mg "zip" = none) (ha : PA X [a, b] ta) (hs : starEach [a, b] X.env = (false, eval a X.env) :: starEach [b] X.env := by rfl) (hs2 : starEach [b] X.env = [(false, eval b X.env)] := by rfl) : PI X (.Tuple elts x1 tpos) (.Call (.Name "zip" p) [a, b] [] pos) (jZip ta) := by
  intro pins s σ H R I h
  refine Call_ (ld_blt I hg hm boot_zip (PyProof.Rows.callWith_type1 (thn (ha pos pins s σ H _ I h) fun us s1 ⟨vs, H1, I1, r1, q1⟩ => ?_) hs (by rw [hs2]; rfl)))
  cases r1 with
  | nil => exact q1.elim
  | @cons x u xs us r rr =>
    cases rr with
    | nil => exact q1.elim
    | @cons y v ys vs r' rr' =>
      cases rr' with
      | cons _ _ => exact q1.elim
      | nil =>
        replace q1 : znR x y H1 R := q1
        unfold znR at q1
        split at q1
        · rename_i c d
          obtain ⟨as, bs, hc, hd, q⟩ := q1
          cases r
          cases r'
          obtain ⟨_, its1, n1, rv1, eo1⟩ := I1.hok c _ hc
          obtain ⟨_, its2, n2, rv2, eo2⟩ := I1.hok d _ hd
          refine call_zip_2 ⟨_, eo1, rfl, n1, rfl⟩ ⟨_, eo2, rfl, n2, rfl⟩ fun h' hz hTI hTO hi1 hi2 hsz hk => ?_
          refine wpAny_pyIter_zip hz ?_
          refine ⟨_, [s1.heap.objs.size + 4, s1.heap.objs.size + 2, s1.heap.objs.size + 3, s1.heap.objs.size, s1.heap.objs.size + 1], _, _, H1, rfl, I1.kept (t' := s1.toks) fun b o e => hk b o e, turn_zip c d _ _ _ _ _ (zipApart_new (Heap.lt_size eo1) (Heap.lt_size eo2)), ⟨hz, hTI, ⟨_, _, hTO⟩, hi1, hi2⟩, fun e he => ?_, q⟩
          have ee : e = s1.heap.objs.size + 4 ∨ e = s1.heap.objs.size + 2 ∨ e = s1.heap.objs.size + 3 ∨ e = s1.heap.objs.size ∨ e = s1.heap.objs.size + 1 := by simpa using he
          have le : s1.heap.objs.size ≤ e := by
            rcases ee with rfl | rfl | rfl | rfl | rfl
            · exact Nat.le_add_right _ _
            · exact Nat.le_add_right _ _
            · exact Nat.le_add_right _ _
            · exact Nat.le_refl _
            · exact Nat.le_add_right _ _
          exact I1.fpOk le (I1.hok.fresh le)
        · exact q1.elim
end
section
variable {nv : Nat} {ix : List Nat} {g : TG} {tt : TT} {te : TE} {tb : TS} {D : Ends} {σ : St} {H : Hp} {ta : TA} {Q : VK}
theorem tFor_zip : tFor (jZip ta) g tb D σ H = ta σ H fun vs H1 => match vs with
  | [x, y] => znR x y H1 fun J H2 => forR J g tb D σ H2
  | _ => False := by
  unfold tFor jZip
  rfl
theorem tComp_enum : tComp nv ix (jEnum ta) g tt te σ H Q = ta σ H fun vs H1 => match vs with
  | [x] => enR x H1 fun J H2 => compR J g tt te (compSt nv ix σ) H2 fun ys H' => ys.length ≤ sizeLine ∧ ∀ l, H' l = none → Q (.ref l) (upd H' l (.lst ys))
  | _ => False := by
  unfold tComp jEnum
  rfl
theorem tComp_zip : tComp nv ix (jZip ta) g tt te σ H Q = ta σ H fun vs H1 => match vs with
  | [x, y] => znR x y H1 fun J H2 => compR J g tt te (compSt nv ix σ) H2 fun ys H' => ys.length ≤ sizeLine ∧ ∀ l, H' l = none → Q (.ref l) (upd H' l (.lst ys))
  | _ => False := by
  unfold tComp jZip
  rfl
theorem compSt_two {ix : List Nat} {σ : St} : compSt 2 ix σ = none :: none :: ix.map fun i => (σ[i]?).join := rfl
theorem compSt_three {ix : List Nat} {σ : St} : compSt 3 ix σ = none :: none :: none :: ix.map fun i => (σ[i]?).join := rfl
end
section
variable {K : PySem.W.Frag} {g : TG} {tt : TT} {te : TE} {H : Hp} {σ : St} {Q : List V → Hp → Prop}
theorem co_any {J : It} {n : Nat} (Pv : Nat → List V → St → Hp → Prop) (h0 : Pv 0 [] σ H) (hz : n ≤ sizeLine) (hl : ∀ i ys σ H, Pv i ys σ H → ys.length ≤ i) (go : ∀ i ys σ H, i < n → Pv i ys σ H → J.go i H) (stop : ∀ ys σ H, Pv n ys σ H → J.stop n H)
    (step : ∀ i ys σ H x H'', i < n → Pv i ys σ H → J.yld i H x H'' → g x σ H'' fun σ2 H2 => tt σ2 H2 fun b H3 => if b = true then te σ2 H3 fun y H4 => Pv (i + 1) (ys ++ [y]) σ2 H4 else Pv (i + 1) ys σ2 H3) (q : ∀ ys σ H, Pv n ys σ H → Q ys H) : compR J g tt te σ H Q := by
  refine ⟨fun i m ys σ' H' => i ≤ n ∧ m = n - i ∧ Pv i ys σ' H', ⟨n, Nat.zero_le _, rfl, h0⟩, ?_⟩
  rintro i m ys σ' H' ⟨hi, rfl, hp⟩
  by_cases e : i = n
  · subst e
    exact .inl ⟨stop _ _ _ hp, q _ _ _ hp⟩
  · have hlt : i < n := by omega
    refine .inr ⟨go i _ _ _ hlt hp, by have := hl _ _ _ _ hp; omega, fun ys' σ'' H'' => Pv (i + 1) ys' σ'' H'', fun ys' σ'' H'' p' => ⟨n - (i + 1), by omega, by omega, rfl, p'⟩, fun x H'' y => step i ys σ' H' x H'' hlt hp y⟩
/-- over a range; the block may make things -/
theorem co_rngH {lo : Int} {n : Nat} (Pv : Nat → List V → St → Hp → Prop) (h0 : Pv 0 [] σ H) (hz : n ≤ sizeLine) (hl : ∀ i ys σ H, Pv i ys σ H → ys.length ≤ i)
    (step : ∀ (i : Nat) ys σ H, i < n → Pv i ys σ H → g (.int (lo + i)) σ H fun σ2 H2 => tt σ2 H2 fun b H3 => if b = true then te σ2 H3 fun y H4 => Pv (i + 1) (ys ++ [y]) σ2 H4 else Pv (i + 1) ys σ2 H3) (q : ∀ ys σ H, Pv n ys σ H → Q ys H) : compR (Itr lo n) g tt te σ H Q := by
  refine co_any Pv h0 hz hl (fun i _ _ _ hi _ => hi) (fun _ _ _ _ => Nat.le_refl _) (fun i ys σ H x H'' hi hp y => ?_) q
  obtain ⟨e, rfl⟩ := y
  subst e
  exact step i ys σ _ hi hp
/-- over a list that stays -/
theorem co_listH {a : Addr} {xs : List V} (hS : SqL K H a xs) (hz : xs.length ≤ sizeLine) (Pv : Nat → List V → St → Hp → Prop) (h0 : Pv 0 [] σ H) (hl : ∀ i ys σ H, Pv i ys σ H → ys.length ≤ i) (hk : ∀ i ys σ H, Pv i ys σ H → SqL K H a xs)
    (step : ∀ (i : Nat) x ys σ H, xs[i]? = some x → Pv i ys σ H → g x σ H fun σ2 H2 => tt σ2 H2 fun b H3 => if b = true then te σ2 H3 fun y H4 => Pv (i + 1) (ys ++ [y]) σ2 H4 else Pv (i + 1) ys σ2 H3) (q : ∀ ys σ H, Pv xs.length ys σ H → Q ys H) : seqR K (.ref a) H fun J H2 => compR J g tt te σ H2 Q := by
  refine .inl ⟨xs, hS, co_any (n := xs.length) Pv h0 hz hl (fun i ys σ H hi hp => ⟨xs, xs[i], hk _ _ _ _ hp, by simp [hi]⟩) (fun ys σ H hp => ⟨xs, hk _ _ _ _ hp, Nat.le_refl _⟩) (fun i ys σ H x H'' hi hp y => ?_) q⟩
  obtain ⟨e, hx⟩ := y
  subst e
  exact step i x ys σ _ (hx xs (hk _ _ _ _ hp)) hp
/-- over enumerate(list), the list stays -/
theorem co_enumH {a : Addr} {xs : List V} (hS : H a = some (.lst xs)) (hz : xs.length ≤ sizeLine) (Pv : Nat → List V → St → Hp → Prop) (h0 : Pv 0 [] σ H) (hl : ∀ i ys σ H, Pv i ys σ H → ys.length ≤ i) (hk : ∀ i ys σ H, Pv i ys σ H → H a = some (.lst xs))
    (step : ∀ (i : Nat) x p ys σ H, xs[i]? = some x → Pv i ys σ H → H p = none → g (.ref p) σ (upd H p (.tup [.int i, x])) fun σ2 H2 => tt σ2 H2 fun b H3 => if b = true then te σ2 H3 fun y H4 => Pv (i + 1) (ys ++ [y]) σ2 H4 else Pv (i + 1) ys σ2 H3) (q : ∀ ys σ H, Pv xs.length ys σ H → Q ys H) : enR (.ref a) H fun J H2 => compR J g tt te σ H2 Q := by
  refine ⟨xs, hS, co_any (n := xs.length) Pv h0 hz hl (fun i ys σ H hi hp => ⟨xs, _, hk _ _ _ _ hp, List.getElem?_eq_getElem hi⟩) (fun ys σ H hp => ⟨xs, hk _ _ _ _ hp, Nat.le_refl _⟩) (fun i ys σ H x H'' hi hp y => ?_) q⟩
  obtain ⟨p, x', hx, hq, rfl, rfl⟩ := y
  exact step i x' p ys σ H (hx xs (hk _ _ _ _ hp)) hp hq
theorem co_zipH {a b : Addr} {xs zs : List V} (hS : H a = some (.lst xs)) (hS' : H b = some (.lst zs)) (hn : zs.length = xs.length) (hz : xs.length ≤ sizeLine) (Pv : Nat → List V → St → Hp → Prop) (h0 : Pv 0 [] σ H) (hl : ∀ i ys σ H, Pv i ys σ H → ys.length ≤ i) (hk : ∀ i ys σ H, Pv i ys σ H → H a = some (.lst xs) ∧ H b = some (.lst zs))
    (step : ∀ (i : Nat) x z p ys σ H, xs[i]? = some x → zs[i]? = some z → Pv i ys σ H → H p = none → g (.ref p) σ (upd H p (.tup [x, z])) fun σ2 H2 => tt σ2 H2 fun b H3 => if b = true then te σ2 H3 fun y H4 => Pv (i + 1) (ys ++ [y]) σ2 H4 else Pv (i + 1) ys σ2 H3) (q : ∀ ys σ H, Pv xs.length ys σ H → Q ys H) : znR (.ref a) (.ref b) H fun J H2 => compR J g tt te σ H2 Q := by
  refine ⟨xs, zs, hS, hS', co_any (n := xs.length) Pv h0 hz hl (fun i ys σ H hi hp => ?_) (fun ys σ H hp => ⟨xs, zs, (hk _ _ _ _ hp).1, (hk _ _ _ _ hp).2, .inl (Nat.le_refl _)⟩) (fun i ys σ H x H'' hi hp y => ?_) q⟩
  · exact ⟨xs, zs, _, _, (hk _ _ _ _ hp).1, (hk _ _ _ _ hp).2, List.getElem?_eq_getElem hi, List.getElem?_eq_getElem (by omega)⟩
  · obtain ⟨p, x', z', hx, hz', hq, rfl, rfl⟩ := y
    exact step i x' z' p ys σ H (hx xs (hk _ _ _ _ hp).1) (hz' zs (hk _ _ _ _ hp).2) hp hq
end
noncomputable def rInsert : V → List V → Hp → VK → Prop := fun x vs H Q => ∃ l xs i y, x = .ref l ∧ vs = [.int i, y] ∧ H l = some (.lst xs) ∧ 0 ≤ i ∧ i < 2 ^ 63 ∧ xs.length < sizeLine ∧ Q .non (upd H l (.lst (xs.take i.toNat ++ y :: xs.drop i.toNat)))
theorem mt_insert {X : Cx} : MtM X "list.insert" rInsert := by
  intro pins s σ H x vs v us Q I rx rv h
  obtain ⟨l, xs, i, y, rfl, rfl, hH, h1, h2, hz, q⟩ := h
  cases rx
  cases rv with
  | cons r rr =>
    cases rr with
    | @cons _ u _ _ ru rn =>
    cases rn
    obtain ⟨t, rfl⟩ := r
    obtain ⟨z, its, n, r, hl, e⟩ := I.lstM hH
    refine call_meets F.slot_list_insert ⟨_, e, rfl⟩ F.entry_list_insert (F.args_list_insert_3 _ _ _) (AutoSeq1.list_insert_list_int_val_1 l its.toArray n i t u (by rw [fitsIndex_both (by omega) h2]; decide) (by rw [List.size_toArray]; omega)) ⟨e, ?_⟩
    refine ⟨.non, _, I.lset (its' := its.take i.toNat ++ u :: its.drop i.toNat) hH e ?_ ?_ ?_, rfl, q⟩
    · have hk : ¬ i < 0 := by omega
      simp only [if_neg hk, List.size_toArray]
      by_cases c : i.toNat ≤ its.length
      · rw [Nat.min_eq_left c]
        apply Array.ext'
        simp
        exact List.take_of_length_le (by rw [List.length_drop]; omega)
      · rw [Nat.min_eq_right (by omega)]
        apply Array.ext'
        have e1 : its.take i.toNat = its := List.take_of_length_le (by omega)
        have e2 : its.drop i.toNat = [] := List.drop_eq_nil_of_le (by omega)
        simp [e1, e2]
    · exact (r.take _).append (.cons ru (r.drop _))
    · rw [List.length_append, List.length_take, List.length_cons, List.length_drop]
      omega
end L2


namespace FairM
/-- is the k-th one whole, round and round -/
noncomputable def W (ws : List Bool) (k : Nat) : Bool := ws.getD (k % ws.length) false
noncomputable def idx (ws : List Bool) : List Nat := (List.range ws.length).filter fun k => ws.getD k false
noncomputable def ltr (ws : List Bool) : List Nat := (idx ws).tail ++ [(idx ws).headD 0 + ws.length]
noncomputable def gaps (ws : List Bool) : List Int := List.zipWith (fun a b : Nat => (b : Int) - (a : Int)) (idx ws) (ltr ws)
noncomputable def noneW (ws : List Bool) (s n : Nat) : Bool := (List.range n).all fun j => !W ws (s + j)
theorem idx_mem {ws : List Bool} {k : Nat} : k ∈ idx ws ↔ k < ws.length ∧ ws.getD k false = true := by
  unfold idx
  rw [List.mem_filter, List.mem_range]
theorem idx_lt {ws : List Bool} {i j : Nat} {a b : Nat} (hi : (idx ws)[i]? = some a) (hj : (idx ws)[j]? = some b) (h : i < j) : a < b := by
  have hp : (idx ws).Pairwise (· < ·) := (List.pairwise_lt_range (n := ws.length)).filter _
  obtain ⟨h1, rfl⟩ := List.getElem?_eq_some_iff.mp hi
  obtain ⟨h2, rfl⟩ := List.getElem?_eq_some_iff.mp hj
  exact List.pairwise_iff_getElem.mp hp i j h1 h2 h
theorem ltr_len {ws : List Bool} (h : idx ws ≠ []) : (ltr ws).length = (idx ws).length := by
  unfold ltr
  rw [List.length_append, List.length_tail, List.length_singleton]
  have := List.length_pos_iff.mpr h
  omega
theorem ltr_in {ws : List Bool} {j : Nat} (h : j + 1 < (idx ws).length) : (ltr ws)[j]? = (idx ws)[j + 1]? := by
  unfold ltr
  rw [List.getElem?_append_left (by rw [List.length_tail]; omega), List.getElem?_tail]
theorem ltr_last {ws : List Bool} {j : Nat} (h : j + 1 = (idx ws).length) : (ltr ws)[j]? = some ((idx ws).headD 0 + ws.length) := by
  unfold ltr
  rw [List.getElem?_append_right (by rw [List.length_tail]; omega), List.length_tail]
  have : j - ((idx ws).length - 1) = 0 := by omega
  rw [this]
  rfl
theorem head_get {ws : List Bool} (h : idx ws ≠ []) : (idx ws)[0]? = some ((idx ws).headD 0) := by
  cases e : idx ws with
  | nil => exact absurd e h
  | cons a l => rfl
theorem W_idx {ws : List Bool} {i a : Nat} (h : (idx ws)[i]? = some a) : a < ws.length ∧ W ws a = true ∧ W ws (a + ws.length) = true := by
  obtain ⟨h1, h2⟩ := idx_mem.mp (List.mem_of_getElem? h)
  unfold W
  rw [Nat.add_mod_right, Nat.mod_eq_of_lt h1]
  exact ⟨h1, h2, h2⟩
/-- the j-th one and the next one behind it -/
structure Nx (ws : List Bool) (j a b : Nat) : Prop where
  ha : (idx ws)[j]? = some a
  hb : (ltr ws)[j]? = some b
theorem Nx.lt {ws : List Bool} {j a b : Nat} (h : Nx ws j a b) : a < b ∧ b ≤ a + ws.length ∧ W ws b = true := by
  have hne : idx ws ≠ [] := fun e => by have := h.ha; rw [e] at this; cases this
  obtain ⟨hj, _⟩ := List.getElem?_eq_some_iff.mp h.ha
  obtain ⟨a1, a2, a3⟩ := W_idx h.ha
  by_cases c : j + 1 < (idx ws).length
  · have hb := h.hb
    rw [ltr_in c] at hb
    obtain ⟨b1, b2, _⟩ := W_idx hb
    have := idx_lt h.ha hb (Nat.lt_succ_self _)
    exact ⟨this, by omega, b2⟩
  · have hb := h.hb
    rw [ltr_last (by omega)] at hb
    injection hb with hb
    have h0 := head_get hne
    obtain ⟨b1, b2, b3⟩ := W_idx h0
    have h3 : (idx ws).headD 0 ≤ a := by
      by_cases c0 : j = 0
      · subst c0
        have h5 := h.ha
        rw [h0] at h5
        injection h5 with h5
        omega
      · exact Nat.le_of_lt (idx_lt h0 h.ha (by omega))
    rw [← hb]
    exact ⟨by omega, by omega, b3⟩
/-- none between -/
theorem Nx.none {ws : List Bool} {j a b k : Nat} (h : Nx ws j a b) (h1 : a < k) (h2 : k < b) : W ws k = false := by
  have hne : idx ws ≠ [] := fun e => by have := h.ha; rw [e] at this; cases this
  obtain ⟨hj, _⟩ := List.getElem?_eq_some_iff.mp h.ha
  obtain ⟨a1, a2, a3⟩ := W_idx h.ha
  cases e : W ws k with
  | false => rfl
  | true =>
    exfalso
    have hn : 0 < ws.length := by omega
    have hk : k % ws.length ∈ idx ws := idx_mem.mpr ⟨Nat.mod_lt _ hn, e⟩
    obtain ⟨t, ht, et⟩ := List.mem_iff_getElem.mp hk
    have gt : (idx ws)[t]? = some (k % ws.length) := by rw [List.getElem?_eq_getElem ht, et]
    obtain ⟨_, le, _⟩ := h.lt
    by_cases ck : k < ws.length
    · rw [Nat.mod_eq_of_lt ck] at gt
      have jt : j < t := by
        rcases Nat.lt_trichotomy j t with q | q | q
        · exact q
        · subst q; rw [h.ha] at gt; injection gt with gt; omega
        · have := idx_lt gt h.ha q; omega
      have hb := h.hb
      rw [ltr_in (by omega)] at hb
      by_cases q : j + 1 = t
      · rw [q, gt] at hb; injection hb with hb; omega
      · have := idx_lt hb gt (by omega); omega
    · have lst : j + 1 = (idx ws).length := by
        by_cases q : j + 1 < (idx ws).length
        · have hb := h.hb
          rw [ltr_in q] at hb
          have := (W_idx hb).1
          omega
        · omega
      have hb := h.hb
      rw [ltr_last lst] at hb
      injection hb with hb
      have h0 := head_get hne
      have b1 := (W_idx h0).1
      have em : k % ws.length = k - ws.length := by
        rw [Nat.mod_eq_sub_mod (by omega), Nat.mod_eq_of_lt (by omega)]
      rw [em] at gt
      by_cases q : t = 0
      · subst q; rw [h0] at gt; injection gt with gt; omega
      · have := idx_lt h0 gt (by omega); omega
theorem gaps_mem {ws : List Bool} {g : Int} (h : g ∈ gaps ws) : ∃ j a b, Nx ws j a b ∧ g = (b : Int) - (a : Int) := by
  unfold gaps at h
  obtain ⟨j, hj, e⟩ := List.mem_iff_getElem.mp h
  rw [List.length_zipWith] at hj
  refine ⟨j, (idx ws)[j]'(by omega), (ltr ws)[j]'(by omega), ⟨List.getElem?_eq_getElem _, List.getElem?_eq_getElem _⟩, ?_⟩
  rw [← e, List.getElem_zipWith]
theorem mem_gaps {ws : List Bool} {j a b : Nat} (h : Nx ws j a b) : (b : Int) - (a : Int) ∈ gaps ws := by
  unfold gaps
  obtain ⟨h1, e1⟩ := List.getElem?_eq_some_iff.mp h.ha
  obtain ⟨h2, e2⟩ := List.getElem?_eq_some_iff.mp h.hb
  refine List.mem_iff_getElem.mpr ⟨j, by rw [List.length_zipWith]; omega, ?_⟩
  rw [List.getElem_zipWith, e1, e2]
theorem nx_of {ws : List Bool} {j : Nat} (h : j < (idx ws).length) : ∃ a b, Nx ws j a b := by
  have hne : idx ws ≠ [] := fun e => by rw [e] at h; simp at h
  exact ⟨_, _, List.getElem?_eq_getElem h, List.getElem?_eq_getElem (by rw [ltr_len hne]; exact h)⟩
theorem none_f {ws : List Bool} {s n k : Nat} (h1 : s ≤ k) (h2 : k < s + n) (h : W ws k = true) : noneW ws s n = false := by
  cases e : noneW ws s n with
  | false => rfl
  | true =>
    unfold noneW at e
    have := List.all_eq_true.mp e (k - s) (List.mem_range.mpr (by omega))
    rw [show s + (k - s) = k by omega, h] at this
    cases this
theorem none_t {ws : List Bool} {s n : Nat} (h : ∀ k, s ≤ k → k < s + n → W ws k = false) : noneW ws s n = true := by
  unfold noneW
  refine List.all_eq_true.mpr fun j hj => ?_
  rw [h (s + j) (by omega) (by have := List.mem_range.mp hj; omega)]
  rfl
theorem idx_nil {ws : List Bool} : idx ws = [] ↔ noneW ws 0 ws.length = true := by
  constructor
  · intro h
    refine none_t fun k _ hk => ?_
    have hk' : k < ws.length := by omega
    cases e : W ws k with
    | false => rfl
    | true =>
      unfold W at e
      rw [Nat.mod_eq_of_lt hk'] at e
      have := idx_mem.mpr ⟨hk', e⟩
      rw [h] at this
      cases this
  · intro h
    cases e : idx ws with
    | nil => rfl
    | cons a l =>
      have := W_idx (i := 0) (a := a) (by rw [e]; rfl)
      rw [none_f (Nat.zero_le _) (by omega) this.2.1] at h
      cases h
theorem fair_ok {ws : List Bool} {M : Int} (hm : M ∈ gaps ws) (hle : ∀ a ∈ gaps ws, a ≤ M) : 1 ≤ M ∧ M ≤ ws.length ∧ (∀ s, s < ws.length → noneW ws s M.toNat = false) ∧ ∃ s, s < ws.length ∧ noneW ws s (M - 1).toNat = true := by
  obtain ⟨j, a, b, hx, rfl⟩ := gaps_mem hm
  obtain ⟨l1, l2, l3⟩ := hx.lt
  obtain ⟨hj, _⟩ := List.getElem?_eq_some_iff.mp hx.ha
  have hne : idx ws ≠ [] := fun e => by rw [e] at hj; simp at hj
  have h0 := head_get hne
  have a1 := (W_idx hx.ha).1
  obtain ⟨z1, z2, _⟩ := W_idx h0
  refine ⟨by omega, by omega, fun s hs => ?_, ?_⟩
  · by_cases c : s ≤ (idx ws).headD 0
    · obtain ⟨a', b', hy⟩ := nx_of (ws := ws) (j := (idx ws).length - 1) (by omega)
      have hb := hy.hb
      rw [ltr_last (by omega)] at hb
      injection hb with hb
      have := hle _ (mem_gaps hy)
      have := (W_idx hy.ha).1
      exact none_f c (by omega) z2
    · obtain ⟨t, a', b', hy, q1, q2⟩ : ∃ t a' b', Nx ws t a' b' ∧ a' < s ∧ s ≤ b' := by
        refine Classical.byContradiction fun hno => ?_
        have all : ∀ t : Nat, ∃ a' : Nat, (idx ws)[t]? = some a' ∧ a' < s := by
          intro t
          induction t with
          | zero => exact ⟨_, h0, by omega⟩
          | succ t ih =>
            obtain ⟨a', e1, e2⟩ := ih
            obtain ⟨ht, _⟩ := List.getElem?_eq_some_iff.mp e1
            obtain ⟨a'', b'', hy⟩ := nx_of ht
            have ea : a'' = a' := by have := hy.ha; rw [e1] at this; injection this with this; exact this.symm
            subst ea
            have nb : ¬ s ≤ b'' := fun q => hno ⟨t, a'', b'', hy, e2, q⟩
            by_cases c2 : t + 1 < (idx ws).length
            · have hb := hy.hb
              rw [ltr_in c2] at hb
              exact ⟨b'', hb, by omega⟩
            · have hb := hy.hb
              rw [ltr_last (by omega)] at hb
              injection hb with hb
              omega
        obtain ⟨a', e1, _⟩ := all (idx ws).length
        obtain ⟨ht, _⟩ := List.getElem?_eq_some_iff.mp e1
        omega
      have := hle _ (mem_gaps hy)
      exact none_f q2 (by omega) hy.lt.2.2
  · have hn : 0 < ws.length := by omega
    refine ⟨(a + 1) % ws.length, Nat.mod_lt _ hn, none_t fun k k1 k2 => ?_⟩
    obtain ⟨d, rfl⟩ : ∃ d, k = (a + 1) % ws.length + d := ⟨k - (a + 1) % ws.length, by omega⟩
    have e : W ws ((a + 1) % ws.length + d) = W ws (a + 1 + d) := by
      unfold W
      rw [Nat.mod_add_mod]
    rw [e]
    exact hx.none (by omega) (by omega)
end FairM


namespace WaysM
structure St (n : Nat) (P S D a A b B : Int) : Prop where
  p : P = 4 ^ n
  s0 : 0 ≤ S
  s1 : S ≤ 1000000 * P
  d0 : 0 ≤ D
  d1 : D ≤ 2000000 * P
  sa : a * P = S * A
  db : b * (2 * P) = D * B
  a0 : 0 ≤ a
  b0 : 0 ≤ b
  pa : ∃ i, A = 2 ^ i
  pb : ∃ j, B = 2 ^ j
  oa : ¬ (a % 2 = 0 ∧ A % 2 = 0)
  ob : ¬ (b % 2 = 0 ∧ B % 2 = 0)
end WaysM


namespace WaysM
end WaysM


set_option maxRecDepth 100000
set_option maxHeartbeats 4000000
namespace K22
open PySem L2 Com FairM
noncomputable def tHold (u : TS) : TS := u
theorem pss_hold {X : Cx} {l : List Stmt} {u : TS} (h : PSs X l u) : PSs X l (tHold u) := h
noncomputable def top (i : Nat) : Stmt := PySem.Challenge.pw_slowroad_k22_fairness.main.body.getD i (.Pass ⟨0, 0, 0, 0⟩)
theorem len_1 {α : Type} {us : List α} (h : us.length = 1) : ∃ a0, us = [a0] := List.length_eq_one_iff.mp h
theorem len_2 {α : Type} {us : List α} (h : us.length = 2) : ∃ a0 a1, us = [a0, a1] := by
  obtain ⟨a, t, rfl⟩ := List.exists_cons_of_length_eq_add_one h
  obtain ⟨b0, rfl⟩ := len_1 (Nat.succ.inj h)
  exact ⟨a, b0, rfl⟩
theorem len_3 {α : Type} {us : List α} (h : us.length = 3) : ∃ a0 a1 a2, us = [a0, a1, a2] := by
  obtain ⟨a, t, rfl⟩ := List.exists_cons_of_length_eq_add_one h
  obtain ⟨b0, b1, rfl⟩ := len_2 (Nat.succ.inj h)
  exact ⟨a, b0, b1, rfl⟩
noncomputable abbrev s_has_whole_copy : Stmt := top 1
theorem sc_has_whole_copy : FnScope ["deed"] ["deed"] (defScope s_has_whole_copy) := ⟨rfl, rfl, rfl, by decide +kernel, rfl, by decide +kernel, by decide +kernel⟩
theorem bd_has_whole_copy : ∀ (kV doc pm : Value) (an : Option Addr) (cdv ct : Value) (us : List Value), us.length = (["deed"] : List Str).length → bindArgs (PySem.W.fnOf "has_whole_copy" "has_whole_copy" (defArgs s_has_whole_copy) (defBody s_has_whole_copy) (defScope s_has_whole_copy) .none kV doc pm an cdv ct) ⟨us, []⟩ = pure ((["deed"] : List Str).zip us) := by
  intro _ _ _ _ _ _ us hl; obtain ⟨_, rfl⟩ := len_1 hl; rfl
noncomputable abbrev s_fairness : Stmt := top 2
theorem sc_fairness : FnScope ["deeds", "whole", "later"] ["deeds"] (defScope s_fairness) := ⟨rfl, rfl, rfl, by decide +kernel, rfl, by decide +kernel, by decide +kernel⟩
theorem bd_fairness : ∀ (kV doc pm : Value) (an : Option Addr) (cdv ct : Value) (us : List Value), us.length = (["deeds"] : List Str).length → bindArgs (PySem.W.fnOf "fairness" "fairness" (defArgs s_fairness) (defBody s_fairness) (defScope s_fairness) .none kV doc pm an cdv ct) ⟨us, []⟩ = pure ((["deeds"] : List Str).zip us) := by
  intro _ _ _ _ _ _ us hl; obtain ⟨_, rfl⟩ := len_1 hl; rfl
noncomputable abbrev s__law_whole : Stmt := top 4
theorem sc__law_whole : FnScope ["_law_found"] ["_law_found"] (defScope s__law_whole) := ⟨rfl, rfl, rfl, by decide +kernel, rfl, by decide +kernel, by decide +kernel⟩
theorem bd__law_whole : ∀ (kV doc pm : Value) (an : Option Addr) (cdv ct : Value) (us : List Value), us.length = (["_law_found"] : List Str).length → bindArgs (PySem.W.fnOf "_law_whole" "_law_whole" (defArgs s__law_whole) (defBody s__law_whole) (defScope s__law_whole) .none kV doc pm an cdv ct) ⟨us, []⟩ = pure ((["_law_found"] : List Str).zip us) := by
  intro _ _ _ _ _ _ us hl; obtain ⟨_, rfl⟩ := len_1 hl; rfl
noncomputable abbrev s__law_cell_at : Stmt := top 5
theorem sc__law_cell_at : FnScope ["_law_script", "_law_k"] ["_law_script", "_law_k"] (defScope s__law_cell_at) := ⟨rfl, rfl, rfl, by decide +kernel, rfl, by decide +kernel, by decide +kernel⟩
theorem bd__law_cell_at : ∀ (kV doc pm : Value) (an : Option Addr) (cdv ct : Value) (us : List Value), us.length = (["_law_script", "_law_k"] : List Str).length → bindArgs (PySem.W.fnOf "_law_cell_at" "_law_cell_at" (defArgs s__law_cell_at) (defBody s__law_cell_at) (defScope s__law_cell_at) .none kV doc pm an cdv ct) ⟨us, []⟩ = pure ((["_law_script", "_law_k"] : List Str).zip us) := by
  intro _ _ _ _ _ _ us hl; obtain ⟨_, _, rfl⟩ := len_2 hl; rfl
noncomputable abbrev s__law_mixed : Stmt := top 6
theorem sc__law_mixed : FnScope ["_law_cell", "_law_k", "_law_number", "_law_turn"] ["_law_cell", "_law_k"] (defScope s__law_mixed) := ⟨rfl, rfl, rfl, by decide +kernel, rfl, by decide +kernel, by decide +kernel⟩
theorem bd__law_mixed : ∀ (kV doc pm : Value) (an : Option Addr) (cdv ct : Value) (us : List Value), us.length = (["_law_cell", "_law_k"] : List Str).length → bindArgs (PySem.W.fnOf "_law_mixed" "_law_mixed" (defArgs s__law_mixed) (defBody s__law_mixed) (defScope s__law_mixed) .none kV doc pm an cdv ct) ⟨us, []⟩ = pure ((["_law_cell", "_law_k"] : List Str).zip us) := by
  intro _ _ _ _ _ _ us hl; obtain ⟨_, _, rfl⟩ := len_2 hl; rfl
noncomputable abbrev s__law_copy : Stmt := top 7
theorem sc__law_copy : FnScope ["_law_number", "_law_run"] ["_law_number", "_law_run"] (defScope s__law_copy) := ⟨rfl, rfl, rfl, by decide +kernel, rfl, by decide +kernel, by decide +kernel⟩
theorem bd__law_copy : ∀ (kV doc pm : Value) (an : Option Addr) (cdv ct : Value) (us : List Value), us.length = (["_law_number", "_law_run"] : List Str).length → bindArgs (PySem.W.fnOf "_law_copy" "_law_copy" (defArgs s__law_copy) (defBody s__law_copy) (defScope s__law_copy) .none kV doc pm an cdv ct) ⟨us, []⟩ = pure ((["_law_number", "_law_run"] : List Str).zip us) := by
  intro _ _ _ _ _ _ us hl; obtain ⟨_, _, rfl⟩ := len_2 hl; rfl
noncomputable abbrev s__law_deed : Stmt := top 8
theorem sc__law_deed : FnScope ["_law_cell", "_law_k", "_law_is_whole_here", "_law_number", "_law_deed_here", "_law_at", "_law_part", "_law_run"] ["_law_cell", "_law_k", "_law_is_whole_here"] (defScope s__law_deed) := ⟨rfl, rfl, rfl, by decide +kernel, rfl, by decide +kernel, by decide +kernel⟩
theorem bd__law_deed : ∀ (kV doc pm : Value) (an : Option Addr) (cdv ct : Value) (us : List Value), us.length = (["_law_cell", "_law_k", "_law_is_whole_here"] : List Str).length → bindArgs (PySem.W.fnOf "_law_deed" "_law_deed" (defArgs s__law_deed) (defBody s__law_deed) (defScope s__law_deed) .none kV doc pm an cdv ct) ⟨us, []⟩ = pure ((["_law_cell", "_law_k", "_law_is_whole_here"] : List Str).zip us) := by
  intro _ _ _ _ _ _ us hl; obtain ⟨_, _, _, rfl⟩ := len_3 hl; rfl
noncomputable abbrev s__law_is_whole : Stmt := top 9
theorem sc__law_is_whole : FnScope ["_law_cell", "_law_k", "_law_many", "_law_way"] ["_law_cell", "_law_k", "_law_many"] (defScope s__law_is_whole) := ⟨rfl, rfl, rfl, by decide +kernel, rfl, by decide +kernel, by decide +kernel⟩
theorem bd__law_is_whole : ∀ (kV doc pm : Value) (an : Option Addr) (cdv ct : Value) (us : List Value), us.length = (["_law_cell", "_law_k", "_law_many"] : List Str).length → bindArgs (PySem.W.fnOf "_law_is_whole" "_law_is_whole" (defArgs s__law_is_whole) (defBody s__law_is_whole) (defScope s__law_is_whole) .none kV doc pm an cdv ct) ⟨us, []⟩ = pure ((["_law_cell", "_law_k", "_law_many"] : List Str).zip us) := by
  intro _ _ _ _ _ _ us hl; obtain ⟨_, _, _, rfl⟩ := len_3 hl; rfl
noncomputable abbrev s__law_none_whole : Stmt := top 10
theorem sc__law_none_whole : FnScope ["_law_deeds", "_law_start", "_law_many", "_law_k"] ["_law_deeds", "_law_start", "_law_many"] (defScope s__law_none_whole) := ⟨rfl, rfl, rfl, by decide +kernel, rfl, by decide +kernel, by decide +kernel⟩
theorem bd__law_none_whole : ∀ (kV doc pm : Value) (an : Option Addr) (cdv ct : Value) (us : List Value), us.length = (["_law_deeds", "_law_start", "_law_many"] : List Str).length → bindArgs (PySem.W.fnOf "_law_none_whole" "_law_none_whole" (defArgs s__law_none_whole) (defBody s__law_none_whole) (defScope s__law_none_whole) .none kV doc pm an cdv ct) ⟨us, []⟩ = pure ((["_law_deeds", "_law_start", "_law_many"] : List Str).zip us) := by
  intro _ _ _ _ _ _ us hl; obtain ⟨_, _, _, rfl⟩ := len_3 hl; rfl
noncomputable abbrev s__law_right : Stmt := top 11
theorem sc__law_right : FnScope ["_law_found", "_law_deeds"] ["_law_found", "_law_deeds"] (defScope s__law_right) := ⟨rfl, rfl, rfl, by decide +kernel, rfl, by decide +kernel, by decide +kernel⟩
theorem bd__law_right : ∀ (kV doc pm : Value) (an : Option Addr) (cdv ct : Value) (us : List Value), us.length = (["_law_found", "_law_deeds"] : List Str).length → bindArgs (PySem.W.fnOf "_law_right" "_law_right" (defArgs s__law_right) (defBody s__law_right) (defScope s__law_right) .none kV doc pm an cdv ct) ⟨us, []⟩ = pure ((["_law_found", "_law_deeds"] : List Str).zip us) := by
  intro _ _ _ _ _ _ us hl; obtain ⟨_, _, rfl⟩ := len_2 hl; rfl
noncomputable abbrev s__law_row : Stmt := top 12
theorem sc__law_row : FnScope ["_law_many", "_law_cell", "_law_other"] ["_law_many", "_law_cell", "_law_other"] (defScope s__law_row) := ⟨rfl, rfl, rfl, by decide +kernel, rfl, by decide +kernel, by decide +kernel⟩
theorem bd__law_row : ∀ (kV doc pm : Value) (an : Option Addr) (cdv ct : Value) (us : List Value), us.length = (["_law_many", "_law_cell", "_law_other"] : List Str).length → bindArgs (PySem.W.fnOf "_law_row" "_law_row" (defArgs s__law_row) (defBody s__law_row) (defScope s__law_row) .none kV doc pm an cdv ct) ⟨us, []⟩ = pure ((["_law_many", "_law_cell", "_law_other"] : List Str).zip us) := by
  intro _ _ _ _ _ _ us hl; obtain ⟨_, _, _, rfl⟩ := len_3 hl; rfl
noncomputable abbrev s_law : Stmt := top 13
theorem sc_law : FnScope ["_law_script", "_law_deeds", "_law_others", "_law_handed", "_law_found"] ["_law_script"] (defScope s_law) := ⟨rfl, rfl, rfl, by decide +kernel, rfl, by decide +kernel, by decide +kernel⟩
theorem bd_law : ∀ (kV doc pm : Value) (an : Option Addr) (cdv ct : Value) (us : List Value), us.length = (["_law_script"] : List Str).length → bindArgs (PySem.W.fnOf "law" "law" (defArgs s_law) (defBody s_law) (defScope s_law) .none kV doc pm an cdv ct) ⟨us, []⟩ = pure ((["_law_script"] : List Str).zip us) := by
  intro _ _ _ _ _ _ us hl; obtain ⟨_, rfl⟩ := len_1 hl; rfl
structure Txt (K : PySem.W.Frag) (mg : Str → Option Value) : Prop where
  d_has_whole_copy : DefAt K mg "has_whole_copy" s_has_whole_copy
  d_fairness : DefAt K mg "fairness" s_fairness
  d__law_whole : DefAt K mg "_law_whole" s__law_whole
  d__law_cell_at : DefAt K mg "_law_cell_at" s__law_cell_at
  d__law_mixed : DefAt K mg "_law_mixed" s__law_mixed
  d__law_copy : DefAt K mg "_law_copy" s__law_copy
  d__law_deed : DefAt K mg "_law_deed" s__law_deed
  d__law_is_whole : DefAt K mg "_law_is_whole" s__law_is_whole
  d__law_none_whole : DefAt K mg "_law_none_whole" s__law_none_whole
  d__law_right : DefAt K mg "_law_right" s__law_right
  d__law_row : DefAt K mg "_law_row" s__law_row
  d_law : DefAt K mg "law" s_law
  b_any : mg "any" = none
  b_bool : mg "bool" = none
  b_enumerate : mg "enumerate" = none
  b_int : mg "int" = none
  b_isinstance : mg "isinstance" = none
  b_len : mg "len" = none
  b_list : mg "list" = none
  b_max : mg "max" = none
  b_range : mg "range" = none
  b_zip : mg "zip" = none
noncomputable abbrev Cp := Int × Int × Int
noncomputable def CpAt (H : Hp) (v : V) (c : Cp) : Prop := ∃ t, v = .ref t ∧ H t = some (.tup [.int c.1, .int c.2.1, .int c.2.2])
noncomputable def DdAt (H : Hp) (v : V) (d : List Cp) : Prop := ∃ l xs, v = .ref l ∧ H l = some (.lst xs) ∧ Paired (CpAt H) xs d
noncomputable def RwAt (H : Hp) (l : Addr) (ds : List (List Cp)) : Prop := ∃ ys, H l = some (.lst ys) ∧ Paired (DdAt H) ys ds
theorem CpAt.same {H H' : Hp} (e : Same H H') {v : V} {c : Cp} (h : CpAt H v c) : CpAt H' v c := by
  obtain ⟨t, h1, h2⟩ := h
  exact ⟨t, h1, e _ _ h2⟩
theorem DdAt.same {H H' : Hp} (e : Same H H') {v : V} {c : List Cp} (h : DdAt H v c) : DdAt H' v c := by
  obtain ⟨l, xs, h1, h2, h3⟩ := h
  exact ⟨l, xs, h1, e _ _ h2, L2.Paired.imp' (fun _ _ q => q.same e) h3⟩
theorem RwAt.same {H H' : Hp} (e : Same H H') {l : Addr} {ds : List (List Cp)} (h : RwAt H l ds) : RwAt H' l ds := by
  obtain ⟨ys, h2, h3⟩ := h
  exact ⟨ys, e _ _ h2, L2.Paired.imp' (fun _ _ q => q.same e) h3⟩
theorem free_of {H H' : Hp} (e : Same H H') {p : Addr} (h : H' p = none) : H p = none := by
  cases q : H p with
  | none => rfl
  | some o => rw [e _ _ q] at h; cases h
theorem CpAt.put {H : Hp} {p p1 : Addr} {xs ys : List V} {o : HO} (hl : H p = some (.lst xs)) (hp : H p1 = none) {v : V} {c : Cp} (h : CpAt H v c) : CpAt (upd (upd H p1 o) p (.lst ys)) v c := by
  obtain ⟨t, h1, h2⟩ := h
  exact ⟨t, h1, by rw [upd_ne (ne_of h2 hl (by simp))]; exact upd_old h2 hp⟩
theorem CpAt.new {H : Hp} {p p1 : Addr} {xs ys : List V} {c : Cp} (hl : H p = some (.lst xs)) (hp : H p1 = none) : CpAt (upd (upd H p1 (.tup [.int c.1, .int c.2.1, .int c.2.2])) p (.lst ys)) (.ref p1) c :=
  ⟨p1, rfl, by rw [upd_ne (ne_of_none hl hp).symm]; exact upd_same⟩
theorem noneW_s {ws : List Bool} {s i : Nat} (h : noneW ws s i = true) (h' : W ws (s + i) = false) : noneW ws s (i + 1) = true := by
  unfold noneW at h ⊢
  rw [List.range_succ, List.all_append, h]
  simp [h']
theorem cut1 {x : V} {l : List V} : cutV (x :: l) (some 1) none = l := by
  unfold cutV
  simp [HT.sIx]
noncomputable def wh (d : List Cp) : Bool := d.any fun c => decide (c.2.2 = 0)
/-- what the fairness of a row is -/
noncomputable def FairR (ws : List Bool) (v : V) : Prop := (ws = [] ∧ v = .int 1) ∨ (ws ≠ [] ∧ idx ws = [] ∧ v = .non) ∨ (idx ws ≠ [] ∧ ∃ M, v = .int M ∧ M ∈ gaps ws ∧ ∀ a ∈ gaps ws, a ≤ M)
theorem FairR.uniq {ws : List Bool} {v v' : V} (h : FairR ws v) (h' : FairR ws v') : v = v' := by
  rcases h with ⟨a1, a2⟩ | ⟨a1, a2, a3⟩ | ⟨a1, M, a2, a3, a4⟩
  · rcases h' with ⟨b1, b2⟩ | ⟨b1, b2, b3⟩ | ⟨b1, M', b2, b3, b4⟩
    · rw [a2, b2]
    · exact absurd a1 b1
    · rw [a1] at b1; exact absurd rfl b1
  · rcases h' with ⟨b1, b2⟩ | ⟨b1, b2, b3⟩ | ⟨b1, M', b2, b3, b4⟩
    · exact absurd b1 a1
    · rw [a3, b3]
    · exact absurd a2 b1
  · rcases h' with ⟨b1, b2⟩ | ⟨b1, b2, b3⟩ | ⟨b1, M', b2, b3, b4⟩
    · rw [b1] at a1; exact absurd rfl a1
    · exact absurd b2 a1
    · have := a4 _ b3
      have := b4 _ a3
      rw [a2, b2, show M = M' by omega]
theorem FairR.kind {ws : List Bool} {v : V} (h : FairR ws v) : v = .non ∨ ∃ i, v = .int i := by
  rcases h with ⟨_, a2⟩ | ⟨_, _, a3⟩ | ⟨_, M, a2, _⟩
  · exact .inr ⟨_, a2⟩
  · exact .inl a3
  · exact .inr ⟨_, a2⟩
noncomputable def cdt (c : Cp) : Dt := .t [.int c.1, .int c.2.1, .int c.2.2]
noncomputable def ddt (d : List Cp) : Dt := .l (d.map cdt)
theorem CpAt.den {K : PySem.W.Frag} {H : Hp} {v : V} {c : Cp} (h : CpAt H v c) : Den K H 1 v (cdt c) := by
  obtain ⟨t, rfl, h2⟩ := h
  exact .inr (.inr ⟨t, _, _, rfl, rfl, SqT.of h2, .cons (.inr (.inl ⟨_, rfl, rfl⟩)) (.cons (.inr (.inl ⟨_, rfl, rfl⟩)) (.cons (.inr (.inl ⟨_, rfl, rfl⟩)) .nil))⟩)
theorem paired_map {α β γ : Type} {F : α → β → Prop} {G : α → γ → Prop} {f : β → γ} (h : ∀ a b, F a b → G a (f b)) : ∀ {xs : List α} {ys : List β}, Paired F xs ys → Paired G xs (ys.map f)
  | _, _, .nil => .nil
  | _, _, .cons r rr => .cons (h _ _ r) (paired_map h rr)
theorem DdAt.den {K : PySem.W.Frag} {H : Hp} {v : V} {d : List Cp} (h : DdAt H v d) : Den K H 2 v (ddt d) := by
  obtain ⟨l, xs, rfl, h2, h3⟩ := h
  exact .inr (.inl ⟨l, xs, _, rfl, rfl, SqL.of h2, paired_map (fun _ _ q => q.den) h3⟩)
theorem RwAt.den {K : PySem.W.Frag} {H : Hp} {l : Addr} {ds : List (List Cp)} (h : RwAt H l ds) : Den K H 3 (.ref l) (.l (ds.map ddt)) := by
  obtain ⟨ys, h2, h3⟩ := h
  exact .inr (.inl ⟨l, ys, _, rfl, rfl, SqL.of h2, paired_map (fun _ _ q => q.den) h3⟩)
theorem paired_at {α β : Type} {F : α → β → Prop} {xs : List α} {ys : List β} {i : Nat} {x : α} (h : Paired F xs ys) (e : xs[i]? = some x) : ∃ y, ys[i]? = some y ∧ F x y := L2.Paired.get h e
theorem paired_len {α β : Type} {F : α → β → Prop} : ∀ {xs : List α} {ys : List β}, Paired F xs ys → xs.length = ys.length
  | _, _, .nil => rfl
  | _, _, .cons _ rr => by rw [List.length_cons, List.length_cons, paired_len rr]
theorem paired_snoc {α β : Type} {F : α → β → Prop} {x : α} {y : β} (r : F x y) : ∀ {xs : List α} {ys : List β}, Paired F xs ys → Paired F (xs ++ [x]) (ys ++ [y])
  | _, _, .nil => .cons r .nil
  | _, _, .cons q rr => .cons q (paired_snoc r rr)
theorem paired_take {α β : Type} {F : α → β → Prop} : ∀ {xs : List α} {ys : List β} (n : Nat), Paired F xs ys → Paired F (xs.take n) (ys.take n)
  | _, _, 0, _ => by simp; exact .nil
  | _, _, n + 1, .nil => by simp; exact .nil
  | _, _, n + 1, .cons q rr => .cons q (paired_take n rr)
theorem paired_drop {α β : Type} {F : α → β → Prop} : ∀ {xs : List α} {ys : List β} (n : Nat), Paired F xs ys → Paired F (xs.drop n) (ys.drop n)
  | _, _, 0, h => h
  | _, _, n + 1, .nil => .nil
  | _, _, n + 1, .cons q rr => paired_drop n rr
theorem paired_app {α β : Type} {F : α → β → Prop} {zs : List α} {ws : List β} (h : Paired F zs ws) : ∀ {xs : List α} {ys : List β}, Paired F xs ys → Paired F (xs ++ zs) (ys ++ ws)
  | _, _, .nil => h
  | _, _, .cons q rr => .cons q (paired_app h rr)
noncomputable def sp__law_cell_at  (K : PySem.W.Frag) (a₀ : Addr) (ns : List Int) : Sp := fun vs H Q E => match vs with
  | [.ref a, .int k] => a = a₀ ∧ SqL K H a₀ (ns.map V.int) ∧ 0 ≤ k ∧ ∀ n, Q (.int n) H
  | _ => False
noncomputable def sp_has_whole_copy  : Sp := fun vs H Q E => match vs with
  | [.ref l] => ∃ xs d, H l = some (.lst xs) ∧ Paired (CpAt H) xs d ∧ d.length ≤ 100 ∧ ∀ H', Same H H' → Q (.bl (wh d)) H'
  | _ => False
noncomputable def sp_fairness  : Sp := fun vs H Q E => match vs with
  | [.ref l] => ∃ ds, RwAt H l ds ∧ ds.length ≤ 60 ∧ (∀ d ∈ ds, d.length ≤ 100) ∧ ∀ v H', Same H H' → FairR (ds.map wh) v → Q v H'
  | _ => False
noncomputable def sp__law_whole  : Sp := fun vs H Q E => match vs with
  | [.int i] => Q (.bl true) H
  | _ => False
noncomputable def sp__law_mixed  : Sp := fun vs H Q E => match vs with
  | [.int c, .int k] => 0 ≤ k ∧ ∀ v, 0 ≤ v → Q (.int v) H
  | _ => False
noncomputable def sp__law_copy  : Sp := fun vs H Q E => match vs with
  | [.int n, .int r] => ∀ p a b, H p = none → Q (.ref p) (upd H p (.tup [.int a, .int b, .int r]))
  | _ => False
noncomputable def sp__law_deed  : Sp := fun vs H Q E => match vs with
  | [.int c, .int k, .bl b] => 0 ≤ k ∧ ∀ p d H', Same H H' → H p = none → DdAt H' (.ref p) d → d.length ≤ 3 → wh d = b → Q (.ref p) H'
  | _ => False
noncomputable def sp__law_is_whole  : Sp := fun vs H Q E => match vs with
  | [.int c, .int k, .int m] => (0 ≤ k ∧ 0 < m) ∧ ∀ b H', Same H H' → Q (.bl b) H'
  | _ => False
noncomputable def sp__law_none_whole  : Sp := fun vs H Q E => match vs with
  | [.ref l, .int s, .int n] => ∃ ds, ∃ s' n' : Nat, RwAt H l ds ∧ s = s' ∧ n = n' ∧ s' ≤ 100 ∧ n' ≤ 100 ∧ 0 < ds.length ∧ (∀ d ∈ ds, d.length ≤ 100) ∧ ∀ H', Same H H' → Q (.bl (noneW (ds.map wh) s' n')) H'
  | _ => False
noncomputable def sp__law_right  : Sp := fun vs H Q E => match vs with
  | [v, .ref l] => ∃ ds, RwAt H l ds ∧ ds.length ≤ 60 ∧ (∀ d ∈ ds, d.length ≤ 100) ∧ FairR (ds.map wh) v ∧ ∀ H', Same H H' → Q (.bl true) H'
  | _ => False
noncomputable def sp__law_row  : Sp := fun vs H Q E => match vs with
  | [.int m, .int c, .int o] => (0 ≤ m ∧ m ≤ 60) ∧ ∀ l ds H', Same H H' → H l = none → RwAt H' l ds → ds.length ≤ 60 → (∀ d ∈ ds, d.length ≤ 3) → Q (.ref l) H'
  | _ => False
set_option compiler.extract_closed false in
local macro_rules | `(tactic| exists $es,*) => `(tactic| simp only [tRet, tRetN, tOp, tUn, tVar, tC, tAsg, gName, tSeq, tNext, tBreak, tCont, tIfS, tTest, tB, tNot, tAnd, tOr, tCall, tCons, tNil, tCB, tChain, tAndV, tOrV, tNotV, tIf, tDrop, tSl, tNoPart, tPart, rI0_int, rI_int, rU_int, ex_bl, ex_sv, rEq_int, rNe_int, rEq_str, rNe_str, rEq_bl, rNe_bl, rAddA_int, rAddA_str, rLenA_ref, rLenA_str, rIsi_ii, rIsi_ib, rIsi_is, rIsi_bi, rIsi_bb, rIsi_ss, rIsi_si, rMinA_int, rMaxA_int, rEqA_int, rNeA_int, rEqA_str, rNeA_str, rEqA_bl, rNeA_bl, rIsB_bl, rIsnotB_bl, rIsN_f, rIsN_t, tBM0, tBM, tyV_int, tyV_str, rBitlen_int, rSlA_str, rInA_str, rInA_ref, tFor_seq, tFor_rng1, tFor_rng2, tFor_rng3, tComp_seq, tComp_rng1, tComp_rng2, tComp_rng3, rngR1_int, rngR2_int, rngR3_int, compSt_one, rAll_ref, rAny_ref, rSum_ref, rListA_ref, rTupleA_ref, rDivmodA_int, rAppendA_ref, rSetA_ref, tTup, tLst, tCs, tTC, gTup_ref, gCons_cons, gNil_nil, gSub, tYes, tDrop, small_line, small_lt, Option.join_some, CDiv, CPowA, CMul, cxOf_K, ex_int,
  L2.start, List.map_cons, List.map_nil, List.length_cons, List.length_nil, List.replicate_zero, List.replicate_succ, List.append_nil, List.nil_append, List.cons_append, List.getElem?_cons_zero, List.getElem?_cons_succ, List.set_cons_zero, List.set_cons_succ, decide_eq_true_eq, Bool.not_eq_true', decide_eq_false_iff_not, if_true, if_false, ite_true, ite_false, Bool.false_eq_true, true_and, and_true, Bool.not_true, Bool.not_false, Int.reduceLT, Int.reduceLE, Int.reducePow, Int.reduceToNat, Int.reduceAdd, Int.reduceSub, Int.reduceMul, Int.reduceNeg, Nat.reducePow, Nat.reduceLT, Nat.reduceLeDiff, true_or, or_true, Int.reduceEq, and_self, Nat.reduceAdd, Nat.reduceSub, Int.neg_neg, reduceCtorEq, not_true_eq_false, not_false_eq_true,
  sp__law_cell_at, sp_has_whole_copy, sp_fairness, sp__law_whole, sp__law_mixed, sp__law_copy, sp__law_deed, sp__law_is_whole, sp__law_none_whole, sp__law_right, sp__law_row, tFor_enum, tFor_zip, tComp_enum, tComp_zip, compSt_two, compSt_three, rIxB_ref, rIxB_str, ixO_lst, ixO_tup, atI_0, atI_1, atI_2, atI_3, atI_4, atI_5, L2.atI_last, gTupB_ref, gO_tup, rLenB_ref, rLenB_str, lenO_lst, lenO_tup, rIsiB_ref, rIsiB_i, rIsiB_b, rIsiB_s, isiO_tup, isiO_lst, ex_lst, ex_lst2, tSw, swV_ref, swO_tup, rMinB_ref, rMaxB_ref, L2.ex_som, upd_same, upd_upd, $[$es:term],*])
local macro_rules | `(tactic| walk_at "wps") => `(tactic| exists true_and)
section
variable {P : Program} {w : World} {K : PySem.W.Frag} {mg : Str → Option Value} {base : Heap}
theorem ok__law_cell_at (T : Txt K mg)  (a₀ : Addr) (ns : List Int) : FnAt P w K mg base CX0 "_law_cell_at" 1 ["_law_script", "_law_k"] (sp__law_cell_at K a₀ ns) := by
  refine T.d__law_cell_at.fn sc__law_cell_at bd__law_cell_at (fun vs H Q E h => ?_) fun f cdv A outer s H vs Q E HR h => ?_
  · unfold sp__law_cell_at at h; split at h <;> first | rfl | exact h.elim
  · unfold sp__law_cell_at at h
    split at h
    · rename_i a k
      refine ⟨_, (pss_cons (ps_if (pt_cmpR op_lt (pv 1) (pe_callBQ (call_lenK K rfl) (by rfl) T.b_len bt_len (pa_q (pv 0) pa_nil)) (nomark _)) (pss_one (ps_ret (pe_ix (ix_K K rfl) (pv 0) (pv 1) (fun _ _ => rfl)))) pss_nil)
  (pss_one (ps_ret pe_int))), ?_⟩
      obtain ⟨rfl, hS, h0, q⟩ := h
      walk_at "wps"
      refine ⟨_, .inl hS, ?_⟩
      rw [List.length_map]
      split
      · rename_i c; exact ixA_ints hS h0 c (q _)
      · exact q _
    · exact h.elim
--SPLIT
theorem ok_has_whole_copy (T : Txt K mg)  : FnAt P w K mg base CX0 "has_whole_copy" 1 ["deed"] sp_has_whole_copy := by
  refine T.d_has_whole_copy.fn sc_has_whole_copy bd_has_whole_copy (fun vs H Q E h => ?_) fun f cdv A outer s H vs Q E HR h => ?_
  · unfold sp_has_whole_copy at h; split at h <;> first | rfl | exact h.elim
  · unfold sp_has_whole_copy at h
    split at h
    · rename_i l
      refine ⟨_, (pss_one (ps_ret (pe_callBQ (call_anyK K rfl rfl) (by rfl) T.b_any bt_any (pa_q (pe_comp (N := (["copy"] : List Str)) (nv := 1) (ix := []) rfl (cs_of (by kernel_rfl)) (pi_seqK K rfl (pv 0)) (fun _ _ _ _ _ => (pg_name (i := 0) (show ((["copy"] : List Str)).Nodup by decide) rfl (Or.inl rfl))) (fun _ _ _ _ _ => pts_nil) (fun _ _ _ _ _ => (pe_cmpR (op_eqK K rfl HR.units) (pe_ix (ix_B K rfl) (pv 0) pe_int (fun _ _ => rfl)) pe_int (nomark _)))) pa_nil)))), ?_⟩
      obtain ⟨xs, d, hl, hp, hd, q⟩ := h
      walk_at "wps"
      refine co_listH (SqL.of hl) (small_ok (by have := paired_len hp; omega)) (fun i ys σ H' => H' = H ∧ ys = (d.take i).map (fun c => V.bl (decide (c.2.2 = 0))) ∧ ∃ v, σ = [v]) ⟨rfl, by simp, _, rfl⟩ (fun i ys σ H' h => by rw [h.2.1, List.length_map, List.length_take]; exact Nat.min_le_left _ _) (fun i ys σ H' h => by rw [h.1]; exact SqL.of hl) (fun i x ys σ H' hx h => ?_) (fun ys σ H' h => ?_)
      · obtain ⟨rfl, rfl, v, rfl⟩ := h
        obtain ⟨c, hc, t, rfl, ht⟩ := paired_at hp hx
        exists ht
        exact ⟨by rw [List.take_add_one, hc, List.map_append]; rfl, _, rfl⟩
      · obtain ⟨rfl, rfl, v, rfl⟩ := h
        rw [paired_len hp, List.take_length]
        refine ⟨small_ok (by rw [List.length_map]; omega), fun l' hl' => ⟨d.map (fun c => decide (c.2.2 = 0)), ?_, ?_⟩⟩
        · exact SqL.of (by rw [upd_same, List.map_map]; rfl)
        · have e : (d.map (fun c => decide (c.2.2 = 0))).any id = wh d := by unfold wh; rw [List.any_map]; rfl
          rw [e]
          exact q _ (same_upd hl')
    · exact h.elim
theorem ok_fairness (T : Txt K mg)  : FnAt P w K mg base CX0 "fairness" 2 ["deeds"] sp_fairness := by
  refine T.d_fairness.fn sc_fairness bd_fairness (fun vs H Q E h => ?_) fun f cdv A outer s H vs Q E HR h => ?_
  · unfold sp_fairness at h; split at h <;> first | rfl | exact h.elim
  · unfold sp_fairness at h
    split at h
    · rename_i l
      refine ⟨_, (pss_cons (ps_if (pt_cmpR (op_eqK K rfl HR.units) (pe_callBQ (call_lenB K rfl) (by rfl) T.b_len bt_len (pa_q (pv 0) pa_nil)) pe_int (nomark _)) (pss_one (ps_ret pe_int)) pss_nil)
  (pss_hold (pss_cons (ps_setc (i := 1) (N := (["at", "deed"] : List Str)) (nv := 2) (ix := []) rfl sc_fairness.nd rfl rfl (cs_of (by kernel_rfl)) (pj_enum rfl T.b_enumerate (pa_q (pv 0) pa_nil)) (fun _ _ _ _ _ => (pg_tupB K (n := 2) rfl rfl (pgs_q (pg_name (i := 0) (show ((["at", "deed"] : List Str)).Nodup by decide) rfl (Or.inl rfl)) (pgs_q (pg_name (i := 1) (show ((["at", "deed"] : List Str)).Nodup by decide) rfl (Or.inl rfl)) pgs_nil)))) (fun _ _ _ _ _ => (pts_one (pt_q (pe_fnQ (ok_has_whole_copy T) HR (by decide) rfl (pa_q (pv 1) pa_nil))))) (fun _ _ _ _ _ => (pv 0)))
  (pss_hold (pss_cons (ps_if (pt_cmpR (op_eqK K rfl HR.units) (pe_callBQ (call_lenB K rfl) (by rfl) T.b_len bt_len (pa_q (pv 1) pa_nil)) pe_int (nomark _)) (pss_one (ps_ret pe_non)) pss_nil)
  (pss_hold (pss_cons (ps_setQ (i := 2) sc_fairness.nd rfl (Or.inl rfl) (pe_op (op_addK K rfl) (pe_slice (sl_K K rfl) (pv 1) (po_some pe_int) po_none) (pe_lst (pa_q (pe_op (op_addK K rfl) (pe_ix (ix_B K rfl) (pv 1) pe_int (fun _ _ => rfl)) (pe_callBQ (call_lenB K rfl) (by rfl) T.b_len bt_len (pa_q (pv 0) pa_nil))) pa_nil))))
  (pss_hold (pss_one (ps_ret (pe_callBQ (call_maxB K rfl rfl) (by rfl) T.b_max bt_max (pa_q (pe_comp (N := (["at", "after"] : List Str)) (nv := 2) (ix := []) rfl (cs_of (by kernel_rfl)) (pj_zip rfl T.b_zip (pa_q (pv 1) (pa_q (pv 2) pa_nil))) (fun _ _ _ _ _ => (pg_tupB K (n := 2) rfl rfl (pgs_q (pg_name (i := 0) (show ((["at", "after"] : List Str)).Nodup by decide) rfl (Or.inl rfl)) (pgs_q (pg_name (i := 1) (show ((["at", "after"] : List Str)).Nodup by decide) rfl (Or.inl rfl)) pgs_nil)))) (fun _ _ _ _ _ => pts_nil) (fun _ _ _ _ _ => (pe_op op_sub (pv 1) (pv 0)))) pa_nil)))))))))))), ?_⟩
      obtain ⟨ds, ⟨ys, hl, hp⟩, hn, hd, q⟩ := h
      have pl := paired_len hp
      have wl : (ds.map wh).length = ds.length := List.length_map ..
      generalize h_u1 : tHold _ = u1
      exists hl
      by_cases c0 : (ys.length : Int) = 0
      · rw [if_pos c0]
        have e : ds = [] := List.length_eq_zero_iff.mp (by omega)
        exact q _ H (Same.refl _) (.inl ⟨by rw [e]; rfl, rfl⟩)
      rw [if_neg c0]
      rw [← h_u1, tHold]
      generalize h_u2 : tHold _ = u2
      walk_at "wps"
      refine co_enumH hl (small_ok (by omega)) (fun i zs σ H' => Same H H' ∧ zs = ((List.range i).filter fun k => (ds.map wh).getD k false).map (fun k : Nat => V.int (k : Int)) ∧ ∃ v1 v2, σ = [v1, v2]) ⟨Same.refl _, by simp, _, _, rfl⟩ (fun i zs σ H' h => by rw [h.2.1, List.length_map]; exact Nat.le_trans (List.length_filter_le _ _) (by rw [List.length_range]; exact Nat.le_refl _)) (fun i zs σ H' h => h.1 _ _ hl) (fun i x p zs σ H' hx h hp' => ?_) (fun zs σ H' h => ?_)
      · obtain ⟨sm, rfl, v1, v2, rfl⟩ := h
        obtain ⟨d, hdi, l', xs, rfl, hl', hpd⟩ := paired_at hp hx
        have sm2 : Same H (upd H' p (.tup [V.int (i : Int), V.ref l'])) := fun b o e => upd_old (sm b o e) hp'
        have ew : (ds.map wh).getD i false = wh d := by rw [List.getD_eq_getElem?_getD, List.getElem?_map, hdi]; rfl
        exists upd_same
        refine ⟨xs, d, sm2 _ _ hl', L2.Paired.imp' (fun _ _ q => q.same sm2) hpd, hd d (List.mem_of_getElem? hdi), fun H3 sm3 => ?_⟩
        have sm4 : Same H H3 := fun b o e => sm3 _ _ (sm2 b o e)
        cases e : wh d
        · rw [if_neg (by decide)]
          refine ⟨sm4, ?_, _, _, rfl⟩
          rw [List.range_succ, List.filter_append, List.filter_cons, List.filter_nil, if_neg (by rw [ew, e]; decide), List.append_nil]
        · rw [if_pos rfl]
          refine ⟨sm4, ?_, _, _, rfl⟩
          rw [List.range_succ, List.filter_append, List.filter_cons, List.filter_nil, if_pos (by rw [ew, e]), List.map_append]
          rfl
      obtain ⟨sm, rfl, v1, v2, rfl⟩ := h
      have ei : ((List.range ys.length).filter fun k => (ds.map wh).getD k false) = idx (ds.map wh) := by unfold idx; rw [wl, pl]
      rw [ei]
      have il : (idx (ds.map wh)).length ≤ 60 := by
        unfold idx
        exact Nat.le_trans (List.length_filter_le _ _) (by rw [List.length_range]; omega)
      refine ⟨small_ok (by rw [List.length_map]; omega), fun l1 hl1 => ?_⟩
      have sm1 : Same H (upd H' l1 (.lst ((idx (ds.map wh)).map (fun k : Nat => V.int (k : Int))))) := fun b o e => upd_old (sm b o e) hl1
      have e1 := upd_same (H := H') (a := l1) (o := .lst ((idx (ds.map wh)).map (fun k : Nat => V.int (k : Int))))
      generalize upd H' l1 (.lst ((idx (ds.map wh)).map (fun k : Nat => V.int (k : Int)))) = H1 at *
      have hl1' := sm1 _ _ hl
      rw [← h_u2, tHold]
      generalize h_u3 : tHold _ = u3
      exists e1
      by_cases c1 : idx (ds.map wh) = []
      · rw [if_pos (by rw [c1]; rfl)]
        refine q _ H1 sm1 (.inr (.inl ⟨fun e => ?_, c1, rfl⟩))
        have : (ds.map wh).length = 0 := by rw [e]; rfl
        omega
      have ip : 0 < (idx (ds.map wh)).length := List.length_pos_iff.mpr c1
      rw [if_neg (by rw [List.length_map]; omega)]
      obtain ⟨a0, rest, eidx⟩ : ∃ a0 rest, idx (ds.map wh) = a0 :: rest := by
        cases e : idx (ds.map wh) with
        | nil => exact absurd e c1
        | cons a r => exact ⟨a, r, rfl⟩
      have el : ltr (ds.map wh) = rest ++ [a0 + ds.length] := by unfold ltr; rw [eidx, wl]; rfl
      have e1c : H1 l1 = some (.lst (V.int (a0 : Int) :: rest.map (fun k : Nat => V.int (k : Int)))) := by rw [e1, eidx]; rfl
      rw [← h_u3, tHold]
      generalize h_u4 : tHold _ = u4
      exists hl1'
      refine rSlA_list (SqL.of e1c) fun l2 hl2 => ?_
      rw [cut1]
      have e2 := upd_old (o := .lst (rest.map (fun k : Nat => V.int (k : Int)))) e1c hl2
      have e2l := upd_old (o := .lst (rest.map (fun k : Nat => V.int (k : Int)))) hl1' hl2
      have e2s := upd_same (H := H1) (a := l2) (o := .lst (rest.map (fun k : Nat => V.int (k : Int))))
      have sm2 : Same H (upd H1 l2 (.lst (rest.map (fun k : Nat => V.int (k : Int))))) := fun b o e => upd_old (sm1 b o e) hl2
      generalize upd H1 l2 (.lst (rest.map (fun k : Nat => V.int (k : Int)))) = H2 at *
      exists e2, e2l
      intro l3 hl3
      have rl : rest.length ≤ 60 := by rw [eidx, List.length_cons] at il; omega
      refine addA_lists (upd_old e2s hl3) upd_same (small_ok (by simp; omega)) fun l4 hl4 => ?_
      have ex : upd (upd H2 l3 (HO.lst [V.int ((a0 : Int) + ys.length)])) l4 (HO.lst (rest.map (fun k : Nat => V.int (k : Int)) ++ [V.int ((a0 : Int) + ys.length)])) l1 = some (.lst ((idx (ds.map wh)).map (fun k : Nat => V.int (k : Int)))) := by
        rw [eidx]
        exact upd_old (upd_old e2 hl3) hl4
      have ey : upd (upd H2 l3 (HO.lst [V.int ((a0 : Int) + ys.length)])) l4 (HO.lst (rest.map (fun k : Nat => V.int (k : Int)) ++ [V.int ((a0 : Int) + ys.length)])) l4 = some (.lst ((ltr (ds.map wh)).map (fun k : Nat => V.int (k : Int)))) := by
        rw [upd_same, el, List.map_append, pl]
        simp
      have sm4 : Same H (upd (upd H2 l3 (HO.lst [V.int ((a0 : Int) + ys.length)])) l4 (HO.lst (rest.map (fun k : Nat => V.int (k : Int)) ++ [V.int ((a0 : Int) + ys.length)]))) := fun b o e => upd_old (upd_old (sm2 b o e) hl3) hl4
      generalize upd (upd H2 l3 (HO.lst [V.int ((a0 : Int) + ys.length)])) l4 (HO.lst (rest.map (fun k : Nat => V.int (k : Int)) ++ [V.int ((a0 : Int) + ys.length)])) = H4 at *
      have lln := ltr_len c1
      rw [← h_u4, tHold]
      walk_at "wps"
      refine co_zipH ex ey (by rw [List.length_map, List.length_map]; exact lln) (small_ok (by rw [List.length_map]; omega)) (fun i zs σ H' => Same H4 H' ∧ zs = ((gaps (ds.map wh)).take i).map V.int ∧ ∃ v1 v2, σ = [v1, v2]) ⟨Same.refl _, by simp, _, _, rfl⟩ (fun i zs σ H' h => by rw [h.2.1, List.length_map, List.length_take]; exact Nat.min_le_left _ _) (fun i zs σ H' h => ⟨h.1 _ _ ex, h.1 _ _ ey⟩) (fun i x y p zs σ H' hx hy h hp' => ?_) (fun zs σ H' h => ?_)
      · obtain ⟨sm5, rfl, v1, v2, rfl⟩ := h
        rw [List.getElem?_map] at hx hy
        obtain ⟨a, ea, rfl⟩ := Option.map_eq_some_iff.mp hx
        obtain ⟨b, eb, rfl⟩ := Option.map_eq_some_iff.mp hy
        have eg : (gaps (ds.map wh))[i]? = some ((b : Int) - (a : Int)) := by
          unfold gaps
          rw [List.getElem?_zipWith, ea, eb]
        exists upd_same
        exact ⟨fun b o e => upd_old (sm5 b o e) hp', by rw [List.take_add_one, eg, List.map_append]; rfl, _, _, rfl⟩
      · obtain ⟨sm5, rfl, v1, v2, rfl⟩ := h
        have gl : (gaps (ds.map wh)).length = (idx (ds.map wh)).length := by
          unfold gaps
          rw [List.length_zipWith, lln, Nat.min_self]
        have tk : (gaps (ds.map wh)).take ((idx (ds.map wh)).map (fun k : Nat => V.int (k : Int))).length = gaps (ds.map wh) := List.take_of_length_le (by rw [List.length_map]; omega)
        rw [tk]
        refine ⟨small_ok (by rw [List.length_map]; omega), fun l6 hl6 => ⟨gaps (ds.map wh), SqL.of upd_same, by omega, fun M hM hle => ?_⟩⟩
        exact q _ _ (fun b o e => upd_old (sm5 _ _ (sm4 b o e)) hl6) (.inr (.inr ⟨c1, M, rfl, hM, hle⟩))
    · exact h.elim
theorem ok__law_whole (T : Txt K mg)  : FnAt P w K mg base CX0 "_law_whole" 1 ["_law_found"] sp__law_whole := by
  refine T.d__law_whole.fn sc__law_whole bd__law_whole (fun vs H Q E h => ?_) fun f cdv A outer s H vs Q E HR h => ?_
  · unfold sp__law_whole at h; split at h <;> first | rfl | exact h.elim
  · unfold sp__law_whole at h
    split at h
    · rename_i i
      refine ⟨_, (pss_one (ps_ret (pe_and (pe_callBQ (call_isiB K rfl) (by rfl) T.b_isinstance bt_isinstance (pa_q (pv 0) (pa_q (pe_ty rfl T.b_int bt_int) pa_nil))) (pe_one (pe_not (pe_callBQ (call_isiB K rfl) (by rfl) T.b_isinstance bt_isinstance (pa_q (pv 0) (pa_q (pe_ty rfl T.b_bool bt_bool) pa_nil)))))))), ?_⟩
      walk_at "wps"
      exact h
    · exact h.elim
theorem ok__law_mixed (T : Txt K mg)  : FnAt P w K mg base CX0 "_law_mixed" 1 ["_law_cell", "_law_k"] sp__law_mixed := by
  refine T.d__law_mixed.fn sc__law_mixed bd__law_mixed (fun vs H Q E h => ?_) fun f cdv A outer s H vs Q E HR h => ?_
  · unfold sp__law_mixed at h; split at h <;> first | rfl | exact h.elim
  · unfold sp__law_mixed at h
    split at h
    · rename_i c k
      refine ⟨_, (pss_cons (ps_if (PW.pt (pw_and (pt_cmpR op_ge (pv 0) (pe_op op_shlA pe_int pe_int) (nomark _)) (pw_and1 (pt_cmpR op_gt (pe_op op_shr (pv 0) (pe_op (op_addK K rfl) pe_int (pe_op op_mul pe_int (pv 1)))) pe_int (nomark _))))) (pss_one (ps_ret (pe_op op_mod (pe_op op_shr (pv 0) (pe_op (op_addK K rfl) pe_int (pe_op op_mul pe_int (pv 1)))) pe_int))) pss_nil)
  (pss_hold (pss_cons (ps_setQ (i := 2) sc__law_mixed.nd rfl (Or.inl rfl) (pe_op (op_addK K rfl) (pe_op op_mod (pv 0) pe_int) pe_int))
  (pss_cons (ps_for PassesOwn.never rfl (pj_range1 rfl T.b_range (pa_q pe_int pa_nil)) (pg_name (i := 3) sc__law_mixed.nd rfl (Or.inl rfl)) (pss_one (ps_setQ (i := 2) sc__law_mixed.nd rfl (Or.inl rfl) (pe_op op_mod (pe_op (op_addK K rfl) (pe_op (op_addK K rfl) (pe_op op_mulW (pv 2) (pv 2)) (pe_op op_mul pe_int (pv 2))) (pv 1)) pe_int))))
  (pss_one (ps_ret (pv 2))))))), ?_⟩
      obtain ⟨h0, q⟩ := h
      generalize h_u1 : tHold _ = u1
      walk_at "wps"
      have sh : CShl 1 90 := ⟨⟨by decide, by decide⟩, by decide +kernel, by decide +kernel⟩
      have tail : u1 { nx := fun _ H' => Q .non H', rt := Q } [some (.int c), some (.int k), none, none] H := by
        rw [← h_u1, tHold]
        walk_at "wps"
        refine fo_rng (lo := 0) (n := 3) (fun i σ H' => H' = H ∧ ∃ v v3, σ = [some (.int c), some (.int k), some (.int v), v3] ∧ 0 ≤ v ∧ v < 4294967296) ⟨rfl, _, none, rfl, by omega, by omega⟩ (fun i σ H' _ hp => ?_) (fun σ H' hp => ?_)
        · obtain ⟨rfl, v, v3, rfl, h0, h1⟩ := hp
          walk_at "wps"
          refine ⟨.inl (.inl ⟨by omega, by omega⟩), _, _, rfl, ?_, ?_⟩
          · exact Int.emod_nonneg _ (by decide)
          · exact Int.lt_trans (Int.emod_lt_of_pos _ (by decide)) (by decide)
        · obtain ⟨rfl, v, v3, rfl, h0, h1⟩ := hp
          walk_at "wps"
          exact q v h0
      refine ⟨sh, ?_⟩
      split
      · refine ⟨by omega, ?_⟩
        split
        · exact ⟨by omega, q _ (Int.emod_nonneg _ (by decide))⟩
        · exact tail
      · exact tail
    · exact h.elim
theorem ok__law_copy (T : Txt K mg)  : FnAt P w K mg base CX0 "_law_copy" 1 ["_law_number", "_law_run"] sp__law_copy := by
  refine T.d__law_copy.fn sc__law_copy bd__law_copy (fun vs H Q E h => ?_) fun f cdv A outer s H vs Q E HR h => ?_
  · unfold sp__law_copy at h; split at h <;> first | rfl | exact h.elim
  · unfold sp__law_copy at h
    split at h
    · rename_i n r
      refine ⟨_, (pss_one (ps_ret (pe_tup (pa_q (pe_op (op_addK K rfl) pe_int (pe_op op_mod (pv 0) pe_int)) (pa_q (pe_op op_mod (pe_op op_fdiv (pv 0) pe_int) pe_int) (pa_q (pv 1) pa_nil)))))), ?_⟩
      walk_at "wps"
      intro p hp
      exact h p _ _ hp
    · exact h.elim
theorem ok__law_deed (T : Txt K mg)  : FnAt P w K mg base CX0 "_law_deed" 2 ["_law_cell", "_law_k", "_law_is_whole_here"] sp__law_deed := by
  refine T.d__law_deed.fn sc__law_deed bd__law_deed (fun vs H Q E h => ?_) fun f cdv A outer s H vs Q E HR h => ?_
  · unfold sp__law_deed at h; split at h <;> first | rfl | exact h.elim
  · unfold sp__law_deed at h
    split at h
    · rename_i c k b
      refine ⟨_, (pss_cons (ps_setQ (i := 3) sc__law_deed.nd rfl (Or.inl rfl) (pe_fnQ (ok__law_mixed T) HR (by decide) rfl (pa_q (pv 0) (pa_q (pe_op op_mul pe_int (pv 1)) pa_nil))))
  (pss_hold (pss_cons (ps_setQ (i := 4) sc__law_deed.nd rfl (Or.inl rfl) (pe_lst pa_nil))
  (pss_hold (pss_cons (ps_for PassesOwn.never rfl (pj_range1 rfl T.b_range (pa_q (pe_op op_mod (pv 3) pe_int) pa_nil)) (pg_name (i := 5) sc__law_deed.nd rfl (Or.inl rfl)) (pss_cons (ps_setQ (i := 6) sc__law_deed.nd rfl (Or.inl rfl) (pe_fnQ (ok__law_mixed T) HR (by decide) rfl (pa_q (pv 0) (pa_q (pe_op (op_addK K rfl) (pe_op (op_addK K rfl) (pe_op op_mul pe_int (pv 1)) (pv 5)) pe_int) pa_nil))))
  (pss_hold (pss_cons (ps_setQ (i := 7) sc__law_deed.nd rfl (Or.inl rfl) (pe_op (op_addK K rfl) pe_int (pe_op op_mod (pe_op op_fdiv (pv 6) pe_int) pe_int)))
  (pss_hold (pss_cons (ps_if (PW.pt (pw_and (pt_q (pv 2)) (pw_and1 (pt_cmpR (op_eqK K rfl HR.units) (pe_op op_mod (pe_op op_fdiv (pv 6) pe_int) pe_int) pe_int (nomark _))))) (pss_one (ps_setQ (i := 7) sc__law_deed.nd rfl (Or.inl rfl) pe_int)) pss_nil)
  (pss_hold (pss_one (ps_exprQ (pe_appendK K rfl (pv 4) (pe_fnQ (ok__law_copy T) HR (by decide) rfl (pa_q (pv 6) (pa_q (pv 7) pa_nil)))))))))))))
  (pss_hold (pss_cons (ps_if (pt_q (pv 2)) (pss_one (ps_exprQ (pe_bm PySem.F.plainAttrs_list PySem.F.slot_list_insert PySem.F.type_list_insert mt_insert (pv 4) (pa_q (pe_op op_mod (pe_op op_fdiv (pv 3) pe_int) pe_int) (pa_q (pe_fnQ (ok__law_copy T) HR (by decide) rfl (pa_q (pe_op op_fdiv (pv 3) pe_int) (pa_q pe_int pa_nil))) pa_nil))))) pss_nil)
  (pss_hold (pss_one (ps_ret (pv 4))))))))))), ?_⟩
      obtain ⟨h0, q⟩ := h
      generalize h_u1 : tHold _ = u1
      walk_at "wps"
      refine ⟨by omega, fun v hv => ?_⟩
      rw [← h_u1, tHold]
      generalize h_u2 : tHold _ = u2
      walk_at "wps"
      intro p hp
      have sm0 := same_upd (o := .lst []) hp
      have l0 := upd_same (H := H) (a := p) (o := .lst [])
      generalize upd H p (.lst []) = H0 at *
      rw [← h_u2, tHold]
      generalize h_a1 : tHold _ = a1
      generalize h_a2 : tHold _ = a2
      walk_at "wps"
      refine ⟨by omega, ?_⟩
      refine fo_rng (lo := 0) (n := (v % 3).toNat) (fun i σ H' => Same H H' ∧ ∃ xs d v5 v6 v7, H' p = some (.lst xs) ∧ Paired (CpAt H') xs d ∧ d.length = i ∧ (b = false → ∀ c ∈ d, c.2.2 ≠ 0) ∧ σ = [some (V.int c), some (V.int k), some (V.bl b), some (V.int v), some (V.ref p), v5, v6, v7]) ⟨sm0, [], [], _, _, _, l0, .nil, rfl, fun _ c hc => absurd hc (by simp), rfl⟩ (fun i σ H1 hi h => ?_) (fun σ H1 h => ?_)
      · obtain ⟨sm1, xs, d, v5, v6, v7, hl1, hp1, hd1, hb1, rfl⟩ := h
        walk_at "wps"
        refine ⟨by omega, fun pt hpt => ?_⟩
        have pl1 := paired_len hp1
        rw [← h_a1, tHold]
        generalize h_a3 : tHold _ = a3
        walk_at "wps"
        rw [← h_a3, tHold]
        generalize h_a4 : tHold _ = a4
        obtain ⟨DD, eDD⟩ : ∃ DD : Ends, DD = { nx := fun σ H' => Same H H' ∧ ∃ xs d v5 v6 v7, H' p = some (.lst xs) ∧ Paired (CpAt H') xs d ∧ d.length = i + 1 ∧ (b = false → ∀ c ∈ d, c.2.2 ≠ 0) ∧ σ = [some (V.int c), some (V.int k), some (V.bl b), some (V.int v), some (V.ref p), v5, v6, v7], rt := Q, bk := a2 { nx := fun x H' => Q V.non H', rt := Q }, ct := fun σ H' => Same H H' ∧ ∃ xs d v5 v6 v7, H' p = some (.lst xs) ∧ Paired (CpAt H') xs d ∧ d.length = i + 1 ∧ (b = false → ∀ c ∈ d, c.2.2 ≠ 0) ∧ σ = [some (V.int c), some (V.int k), some (V.bl b), some (V.int v), some (V.ref p), v5, v6, v7] } := ⟨_, rfl⟩
        have tail : ∀ rn : Int, (b = false → rn ≠ 0) → a4 DD [some (V.int c), some (V.int k), some (V.bl b), some (V.int v), some (V.ref p), some (V.int (0 + (i : Int))), some (V.int pt), some (V.int rn)] H1 := by
          intro rn hrn
          rw [← h_a4, tHold]
          walk_at "wps"
          refine ⟨tyV_list (SqL.of hl1), fun p1 a b1 hp1' => ⟨xs, upd_old hl1 hp1', by rw [sizeLine_eq]; omega, ?_⟩⟩
          rw [eDD]
          refine ⟨fun b u e => by rw [upd_ne (ne_of_none e hp)]; exact upd_old (sm1 b u e) hp1', xs ++ [V.ref p1], d ++ [(a, b1, rn)], _, _, _, upd_same, paired_snoc (CpAt.new (c := (a, b1, rn)) hl1 hp1') (L2.Paired.imp' (fun _ _ q => q.put hl1 hp1') hp1), by rw [List.length_append, hd1]; rfl, fun eb c' hc' => ?_, rfl⟩
          rcases List.mem_append.mp hc' with q1 | q1
          · exact hb1 eb c' q1
          · rw [List.mem_singleton.mp q1]; exact hrn eb
        rw [← eDD]
        walk_at "wps"
        cases b
        · rw [if_neg (by decide)]
          exact tail _ (fun _ => by omega)
        · rw [if_pos rfl]
          split
          · exact tail _ (fun e => by cases e)
          · exact tail _ (fun e => by cases e)
      · obtain ⟨sm1, xs, d, v5, v6, v7, hl1, hp1, hd1, hb1, rfl⟩ := h
        show a2 _ _ _
        rw [← h_a2, tHold]
        generalize h_a5 : tHold _ = a5
        have pl1 := paired_len hp1
        have d2 : d.length ≤ 2 := by omega
        walk_at "wps"
        cases b
        · rw [if_neg (by decide)]
          rw [← h_a5, tHold]
          walk_at "wps"
          refine q p d H1 sm1 hp ⟨p, xs, rfl, hl1, hp1⟩ (by omega) ?_
          unfold wh
          rw [List.any_eq_false]
          intro c' hc'
          have := hb1 rfl c' hc'
          simpa using this
        · rw [if_pos rfl]
          refine ⟨tyV_list (SqL.of hl1), fun p1 a b1 hp1' => ⟨p, xs, v / 3 % 3, .ref p1, rfl, rfl, upd_old hl1 hp1', by omega, by omega, by rw [sizeLine_eq]; omega, ?_⟩⟩
          rw [← h_a5, tHold]
          walk_at "wps"
          refine q p (d.take (v / 3 % 3).toNat ++ (a, b1, 0) :: d.drop (v / 3 % 3).toNat) _ (fun b u e => by rw [upd_ne (ne_of_none e hp)]; exact upd_old (sm1 b u e) hp1') hp ⟨p, _, rfl, upd_same, paired_app (.cons (CpAt.new (c := (a, b1, 0)) hl1 hp1') (paired_drop _ (L2.Paired.imp' (fun _ _ q => q.put hl1 hp1') hp1))) (paired_take _ (L2.Paired.imp' (fun _ _ q => q.put hl1 hp1') hp1))⟩ ?_ ?_
          · rw [List.length_append, List.length_take, List.length_cons, List.length_drop]
            omega
          · unfold wh
            rw [List.any_append, List.any_cons]
            simp
    · exact h.elim
theorem ok__law_is_whole (T : Txt K mg)  : FnAt P w K mg base CX0 "_law_is_whole" 2 ["_law_cell", "_law_k", "_law_many"] sp__law_is_whole := by
  refine T.d__law_is_whole.fn sc__law_is_whole bd__law_is_whole (fun vs H Q E h => ?_) fun f cdv A outer s H vs Q E HR h => ?_
  · unfold sp__law_is_whole at h; split at h <;> first | rfl | exact h.elim
  · unfold sp__law_is_whole at h
    split at h
    · rename_i c k m
      refine ⟨_, (pss_cons (ps_setQ (i := 3) sc__law_is_whole.nd rfl (Or.inl rfl) (pe_op op_mod (pv 0) pe_int))
  (pss_cons (ps_if (pt_cmpR (op_eqK K rfl HR.units) (pv 3) pe_int (nomark _)) (pss_one (ps_ret (pe_cmpR (op_eqK K rfl HR.units) (pv 1) (pe_op op_mod (pe_op op_fdiv (pv 0) pe_int) (pv 2)) (nomark _)))) pss_nil)
  (pss_hold (pss_cons (ps_if (pt_cmpR (op_eqK K rfl HR.units) (pv 3) pe_int (nomark _)) (pss_one (ps_ret pe_bl)) pss_nil)
  (pss_hold (pss_one (ps_ret (pe_cmpR (op_eqK K rfl HR.units) (pe_op op_mod (pe_fnQ (ok__law_mixed T) HR (by decide) rfl (pa_q (pe_op op_fdiv (pv 0) pe_int) (pa_q (pv 1) pa_nil))) (pe_ix (ix_B K rfl) (pe_lst (pa_q pe_int (pa_q pe_int (pa_q pe_int (pa_q pe_int (pa_q pe_int pa_nil)))))) (pv 3) (fun _ _ => rfl))) pe_int (nomark _))))))))), ?_⟩
      obtain ⟨⟨h0, h1⟩, q⟩ := h
      generalize h_u1 : tHold _ = u1
      walk_at "wps"
      split
      · exact ⟨h1, q _ H (Same.refl _)⟩
      rename_i c5
      rw [← h_u1, tHold]
      generalize h_u2 : tHold _ = u2
      walk_at "wps"
      split
      · exact q _ H (Same.refl _)
      rename_i c6
      rw [← h_u2, tHold]
      walk_at "wps"
      refine ⟨h0, fun v hv p hp => ?_⟩
      obtain ⟨x, ex, x0⟩ : ∃ x : Int, atI [V.int 1, V.int 2, V.int 3, V.int 7, V.int 20] (c % 7) = some (.int x) ∧ 0 < x := by
        have h4 : c % 7 = 0 ∨ c % 7 = 1 ∨ c % 7 = 2 ∨ c % 7 = 3 ∨ c % 7 = 4 := by omega
        rcases h4 with e | e | e | e | e <;> rw [e]
        · exact ⟨_, atI_0, by decide⟩
        · exact ⟨_, atI_1, by decide⟩
        · exact ⟨_, atI_2, by decide⟩
        · exact ⟨_, atI_3, by decide⟩
        · exact ⟨_, atI_4, by decide⟩
      refine ⟨_, ex, ?_⟩
      walk_at "wps"
      exact ⟨x0, q _ _ (same_upd hp)⟩
    · exact h.elim
theorem ok__law_none_whole (T : Txt K mg)  : FnAt P w K mg base CX0 "_law_none_whole" 1 ["_law_deeds", "_law_start", "_law_many"] sp__law_none_whole := by
  refine T.d__law_none_whole.fn sc__law_none_whole bd__law_none_whole (fun vs H Q E h => ?_) fun f cdv A outer s H vs Q E HR h => ?_
  · unfold sp__law_none_whole at h; split at h <;> first | rfl | exact h.elim
  · unfold sp__law_none_whole at h
    split at h
    · rename_i l s n
      refine ⟨_, (pss_cons (ps_for PassesOwn.never rfl (pj_range2 rfl T.b_range (pa_q (pv 1) (pa_q (pe_op (op_addK K rfl) (pv 1) (pv 2)) pa_nil))) (pg_name (i := 3) sc__law_none_whole.nd rfl (Or.inl rfl)) (pss_one (ps_if (pt_q (pe_callBQ (call_anyK K rfl rfl) (by rfl) T.b_any bt_any (pa_q (pe_comp (N := (["_law_delay", "_law_place", "_law_run"] : List Str)) (nv := 3) (ix := []) rfl (cs_of (by kernel_rfl)) (pi_seqK K rfl (pe_ix (ix_B K rfl) (pv 0) (pe_op op_mod (pv 3) (pe_callBQ (call_lenB K rfl) (by rfl) T.b_len bt_len (pa_q (pv 0) pa_nil))) (fun _ _ => rfl))) (fun _ _ _ _ _ => (pg_tupB K (n := 3) rfl rfl (pgs_q (pg_name (i := 0) (show ((["_law_delay", "_law_place", "_law_run"] : List Str)).Nodup by decide) rfl (Or.inl rfl)) (pgs_q (pg_name (i := 1) (show ((["_law_delay", "_law_place", "_law_run"] : List Str)).Nodup by decide) rfl (Or.inl rfl)) (pgs_q (pg_name (i := 2) (show ((["_law_delay", "_law_place", "_law_run"] : List Str)).Nodup by decide) rfl (Or.inl rfl)) pgs_nil))))) (fun _ _ _ _ _ => pts_nil) (fun _ _ _ _ _ => (pe_cmpR (op_eqK K rfl HR.units) (pv 2) pe_int (nomark _)))) pa_nil))) (pss_one (ps_ret pe_bl)) pss_nil)))
  (pss_hold (pss_one (ps_ret pe_bl)))), ?_⟩
      obtain ⟨ds, s', n', ⟨ys, hl, hp⟩, rfl, rfl, hs, hn, h0, hd, q⟩ := h
      have pl := paired_len hp
      have wl : (ds.map wh).length = ds.length := List.length_map ..
      generalize h_u1 : tHold _ = u1
      walk_at "wps"
      refine ⟨by omega, ?_⟩
      rw [show ((s' : Int) + (n' : Int) - (s' : Int)).toNat = n' by omega]
      refine fo_rng (lo := (s' : Int)) (n := n') (fun i σ H' => Same H H' ∧ noneW (ds.map wh) s' i = true ∧ ∃ v, σ = [some (V.ref l), some (V.int (s' : Int)), some (V.int (n' : Int)), v]) ⟨Same.refl _, rfl, _, rfl⟩ (fun i σ H' hi h => ?_) (fun σ H' h => ?_)
      · obtain ⟨sm, nw, v, rfl⟩ := h
        have hl' := sm _ _ hl
        have ek : ((s' : Int) + (i : Int)) % (ys.length : Int) = (((s' + i) % ds.length : Nat) : Int) := by rw [pl]; push_cast; rfl
        have kl : (s' + i) % ds.length < ys.length := by rw [pl]; exact Nat.mod_lt _ h0
        obtain ⟨x, hx⟩ : ∃ x, ys[(s' + i) % ds.length]? = some x := ⟨_, List.getElem?_eq_getElem kl⟩
        obtain ⟨d, hdi, l', xs, rfl, hxs, hpd⟩ := paired_at hp hx
        have ew : W (ds.map wh) (s' + i) = wh d := by unfold W; rw [wl, List.getD_eq_getElem?_getD, List.getElem?_map, hdi]; rfl
        have hd' := hd d (List.mem_of_getElem? hdi)
        exists hl'
        refine ⟨by omega, .ref l', by rw [ek]; exact atI_n hx, ?_⟩
        have hpd' := L2.Paired.imp' (fun _ _ q => q.same sm) hpd
        have hxs' := sm _ _ hxs
        have pld := paired_len hpd
        refine co_listH (SqL.of hxs') (small_ok (by omega)) (fun j zs σ H2 => H2 = H' ∧ zs = (d.take j).map (fun c => V.bl (decide (c.2.2 = 0))) ∧ ∃ v1 v2 v3, σ = [v1, v2, v3]) ⟨rfl, by simp, _, _, _, rfl⟩ (fun i ys σ H' h => by rw [h.2.1, List.length_map, List.length_take]; exact Nat.min_le_left _ _) (fun i ys σ H' h => by rw [h.1]; exact SqL.of hxs') (fun j y zs σ H2 hy h => ?_) (fun zs σ H2 h => ?_)
        · obtain ⟨rfl, rfl, v1, v2, v3, rfl⟩ := h
          obtain ⟨c, hc, t, rfl, ht⟩ := paired_at hpd' hy
          exists ht
          exact ⟨by rw [List.take_add_one, hc, List.map_append]; rfl, _, _, _, rfl⟩
        · obtain ⟨rfl, rfl, v1, v2, v3, rfl⟩ := h
          rw [pld, List.take_length]
          refine ⟨small_ok (by rw [List.length_map]; omega), fun l2 hl2 => ⟨d.map (fun c => decide (c.2.2 = 0)), SqL.of (by rw [upd_same, List.map_map]; rfl), ?_⟩⟩
          have e : (d.map (fun c => decide (c.2.2 = 0))).any id = wh d := by unfold wh; rw [List.any_map]; rfl
          have sm2 : ∀ {o : HO}, Same H (upd H2 l2 o) := fun {o} b u e => upd_old (sm b u e) hl2
          rw [e]
          cases ewd : wh d
          · rw [if_neg (by decide)]
            exact ⟨sm2, noneW_s nw (by rw [ew, ewd]), _, rfl⟩
          · rw [if_pos rfl]
            have := q _ (sm2 (o := .lst (d.map (fun c => V.bl (decide (c.2.2 = 0))))))
            rw [none_f (k := s' + i) (by omega) (by omega) (by rw [ew, ewd])] at this
            exact this
      · obtain ⟨sm, nw, v, rfl⟩ := h
        show u1 _ _ _
        rw [← h_u1, tHold]
        walk_at "wps"
        have := q H' sm
        rw [nw] at this
        exact this
    · exact h.elim
theorem ok__law_right (T : Txt K mg)  : FnAt P w K mg base CX0 "_law_right" 2 ["_law_found", "_law_deeds"] sp__law_right := by
  refine T.d__law_right.fn sc__law_right bd__law_right (fun vs H Q E h => ?_) fun f cdv A outer s H vs Q E HR h => ?_
  · unfold sp__law_right at h; split at h <;> first | rfl | exact h.elim
  · unfold sp__law_right at h
    split at h
    · rename_i v l
      refine ⟨_, (pss_cons (ps_if (pt_cmpR (op_eqK K rfl HR.units) (pv 1) (pe_lst pa_nil) (nomark _)) (pss_one (ps_ret (pe_and (pe_fnQ (ok__law_whole T) HR (by decide) rfl (pa_q (pv 0) pa_nil)) (pe_one (pe_cmpR (op_eqK K rfl HR.units) (pv 0) pe_int (nomark _)))))) pss_nil)
  (pss_hold (pss_cons (ps_if (pt_q (pe_fnQ (ok__law_none_whole T) HR (by decide) rfl (pa_q (pv 1) (pa_q pe_int (pa_q (pe_callBQ (call_lenB K rfl) (by rfl) T.b_len bt_len (pa_q (pv 1) pa_nil)) pa_nil))))) (pss_one (ps_ret (pe_cmpR op_isNA (pv 0) pe_non (nomark _)))) pss_nil)
  (pss_hold (pss_cons (ps_if (PW.pt (pw_or (pt_not (pt_q (pe_fnQ (ok__law_whole T) HR (by decide) rfl (pa_q (pv 0) pa_nil)))) (pw_or (pt_cmpR op_lt (pv 0) pe_int (nomark _)) (pw_or1 (pt_cmpR op_gt (pv 0) (pe_callBQ (call_lenB K rfl) (by rfl) T.b_len bt_len (pa_q (pv 1) pa_nil)) (nomark _)))))) (pss_one (ps_ret pe_bl)) pss_nil)
  (pss_hold (pss_cons (ps_if (pt_q (pe_callBQ (call_anyK K rfl rfl) (by rfl) T.b_any bt_any (pa_q (pe_comp (N := (["_law_start", "_law_deeds", "_law_found"] : List Str)) (nv := 1) (ix := [1, 0]) rfl (cs_of (by kernel_rfl)) (pj_range1 rfl T.b_range (pa_q (pe_callBQ (call_lenB K rfl) (by rfl) T.b_len bt_len (pa_q (pv 1) pa_nil)) pa_nil)) (fun _ _ _ _ _ => (pg_name (i := 0) (show ((["_law_start", "_law_deeds", "_law_found"] : List Str)).Nodup by decide) rfl (Or.inl rfl))) (fun _ _ _ _ _ => pts_nil) (fun _ _ _ _ _ => (pe_fnQ (ok__law_none_whole T) HR (by decide) rfl (pa_q (pv 1) (pa_q (pv 0) (pa_q (pv 2) pa_nil)))))) pa_nil))) (pss_one (ps_ret pe_bl)) pss_nil)
  (pss_hold (pss_one (ps_ret (pe_callBQ (call_anyK K rfl rfl) (by rfl) T.b_any bt_any (pa_q (pe_comp (N := (["_law_start", "_law_deeds", "_law_found"] : List Str)) (nv := 1) (ix := [1, 0]) rfl (cs_of (by kernel_rfl)) (pj_range1 rfl T.b_range (pa_q (pe_callBQ (call_lenB K rfl) (by rfl) T.b_len bt_len (pa_q (pv 1) pa_nil)) pa_nil)) (fun _ _ _ _ _ => (pg_name (i := 0) (show ((["_law_start", "_law_deeds", "_law_found"] : List Str)).Nodup by decide) rfl (Or.inl rfl))) (fun _ _ _ _ _ => pts_nil) (fun _ _ _ _ _ => (pe_fnQ (ok__law_none_whole T) HR (by decide) rfl (pa_q (pv 1) (pa_q (pv 0) (pa_q (pe_op op_sub (pv 2) pe_int) pa_nil)))))) pa_nil)))))))))))), ?_⟩
      obtain ⟨ds, hr, hn, hd, hf, q⟩ := h
      have wl : (ds.map wh).length = ds.length := List.length_map ..
      generalize h_u1 : tHold _ = u1
      walk_at "wps"
      intro p hp
      have sm1 := same_upd (o := .lst []) hp
      have r1 := hr.same sm1
      have dn : Den K (upd H p (.lst [])) 3 (.ref p) (.l []) := .inr (.inl ⟨p, [], [], rfl, rfl, SqL.of upd_same, .nil⟩)
      generalize upd H p (.lst []) = H1 at *
      by_cases c0 : ds = []
      · subst c0
        refine ⟨3, _, _, by decide, r1.den, dn, .inl ⟨rfl, ?_⟩⟩
        rcases hf with ⟨_, rfl⟩ | ⟨a1, _⟩ | ⟨a1, _⟩
        · walk_at "wps"
          exact q H1 sm1
        · exact absurd rfl a1
        · exact absurd rfl a1
      refine ⟨3, _, _, by decide, r1.den, dn, .inr ⟨fun e => c0 (by injection e with e; exact List.map_eq_nil_iff.mp e), ?_⟩⟩
      have dp : 0 < ds.length := List.length_pos_iff.mpr c0
      walk_at "wps"
      obtain ⟨ys1, hy1, hp1⟩ := r1
      have pl := paired_len hp1
      rw [← h_u1, tHold]
      generalize h_u2 : tHold _ = u2
      exists hy1
      refine ⟨ds, 0, ds.length, ⟨ys1, hy1, hp1⟩, rfl, by rw [pl], by omega, by omega, dp, hd, fun H2 sm2 => ?_⟩
      have sm12 : Same H H2 := fun b o e => sm2 _ _ (sm1 b o e)
      have hw0 : ds.map wh ≠ [] := fun e => c0 (List.map_eq_nil_iff.mp e)
      have ein := idx_nil (ws := ds.map wh)
      rw [wl] at ein
      rcases hf with ⟨a1, _⟩ | ⟨a1, a2, rfl⟩ | ⟨a1, M, rfl, a3, a4⟩
      · exact absurd a1 hw0
      · rw [ein.mp a2, if_pos rfl]
        walk_at "wps"
        exact q H2 sm12
      have nf : noneW (ds.map wh) 0 ds.length = false := by
        cases e : noneW (ds.map wh) 0 ds.length with
        | false => rfl
        | true => exact absurd (ein.mpr e) a1
      rw [nf, if_neg (by decide)]
      obtain ⟨m1, m2, m3, s0, m4, m5⟩ := fair_ok a3 a4
      rw [wl] at m2 m3 m4
      have hy2 := sm2 _ _ hy1
      rw [← h_u2, tHold]
      generalize h_u3 : tHold _ = u3
      exists hy2
      rw [if_neg (by omega), if_neg (by rw [pl]; omega)]
      rw [← h_u3, tHold]
      generalize h_u4 : tHold _ = u4
      exists hy2
      have row : ∀ (f : Int) (H3 : Hp), f = M ∨ f = M - 1 → Same H2 H3 → ∀ Q' : List V → Hp → Prop, (∀ H4, Same H3 H4 → Q' ((List.range ds.length).map fun s => V.bl (noneW (ds.map wh) s f.toNat)) H4) → compR (Itr 0 (ys1.length : Int).toNat) (gName 0) tYes (tCall sp__law_none_whole [] E0 (tCons (tVar 1) (tCons (tVar 0) (tCons (tVar 2) tNil)))) [none, some (V.ref l), some (V.int f)] H3 Q' := by
        intro f H3 ef sm3 Q' q'
        rw [show (ys1.length : Int).toNat = ds.length by omega]
        refine co_rngH (fun i zs σ H4 => Same H3 H4 ∧ zs = (List.range i).map (fun s => V.bl (noneW (ds.map wh) s f.toNat)) ∧ ∃ v, σ = [v, some (V.ref l), some (V.int f)]) ⟨Same.refl _, by simp, _, rfl⟩ (small_ok (by omega)) (fun i zs σ H' h => by rw [h.2.1, List.length_map, List.length_range]; exact Nat.le_refl _) (fun i zs σ H4 hi h => ?_) (fun zs σ H4 h => ?_)
        · obtain ⟨sm4, rfl, v, rfl⟩ := h
          have smA : Same H1 H4 := fun b o e => sm4 _ _ (sm3 _ _ (sm2 b o e))
          walk_at "wps"
          refine ⟨ds, i, f.toNat, RwAt.same smA ⟨ys1, hy1, hp1⟩, by omega, by omega, by omega, by omega, dp, hd, fun H5 sm5 => ⟨fun b o e => sm5 _ _ (sm4 b o e), ?_, _, rfl⟩⟩
          rw [List.range_succ, List.map_append]
          rfl
        · obtain ⟨sm4, rfl, v, rfl⟩ := h
          exact q' H4 sm4
      refine ⟨by omega, row M H2 (.inl rfl) (Same.refl _) _ fun H4 sm4 => ⟨small_ok (by rw [List.length_map, List.length_range]; omega), fun l5 hl5 => ⟨(List.range ds.length).map (fun s => noneW (ds.map wh) s M.toNat), SqL.of (by rw [upd_same, List.map_map]; rfl), ?_⟩⟩⟩
      have an : ((List.range ds.length).map (fun s => noneW (ds.map wh) s M.toNat)).any id = false := by
        rw [List.any_eq_false]
        intro x hx
        obtain ⟨s, hs, rfl⟩ := List.mem_map.mp hx
        rw [m3 s (List.mem_range.mp hs)]
        decide
      rw [an, if_neg (by decide)]
      have sm5 : Same H2 (upd H4 l5 (.lst ((List.range ds.length).map fun s => V.bl (noneW (ds.map wh) s M.toNat)))) := fun b o e => upd_old (sm4 b o e) hl5
      generalize upd H4 l5 (.lst ((List.range ds.length).map fun s => V.bl (noneW (ds.map wh) s M.toNat))) = H5 at *
      have hy5 := sm5 _ _ hy2
      rw [← h_u4, tHold]
      exists hy5
      refine ⟨by omega, ?_⟩
      rw [show (ys1.length : Int).toNat = ds.length by omega]
      refine co_rngH (fun i zs σ H6 => Same H5 H6 ∧ zs = (List.range i).map (fun s => V.bl (noneW (ds.map wh) s (M - 1).toNat)) ∧ ∃ v, σ = [v, some (V.ref l), some (V.int M)]) ⟨Same.refl _, by simp, _, rfl⟩ (small_ok (by omega)) (fun i zs σ H' h => by rw [h.2.1, List.length_map, List.length_range]; exact Nat.le_refl _) (fun i zs σ H6 hi h => ?_) (fun zs σ H6 h => ?_)
      · obtain ⟨sm6, rfl, v, rfl⟩ := h
        have smA : Same H1 H6 := fun b o e => sm6 _ _ (sm5 _ _ (sm2 b o e))
        walk_at "wps"
        refine ⟨ds, i, (M - 1).toNat, RwAt.same smA ⟨ys1, hy1, hp1⟩, by omega, by omega, by omega, by omega, dp, hd, fun H7 sm7 => ⟨fun b o e => sm7 _ _ (sm6 b o e), ?_, _, rfl⟩⟩
        rw [List.range_succ, List.map_append]
        rfl
      · obtain ⟨sm6, rfl, v, rfl⟩ := h
        refine ⟨small_ok (by rw [List.length_map, List.length_range]; omega), fun l7 hl7 => ⟨(List.range ds.length).map (fun s => noneW (ds.map wh) s (M - 1).toNat), SqL.of (by rw [upd_same, List.map_map]; rfl), ?_⟩⟩
        have an1 : ((List.range ds.length).map (fun s => noneW (ds.map wh) s (M - 1).toNat)).any id = true := List.any_eq_true.mpr ⟨_, List.mem_map.mpr ⟨s0, List.mem_range.mpr m4, rfl⟩, m5⟩
        rw [an1]
        exact q _ (fun b o e => upd_old (sm6 _ _ (sm5 _ _ (sm12 b o e))) hl7)
    · exact h.elim
theorem ok__law_row (T : Txt K mg)  : FnAt P w K mg base CX0 "_law_row" 3 ["_law_many", "_law_cell", "_law_other"] sp__law_row := by
  refine T.d__law_row.fn sc__law_row bd__law_row (fun vs H Q E h => ?_) fun f cdv A outer s H vs Q E HR h => ?_
  · unfold sp__law_row at h; split at h <;> first | rfl | exact h.elim
  · unfold sp__law_row at h
    split at h
    · rename_i m c o
      refine ⟨_, (pss_one (ps_ret (pe_comp (N := (["_law_k", "_law_other", "_law_cell", "_law_many"] : List Str)) (nv := 1) (ix := [2, 1, 0]) rfl (cs_of (by kernel_rfl)) (pj_range1 rfl T.b_range (pa_q (pv 0) pa_nil)) (fun _ _ _ _ _ => (pg_name (i := 0) (show ((["_law_k", "_law_other", "_law_cell", "_law_many"] : List Str)).Nodup by decide) rfl (Or.inl rfl))) (fun _ _ _ _ _ => pts_nil) (fun _ _ _ _ _ => (pe_fnQ (ok__law_deed T) HR (by decide) rfl (pa_q (pv 1) (pa_q (pv 0) (pa_q (pe_fnQ (ok__law_is_whole T) HR (by decide) rfl (pa_q (pv 2) (pa_q (pv 0) (pa_q (pv 3) pa_nil)))) pa_nil)))))))), ?_⟩
      obtain ⟨⟨h0, h1⟩, q⟩ := h
      walk_at "wps"
      refine ⟨by omega, ?_⟩
      refine co_rngH (fun i ys σ H' => Same H H' ∧ (∃ ds, Paired (DdAt H') ys ds ∧ ds.length = i ∧ ∀ d ∈ ds, d.length ≤ 3) ∧ ∃ v, σ = [v, some (V.int o), some (V.int c), some (V.int m)]) ⟨Same.refl _, ⟨[], .nil, rfl, fun d hd => absurd hd (by simp)⟩, _, rfl⟩ (small_ok (by omega)) (fun i ys σ H' h => by obtain ⟨_, ⟨ds, h2, h3, _⟩, _⟩ := h; rw [paired_len h2, h3]; exact Nat.le_refl _) (fun i ys σ H' hi h => ?_) (fun ys σ H' h => ?_)
      · obtain ⟨sm, ⟨ds, h2, h3, h4⟩, v, rfl⟩ := h
        walk_at "wps"
        refine ⟨⟨by omega, by omega⟩, fun b H2 sm2 => ⟨by omega, fun p d H3 sm3 hp hdd hdl hw => ?_⟩⟩
        have sm4 : Same H' H3 := fun b o e => sm3 _ _ (sm2 b o e)
        exact ⟨fun b o e => sm4 _ _ (sm b o e), ⟨ds ++ [d], paired_snoc hdd (L2.Paired.imp' (fun _ _ q => q.same sm4) h2), by rw [List.length_append, h3]; rfl, fun d' hd' => by
          rcases List.mem_append.mp hd' with q | q
          · exact h4 d' q
          · rw [List.mem_singleton.mp q]; exact hdl⟩, _, rfl⟩
      · obtain ⟨sm, ⟨ds, h2, h3, h4⟩, v, rfl⟩ := h
        refine ⟨small_ok (by rw [paired_len h2]; omega), fun l hl => ?_⟩
        exact q l ds _ (fun b o e => upd_old (sm b o e) hl) (free_of sm hl) ⟨ys, upd_same, L2.Paired.imp' (fun _ _ q => q.same (same_upd hl)) h2⟩ (by omega) h4
    · exact h.elim
theorem ok_law (T : Txt K mg) : FnAt P w K mg base CX0 "law" 4 ["_law_script"] (spLaw K) := by
  refine T.d_law.fn sc_law bd_law (fun vs H Q E h => ?_) fun f cdv A outer s H vs Q E HR h => ?_
  · unfold spLaw at h; split at h <;> first | rfl | exact h.elim
  · unfold spLaw at h
    split at h
    · rename_i a
      obtain ⟨ns, hS, hl, _, q⟩ := h
      refine ⟨_, (pss_cons (ps_setQ (i := 1) sc_law.nd rfl (Or.inl rfl) (pe_fnQ (ok__law_row T) HR (by decide) rfl (pa_q (pe_op op_mod (pe_fnQ (ok__law_cell_at T a ns) HR (by decide) rfl (pa_q (pv 0) (pa_q pe_int pa_nil))) pe_int) (pa_q (pe_fnQ (ok__law_cell_at T a ns) HR (by decide) rfl (pa_q (pv 0) (pa_q pe_int pa_nil))) (pa_q (pe_fnQ (ok__law_cell_at T a ns) HR (by decide) rfl (pa_q (pv 0) (pa_q pe_int pa_nil))) pa_nil)))))
  (pss_hold (pss_cons (ps_setQ (i := 2) sc_law.nd rfl (Or.inl rfl) (pe_fnQ (ok__law_row T) HR (by decide) rfl (pa_q (pe_op op_mod (pe_fnQ (ok__law_cell_at T a ns) HR (by decide) rfl (pa_q (pv 0) (pa_q pe_int pa_nil))) pe_int) (pa_q (pe_fnQ (ok__law_cell_at T a ns) HR (by decide) rfl (pa_q (pv 0) (pa_q pe_int pa_nil))) (pa_q (pe_fnQ (ok__law_cell_at T a ns) HR (by decide) rfl (pa_q (pv 0) (pa_q pe_int pa_nil))) pa_nil)))))
  (pss_hold (pss_cons (ps_setc (i := 3) (N := (["_law_deed_here"] : List Str)) (nv := 1) (ix := []) rfl sc_law.nd rfl rfl (cs_of (by kernel_rfl)) (pi_seqK K rfl (pv 1)) (fun _ _ _ _ _ => (pg_name (i := 0) (show ((["_law_deed_here"] : List Str)).Nodup by decide) rfl (Or.inl rfl))) (fun _ _ _ _ _ => pts_nil) (fun _ _ _ _ _ => (pe_callTyQ (call_listK K rfl) (by rfl) T.b_list bt_list (pa_q (pv 0) pa_nil))))
  (pss_hold (pss_cons (ps_setQ (i := 4) sc_law.nd rfl (Or.inl rfl) (pe_fnQ (ok_fairness T) HR (by decide) rfl (pa_q (pv 3) pa_nil)))
  (pss_hold (pss_cons (ps_if (PW.pt (pw_or (pt_not (pt_q (pe_fnQ (ok__law_right T) HR (by decide) rfl (pa_q (pv 4) (pa_q (pv 1) pa_nil))))) (pw_or1 (pt_not (pt_q (pe_fnQ (ok__law_right T) HR (by decide) rfl (pa_q (pe_fnQ (ok_fairness T) HR (by decide) rfl (pa_q (pv 2) pa_nil)) (pa_q (pv 2) pa_nil)))))))) (pss_one (ps_ret pe_bl)) pss_nil)
  (pss_hold (pss_one (ps_ret (pe_and (pe_cmpR (op_eqK K rfl HR.units) (pv 3) (pv 1) (nomark _)) (pe_one (pe_cmpR (op_eqK K rfl HR.units) (pe_fnQ (ok_fairness T) HR (by decide) rfl (pa_q (pv 3) pa_nil)) (pv 4) (nomark _)))))))))))))))), ?_⟩
      generalize h_ua : tHold _ = ua
      walk_at "wps"
      refine ⟨hS, fun c0 => ⟨hS, fun c1 => ⟨hS, fun c2 => ⟨by omega, fun l ds H1 sm1 hl0 r1 n1 d1 => ?_⟩⟩⟩⟩
      have hS1 := same_lst sm1 hS
      rw [← h_ua, tHold]
      generalize h_ub : tHold _ = ub
      walk_at "wps"
      refine ⟨hS1, fun c3 => ⟨hS1, fun c4 => ⟨hS1, fun c5 => ⟨by omega, fun l2 ds2 H2 sm2 hl20 r2 n2 d2 => ?_⟩⟩⟩⟩
      obtain ⟨ys, hys, hps⟩ := r1.same sm2
      have pl := paired_len hps
      rw [← h_ub, tHold]
      generalize h_uc : tHold _ = uc
      walk_at "wps"
      refine co_listH (SqL.of hys) (small_ok (by omega)) (fun i zs σ H' => Same H2 H' ∧ Paired (DdAt H') zs (ds.take i) ∧ ∃ v, σ = [v]) ⟨Same.refl _, by simp; exact .nil, _, rfl⟩ (fun i zs σ H' h => by rw [paired_len h.2.1, List.length_take]; exact Nat.min_le_left _ _) (fun i zs σ H' h => SqL.of (h.1 _ _ hys)) (fun i x zs σ H' hx h => ?_) (fun zs σ H' h => ?_)
      · obtain ⟨sm3, hz, v, rfl⟩ := h
        obtain ⟨d, hdi, l', xs, rfl, hl', hpd⟩ := paired_at hps hx
        walk_at "wps"
        refine ⟨xs, .inl (SqL.of (sm3 _ _ hl')), fun l'' hl'' => ?_⟩
        have sm4 := same_upd (o := .lst xs) hl''
        refine ⟨fun b o e => sm4 _ _ (sm3 b o e), ?_, _, rfl⟩
        rw [List.take_add_one, hdi]
        exact paired_snoc ⟨l'', xs, rfl, upd_same, L2.Paired.imp' (fun _ _ q => (q.same sm3).same sm4) hpd⟩ (L2.Paired.imp' (fun _ _ q => q.same sm4) hz)
      obtain ⟨sm3, hz, v, rfl⟩ := h
      rw [List.take_of_length_le (by omega)] at hz
      have zl := paired_len hz
      refine ⟨small_ok (by omega), fun l3 hl3 => ?_⟩
      have sm4 := same_upd (o := .lst zs) hl3
      have r4 : RwAt (upd H' l3 (.lst zs)) l3 ds := ⟨zs, upd_same, L2.Paired.imp' (fun _ _ q => q.same sm4) hz⟩
      have r4d := (r1.same sm2).same (fun b o e => sm4 _ _ (sm3 b o e))
      have r4o := r2.same (fun b o e => sm4 _ _ (sm3 b o e))
      generalize upd H' l3 (.lst zs) = H4 at *
      have d1' : ∀ d ∈ ds, d.length ≤ 100 := fun d hd => by have := d1 d hd; omega
      have d2' : ∀ d ∈ ds2, d.length ≤ 100 := fun d hd => by have := d2 d hd; omega
      rw [← h_uc, tHold]
      generalize h_ud : tHold _ = ud
      walk_at "wps"
      refine ⟨ds, r4, n1, d1', fun v5 H5 sm5 fr5 => ?_⟩
      rw [← h_ud, tHold]
      generalize h_ue : tHold _ = ue
      walk_at "wps"
      refine ⟨ds, r4d.same sm5, n1, d1', fr5, fun H6 sm6 => ⟨ds2, (r4o.same sm5).same sm6, n2, d2', fun v7 H7 sm7 fr7 => ⟨ds2, ((r4o.same sm5).same sm6).same sm7, n2, d2', fr7, fun H8 sm8 => ?_⟩⟩⟩
      have smA : Same H4 H8 := fun b o e => sm8 _ _ (sm7 _ _ (sm6 _ _ (sm5 b o e)))
      rw [← h_ue, tHold]
      walk_at "wps"
      refine ⟨3, _, _, by decide, (r4.same smA).den, (r4d.same smA).den, .inl ⟨rfl, ?_⟩⟩
      walk_at "wps"
      refine ⟨ds, r4.same smA, n1, d1', fun v9 H9 sm9 fr9 => ?_⟩
      rw [fr9.uniq fr5]
      rcases fr5.kind with rfl | ⟨i, rfl⟩
      · exact ⟨rfl, by simpa using q _⟩
      · walk_at "wps"
        exact q _
    · exact h.elim
end
theorem fin {P : Program} {w : World} {K : PySem.W.Frag} {h : Heap} {mg : Str → Option Value} {fa : Addr} (KX : K.In h) (G : h.Ns mainGlobals mg) (hmg : mg "law" = some (.ref fa)) (T : Txt K mg) :
    ∃ fd : FuncData, (∀ (s : Shared) (u : Value), BindsTo s fd ⟨[u], []⟩ [("_law_script", u)]) ∧ ∀ base : Heap, K.In base → base.Ns mainGlobals mg → FnOk P w K mg base CX0 4 fa fd ["_law_script"] (spLaw K) :=
  law_fin hmg T.d_law bd_law fun base => ok_law T
end K22
open PySem PySem.W PyProof.Rows
set_option maxRecDepth 100000 in
set_option maxHeartbeats 0 in
theorem PySem.Challenge.cw_slowroad_k22_fairness_holds : PySem.Challenge.rw_slowroad_k22_fairness.Holds := by
  w_on; o_law; k_head; (case hw => w_witness2)
  k_fill
  refine L2.law_walk (l := PySem.Challenge.rw_slowroad_k22_fairness) (k := 4) (x := "_law_script") rfl rfl ⟨rfl, by decide, by decide⟩ (fun w h Y => PySem.W.kIn_of Y) ?F
  case F =>
    intro w mg fa h KX G hmg
    refine K22.fin KX G hmg ?TT
    case TT =>
      refine K22.Txt.mk ?d_has_whole_copy ?d_fairness ?d__law_whole ?d__law_cell_at ?d__law_mixed ?d__law_copy ?d__law_deed ?d__law_is_whole ?d__law_none_whole ?d__law_right ?d__law_row ?d_law ?b_any ?b_bool ?b_enumerate ?b_int ?b_isinstance ?b_len ?b_list ?b_max ?b_range ?b_zip
      case d_has_whole_copy => refine' L2.defat_mk KX G ?a ?l ?c ?k; (case a => k_is); (case l => k_is); (case c => k_is); (case k => k_is)
      case d_fairness => refine' L2.defat_mk KX G ?a ?l ?c ?k; (case a => k_is); (case l => k_is); (case c => k_is); (case k => k_is)
      case d__law_whole => refine' L2.defat_mk KX G ?a ?l ?c ?k; (case a => k_is); (case l => k_is); (case c => k_is); (case k => k_is)
      case d__law_cell_at => refine' L2.defat_mk KX G ?a ?l ?c ?k; (case a => k_is); (case l => k_is); (case c => k_is); (case k => k_is)
      case d__law_mixed => refine' L2.defat_mk KX G ?a ?l ?c ?k; (case a => k_is); (case l => k_is); (case c => k_is); (case k => k_is)
      case d__law_copy => refine' L2.defat_mk KX G ?a ?l ?c ?k; (case a => k_is); (case l => k_is); (case c => k_is); (case k => k_is)
      case d__law_deed => refine' L2.defat_mk KX G ?a ?l ?c ?k; (case a => k_is); (case l => k_is); (case c => k_is); (case k => k_is)
      case d__law_is_whole => refine' L2.defat_mk KX G ?a ?l ?c ?k; (case a => k_is); (case l => k_is); (case c => k_is); (case k => k_is)
      case d__law_none_whole => refine' L2.defat_mk KX G ?a ?l ?c ?k; (case a => k_is); (case l => k_is); (case c => k_is); (case k => k_is)
      case d__law_right => refine' L2.defat_mk KX G ?a ?l ?c ?k; (case a => k_is); (case l => k_is); (case c => k_is); (case k => k_is)
      case d__law_row => refine' L2.defat_mk KX G ?a ?l ?c ?k; (case a => k_is); (case l => k_is); (case c => k_is); (case k => k_is)
      case d_law => refine' L2.defat_mk KX G ?a ?l ?c ?k; (case a => k_is); (case l => k_is); (case c => k_is); (case k => k_is)
      case b_any => refine' PySem.W.mg_none_of KX G ?a; (case a => k_is)
      case b_bool => refine' PySem.W.mg_none_of KX G ?a; (case a => k_is)
      case b_enumerate => refine' PySem.W.mg_none_of KX G ?a; (case a => k_is)
      case b_int => refine' PySem.W.mg_none_of KX G ?a; (case a => k_is)
      case b_isinstance => refine' PySem.W.mg_none_of KX G ?a; (case a => k_is)
      case b_len => refine' PySem.W.mg_none_of KX G ?a; (case a => k_is)
      case b_list => refine' PySem.W.mg_none_of KX G ?a; (case a => k_is)
      case b_max => refine' PySem.W.mg_none_of KX G ?a; (case a => k_is)
      case b_range => refine' PySem.W.mg_none_of KX G ?a; (case a => k_is)
      case b_zip => refine' PySem.W.mg_none_of KX G ?a; (case a => k_is)
#print axioms PySem.Challenge.cw_slowroad_k22_fairness_holds


