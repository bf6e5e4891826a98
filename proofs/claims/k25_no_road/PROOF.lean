import PyProof.Rows.All
import Wide.All
import OpenK.AllK
import Wide.FinOn
import PyProof.EqAt
import PyProof.EqKinds
import PyProof.TupleCall
import PyProof.NeKinds
import PyProof.Rows.BitMore
import PyProof.FitsBits
import PyProof.Rows.TupAssign
import PyProof.ListRange
import PyProof.Rows.ZipGen
import PyProof.StationsW
import PyProof.ExcInit
import PyProof.ExcClass2
import PyProof.RulesTry
import PyProof.ExcBaseAll.ValueError
import PyProof.InstStoreFacts
import PyProof.RulesAs
import PyProof.RulesDel
import PyProof.ExcArgs
import KE.KUnpack
import PyProof.Draws
import PyProof.EnumMake
import Lean
import PySem.Challenge.RW_slowroad_k25_no_road
set_option Elab.async false
set_option linter.all false
set_option compiler.extract_closed false
-- CHANGE: your row's module here, as the last of these rows
set_option maxRecDepth 100000
namespace L2
open PySem PySem.Spec PyProof.Rows

/-- a key: an int or a str -/
noncomputable abbrev Key := Sum Int Str
noncomputable def keyIs : Key → Value → Bool
  | .inl k, v => Value.isInt k v
  | .inr x, v => Value.isStrOf x v
noncomputable def keyH (w : World) : Key → Int
  | .inl k => hashInt k
  | .inr x => hashStr w x
theorem keyIs_shape : ∀ {k : Key} {v : Value}, keyIs k v = true → (∃ i t, k = Sum.inl i ∧ v = Value.int i t) ∨ (∃ x t, k = Sum.inr x ∧ v = Value.str x t)
  | .inl i, v, h => by
    obtain ⟨t, e⟩ := Value.isInt_shape (k := i) (v := v) h
    exact .inl ⟨i, t, rfl, e⟩
  | .inr x, v, h => by
    obtain ⟨t, e⟩ := Value.isStrOf_shape (x := x) (v := v) h
    exact .inr ⟨x, t, rfl, e⟩
theorem key_ll (a b : Int) : decide ((Sum.inl a : Key) = Sum.inl b) = (a == b) := by
  by_cases e : a = b
  · subst e; simp
  · have h : ¬ (Sum.inl a : Key) = Sum.inl b := fun q => e (Sum.inl.inj q)
    rw [decide_eq_false h]
    exact (beq_eq_false_iff_ne.mpr e).symm
theorem key_rr (a b : Str) : decide ((Sum.inr a : Key) = Sum.inr b) = decide (a = b) := by
  by_cases e : a = b
  · subst e; simp
  · have h : ¬ (Sum.inr a : Key) = Sum.inr b := fun q => e (Sum.inr.inj q)
    rw [decide_eq_false h, decide_eq_false e]
theorem key_lr (a : Int) (b : Str) : decide ((Sum.inl a : Key) = Sum.inr b) = false := decide_eq_false (fun q => nomatch q)
theorem key_rl (a : Str) (b : Int) : decide ((Sum.inr a : Key) = Sum.inl b) = false := decide_eq_false (fun q => nomatch q)

noncomputable def mixKind (prog : Program) (w : World) : PySem.KeyKind prog w Key where
  is := keyIs
  hash := keyH w
  inj := fun v a b ha hb => by
    rcases keyIs_shape ha with ⟨i, t, rfl, rfl⟩ | ⟨x, t, rfl, rfl⟩
    · rcases keyIs_shape hb with ⟨j, u, rfl, e⟩ | ⟨y, u, rfl, e⟩
      · injection e with e1 _; rw [e1]
      · exact nomatch e
    · rcases keyIs_shape hb with ⟨j, u, rfl, e⟩ | ⟨y, u, rfl, e⟩
      · exact nomatch e
      · injection e with e1 _; rw [e1]
  byValue := fun k v h => by
    rcases keyIs_shape h with ⟨i, t, rfl, rfl⟩ | ⟨x, t, rfl, rfl⟩ <;> rfl
  pyHash := fun hv h => by
    rcases keyIs_shape hv with ⟨i, t, rfl, rfl⟩ | ⟨x, t, rfl, rfl⟩
    · exact wpAny_pyHash_int h
    · exact wpAny_pyHash_str h
  eqBool := fun hu hv h => by
    rcases keyIs_shape hu with ⟨i, t, rfl, rfl⟩ | ⟨x, t, rfl, rfl⟩
    · rcases keyIs_shape hv with ⟨j, u, rfl, rfl⟩ | ⟨y, u, rfl, rfl⟩
      · rw [key_ll] at h; exact wpAny_eqBool_int h
      · rw [key_lr] at h; exact SeqAt.EqAt.int_str i t y u _ _ _ _ h
    · rcases keyIs_shape hv with ⟨j, u, rfl, rfl⟩ | ⟨y, u, rfl, rfl⟩
      · rw [key_rl] at h; exact SeqAt.EqAt.str_int x t j u _ _ _ _ h
      · rw [key_rr] at h; exact wpAny_eqBool_str h
  «strs» := fun k x t v h => by
    rcases keyIs_shape h with ⟨i, u, rfl, e⟩ | ⟨y, u, rfl, e⟩
    · exact nomatch e
    · injection e with e1 _
      subst e1
      cases v <;> rfl

end L2

namespace L2
open PySem PySem.Spec PyProof.Rows

/-- a value, without the heap -/
inductive V where
  | non | bl (b : Bool) | int (i : Int) | str (x : Str) | byt (b : Array UInt8) | flt (b : UInt64) | ref (a : Addr) | ty (n : String)
  deriving DecidableEq

noncomputable def RelV : V → Value → Prop
  | .non, u => u = Value.none
  | .bl b, u => u = Value.bool b
  | .int i, u => ∃ t, u = Value.int i t
  | .str x, u => ∃ t, u = Value.str x t
  | .byt b, u => ∃ t, u = Value.bytes b t
  | .flt b, u => ∃ t, u = Value.float b t
  | .ref a, u => u = Value.ref a
  | .ty n, u => u = Value.type n

noncomputable abbrev Vals : List V → List Value → Prop := Paired RelV
theorem Vals.length {xs : List V} {us : List Value} (r : Vals xs us) : xs.length = us.length := Paired.length r
theorem Vals.get : ∀ {xs : List V} {us : List Value} {i : Nat} {x : V}, Vals xs us → xs[i]? = some x → ∃ u, us[i]? = some u ∧ RelV x u
  | _, _, _, _, .nil, e => by simp at e
  | _, _, 0, _, .cons r _, e => by simp at e; subst e; exact ⟨_, rfl, r⟩
  | _, _, i + 1, x, .cons _ t, e => by
    obtain ⟨u, h1, h2⟩ := Vals.get (i := i) (x := x) t (by simpa using e)
    exact ⟨u, by simpa using h1, h2⟩
theorem Vals.set {x : V} {u : Value} (r : RelV x u) : ∀ {xs : List V} {us : List Value} (i : Nat), Vals xs us → Vals (xs.set i x) (us.set i u)
  | _, _, _, .nil => .nil
  | _, _, 0, .cons _ t => .cons r t
  | _, _, i + 1, .cons q t => .cons q (Vals.set r i t)
theorem Vals.append : ∀ {xs ys : List V} {us ws : List Value}, Vals xs us → Vals ys ws → Vals (xs ++ ys) (us ++ ws)
  | _, _, _, _, .nil, s => s
  | _, _, _, _, .cons r t, s => .cons r (Vals.append t s)
noncomputable def RelO : Option V → Option Value → Prop
  | some v, some u => RelV v u
  | none, none => True
  | _, _ => False
noncomputable def KV {κ : Type} : List (κ × V) → List (κ × Value) → Prop := Paired fun (p : κ × V) (q : κ × Value) => p.1 = q.1 ∧ RelV p.2 q.2

/-- a key of a dict (00_mix): an int or a text -/
noncomputable def kV : Key → V
  | .inl i => .int i
  | .inr x => .str x

/-- what stands at a tracked address -/
inductive HO where
  /-- a list -/
  | lst (xs : List V)
  /-- a tuple (never changes) -/
  | tup (xs : List V)
  /-- a dict whose keys are ints and texts; one whose keys are tuples of ints and texts (the empty one is both) -/
  | dK (kvs : List (Key × V)) | dT (kvs : List (List Key × V))
  /-- a set of ints: its members, its size -/
  | set (S : Int → Bool) (n : Nat)
  /-- an instance of the class at C, its dict at dx, its attributes -/
  | ins (C dx : Addr) (fs : List (Str × V))
  /-- the dict of the instance at x -/
  | own (x : Addr)
  /-- the dict of an exception -/
  | xd (fs : List (Str × V))
  /-- a bound method, f of x -/
  | met (f x : Addr)
  /-- a range object lo, lo + 1, .. below hi -/
  | rng (lo hi : Int)
  /-- a thing that is known to the object (the script; a dict while a loop walks it): read, never written while it is so -/
  | frz (o : Obj) (u : HO)
  /-- a code object's table -/
  | tbl (ps : Array Value)
  /-- any other thing, by what is true of its one object (a def of one's own: SetO a S n := HO.ext fun h => ..) -/
  | ext (φ : Heap → Prop)

noncomputable abbrev Hp := Addr → Option HO
noncomputable def upd (H : Hp) (a : Addr) (o : HO) : Hp := fun b => if b = a then some o else H b
theorem upd_same {H : Hp} {a : Addr} {o : HO} : upd H a o a = some o := by unfold upd; rw [if_pos rfl]
theorem upd_ne {H : Hp} {a b : Addr} {o : HO} (h : b ≠ a) : upd H a o b = H b := by unfold upd; rw [if_neg h]
theorem upd_upd {H : Hp} {a : Addr} {o u : HO} : upd (upd H a o) a u = upd H a u := by
  funext b; unfold upd; split <;> rfl
theorem ne_of_none {H : Hp} {a b : Addr} {o : HO} (h : H a = some o) (h' : H b = none) : a ≠ b := by
  intro e; subst e; rw [h] at h'; cases h'

section
variable (P : Program) (w : World)
noncomputable def ObjOk (H : Hp) (h : Heap) (a : Addr) : HO → Prop
  | .lst xs => xs.length ≤ sizeLine ∧ ∃ (its : List Value) (n : Nat), Vals xs its ∧ h.get? a = some { cls := .type "list", data := .seq its.toArray n }
  | .tup xs => xs.length ≤ sizeLine ∧ ∃ its : List Value, Vals xs its ∧ IsTup h a its.toArray
  | .dK kvs => kvs.length ≤ sizeLine ∧ (a == sysModules) = false ∧ ∃ vs, KV kvs vs ∧ h.DictOf (mixKind P w) a vs
  | .dT kvs => kvs.length ≤ sizeLine ∧ (a == sysModules) = false ∧ ∃ xs : List (List Key × Addr × Value),
      Paired (fun (p : List Key × V) (q : List Key × Addr × Value) => p.1 = q.1 ∧ H q.2.1 = some (.tup (p.1.map kV)) ∧ RelV p.2 q.2.2) kvs xs ∧
      ∃ o es ep, h.get? a = some o ∧ o.ExactDict ∧ o.data = .dict es ep ∧ es.toList = xs.map (entryOfKey (tupleKind (mixKind P w))) ∧ (xs.map (·.1)).Nodup
  | .set S n => h.SetOf (intKind P w) a S n
  | .ins C dx fs => H dx = some (.own a) ∧ fs.length ≤ 1000 ∧ dx ≠ a ∧ h.get? a = some (PySem.W.instObj C dx) ∧
      ∃ mA, h.Ns1 dx mA ∧ (∀ f, RelO (fs.lookup f) (mA f)) ∧ PySem.Within mA (fs.map (·.1))
  | .own _ => ∃ o, h.get? a = some o
  | .xd fs => ∃ mA, h.Ns1 a mA ∧ ∀ f, RelO (fs.lookup f) (mA f)
  | .rng lo hi => ∃ t u v, h.get? a = some { cls := .type "range", data := .fields #[.int lo t, .int hi u, .int 1 v] }
  | .frz o u => h.get? a = some o ∧ ObjOk H h a u
  | .tbl ps => h.get? a = some { cls := .none, data := .fields ps }
  | .met f x => h.get? a = some (PySem.W.methodObj (.ref f) (.ref x))
  | .ext φ => φ h ∧ (∃ o, h.get? a = some o) ∧ ∀ h1 h2 : Heap, φ h1 → (∀ o, h1.get? a = some o → h2.get? a = some o) → φ h2
/-- the abstract heap is held -/
noncomputable def HOk (H : Hp) (h : Heap) : Prop := ∀ a o, H a = some o → ObjOk P w H h a o
end

section
variable {P : Program} {w : World} {H H' : Hp} {h h' : Heap} {a : Addr} {o : HO}
theorem ObjOk.lt (x : ObjOk P w H h a o) : a < h.objs.size := by
  cases o with
  | lst xs => obtain ⟨_, _, _, _, e⟩ := x; exact Heap.lt_size e
  | tup xs => obtain ⟨_, _, _, p⟩ := x; exact p.lt
  | dK kvs => obtain ⟨_, _, _, _, o, _, _, e, _⟩ := x; exact Heap.lt_size e
  | dT kvs => obtain ⟨_, _, _, _, o, _, _, e, _⟩ := x; exact Heap.lt_size e
  | set S n => obtain ⟨o, _, _, _, e, _⟩ := x; exact Heap.lt_size e
  | ins C dx fs => obtain ⟨_, _, _, e, _⟩ := x; exact Heap.lt_size e
  | own y => obtain ⟨_, e⟩ := x; exact Heap.lt_size e
  | xd fs => obtain ⟨_, ⟨_, _, _, e, _⟩, _⟩ := x; exact Heap.lt_size e
  | rng lo hi => obtain ⟨_, _, _, e⟩ := x; exact Heap.lt_size e
  | frz ob u => obtain ⟨e, _⟩ := x; exact Heap.lt_size e
  | tbl ps => exact Heap.lt_size (show h.get? a = some _ from x)
  | met f y => exact Heap.lt_size (show h.get? a = some _ from x)
  | ext φ => obtain ⟨_, ⟨_, e⟩, _⟩ := x; exact Heap.lt_size e
theorem Paired.mapP {α β : Type} {F G : α → β → Prop} : ∀ {l₁ : List α} {l₂ : List β}, Paired F l₁ l₂ → (∀ a b, F a b → G a b) → Paired G l₁ l₂
  | _, _, .nil, _ => .nil
  | _, _, .cons r t, f => .cons (f _ _ r) (Paired.mapP t f)
/-- what an object's description leans on: its own object, its own dict, the tuples -/
theorem ObjOk.stay (x : ObjOk P w H h a o) (k : ∀ b u, (b = a ∨ H b = some (.own a)) → h.get? b = some u → h'.get? b = some u)
    (ho : ∀ b, H b = some (.own a) → H' b = some (.own a)) (ht : ∀ b xs, H b = some (.tup xs) → H' b = some (.tup xs)) : ObjOk P w H' h' a o := by
  induction o with
  | lst xs => obtain ⟨z, its, n, r, e⟩ := x; exact ⟨z, its, n, r, k _ _ (.inl rfl) e⟩
  | tup xs => obtain ⟨z, its, r, ob, e, c⟩ := x; exact ⟨z, its, r, ob, k _ _ (.inl rfl) e, c⟩
  | dK kvs => obtain ⟨z, y, vs, r, ob, es, ep, e, c⟩ := x; exact ⟨z, y, vs, r, ob, es, ep, k _ _ (.inl rfl) e, c⟩
  | dT kvs =>
    obtain ⟨z, y, xs, r, ob, es, ep, e, c⟩ := x
    exact ⟨z, y, xs, Paired.mapP r fun p q z => ⟨z.1, ht _ _ z.2.1, z.2.2⟩, ob, es, ep, k _ _ (.inl rfl) e, c⟩
  | set S n => obtain ⟨ob, es, ep, t, e, c⟩ := x; exact ⟨ob, es, ep, t, k _ _ (.inl rfl) e, c⟩
  | ins C dx fs =>
    obtain ⟨d, z, ne, e, mA, ⟨od, es, ep, e2, c⟩, r⟩ := x
    exact ⟨ho _ d, z, ne, k _ _ (.inl rfl) e, mA, ⟨od, es, ep, k _ _ (.inr d) e2, c⟩, r⟩
  | own y => obtain ⟨ob, e⟩ := x; exact ⟨ob, k _ _ (.inl rfl) e⟩
  | xd fs => obtain ⟨mA, ⟨od, es, ep, e, c⟩, r⟩ := x; exact ⟨mA, ⟨od, es, ep, k _ _ (.inl rfl) e, c⟩, r⟩
  | rng lo hi => obtain ⟨t, u, v, e⟩ := x; exact ⟨t, u, v, k _ _ (.inl rfl) e⟩
  | frz ob u ih => obtain ⟨e, q⟩ := x; exact ⟨k _ _ (.inl rfl) e, ih q⟩
  | tbl ps =>
    have e : h.get? a = some { cls := .none, data := .fields ps } := x
    show h'.get? a = some { cls := .none, data := .fields ps }
    exact k a _ (.inl rfl) e
  | met f y =>
    have e : h.get? a = some (PySem.W.methodObj (.ref f) (.ref y)) := x
    show h'.get? a = some (PySem.W.methodObj (.ref f) (.ref y))
    exact k a _ (.inl rfl) e
  | ext φ => obtain ⟨p, ⟨o, e⟩, st⟩ := x; exact ⟨st _ _ p fun o q => k _ _ (.inl rfl) q, ⟨o, k _ _ (.inl rfl) e⟩, st⟩
theorem HOk.lt (x : HOk P w H h) (e : H a = some o) : a < h.objs.size := (x a o e).lt
theorem HOk.fresh (x : HOk P w H h) (e : h.objs.size ≤ a) : H a = none := by
  cases q : H a with
  | none => rfl
  | some u => exact absurd (Nat.lt_of_lt_of_le (x.lt q) e) (Nat.lt_irrefl _)
/-- every object of the heap is kept -/
theorem HOk.kept (x : HOk P w H h) (k : ∀ b u, h.get? b = some u → h'.get? b = some u) : HOk P w H h' := fun a o e =>
  (x a o e).stay (fun b u _ q => k b u q) (fun _ q => q) fun _ _ q => q
/-- a new object is laid and tracked -/
theorem HOk.laid (x : HOk P w H h) (k : ∀ b u, h.get? b = some u → h'.get? b = some u) (hp : h.objs.size ≤ a) (new : ObjOk P w (upd H a o) h' a o) : HOk P w (upd H a o) h' := fun b u e => by
  have hn := x.fresh hp
  by_cases hb : b = a
  · subst hb; rw [upd_same] at e; cases e; exact new
  · rw [upd_ne hb] at e
    exact (x b u e).stay (fun c v _ q => k c v q) (fun c q => by rw [upd_ne (ne_of_none q hn)]; exact q) fun c xs q => by rw [upd_ne (ne_of_none q hn)]; exact q
end

/-- what may be read as u: it is u, or a known u -/
noncomputable def Rd (H : Hp) (a : Addr) (u : HO) : Prop := H a = some u ∨ ∃ o, H a = some (.frz o u)
theorem Rd.ok {P : Program} {w : World} {H : Hp} {h : Heap} {a : Addr} {u : HO} (r : Rd H a u) (x : HOk P w H h) : ObjOk P w H h a u := by
  rcases r with r | ⟨o, r⟩
  · exact x a u r
  · obtain ⟨_, q⟩ := x a _ r
    exact q
/-- what may be written -/
noncomputable def Mut : Option HO → Prop
  | some (.lst _) => True
  | some (.dK _) => True
  | some (.dT _) => True
  | some (.set _ _) => True
  | some (.ins _ _ _) => True
  | some (.ext _) => True
  | _ => False
section
variable {P : Program} {w : World} {H : Hp} {h h' : Heap} {x e : Addr} {o' : HO}
/-- the object at e is changed: x itself, or the dict of the instance x -/
theorem HOk.write (ok : HOk P w H h) (mu : Mut (H x)) (he : e = x ∨ H e = some (.own x)) (k : ∀ b u, b ≠ e → h.get? b = some u → h'.get? b = some u) (heo : ∃ u, h'.get? e = some u)
    (new : ObjOk P w (upd H x o') h' x o') : HOk P w (upd H x o') h' := fun b u q => by
  have nown : ∀ c y, H c = some (.own y) → c ≠ x := fun c y r z => by subst z; rw [r] at mu; exact mu
  have ntup : ∀ c xs, H c = some (.tup xs) → c ≠ x := fun c xs r z => by subst z; rw [r] at mu; exact mu
  by_cases hb : b = x
  · subst hb; rw [upd_same] at q; cases q; exact new
  · rw [upd_ne hb] at q
    by_cases hbe : b = e
    · have q' : H b = some (.own x) := by
        rcases he with z | z
        · exact absurd (hbe.trans z) hb
        · rw [hbe]; exact z
      rw [q] at q'; cases q'
      obtain ⟨v, hv⟩ := heo
      exact ⟨v, by rw [hbe]; exact hv⟩
    · refine (ok b u q).stay (fun c v hc r => k c v ?_ r) (fun c r => by rw [upd_ne (nown c b r)]; exact r) fun c xs r => by rw [upd_ne (ntup c xs r)]; exact r
      rcases hc with rfl | hc
      · exact hbe
      · rintro rfl
        rcases he with z | z
        · exact nown c b hc z
        · rw [hc] at z; cases z; exact hb rfl
end

structure Un (fs ex : List Addr) (H H' : Hp) (h h' : Heap) : Prop where
  keep : ∀ b o, h.get? b = some o → H b = none → b ∉ fs → b ∉ ex → h'.get? b = some o
  slot : ∀ b o, h.get? b = some o → H b = none → b ∈ fs → b ∉ ex → ∃ sl, h'.get? b = some { o with slots := sl }
  free : ∀ b o, h.get? b = some o → H b = none → b ∉ ex → H' b = none
  there : ∀ b o, h.get? b = some o → b ∉ ex → ∃ o', h'.get? b = some o'
  tups : ∀ b xs, H b = some (.tup xs) → H' b = some (.tup xs)
  frzs : ∀ b o u, H b = some (.frz o u) → H' b = some (.frz o u)
  tbls : ∀ b ps, H b = some (.tbl ps) → ∃ more, H' b = some (.tbl (ps ++ more))
section
variable {fs fs' ex ex' : List Addr} {H H1 H2 : Hp} {h h1 h2 h' : Heap} {a x e : Addr} {o : HO}
theorem Un.any (u : Un fs ex H H1 h h1) {b : Addr} {ob : Obj} (q : h.get? b = some ob) (n : H b = none) (hx : b ∉ ex) : ∃ sl, h1.get? b = some { ob with slots := sl } := by
  by_cases hb : b ∈ fs
  · exact u.slot b ob q n hb hx
  · exact ⟨ob.slots, u.keep b ob q n hb hx⟩
theorem Un.kept (k : ∀ b u, h.get? b = some u → h'.get? b = some u) : Un fs ex H H h h' :=
  ⟨fun b ob q _ _ _ => k b ob q, fun b ob q _ _ _ => ⟨ob.slots, k b ob q⟩, fun _ _ _ n _ => n, fun b ob q _ => ⟨ob, k b ob q⟩, fun _ _ q => q, fun _ _ _ q => q, fun _ ps q => ⟨#[], by rw [q]; simp⟩⟩
theorem Un.refl : Un fs ex H H h h := Un.kept fun _ _ q => q
theorem Un.laid (k : ∀ b u, h.get? b = some u → h'.get? b = some u) (hp : h.objs.size ≤ a) (hn : H a = none) : Un fs ex H (upd H a o) h h' where
  keep := fun b u q _ _ _ => k b u q
  slot := fun b u q _ _ _ => ⟨u.slots, k b u q⟩
  free := fun b u q n _ => by rw [upd_ne (Nat.ne_of_lt (Nat.lt_of_lt_of_le (Heap.lt_size q) hp))]; exact n
  there := fun b u q _ => ⟨u, k b u q⟩
  tups := fun b xs q => by rw [upd_ne (ne_of_none q hn)]; exact q
  frzs := fun b u xs q => by rw [upd_ne (ne_of_none q hn)]; exact q
  tbls := fun b ps q => ⟨#[], by rw [upd_ne (ne_of_none q hn), q]; simp⟩
theorem Un.write (mu : Mut (H x)) (he : e = x ∨ H e = some (.own x)) (k : ∀ b u, b ≠ e → h.get? b = some u → h'.get? b = some u) (heo : ∃ u, h'.get? e = some u) : Un fs ex H (upd H x o) h h' := by
  have hx : ∀ b, H b = none → b ≠ x := fun b n z => by subst z; rw [n] at mu; exact mu
  have hb : ∀ b, H b = none → b ≠ e := fun b n z => by
    subst z
    rcases he with r | r
    · exact hx b n r
    · rw [n] at r; cases r
  have hm : ∀ b u, H b = some u → ¬ Mut (some u) → b ≠ x := fun b u q nm z => by subst z; rw [q] at mu; exact nm mu
  refine ⟨fun b u q n _ _ => k b u (hb b n) q, fun b u q n _ _ => ⟨u.slots, k b u (hb b n) q⟩, fun b u q n _ => by rw [upd_ne (hx b n)]; exact n, fun b u q _ => ?_,
    fun b xs q => by rw [upd_ne (hm b _ q fun z => z)]; exact q, fun b u xs q => by rw [upd_ne (hm b _ q fun z => z)]; exact q, fun b ps q => ⟨#[], by rw [upd_ne (hm b _ q fun z => z), q]; simp⟩⟩
  by_cases hbe : b = e
  · subst hbe; exact heo
  · exact ⟨u, k b u hbe q⟩
end

noncomputable def trk (h : Heap) (H : Hp) : List Addr := (List.range h.objs.size).filter fun a => (H a).isSome
noncomputable def hidT (h : Heap) (H : Hp) : Heap := PySem.W.hideAll h (trk h H)
theorem hidT_size (h : Heap) (H : Hp) : (hidT h H).objs.size = h.objs.size := PySem.W.hideAll_size _ _
theorem hidT_get {h : Heap} {H : Hp} {b : Addr} {o : Obj} (e : h.get? b = some o) (n : H b = none) : (hidT h H).get? b = some o :=
  PySem.W.hideAll_get _ e fun hm => by
    have q : (H b).isSome = true := (List.mem_filter.mp hm).2
    rw [n] at q; simp at q
theorem of_hidT {h : Heap} {H : Hp} {b : Addr} {o : Obj} (e : (hidT h H).get? b = some o) : h.get? b = some o ∧ H b = none := by
  have e' : h.get? b = some o := PySem.W.of_hideAll (trk h H) e
  refine ⟨e', ?_⟩
  cases q : H b with
  | none => rfl
  | some x =>
    have hm : b ∈ trk h H := List.mem_filter.mpr ⟨List.mem_range.mpr (Heap.lt_size e'), by simp [q]⟩
    have z : (hidT h H).get? b = none := PySem.W.hideAll_none (trk h H) hm
    rw [z] at e; cases e

end L2

namespace L2
open PySem PySem.Spec PyProof.Rows

/-- the module's facts, over the base: the heap at the law's entry without what is tracked there -/
structure Mod (K : PySem.W.Frag) (mg : Str → Option Value) (base : Heap) : Prop where
  kin : K.In base
  glob : base.Ns mainGlobals mg
  blt : ∃ mb, base.Ns builtinsNs mb ∧ ∀ x : Str, x ≠ "__name__" → mb x = bootBuiltins x
  nolimit : base.NoLimit

/-- the context: a def's body (or a comprehension's block) running. base: fixed through the whole law; s₀, H₀: the entry; outer: the frames whose slots others may change (a def's callers); stack: all frames that run;
   ex: iterators that were made ahead of the entry and are walked here (a comprehension's); fn: the names whose cells were made at the entry (a def: all; a comprehension's block: its own); calm: not within an except suite; pn: pins that every state bears; xe: what is wanted of an exception that leaves the code -/
structure Cx where
  prog : Program
  w : World
  K : PySem.W.Frag
  mg : Str → Option Value
  base : Heap
  A : Around
  N : List Str
  s₀ : Shared
  H₀ : Hp
  env : Env
  outer : List Env
  stack : List Env
  ex : List Addr
  fn : Str → Bool
  calm : Bool
  pn : List (Addr × Obj)
  xe : Value → Shared → Prop
/-- the callers' frames -/
noncomputable def frs (l : List Env) : List Addr := l.filterMap (·.frame)
noncomputable abbrev Cx.fs (X : Cx) : List Addr := frs X.outer

noncomputable def Vis (sc : Scope) (x : Str) : Prop := sc.names.lookup x = some .local ∨ sc.names.lookup x = some .cell ∨ sc.names.lookup x = some .free
noncomputable def Loc (sc : Scope) (x : Str) : Prop := sc.names.lookup x = some .local ∨ sc.names.lookup x = some .cell
noncomputable def Look (env : Env) (h : Heap) (m : Str → Option Value) (x : Str) (u : Value) : Prop :=
  (env.kindOf x = some .local ∧ m x = some u) ∨ ((env.kindOf x = some .cell ∨ env.kindOf x = some .free) ∧ ∃ c, env.cells.lookup x = some c ∧ h.IsCell c (some u))

structure Cx.Ok (X : Cx) : Prop where
  mod : Mod X.K X.mg X.base
  kind : X.env.scope.kind = .function
  glob : X.env.globals = mainGlobals
  blt : X.env.builtins = builtinsNs
  above : X.s₀.heap.objs.size ≤ X.env.locals
  inj : ∀ x y c, X.env.cells.lookup x = some c → X.env.cells.lookup y = some c → x = y
  has : ∀ x, (X.env.kindOf x = some .cell ∨ X.env.kindOf x = some .free) → ∃ c, X.env.cells.lookup x = some c
  cab : ∀ x c, X.fn x = true → X.env.cells.lookup x = some c → X.s₀.heap.objs.size ≤ c
  hd : X.calm = true → X.A.handled = none
  frames : X.A.frames = some X.stack
  stk : X.stack = X.outer ∨ (X.stack = X.env :: X.outer ∧ X.env.frame = some X.env.locals)
  exf : ∀ b ∈ X.ex, b ≠ X.env.locals ∧ ∀ x c, X.env.cells.lookup x = some c → c ≠ b
  bs : ∀ b o, X.base.get? b = some o → X.s₀.heap.get? b = some o ∧ X.H₀ b = none
  bsz : X.base.objs.size ≤ X.s₀.heap.objs.size
  noex : ∀ b o, X.base.get? b = some o → b ∉ X.ex
  exfs : ∀ b ∈ X.ex, b ∉ X.fs
  funs : X.s₀.heap.FunFrames X.base X.outer
  frf : ∀ b ∈ X.fs, X.H₀ b = none

structure Inv (X : Cx) (pins : List (Addr × Obj)) (σ : List (Option V)) (H : Hp) (s : Shared) : Prop where
  ok : X.Ok
  os : s.os = X.s₀.os
  bare : AllBare s.gens
  base : Un X.fs X.ex X.H₀ H X.s₀.heap s.heap
  loc : ∃ m, s.heap.Ns X.env.locals m ∧ ∀ (i : Nat) (x : Str) (v : V), X.N[i]? = some x → σ[i]? = some (some v) → Vis X.env.scope x → ∃ u, RelV v u ∧ Look X.env s.heap m x u
  cell : ∀ x c, X.env.cells.lookup x = some c → ∃ v, s.heap.IsCell c v
  free : H X.env.locals = none
  freeC : ∀ x c, X.env.cells.lookup x = some c → H c = none
  pin : ∀ p ∈ X.pn ++ pins, s.heap.get? p.1 = some p.2 ∧ H p.1 = none ∧ p.1 ≠ X.env.locals ∧ p.1 ∉ X.fs ∧ ∀ v, p.2.data ≠ .cell v
  hok : HOk X.prog X.w H s.heap
  len : σ.length = X.N.length

section
variable {X : Cx} {pins : List (Addr × Obj)} {σ : List (Option V)} {H H' : Hp} {s : Shared} {h' : Heap}

theorem Cx.Ok.nofr (ok : X.Ok) {b : Addr} {o : Obj} (e : X.base.get? b = some o) : b ∉ X.fs := fun hb => by
  have := (ok.funs.mem hb).1
  rw [e] at this; cases this
theorem Inv.bs (I : Inv X pins σ H s) : ∀ b o, X.base.get? b = some o → s.heap.get? b = some o ∧ H b = none := fun b o e =>
  ⟨I.base.keep b o (I.ok.bs b o e).1 (I.ok.bs b o e).2 (I.ok.nofr e) (I.ok.noex b o e), I.base.free b o (I.ok.bs b o e).1 (I.ok.bs b o e).2 (I.ok.noex b o e)⟩
theorem Inv.bk (I : Inv X pins σ H s) : ∀ b o, X.base.get? b = some o → s.heap.get? b = some o := fun b o e => (I.bs b o e).1
theorem Inv.mod (I : Inv X pins σ H s) : Mod X.K X.mg X.base := I.ok.mod
theorem Inv.kIn (I : Inv X pins σ H s) : X.K.In s.heap := I.ok.mod.kin.keeps I.bk
theorem Inv.lt (I : Inv X pins σ H s) : X.env.locals < s.heap.objs.size := let ⟨_, hn, _⟩ := I.loc; hn.lt
theorem Inv.sz (I : Inv X pins σ H s) : X.s₀.heap.objs.size ≤ s.heap.objs.size := Nat.le_trans I.ok.above (Nat.le_of_lt I.lt)
theorem Inv.nofs (I : Inv X pins σ H s) {a : Addr} (h : s.heap.objs.size ≤ a) : a ∉ X.fs := fun hb => by
  obtain ⟨_, o, ho, _⟩ := I.ok.funs.mem hb
  exact absurd (Nat.lt_of_lt_of_le (Heap.lt_size ho) (Nat.le_trans I.sz h)) (Nat.lt_irrefl _)
theorem Inv.cne (I : Inv X pins σ H s) : ∀ x c, X.env.cells.lookup x = some c → c ≠ X.env.locals := fun x c e z => by
  obtain ⟨v, o, ho, hd⟩ := I.cell x c e
  obtain ⟨m, ⟨o', es, ep, ho', hd', _⟩, _⟩ := I.loc
  rw [z, ho'] at ho; cases ho; rw [hd'] at hd; cases hd
theorem Inv.funs (I : Inv X pins σ H s) : s.heap.FunFrames X.base X.outer := by
  have all : ∀ (l : List Env), (∀ b ∈ frs l, b ∈ X.fs) → X.s₀.heap.FunFrames X.base l → s.heap.FunFrames X.base l := by
    intro l
    induction l with
    | nil => intro _ _; trivial
    | cons env r ih =>
      intro hs hl
      obtain ⟨hk, ⟨L, o, hf, hn, ho, hd⟩, hr⟩ := hl
      have hL : L ∈ X.fs := hs L (by unfold frs; rw [List.filterMap_cons, hf]; exact List.mem_cons_self)
      obtain ⟨sl, e⟩ := I.base.slot L o ho (I.ok.frf L hL) hL fun z => I.ok.exfs L z hL
      exact ⟨hk, ⟨L, _, hf, hn, e, hd⟩, ih (fun b hb => hs b (by unfold frs; rw [List.filterMap_cons, hf]; exact List.mem_cons_of_mem _ hb)) hr⟩
  exact all X.outer (fun _ hb => hb) I.ok.funs

/-- the frames that run, for a call -/
theorem Inv.stack (I : Inv X pins σ H s) : s.heap.FunFrames X.base X.stack := by
  rcases I.ok.stk with e | ⟨e, hf⟩
  · rw [e]; exact I.funs
  · rw [e]
    obtain ⟨m, hn, _⟩ := I.loc
    refine .cons (by rw [I.ok.kind]; decide) hf hn ?_ I.funs
    exact Heap.get?_none_of_le (Nat.le_trans I.ok.bsz I.ok.above)
theorem Inv.stkSub (I : Inv X pins σ H s) : ∀ b ∈ frs X.stack, b ∈ X.env.locals :: X.fs := fun b hb => by
  rcases I.ok.stk with e | ⟨e, hf⟩
  · rw [e] at hb; exact List.mem_cons_of_mem _ hb
  · rw [e] at hb
    unfold frs at hb
    rw [List.filterMap_cons, hf] at hb
    exact hb
theorem Inv.stkFree (I : Inv X pins σ H s) : ∀ b ∈ frs X.stack, H b = none := fun b hb => by
  rcases List.mem_cons.mp (I.stkSub b hb) with e | hb
  · rw [e]; exact I.free
  · obtain ⟨_, o, ho, _⟩ := I.ok.funs.mem hb
    exact I.base.free b o ho (I.ok.frf b hb) fun z => I.ok.exfs b z hb

/-- THE STEP: the untracked objects but the frame and the records at ch are kept (the callers' frames up to slots), the frame's map is kept, the new abstract heap is held -/
theorem Inv.step {g' : Array GenState} {t' : Nat} {d' : Drawn} {ch : List Addr} (I : Inv X pins σ H s)
    (hch : ∀ b ∈ ch, (b ∈ X.ex ∨ X.s₀.heap.objs.size ≤ b) ∧ b ≠ X.env.locals ∧ (∀ x c, X.env.cells.lookup x = some c → c ≠ b) ∧ ∀ p ∈ X.pn ++ pins, p.1 ≠ b)
    (keep : ∀ b o, b ≠ X.env.locals → b ∉ X.fs → b ∉ ch → s.heap.get? b = some o → H b = none → h'.get? b = some o)
    (slot : ∀ b o, b ≠ X.env.locals → b ∈ X.fs → b ∉ ch → s.heap.get? b = some o → H b = none → ∃ sl, h'.get? b = some { o with slots := sl }) (free : ∀ b o, b ∉ ch → s.heap.get? b = some o → H b = none → H' b = none)
    (there : ∀ b o, b ∉ ch → s.heap.get? b = some o → ∃ o', h'.get? b = some o')
    (tups : ∀ b xs, H b = some (.tup xs) → H' b = some (.tup xs)) (frzs : ∀ b o u, H b = some (.frz o u) → H' b = some (.frz o u)) (tbls : ∀ b ps, H b = some (.tbl ps) → ∃ more, H' b = some (.tbl (ps ++ more)))
    (ns : ∀ m, s.heap.Ns X.env.locals m → h'.Ns X.env.locals m) (hok : HOk X.prog X.w H' h') (hg : AllBare g') :
    Inv X pins σ H' { s with heap := h', gens := g', drawn := d', toks := t' } := by
  have neL : ∀ b o, X.s₀.heap.get? b = some o → b ≠ X.env.locals := fun b o e => Nat.ne_of_lt (Nat.lt_of_lt_of_le (Heap.lt_size e) I.ok.above)
  have neC : ∀ b o, X.s₀.heap.get? b = some o → b ∉ X.ex → b ∉ ch := fun b o e hx hb => by
    rcases (hch b hb).1 with z | z
    · exact hx z
    · exact absurd (Nat.lt_of_lt_of_le (Heap.lt_size e) z) (Nat.lt_irrefl _)
  have cellK : ∀ x c, X.env.cells.lookup x = some c → ∀ v, s.heap.IsCell c v → h'.IsCell c v := fun x c e v ⟨o, ho, hd⟩ => by
    have nch : c ∉ ch := fun z => (hch c z).2.2.1 x c e rfl
    by_cases hc : c ∈ X.fs
    · obtain ⟨sl, q⟩ := slot c o (I.cne x c e) hc nch ho (I.freeC x c e)
      exact ⟨_, q, hd⟩
    · exact ⟨o, keep c o (I.cne x c e) hc nch ho (I.freeC x c e), hd⟩
  refine ⟨I.ok, I.os, hg, ⟨fun b o e n hb hx => ?_, fun b o e n hb hx => ?_, fun b o e n hx => ?_, fun b o e hx => ?_, fun b xs e => tups b xs (I.base.tups b xs e), fun b o xs e => frzs b o xs (I.base.frzs b o xs e), fun b ps e => ?_⟩, ?_, fun x c e => ?_, ?_, fun x c e => ?_, fun p hp => ?_, hok, I.len⟩
  · exact keep b o (neL b o e) hb (neC b o e hx) (I.base.keep b o e n hb hx) (I.base.free b o e n hx)
  · obtain ⟨sl, e1⟩ := I.base.slot b o e n hb hx
    obtain ⟨sl', e2⟩ := slot b _ (neL b o e) hb (neC b o e hx) e1 (I.base.free b o e n hx)
    exact ⟨sl', e2⟩
  · obtain ⟨o', e1⟩ := I.base.there b o e hx
    exact free b o' (neC b o e hx) e1 (I.base.free b o e n hx)
  · obtain ⟨o', e1⟩ := I.base.there b o e hx
    exact there b o' (neC b o e hx) e1
  · obtain ⟨m1, e1⟩ := I.base.tbls b ps e
    obtain ⟨m2, e2⟩ := tbls b _ e1
    exact ⟨m1 ++ m2, by rw [e2, Array.append_assoc]⟩
  · obtain ⟨m, hn, hl⟩ := I.loc
    refine ⟨m, ns m hn, fun i x v e1 e2 e3 => ?_⟩
    obtain ⟨u, r, l⟩ := hl i x v e1 e2 e3
    refine ⟨u, r, ?_⟩
    rcases l with l | ⟨k, c, e, z⟩
    · exact .inl l
    · exact .inr ⟨k, c, e, cellK x c e _ z⟩
  · obtain ⟨v, z⟩ := I.cell x c e
    exact ⟨v, cellK x c e v z⟩
  · obtain ⟨m, ⟨o, _, _, ho, _⟩, _⟩ := I.loc
    exact free _ o (fun z => (hch _ z).2.1 rfl) ho I.free
  · obtain ⟨v, o, ho, hd⟩ := I.cell x c e
    exact free c o (fun z => (hch c z).2.2.1 x c e rfl) ho (I.freeC x c e)
  · obtain ⟨e, n, ne, nf, d⟩ := I.pin p hp
    have nch : p.1 ∉ ch := fun z => (hch p.1 z).2.2.2 p hp rfl
    exact ⟨keep p.1 p.2 ne nf nch e n, free p.1 p.2 nch e n, ne, nf, d⟩
/-- .. where the frame's own object is kept too -/
theorem Inv.un {t' : Nat} (I : Inv X pins σ H s) (u : Un X.fs [] H H' s.heap h') (hok : HOk X.prog X.w H' h') : Inv X pins σ H' { s with heap := h', toks := t' } := by
  obtain ⟨m, ⟨o, es, ep, ho, r⟩, _⟩ := id I.loc
  obtain ⟨sl, hL⟩ := u.any ho I.free (by simp)
  exact I.step (g' := s.gens) (d' := s.drawn) (ch := []) (fun _ z => nomatch z) (fun b o _ hb _ e n => u.keep b o e n hb (by simp)) (fun b o _ hb _ e n => u.slot b o e n hb (by simp)) (fun b o _ e n => u.free b o e n (by simp)) (fun b o _ e => u.there b o e (by simp)) u.tups u.frzs u.tbls (fun m' hm => by
    obtain ⟨o', es', ep', ho', r'⟩ := hm
    rw [ho] at ho'; cases ho'
    exact ⟨_, es', ep', hL, r'⟩) hok I.bare
/-- behind a call (or a comprehension's block): the slots of this frame may have changed too, the records at ch may have turned -/
theorem Inv.call {g' : Array GenState} {t' : Nat} {d' : Drawn} {ch : List Addr} (I : Inv X pins σ H s) (u : Un (frs X.stack) ch H H' s.heap h') (hok : HOk X.prog X.w H' h') (hg : AllBare g')
    (hch : ∀ b ∈ ch, (b ∈ X.ex ∨ X.s₀.heap.objs.size ≤ b) ∧ b ≠ X.env.locals ∧ (∀ x c, X.env.cells.lookup x = some c → c ≠ b) ∧ ∀ p ∈ X.pn ++ pins, p.1 ≠ b) :
    Inv X pins σ H' { s with heap := h', gens := g', drawn := d', toks := t' } := by
  obtain ⟨m, ⟨o, es, ep, ho, r⟩, _⟩ := id I.loc
  obtain ⟨sl, hL⟩ := u.any ho I.free fun z => (hch _ z).2.1 rfl
  exact I.step (ch := ch) hch (fun b o hL hb hc e n => u.keep b o e n (fun z => (List.mem_cons.mp (I.stkSub b z)).elim hL hb) hc) (fun b o _ _ hc e n => u.any e n hc) (fun b o hc e n => u.free b o e n hc) (fun b o hc e => u.there b o e hc) u.tups u.frzs u.tbls (fun m' hm => by
    obtain ⟨o', es', ep', ho', r'⟩ := hm
    rw [ho] at ho'; cases ho'
    exact ⟨_, es', ep', hL, r'⟩) hok hg
/-- an untracked record of ours (an iterator) has turned -/
theorem Inv.turned {t' : Nat} {it : Addr} (I : Inv X pins σ H s) (k : ∀ b o, b ≠ it → s.heap.get? b = some o → h'.get? b = some o) (hn : H it = none) (hL : it ≠ X.env.locals)
    (h1 : it ∈ X.ex ∨ X.s₀.heap.objs.size ≤ it) (h2 : ∀ x c, X.env.cells.lookup x = some c → c ≠ it) (h3 : ∀ p ∈ X.pn ++ pins, p.1 ≠ it) : Inv X pins σ H { s with heap := h', toks := t' } := by
  have nit : ∀ b u, H b = some u → b ≠ it := fun b u e z => by rw [z, hn] at e; cases e
  refine I.step (g' := s.gens) (d' := s.drawn) (ch := [it]) (fun b hb => ?_) (fun b o _ _ hc e _ => k b o (fun z => hc (by simp [z])) e) (fun b o _ _ hc e _ => ⟨o.slots, k b o (fun z => hc (by simp [z])) e⟩) (fun _ _ _ _ n => n)
    (fun b o hc e => ⟨o, k b o (fun z => hc (by simp [z])) e⟩) (fun _ _ e => e) (fun _ _ _ e => e) (fun b ps e => ⟨#[], by rw [e]; simp⟩) (fun m hm => ?_) (fun b u e => ?_) I.bare
  · have e : b = it := by simpa using hb
    subst e
    exact ⟨h1, hL, h2, h3⟩
  · obtain ⟨o, es, ep, ho, r⟩ := hm
    exact ⟨o, es, ep, k _ o (Ne.symm hL) ho, r⟩
  · refine (I.hok b u e).stay (fun c v hc q => k c v ?_ q) (fun _ q => q) fun _ _ q => q
    rcases hc with z | z
    · rw [z]; exact nit b u e
    · exact nit c _ z
theorem Inv.tok (I : Inv X pins σ H s) (t : Nat) : Inv X pins σ H { s with toks := t } := I.un (h' := s.heap) (t' := t) Un.refl I.hok
/-- all objects kept -/
theorem Inv.kept {t' : Nat} (I : Inv X pins σ H s) (k : ∀ b u, s.heap.get? b = some u → h'.get? b = some u) : Inv X pins σ H { s with heap := h', toks := t' } := I.un (Un.kept k) (I.hok.kept k)
/-- a new object laid and tracked -/
theorem Inv.laid {a : Addr} {o : HO} {t' : Nat} (I : Inv X pins σ H s) (k : ∀ b u, s.heap.get? b = some u → h'.get? b = some u) (hp : s.heap.objs.size ≤ a) (new : ObjOk X.prog X.w (upd H a o) h' a o) :
    Inv X pins σ (upd H a o) { s with heap := h', toks := t' } := I.un (Un.laid k hp (I.hok.fresh hp)) (I.hok.laid k hp new)
/-- an object written -/
theorem Inv.write {x e : Addr} {o : HO} {t' : Nat} (I : Inv X pins σ H s) (mu : Mut (H x)) (he : e = x ∨ H e = some (.own x)) (k : ∀ b u, b ≠ e → s.heap.get? b = some u → h'.get? b = some u) (heo : ∃ u, h'.get? e = some u)
    (new : ObjOk X.prog X.w (upd H x o) h' x o) : Inv X pins σ (upd H x o) { s with heap := h', toks := t' } := I.un (Un.write mu he k heo) (I.hok.write mu he k heo new)
theorem Inv.pins_of {pins' : List (Addr × Obj)} (I : Inv X pins σ H s) (h : ∀ p ∈ pins', s.heap.get? p.1 = some p.2 ∧ H p.1 = none ∧ p.1 ≠ X.env.locals ∧ p.1 ∉ X.fs ∧ ∀ v, p.2.data ≠ .cell v) : Inv X pins' σ H s :=
  ⟨I.ok, I.os, I.bare, I.base, I.loc, I.cell, I.free, I.freeC, fun p hp => (List.mem_append.mp hp).elim (fun z => I.pin p (List.mem_append_left _ z)) (h p), I.hok, I.len⟩

theorem nodup_ix {N : List Str} (hN : N.Nodup) {i j : Nat} {x : Str} (a : N[i]? = some x) (b : N[j]? = some x) : i = j := by
  obtain ⟨h1, e1⟩ := List.getElem?_eq_some_iff.mp a
  obtain ⟨h2, e2⟩ := List.getElem?_eq_some_iff.mp b
  exact (List.getElem_inj hN).mp (e1.trans e2.symm)

/-- a name is stored; what changed -/
theorem store_ok2 {M : Model} {A : Around} {E : Value → Shared → Prop} {i : Nat} {x : Str} {v : V} {u : Value} {Q : Unit → Shared → Prop} (I : Inv X pins σ H s) (hN : X.N.Nodup) (hi : X.N[i]? = some x) (hx : Loc X.env.scope x) (r : RelV v u)
    (h : ∀ s', Inv X pins (σ.set i (some v)) H s' → (∃ a, Heap.SameBut a s.heap s'.heap ∧ (a = X.env.locals ∨ X.env.cells.lookup x = some a)) → Q () s') (hf : X.fn x = true ∨ X.env.scope.names.lookup x = some .local := by first | exact .inl rfl | exact .inr rfl | assumption) : wpAny M A (storeName X.env x u) Q E s := by
  obtain ⟨m, hn, hl⟩ := id I.loc
  have hcls : (X.env.scope.kind == .class || (X.env.scope.kind == .module && X.env.locals != X.env.globals)) = false := by rw [I.ok.kind]; rfl
  have hiσ : i < σ.length := by rw [I.len]; exact (List.getElem?_eq_some_iff.mp hi).1
  have cne := I.cne
  have tracked : ∀ {a : Addr} {h' : Heap}, (∃ o, s.heap.get? a = some o ∧ H a = none) → Heap.SameBut a s.heap h' → HOk X.prog X.w H h' := fun {a h'} ha hs b ob e => by
    obtain ⟨_, _, hfree⟩ := ha
    refine (I.hok b ob e).stay (fun c w' hc q => (hs.2 c ?_).trans q) (fun _ q => q) fun _ _ q => q
    rintro rfl
    rcases hc with rfl | hc
    · rw [hfree] at e; cases e
    · rw [hfree] at hc; cases hc
  rcases hx with hk | hk
  · refine wpAny_storeName_local hk hn (fun h' hn' hs => ?_) hcls
    obtain ⟨oL, _, _, hoL, _⟩ := id hn
    refine h _ ⟨I.ok, I.os, I.bare, ⟨fun b o e n hb hx => ?_, fun b o e n hb hx => ?_, I.base.free, fun b o e hx => ?_, I.base.tups, I.base.frzs, I.base.tbls⟩, ⟨_, hn', fun j y v' e1 e2 e3 => ?_⟩, fun y c e => ?_, I.free, I.freeC, fun p hp => ?_, tracked ⟨oL, hoL, I.free⟩ hs, by simpa using I.len⟩ ⟨_, hs, .inl rfl⟩
    · exact (hs.2 b (Nat.ne_of_lt (Nat.lt_of_lt_of_le (Heap.lt_size e) I.ok.above))).trans (I.base.keep b o e n hb hx)
    · obtain ⟨sl, e1⟩ := I.base.slot b o e n hb hx
      exact ⟨sl, (hs.2 b (Nat.ne_of_lt (Nat.lt_of_lt_of_le (Heap.lt_size e) I.ok.above))).trans e1⟩
    · obtain ⟨o', e1⟩ := I.base.there b o e hx
      exact ⟨o', (hs.2 b (Nat.ne_of_lt (Nat.lt_of_lt_of_le (Heap.lt_size e) I.ok.above))).trans e1⟩
    · by_cases hj : j = i
      · subst hj
        rw [hi] at e1; cases e1
        rw [List.getElem?_set_self hiσ] at e2
        cases e2
        exact ⟨u, r, .inl ⟨hk, by simp⟩⟩
      · rw [List.getElem?_set_ne (Ne.symm hj)] at e2
        obtain ⟨u', r', q⟩ := hl j y v' e1 e2 e3
        refine ⟨u', r', ?_⟩
        rcases q with ⟨k, e⟩ | ⟨k, c, e, z⟩
        · refine .inl ⟨k, ?_⟩
          have : y ≠ x := fun e => hj (nodup_ix hN e1 (e ▸ hi))
          simp [this, e]
        · exact .inr ⟨k, c, e, z.sameBut hs (cne y c e)⟩
    · obtain ⟨w', z⟩ := I.cell y c e
      exact ⟨w', z.sameBut hs (cne y c e)⟩
    · obtain ⟨e, n, ne, nf, d⟩ := I.pin p hp
      exact ⟨(hs.2 p.1 ne).trans e, n, ne, nf, d⟩
  · have hfn : X.fn x = true := by
      rcases hf with z | z
      · exact z
      · rw [z] at hk; cases hk
    obtain ⟨c, hc⟩ := I.ok.has x (.inl hk)
    obtain ⟨w', z⟩ := I.cell x c hc
    refine wpAny_storeName_cell I.ok.kind hk hc z (fun h' hc' hs => ?_)
    obtain ⟨oc, hoc, hocd⟩ := id z
    refine h { s with heap := h' } ⟨I.ok, I.os, I.bare, ⟨fun b o e n hb hx => ?_, fun b o e n hb hx => ?_, I.base.free, fun b o e hx => ?_, I.base.tups, I.base.frzs, I.base.tbls⟩, ⟨m, hn.sameBut hs (Ne.symm (cne x c hc)), fun j y v' e1 e2 e3 => ?_⟩, fun y c' e => ?_, I.free, I.freeC, fun p hp => ?_, tracked ⟨oc, hoc, I.freeC x c hc⟩ hs, by simpa using I.len⟩ ⟨c, hs, .inr hc⟩
    · exact (hs.2 b (Nat.ne_of_lt (Nat.lt_of_lt_of_le (Heap.lt_size e) (I.ok.cab x c hfn hc)))).trans (I.base.keep b o e n hb hx)
    · obtain ⟨sl, e1⟩ := I.base.slot b o e n hb hx
      exact ⟨sl, (hs.2 b (Nat.ne_of_lt (Nat.lt_of_lt_of_le (Heap.lt_size e) (I.ok.cab x c hfn hc)))).trans e1⟩
    · obtain ⟨o', e1⟩ := I.base.there b o e hx
      exact ⟨o', (hs.2 b (Nat.ne_of_lt (Nat.lt_of_lt_of_le (Heap.lt_size e) (I.ok.cab x c hfn hc)))).trans e1⟩
    · by_cases hj : j = i
      · subst hj
        rw [hi] at e1; cases e1
        rw [List.getElem?_set_self hiσ] at e2
        cases e2
        exact ⟨u, r, .inr ⟨.inl hk, c, hc, hc'⟩⟩
      · rw [List.getElem?_set_ne (Ne.symm hj)] at e2
        obtain ⟨u', r', q⟩ := hl j y v' e1 e2 e3
        refine ⟨u', r', ?_⟩
        rcases q with q | ⟨k, c', e, z'⟩
        · exact .inl q
        · refine .inr ⟨k, c', e, z'.sameBut hs ?_⟩
          rintro rfl
          exact hj (nodup_ix hN e1 (I.ok.inj _ _ _ e hc ▸ hi))
    · by_cases hcc : c' = c
      · subst hcc; exact ⟨_, hc'⟩
      · obtain ⟨w2, z2⟩ := I.cell y c' e
        exact ⟨w2, z2.sameBut hs hcc⟩
    · obtain ⟨e, n, ne, nf, d⟩ := I.pin p hp
      refine ⟨(hs.2 p.1 ?_).trans e, n, ne, nf, d⟩
      intro q
      rw [q, hoc] at e
      have q' : oc = p.2 := Option.some.inj e
      exact d w' (by rw [← q']; exact hocd)
theorem store_ok {M : Model} {A : Around} {E : Value → Shared → Prop} {i : Nat} {x : Str} {v : V} {u : Value} {Q : Unit → Shared → Prop} (I : Inv X pins σ H s) (hN : X.N.Nodup) (hi : X.N[i]? = some x) (hx : Loc X.env.scope x) (r : RelV v u)
    (h : ∀ s', Inv X pins (σ.set i (some v)) H s' → Q () s') (hf : X.fn x = true ∨ X.env.scope.names.lookup x = some .local := by first | exact .inl rfl | exact .inr rfl | assumption) : wpAny M A (storeName X.env x u) Q E s :=
  store_ok2 I hN hi hx r (fun s' I' _ => h s' I') hf
/-- behind a call or a block, the state as it is -/
theorem Inv.call' {s' : Shared} {ch : List Addr} (I : Inv X pins σ H s) (ho : s'.os = s.os) (u : Un (frs X.stack) ch H H' s.heap s'.heap) (hok : HOk X.prog X.w H' s'.heap) (hg : AllBare s'.gens)
    (hch : ∀ b ∈ ch, (b ∈ X.ex ∨ X.s₀.heap.objs.size ≤ b) ∧ b ≠ X.env.locals ∧ (∀ x c, X.env.cells.lookup x = some c → c ≠ b) ∧ ∀ p ∈ X.pn ++ pins, p.1 ≠ b) : Inv X pins σ H' s' := by
  obtain ⟨h', g', d', t', o'⟩ := s'
  have e : o' = s.os := ho
  subst e
  exact I.call (g' := g') (t' := t') (d' := d') u hok hg hch
end

/-- an exception: its class, its own dict's address (where it has one), the abstract heap behind it -/
noncomputable abbrev XK := Value → Option Addr → Hp → Prop
noncomputable abbrev St := List (Option V)
noncomputable abbrev VK := V → Hp → Prop
/-- an expression's reading; a test's; an argument list's -/
noncomputable abbrev TE := St → Hp → VK → Prop
noncomputable abbrev TT := St → Hp → (Bool → Hp → Prop) → Prop
noncomputable abbrev TA := St → Hp → (List V → Hp → Prop) → Prop
/-- what is wanted behind a statement -/
structure Ends where
  nx : St → Hp → Prop
  rt : VK
  bk : St → Hp → Prop := fun _ _ => False
  ct : St → Hp → Prop := fun _ _ => False
noncomputable abbrev TS := Ends → St → Hp → Prop

noncomputable def EP (X : Cx) (pins : List (Addr × Obj)) (σ : St) (Q : VK) (u : Value) (s' : Shared) : Prop := ∃ v H', Inv X pins σ H' s' ∧ RelV v u ∧ Q v H'
noncomputable def TP (X : Cx) (pins : List (Addr × Obj)) (σ : St) (Q : Bool → Hp → Prop) (b : Bool) (s' : Shared) : Prop := ∃ H', Inv X pins σ H' s' ∧ Q b H'
noncomputable def AP (X : Cx) (pins : List (Addr × Obj)) (σ : St) (Q : List V → Hp → Prop) (us : List Value) (s' : Shared) : Prop := ∃ vs H', Inv X pins σ H' s' ∧ Vals vs us ∧ Q vs H'
noncomputable def SP (X : Cx) (pins : List (Addr × Obj)) (D : Ends) (f : Flow) (s' : Shared) : Prop :=
  match f with
  | .next => ∃ σ' H', Inv X pins σ' H' s' ∧ D.nx σ' H'
  | .brk => ∃ σ' H', Inv X pins σ' H' s' ∧ D.bk σ' H'
  | .cont => ∃ σ' H', Inv X pins σ' H' s' ∧ D.ct σ' H'
  | .ret u => ∃ v σ' H', Inv X pins σ' H' s' ∧ RelV v u ∧ D.rt v H'

noncomputable def PE (X : Cx) (e : Expr) (t : TE) : Prop :=
  ∀ (pins : List (Addr × Obj)) (s : Shared) (σ : St) (H : Hp) (Q : VK), Inv X pins σ H s → t σ H Q → wpAny (model X.prog X.w) X.A (eval e X.env) (EP X pins σ Q) X.xe s
noncomputable def PT (X : Cx) (e : Expr) (t : TT) : Prop :=
  ∀ (pins : List (Addr × Obj)) (s : Shared) (σ : St) (H : Hp) (Q : Bool → Hp → Prop), Inv X pins σ H s → t σ H Q → wpAny (model X.prog X.w) X.A (isTrue e X.env (eval e X.env)) (TP X pins σ Q) X.xe s
/-- a test whatever its 'whole' is (and, or) -/
noncomputable def PW (X : Cx) (e : Expr) (t : TT) : Prop :=
  ∀ (whole : Sem Value) (pins : List (Addr × Obj)) (s : Shared) (σ : St) (H : Hp) (Q : Bool → Hp → Prop), Inv X pins σ H s → t σ H Q → wpAny (model X.prog X.w) X.A (isTrue e X.env whole) (TP X pins σ Q) X.xe s
theorem PW.pt {X : Cx} {e : Expr} {t : TT} (h : PW X e t) : PT X e t := h _
/-- an argument list (no star), from the left -/
noncomputable def PA (X : Cx) (es : List Expr) (t : TA) : Prop :=
  ∀ (pos : Pos) (pins : List (Addr × Obj)) (s : Shared) (σ : St) (H : Hp) (Q : List V → Hp → Prop), Inv X pins σ H s → t σ H Q → wpAny (model X.prog X.w) X.A (spliced (backTo pos (starEach es X.env))) (AP X pins σ Q) X.xe s
noncomputable def PS (X : Cx) (st : Stmt) (t : TS) : Prop :=
  ∀ (pins : List (Addr × Obj)) (s : Shared) (σ : St) (H : Hp) (D : Ends), Inv X pins σ H s → t D σ H → wpAny (model X.prog X.w) X.A (exec st X.env) (SP X pins D) X.xe s
noncomputable def PSs (X : Cx) (st : List Stmt) (t : TS) : Prop :=
  ∀ (pins : List (Addr × Obj)) (s : Shared) (σ : St) (H : Hp) (D : Ends), Inv X pins σ H s → t D σ H → wpAny (model X.prog X.w) X.A (execs st X.env) (SP X pins D) X.xe s
/-- weaken the end -/
theorem thn {α : Type} {t : Sem α} {Q Q' : α → Shared → Prop} {M : Model} {A : Around} {E : Value → Shared → Prop} {s : Shared} (h : wpAny M A t Q E s) (hQ : ∀ a s, Q a s → Q' a s) : wpAny M A t Q' E s := wpAny_mono h hQ fun _ _ x => x
end L2

namespace L2
open PySem PySem.Spec PyProof.Rows
section
variable {X : Cx}

noncomputable def tVar (i : Nat) : TE := fun σ H Q => ∃ v, σ[i]? = some (some v) ∧ Q v H
noncomputable def tC (v : V) : TE := fun _ H Q => Q v H
theorem pe_var {i : Nat} {x : Str} {pos : Pos} (hN : X.N[i]? = some x) (hv : Vis X.env.scope x) (hd : (x == ("__debug__" : Str)) = false := by decide) (hcd : (x == ("__classdict__" : Str)) = false := by decide) : PE X (.Name x pos) (tVar i) := by
  intro pins s σ H Q I h
  obtain ⟨v, e, h⟩ := h
  obtain ⟨m, hn, hl⟩ := I.loc
  obtain ⟨u, r, l⟩ := hl i x v hN e hv
  have fin : EP X pins σ Q u s := ⟨v, H, I, r, h⟩
  rcases l with ⟨hk, hm⟩ | ⟨hk, c, hc, hcell⟩
  · exact wpAny_Name (wpAny_loadName_local I.ok.kind hk hn hm fin) hd
  · rcases hk with hk | hk
    · exact wpAny_Name (wpAny_loadName_cell I.ok.kind hk hc hcell fin) hd
    · exact wpAny_Name (wpAny_loadName_free I.ok.kind hk hc hcell fin hcd) hd
theorem pe_int {i j pos} : PE X (.Constant (.int i) j pos) (tC (.int i)) := fun _ _ _ H _ I h => wpAny_Constant_int ⟨.int i, H, I.tok _, ⟨_, rfl⟩, h⟩
theorem pe_bl {b j pos} : PE X (.Constant (.bool b) j pos) (tC (.bl b)) := fun _ _ _ H _ I h => Constant_bool ⟨.bl b, H, I, rfl, h⟩
theorem pe_non {j pos} : PE X (.Constant .none j pos) (tC .non) := fun _ _ _ H _ I h => Constant_none ⟨.non, H, I, rfl, h⟩
/-- a global name of the def -/
noncomputable def Gl (X : Cx) (x : Str) : Prop := X.env.kindOf x = some .globalImplicit
theorem ld_glob {E : Value → Shared → Prop} {pins : List (Addr × Obj)} {s : Shared} {σ : St} {H : Hp} {x : Str} {u : Value} {pos : Pos} {Q : Value → Shared → Prop} (I : Inv X pins σ H s) (hg : Gl X x) (hm : X.mg x = some u) (h : Q u s)
    (hd : (x == ("__debug__" : Str)) = false := by decide) : wpAny (model X.prog X.w) X.A (eval (.Name x pos) X.env) Q E s :=
  Calls.Name_function_global I.ok.kind hg (Calls.loadGlobal_global (by rw [I.ok.glob]; exact I.mod.glob.keeps I.bk) hm h) hd
theorem ld_blt {E : Value → Shared → Prop} {pins : List (Addr × Obj)} {s : Shared} {σ : St} {H : Hp} {x : Str} {u : Value} {pos : Pos} {Q : Value → Shared → Prop} (I : Inv X pins σ H s) (hg : Gl X x) (hm : X.mg x = none) (hv : bootBuiltins x = some u) (h : Q u s)
    (hn : x ≠ "__name__" := by decide) (hd : (x == ("__debug__" : Str)) = false := by decide) : wpAny (model X.prog X.w) X.A (eval (.Name x pos) X.env) Q E s := by
  obtain ⟨mb, h1, h2⟩ := I.mod.blt
  exact Calls.Name_function_global I.ok.kind hg (Calls.loadGlobal_builtin (by rw [I.ok.glob]; exact I.mod.glob.keeps I.bk) hm (by rw [I.ok.blt]; exact h1.keeps I.bk) ((h2 x hn).trans hv) h) hd
/-- a module's constant, a class, a function, as a value -/
theorem pe_glob {x : Str} {v : V} {u : Value} {pos : Pos} (hg : Gl X x) (hm : X.mg x = some u) (r : RelV v u) (hd : (x == ("__debug__" : Str)) = false := by decide) : PE X (.Name x pos) (tC v) :=
  fun _ _ _ H _ I h => ld_glob I hg hm ⟨v, H, I, r, h⟩ hd
theorem pe_bltn {x : Str} {v : V} {u : Value} {pos : Pos} (hg : Gl X x) (hm : X.mg x = none) (hv : bootBuiltins x = some u) (r : RelV v u) (hn : x ≠ "__name__" := by decide) (hd : (x == ("__debug__" : Str)) = false := by decide) : PE X (.Name x pos) (tC v) :=
  fun _ _ _ H _ I h => ld_blt I hg hm hv ⟨v, H, I, r, h⟩ hn hd

variable {a b : Expr} {ta tb : TE} {pos : Pos}
/-- a comparison as a value, as a test -/
noncomputable def tB (t : TE) : TT := fun σ H Q => t σ H fun x H1 => ∃ c, x = .bl c ∧ Q c H1
/-- an expression whose value is a bool, as a test -/
theorem pt_val {e : Expr} {t : TE} (h : PE X e t) (he : ∀ whole, isTrue e X.env whole = (do let v ← whole; standAt e.pos; holding [v] (truthy v)) := by intro _; rfl) : PT X e (tB t) := by
  intro pins s σ H Q I hw
  refine isTrue_plain (thn (h pins s σ H _ I hw) fun v s1 ⟨x, H1, I1, r1, q1⟩ => ?_) (he _)
  obtain ⟨d, rfl, q⟩ := q1
  cases r1
  exact wpAny_truthy_bool ⟨H1, I1, q⟩

variable {tA tB' : TT} {rest : List Expr}
noncomputable def tAnd (t u : TT) : TT := fun σ H Q => t σ H fun c H1 => if c = true then u σ H1 Q else Q false H1
noncomputable def tOr (t u : TT) : TT := fun σ H Q => t σ H fun c H1 => if c = true then Q true H1 else u σ H1 Q
noncomputable def tNot (t : TT) : TT := fun σ H Q => t σ H fun c H1 => Q (!c) H1
theorem pw_and1 (ha : PT X a tA) : PW X (.BoolOp .And [a] pos) tA := by
  intro wh pins s σ H Q I h
  refine isTrue_and (thn (ha pins s σ H Q I h) fun c s1 e => ?_)
  cases c with
  | true => exact isTrue_and_nil e
  | false => exact e
theorem pw_or1 (ha : PT X a tA) : PW X (.BoolOp .Or [a] pos) tA := by
  intro wh pins s σ H Q I h
  refine isTrue_or (thn (ha pins s σ H Q I h) fun c s1 e => ?_)
  cases c with
  | false => exact isTrue_or_nil e
  | true => exact e
theorem pw_and (ha : PT X a tA) (hb : PW X (.BoolOp .And (b :: rest) pos) tB') : PW X (.BoolOp .And (a :: b :: rest) pos) (tAnd tA tB') := by
  intro wh pins s σ H Q I h
  refine isTrue_and (thn (ha pins s σ H _ I h) fun c s1 ⟨H1, I1, q1⟩ => ?_)
  cases c with
  | true => exact hb wh pins s1 σ H1 Q I1 q1
  | false => exact ⟨H1, I1, q1⟩
theorem pw_or (ha : PT X a tA) (hb : PW X (.BoolOp .Or (b :: rest) pos) tB') : PW X (.BoolOp .Or (a :: b :: rest) pos) (tOr tA tB') := by
  intro wh pins s σ H Q I h
  refine isTrue_or (thn (ha pins s σ H _ I h) fun c s1 ⟨H1, I1, q1⟩ => ?_)
  cases c with
  | true => exact ⟨H1, I1, q1⟩
  | false => exact hb wh pins s1 σ H1 Q I1 q1
theorem pt_not (ha : PT X a tA) : PT X (.UnaryOp .Not a pos) (tNot tA) := by
  intro pins s σ H Q I h
  exact isTrue_not (ha pins s σ H (fun c H1 => Q (!c) H1) I h)
/-- .. as values (bools) -/
noncomputable def tAndV (ta tb : TE) : TE := fun σ H Q => ta σ H fun x H1 => ∃ c, x = .bl c ∧ if c = true then tb σ H1 Q else Q (.bl false) H1
noncomputable def tOrV (ta tb : TE) : TE := fun σ H Q => ta σ H fun x H1 => ∃ c, x = .bl c ∧ if c = true then Q (.bl true) H1 else tb σ H1 Q
noncomputable def tNotV (ta : TE) : TE := fun σ H Q => ta σ H fun x H1 => ∃ c, x = .bl c ∧ Q (.bl (!c)) H1
theorem pe_one {op} {t : TE} (h : PE X a t) : PE X (.BoolOp op [a] pos) t := fun pins s σ H Q I hw => BoolOp_one (h pins s σ H Q I hw)
theorem pe_and (ha : PE X a ta) (hb : PE X (.BoolOp .And (b :: rest) pos) tb) : PE X (.BoolOp .And (a :: b :: rest) pos) (tAndV ta tb) := by
  intro pins s σ H Q I h
  refine BoolOp_and (thn (ha pins s σ H _ I h) fun v s1 ⟨x, H1, I1, r1, q1⟩ => ?_)
  obtain ⟨c, rfl, q1⟩ := q1
  cases r1
  refine wpAny_truthy_bool ?_
  cases c with
  | true => exact hb pins s1 σ H1 Q I1 q1
  | false => exact ⟨.bl false, H1, I1, rfl, q1⟩
theorem pe_not (ha : PE X a ta) : PE X (.UnaryOp .Not a pos) (tNotV ta) := by
  intro pins s σ H Q I h
  refine UnaryOp_ (thn (ha pins s σ H _ I h) fun v s1 ⟨x, H1, I1, r1, q1⟩ => ?_)
  obtain ⟨c, rfl, q1⟩ := q1
  cases r1
  exact not_of (wpAny_truthy_bool ⟨.bl (!c), H1, I1, rfl, q1⟩)
/-- a if t else b -/
noncomputable def tIf (t : TT) (ta tb : TE) : TE := fun σ H Q => t σ H fun c H1 => if c = true then ta σ H1 Q else tb σ H1 Q
end
end L2

namespace L2
open PySem PySem.Spec PyProof.Rows

noncomputable def SqL (K : PySem.W.Frag) (H : Hp) (a : Addr) (xs : List V) : Prop :=
  Rd H a (.lst xs) ∨
    ∃ (o : Obj) (its : Array Value) (n : Nat), K.lookup a = some o ∧ o.cls = .type "list" ∧ o.dict = none ∧ o.data = .seq its n ∧ its.size ≤ sizeLine ∧ Vals xs its.toList
noncomputable def SqT (K : PySem.W.Frag) (H : Hp) (a : Addr) (xs : List V) : Prop :=
  Rd H a (.tup xs) ∨
    ∃ (o : Obj) (its : Array Value) (n : Nat), K.lookup a = some o ∧ o.cls = .type "tuple" ∧ o.data = .seq its n ∧ its.size ≤ sizeLine ∧ Vals xs its.toList
noncomputable def absV : Value → Option V
  | .none => some .non
  | .bool b => some (.bl b)
  | .int i _ => some (.int i)
  | .str x _ => some (.str x)
  | .bytes b _ => some (.byt b)
  | .float b _ => some (.flt b)
  | .ref a => some (.ref a)
  | .type n => some (.ty n)
  | _ => none
theorem RelV.abs {x : V} {u : Value} (r : RelV x u) : absV u = some x := by
  cases x with
  | non => cases r; rfl
  | bl _ => cases r; rfl
  | int _ => obtain ⟨t, rfl⟩ := r; rfl
  | str _ => obtain ⟨t, rfl⟩ := r; rfl
  | byt _ => obtain ⟨t, rfl⟩ := r; rfl
  | flt _ => obtain ⟨t, rfl⟩ := r; rfl
  | ref _ => cases r; rfl
  | ty _ => cases r; rfl
theorem RelV.inj {x y : V} {u : Value} (r : RelV x u) (q : RelV y u) : x = y := Option.some.inj (r.abs.symm.trans q.abs)
theorem Vals.inj : ∀ {xs ys : List V} {us : List Value}, Vals xs us → Vals ys us → xs = ys
  | _, _, _, .nil, .nil => rfl
  | _, _, _, .cons r t, .cons r' t' => by rw [r.inj r', Vals.inj t t']
section
variable {X : Cx} {pins : List (Addr × Obj)} {σ : St} {H : Hp} {s : Shared} {a : Addr} {xs ys : List V}
theorem SqL.of {K : PySem.W.Frag} (h : H a = some (.lst xs)) : SqL K H a xs := .inl (.inl h)
theorem SqT.of {K : PySem.W.Frag} (h : H a = some (.tup xs)) : SqT K H a xs := .inl (.inl h)
theorem Inv.list (I : Inv X pins σ H s) (h : SqL X.K H a xs) : ∃ its : List Value, Vals xs its ∧ PlainL s.heap a its.toArray ∧ xs.length ≤ sizeLine := by
  rcases h with h | ⟨o, its, n, hk, hc, hd, hs, hz, r⟩
  · obtain ⟨z, its, n, r, e⟩ := h.ok I.hok
    exact ⟨its, r, ⟨_, n, e, rfl, rfl, rfl⟩, z⟩
  · refine ⟨its.toList, r, ⟨o, n, I.kIn a o hk, hc, hd, by simpa using hs⟩, ?_⟩
    have e := r.length
    simp only [Array.length_toList] at e
    omega
theorem Inv.tuple (I : Inv X pins σ H s) (h : SqT X.K H a xs) : ∃ its : List Value, Vals xs its ∧ IsTup s.heap a its.toArray ∧ xs.length ≤ sizeLine := by
  rcases h with h | ⟨o, its, n, hk, hc, hs, hz, r⟩
  · obtain ⟨z, its, r, p⟩ := h.ok I.hok
    exact ⟨its, r, p, z⟩
  · refine ⟨its.toList, r, ⟨o, I.kIn a o hk, hc, n, by simpa using hs⟩, ?_⟩
    have e := r.length
    simp only [Array.length_toList] at e
    omega
theorem Inv.list_inj (I : Inv X pins σ H s) (h : SqL X.K H a xs) (h' : SqL X.K H a ys) : xs = ys := by
  obtain ⟨its, r, ⟨o, n, e, _, _, d⟩, _⟩ := I.list h
  obtain ⟨its', r', ⟨o', n', e', _, _, d'⟩, _⟩ := I.list h'
  rw [e] at e'; cases e'
  rw [d] at d'
  injection d' with d1 _
  have : its = its' := by simpa using congrArg Array.toList d1
  subst this
  exact r.inj r'
theorem Inv.tuple_inj (I : Inv X pins σ H s) (h : SqT X.K H a xs) (h' : SqT X.K H a ys) : xs = ys := by
  obtain ⟨its, r, ⟨o, e, _, n, d⟩, _⟩ := I.tuple h
  obtain ⟨its', r', ⟨o', e', _, n', d'⟩, _⟩ := I.tuple h'
  rw [e] at e'; cases e'
  rw [d] at d'
  injection d' with d1 _
  have : its = its' := by simpa using congrArg Array.toList d1
  subst this
  exact r.inj r'
end

noncomputable abbrev Cx.wish (X : Cx) (E : Value → Shared → Prop) : Cx := { X with xe := E }
/-- no exception leaves -/
noncomputable abbrev Cx.nox (X : Cx) : Cx := X.wish fun _ _ => False
theorem Cx.Ok.wish {X : Cx} (ok : X.Ok) (E : Value → Shared → Prop) : (X.wish E).Ok :=
  ⟨ok.mod, ok.kind, ok.glob, ok.blt, ok.above, ok.inj, ok.has, ok.cab, ok.hd, ok.frames, ok.stk, ok.exf, ok.bs, ok.bsz, ok.noex, ok.exfs, ok.funs, ok.frf⟩
theorem Cx.Ok.unwish {X : Cx} {E : Value → Shared → Prop} (ok : (X.wish E).Ok) : X.Ok :=
  ⟨ok.mod, ok.kind, ok.glob, ok.blt, ok.above, ok.inj, ok.has, ok.cab, ok.hd, ok.frames, ok.stk, ok.exf, ok.bs, ok.bsz, ok.noex, ok.exfs, ok.funs, ok.frf⟩
section
variable {X : Cx} {pins : List (Addr × Obj)} {σ : St} {H : Hp} {s : Shared} {E : Value → Shared → Prop}
theorem Inv.wish (I : Inv X pins σ H s) (E : Value → Shared → Prop) : Inv (X.wish E) pins σ H s := ⟨I.ok.wish E, I.os, I.bare, I.base, I.loc, I.cell, I.free, I.freeC, I.pin, I.hok, I.len⟩
theorem Inv.unwish (I : Inv (X.wish E) pins σ H s) : Inv X pins σ H s := ⟨I.ok.unwish, I.os, I.bare, I.base, I.loc, I.cell, I.free, I.freeC, I.pin, I.hok, I.len⟩
theorem SP.unwish {D : Ends} {f : Flow} {s' : Shared} (h : SP (X.wish E) pins D f s') : SP X pins D f s' := by
  cases f with
  | next => obtain ⟨σ', H', I, q⟩ := h; exact ⟨σ', H', I.unwish, q⟩
  | brk => obtain ⟨σ', H', I, q⟩ := h; exact ⟨σ', H', I.unwish, q⟩
  | cont => obtain ⟨σ', H', I, q⟩ := h; exact ⟨σ', H', I.unwish, q⟩
  | ret u => obtain ⟨v, σ', H', I, r, q⟩ := h; exact ⟨v, σ', H', I.unwish, r, q⟩
theorem PT.nox {e : Expr} {t : TT} (h : PT X.nox e t) : PT X e t := fun pins s σ H Q I hw =>
  wpAny_mono (h pins s σ H Q (I.wish _) hw) (fun _ _ ⟨H', I', q⟩ => ⟨H', I'.unwish, q⟩) fun _ _ z => False.elim z
theorem PSs.nox {st : List Stmt} {t : TS} (h : PSs X.nox st t) : PSs X st t := fun pins s σ H D I hw =>
  wpAny_mono (h pins s σ H D (I.wish _) hw) (fun _ _ q => q.unwish) fun _ _ z => False.elim z
end

section
variable {X : Cx} {st : Stmt} {rest : List Stmt} {t u : TS} {e : Expr} {te : TE} {pos : Pos}
noncomputable def tNext : TS := fun D σ H => D.nx σ H
noncomputable def tSeq (t u : TS) : TS := fun D σ H => t { D with nx := u D } σ H
theorem pss_nil : PSs X [] tNext := fun _ _ σ H _ I h => wpAny_execs_nil ⟨σ, H, I, h⟩
theorem pss_cons (h1 : PS X st t) (h2 : PSs X rest u) : PSs X (st :: rest) (tSeq t u) := by
  intro pins s σ H D I h
  refine wpAny_execs_cons (thn (h1 pins s σ H { D with nx := u D } I h) fun f s1 q => ?_)
  cases f with
  | next =>
    obtain ⟨σ', H', I', q⟩ := q
    exact h2 pins s1 σ' H' D I' q
  | ret v => exact q
  | brk => exact q
  | cont => exact q
theorem pss_one (h1 : PS X st t) : PSs X [st] t := by
  intro pins s σ H D I h
  refine wpAny_execs_cons (thn (h1 pins s σ H D I h) fun f s1 q => ?_)
  cases f with
  | next => exact wpAny_execs_nil q
  | ret v => exact q
  | brk => exact q
  | cont => exact q
noncomputable def tBreak : TS := fun D σ H => D.bk σ H
noncomputable def tCont : TS := fun D σ H => D.ct σ H
/-- in a def's body nothing is shown -/
theorem Inv.quiet {pins : List (Addr × Obj)} {σ : St} {H : Hp} {s : Shared} (I : Inv X pins σ H s) : interactive X.env = false := by simp [interactive, I.ok.kind]
/-- an expression whose value is dropped -/
noncomputable def tDrop (te : TE) : TS := fun D σ H => te σ H fun _ H1 => D.nx σ H1
theorem ps_expr (he : PE X e te) (hs : swapsWith e none pos.line X.env = pure false := by rfl) : PS X (.Expr e pos) (tDrop te) := by
  intro pins s σ H D I h
  exact wpAny_Expr_any (thn (he pins s σ H _ I h) fun v s1 ⟨x, H1, I1, r1, q1⟩ => ⟨σ, H1, I1, q1⟩) I.quiet hs
noncomputable def tRet (te : TE) : TS := fun D σ H => te σ H D.rt
theorem ps_ret (he : PE X e te) : PS X (.Return (some e) pos) (tRet te) := by
  intro pins s σ H D I h
  exact wpAny_Return_some (thn (he pins s σ H _ I h) fun v s1 ⟨x, H1, I1, r1, q1⟩ => ⟨x, σ, H1, I1, r1, q1⟩)
noncomputable def tRetN : TS := fun D _ H => D.rt .non H
noncomputable def tIfS (c : TT) (t u : TS) : TS := fun D σ H => c σ H fun b H1 => if b = true then t D σ H1 else u D σ H1
theorem ps_if {c : Expr} {a b : List Stmt} {tc : TT} (hc : PT X c tc) (ha : PSs X a t) (hb : PSs X b u) : PS X (.If c a b pos) (tIfS tc t u) := by
  intro pins s σ H D I h
  refine wpAny_If (thn (hc pins s σ H _ I h) fun d s1 ⟨H1, I1, q1⟩ => ?_)
  cases d with
  | true => exact ha pins s1 σ H1 D I1 q1
  | false => exact hb pins s1 σ H1 D I1 q1
end

noncomputable abbrev TG := V → St → Hp → (St → Hp → Prop) → Prop
noncomputable abbrev TGs := List V → St → Hp → (St → Hp → Prop) → Prop
noncomputable def PG (X : Cx) (target : Expr) (t : TG) : Prop :=
  ∀ (pins : List (Addr × Obj)) (s : Shared) (σ : St) (H : Hp) (v : V) (u : Value) (Q : St → Hp → Prop), Inv X pins σ H s → RelV v u → t v σ H Q →
    wpAny (model X.prog X.w) X.A (assign target X.env u) (fun _ s' => ∃ σ' H', Inv X pins σ' H' s' ∧ Q σ' H') X.xe s
/-- several targets, one after another -/
noncomputable def PGs (X : Cx) (ts : List Expr) (t : TGs) : Prop :=
  ∀ (pins : List (Addr × Obj)) (s : Shared) (σ : St) (H : Hp) (vs : List V) (us : List Value) (Q : St → Hp → Prop), Inv X pins σ H s → Vals vs us → t vs σ H Q →
    wpAny (model X.prog X.w) X.A (assignInOrder ((assignEach ts X.env).map (·.2)) us) (fun _ s' => ∃ σ' H', Inv X pins σ' H' s' ∧ Q σ' H') X.xe s
/-- o[i] = v, by values -/
noncomputable abbrev TSet := V → V → V → Hp → (Hp → Prop) → Prop
noncomputable def PSet (X : Cx) (t : TSet) : Prop :=
  ∀ (pins : List (Addr × Obj)) (s : Shared) (σ : St) (H : Hp) (o i v : V) (ov iv u : Value) (Q : Hp → Prop), Inv X pins σ H s → RelV o ov → RelV i iv → RelV v u → t o i v H Q →
    wpAny (model X.prog X.w) X.A (setItem ov iv u) (fun _ s' => ∃ H', Inv X pins σ H' s' ∧ Q H') X.xe s
section
variable {X : Cx} {pos : Pos}
noncomputable def gName (i : Nat) : TG := fun v σ H Q => Q (σ.set i (some v)) H
theorem pg_name {i : Nat} {x : Str} (hN : X.N.Nodup) (hi : X.N[i]? = some x) (hx : Loc X.env.scope x) (hf : X.fn x = true ∨ X.env.scope.names.lookup x = some .local := by first | exact .inl rfl | exact .inr rfl | assumption) : PG X (.Name x pos) (gName i) := by
  intro pins s σ H v u Q I r h
  exact wpAny_assign_Name (store_ok I hN hi hx r (fun s' I' => ⟨_, H, I', h⟩) hf)
noncomputable def gNil : TGs := fun vs σ H Q => vs = [] ∧ Q σ H
noncomputable def gCons (t : TG) (u : TGs) : TGs := fun vs σ H Q => ∃ v r, vs = v :: r ∧ t v σ H fun σ' H' => u r σ' H' Q
theorem pgs_nil : PGs X [] gNil := by
  intro pins s σ H vs us Q I r h
  obtain ⟨e, h⟩ := h
  subst e
  cases r
  exact assignInOrder_nil ⟨σ, H, I, h⟩
theorem pgs_cons {e : Expr} {es : List Expr} {t : TG} {u : TGs} (h1 : PG X e t) (h2 : PGs X es u)
    (hs : (assignEach (e :: es) X.env).map (·.2) = assign e X.env :: (assignEach es X.env).map (·.2) := by rfl) : PGs X (e :: es) (gCons t u) := by
  intro pins s σ H vs us Q I r h
  obtain ⟨v, vr, e1, h⟩ := h
  subst e1
  cases r with
  | cons r rr =>
    rw [hs]
    refine assignInOrder_cons (thn (h1 pins s σ H _ _ _ I r h) fun _ s1 ⟨σ1, H1, I1, q1⟩ => ?_)
    exact h2 pins s1 σ1 H1 _ _ Q I1 rr q1
/-- (a, b, ..) = a tuple of that length -/
noncomputable def gTup (K : PySem.W.Frag) (n : Nat) (t : TGs) : TG := fun v σ H Q => ∃ a xs, v = .ref a ∧ SqT K H a xs ∧ xs.length = n ∧ t xs σ H Q
theorem pg_tup {es : List Expr} {k : Nat} {t : TGs} {n : Nat} (hc : X.calm = true) (h : PGs X es t)
    (hn : (assignEach es X.env).length = n := by rfl) (hst : (assignEach es X.env).findIdx? (·.1) = none := by rfl) : PG X (.Tuple es k pos) (gTup X.K n t) := by
  intro pins s σ H v u Q I r hw
  obtain ⟨a, xs, e1, hq, hl, hw⟩ := hw
  subst e1
  cases r
  obtain ⟨its, rv, ht, hz⟩ := I.tuple hq
  refine assign_Tuple_tuple (I.ok.hd hc) ht (by simp [hn, ← hl, rv.length]) hst fun h' hx => ?_
  have I1 : Inv X pins σ H { s with heap := h' } := I.kept (t' := s.toks) fun b o e => hx b o (Nat.ne_of_lt (Heap.lt_size e)) e
  exact h pins _ σ H xs _ Q I1 (by simpa using rv) hw
/-- o[i] = .. -/
noncomputable def gSub (to ti : TE) (t : TSet) : TG := fun v σ H Q => to σ H fun o H1 => ti σ H1 fun i H2 => t o i v H2 fun H3 => Q σ H3
theorem pg_sub {o i : Expr} {to ti : TE} {t : TSet} (ho : PE X o to) (hi : PE X i ti) (hs : PSet X t)
    (ha : ∀ v, assign (.Subscript o i pos) X.env v = (do
      let ov ← holding [v] (eval o X.env)
      let iv ← holding [v, ov] (eval i X.env)
      standAt pos
      holding [v, ov, iv] (setItem ov iv v)
      release [v, ov, iv] []) := by intro _; rfl) : PG X (.Subscript o i pos) (gSub to ti t) := by
  intro pins s σ H v u Q I r h
  rw [ha]
  refine wpAny_bind (wpAny_holding (thn (ho pins s σ H _ I h) fun ov s1 ⟨x, H1, I1, r1, q1⟩ => ?_))
  refine wpAny_bind (wpAny_holding (thn (hi pins s1 σ H1 _ I1 q1) fun iv s2 ⟨y, H2, I2, r2, q2⟩ => ?_))
  refine wpAny_bind (wpAny_standAt (wpAny_bind (wpAny_holding (thn (hs pins s2 σ H2 x y v ov iv u _ I2 r1 r2 r q2) fun _ s3 ⟨H3, I3, q3⟩ => ?_))))
  exact wpAny_release ⟨σ, H3, I3, q3⟩
/-- target = value -/
noncomputable def tAsg (te : TE) (g : TG) : TS := fun D σ H => te σ H fun x H1 => g x σ H1 D.nx
theorem ps_asg {tg e : Expr} {te : TE} {g : TG} (he : PE X e te) (hg : PG X tg g) (hs : swapsWithSole [tg] e pos.line X.env = pure false := by rfl) (hw : swappedStores [tg] e X.env = pure none := by rfl)
    (h1 : (assignEach [tg] X.env).map (·.2) = [assign tg X.env] := by rfl) : PS X (.Assign [tg] e pos) (tAsg te g) := by
  intro pins s σ H D I h
  refine wpAny_Assign_stores (thn (he pins s σ H _ I h) fun v s1 ⟨x, H1, I1, r1, q1⟩ => ?_) hs hw
  rw [h1]
  exact thn (hg pins s1 σ H1 x v _ I1 r1 q1) fun _ s2 q => q
/-- name = value -/
theorem ps_set {i : Nat} {x : Str} {e : Expr} {te : TE} {pos' : Pos} (hN : X.N.Nodup) (hi : X.N[i]? = some x) (hx : Loc X.env.scope x) (he : PE X e te) (hs : swapsWith e (some (.Name x pos')) pos.line X.env = pure false := by rfl) (hf : X.fn x = true ∨ X.env.scope.names.lookup x = some .local := by first | exact .inl rfl | exact .inr rfl | assumption) :
    PS X (.Assign [.Name x pos'] e pos) (tAsg te (gName i)) := by
  intro pins s σ H D I h
  refine wpAny_Assign_Name (thn (he pins s σ H _ I h) fun v s1 ⟨y, H1, I1, r1, q1⟩ => ?_) hs
  exact store_ok I1 hN hi hx r1 (fun s2 I2 => ⟨_, H1, I2, q1⟩) hf
end

section
variable {X : Cx} {pos : Pos}
end

/-- at turn i: it yields x (the heap may grow), or it stops -/
structure It where
  go : Nat → Hp → Prop
  yld : Nat → Hp → V → Hp → Prop
  stop : Nat → Hp → Prop
/-- the iterator's own objects may turn: they are not the frame's, not pinned, younger than the entry (or a comprehension's own) -/
noncomputable def FpOk (X : Cx) (pins : List (Addr × Obj)) (H : Hp) (b : Addr) : Prop :=
  H b = none ∧ b ≠ X.env.locals ∧ b ∉ X.fs ∧ (b ∈ X.ex ∨ X.s₀.heap.objs.size ≤ b) ∧ (∀ x c, X.env.cells.lookup x = some c → c ≠ b) ∧ ∀ p ∈ X.pn ++ pins, p.1 ≠ b
theorem Inv.fpOk {X : Cx} {pins : List (Addr × Obj)} {σ : St} {H H' : Hp} {s : Shared} {b : Addr} (I : Inv X pins σ H s) (hb : s.heap.objs.size ≤ b) (hn : H' b = none) : FpOk X pins H' b := by
  refine ⟨hn, Nat.ne_of_gt (Nat.lt_of_lt_of_le I.lt hb), I.nofs hb, .inr (Nat.le_trans I.sz hb), fun x c e z => ?_, fun p hp z => ?_⟩
  · obtain ⟨v, q⟩ := I.cell x c e
    exact absurd (Nat.lt_of_lt_of_le q.lt (by rw [z]; exact hb)) (Nat.lt_irrefl _)
  · exact absurd (Nat.lt_of_lt_of_le (Heap.lt_size (I.pin p hp).1) (by rw [z]; exact hb)) (Nat.lt_irrefl _)
structure Turn (P : Program) (w : World) (K : PySem.W.Frag) (tg : Expr) (J : It) (fp : List Addr) (it : Addr) (tn : Nat → Heap → Prop) : Prop where
  mem : it ∈ fp
  obj : ∀ i h, tn i h → ∀ b ∈ fp, ∃ o, h.get? b = some o ∧ ∀ v, o.data ≠ .cell v
  keep : ∀ i h h', tn i h → (∀ b ∈ fp, ∀ o, h.get? b = some o → h'.get? b = some o) → tn i h'
  item : ∀ (X : Cx), X.prog = P → X.w = w → X.K = K → X.calm = true → ∀ (i : Nat) (pins : List (Addr × Obj)) (s : Shared) (σ : St) (H : Hp) (E : Value → Shared → Prop), Inv X pins σ H s → (∀ b ∈ fp, FpOk X pins H b) → tn i s.heap → J.go i H →
    wpAny (model P w) X.A (pyNext (.ref it)) (fun r s1 => ∃ u, r = some u ∧
      wpAny (model P w) X.A (letOwnedTupleGo tg (.ref it) u) (fun _ s2 => ∃ x H', Inv X pins σ H' s2 ∧ RelV x u ∧ J.yld i H x H' ∧ tn (i + 1) s2.heap ∧ ∀ b ∈ fp, H' b = none) E s1) E s
  done : ∀ (X : Cx), X.prog = P → X.w = w → X.K = K → X.calm = true → ∀ (i : Nat) (pins : List (Addr × Obj)) (s : Shared) (σ : St) (H : Hp) (E : Value → Shared → Prop), Inv X pins σ H s → (∀ b ∈ fp, FpOk X pins H b) → tn i s.heap → J.stop i H →
    wpAny (model P w) X.A (pyNext (.ref it)) (fun r s1 => r = none ∧ Inv X pins σ H s1) E s
  self : ∀ (A : Around) (i : Nat) (s : Shared) (Q : Value → Shared → Prop) (E : Value → Shared → Prop), tn i s.heap → Q (.ref it) s → wpAny (model P w) A (pyIter (.ref it)) Q E s
noncomputable abbrev TI := St → Hp → (It → Hp → Prop) → Prop
/-- an iterator has come -/
noncomputable def PIE (X : Cx) (pins : List (Addr × Obj)) (σ : St) (tg : Expr) (R : It → Hp → Prop) (itv : Value) (s2 : Shared) : Prop :=
  ∃ (it : Addr) (fp : List Addr) (tn : Nat → Heap → Prop) (J : It) (H' : Hp), itv = .ref it ∧ Inv X pins σ H' s2 ∧ Turn X.prog X.w X.K tg J fp it tn ∧ tn 0 s2.heap ∧ (∀ b ∈ fp, FpOk X pins H' b) ∧ R J H'
noncomputable def PI (X : Cx) (tg iter : Expr) (wi : TI) : Prop :=
  ∀ (pins : List (Addr × Obj)) (s : Shared) (σ : St) (H : Hp) (R : It → Hp → Prop), Inv X pins σ H s → wi σ H R →
    wpAny (model X.prog X.w) X.A (eval iter X.env) (fun v s1 => wpAny (model X.prog X.w) X.A (pyIter v) (PIE X pins σ tg R) X.xe s1) X.xe s

/-- the step ahead of the store is nothing for an iterator that keeps no tuple -/
theorem go_of {M : Model} {A : Around} {E : Value → Shared → Prop} {s : Shared} {tg : Expr} {it : Addr} {u : Value} {o : Obj} {n : String} {vs : Array Value} {Q : Unit → Shared → Prop} (ho : s.heap.get? it = some o) (hc : o.cls = .type n) (hd : o.data = .fields vs)
    (hn : ["enumerate", "zip", "dict_itemiterator", "dict_reverseitemiterator", "odict_iterator", "itertools.zip_longest", "itertools.pairwise"].contains n = false) (hQ : Q () s) : wpAny M A (letOwnedTupleGo tg (.ref it) u) Q E s := by
  unfold letOwnedTupleGo
  cases tg <;> first
    | exact wpAny_pure hQ
    | (cases u <;> first
        | exact wpAny_pure hQ
        | (refine wpAny_bind (wpAny_load ho ?_)
           rw [hc, hd]
           show wpAny M A (if (["enumerate", "zip", "dict_itemiterator", "dict_reverseitemiterator", "odict_iterator", "itertools.zip_longest", "itertools.pairwise"].contains n && vs[0]? == some (rawInt _)) = true then _ else _) Q E s
           rw [if_neg (by intro h; rw [hn, Bool.false_and] at h; cases h)]
           exact wpAny_pure hQ))

/-- the list at a, as it stands at each turn (a loop may append to it) -/
noncomputable def Itl (K : PySem.W.Frag) (a : Addr) : It :=
  ⟨fun i H => ∃ xs x, SqL K H a xs ∧ xs[i]? = some x, fun i H x H' => H' = H ∧ ∀ xs, SqL K H a xs → xs[i]? = some x, fun i H => ∃ xs, SqL K H a xs ∧ xs.length ≤ i⟩
noncomputable def Itt (K : PySem.W.Frag) (a : Addr) : It :=
  ⟨fun i H => ∃ xs x, SqT K H a xs ∧ xs[i]? = some x, fun i H x H' => H' = H ∧ ∀ xs, SqT K H a xs → xs[i]? = some x, fun i H => ∃ xs, SqT K H a xs ∧ xs.length ≤ i⟩
/-- lo, lo + 1, .. (n of them) -/
noncomputable def Itr (lo : Int) (n : Nat) : It := ⟨fun i _ => i < n, fun i H x H' => H' = H ∧ x = .int (lo + i), fun i _ => n ≤ i⟩
theorem turn_list {P : Program} {w : World} {K : PySem.W.Frag} {tg : Expr} (a it : Addr) : Turn P w K tg (Itl K a) [it] it (fun i h => h.IsListIter it a i) where
  mem := by simp
  obj := fun i h st b hb => by
    have e : b = it := by simpa using hb
    subst e
    obtain ⟨o, e, c, d⟩ := st
    exact ⟨o, e, fun v z => by rw [d] at z; cases z⟩
  keep := fun i h h' st k => st.at fun o e => k it (by simp) o e
  item := by
    intro X hP hw hK hc i pins s σ H E I hf st hg
    subst hP hw hK
    obtain ⟨xs, x, hq, hx⟩ := hg
    obtain ⟨its, rv, p, hz⟩ := I.list hq
    obtain ⟨u, hu, ru⟩ := rv.get hx
    obtain ⟨f0, f1, f2, f3, f4, f5⟩ := hf it (by simp)
    refine wpAny_pyNext_list_item st p.isList (x := u) (by simpa using hu) fun h' st' sb => ?_
    have I1 : Inv X pins σ H { s with heap := h' } := I.turned (t' := s.toks) (fun b o hb e => (sb.2 b hb).trans e) f0 f1 f3 f4 f5
    obtain ⟨o, e, c, d⟩ := id st'
    exact ⟨u, rfl, go_of (s := { s with heap := h' }) e c d (by decide) ⟨x, H, I1, ru, ⟨rfl, fun ys hy => by rw [I.list_inj hy hq]; exact hx⟩, st', fun b hb => (hf b hb).1⟩⟩
  done := by
    intro X hP hw hK hc i pins s σ H E I hf st hg
    subst hP hw hK
    obtain ⟨xs, hq, hx⟩ := hg
    obtain ⟨its, rv, p, hz⟩ := I.list hq
    obtain ⟨f0, f1, f2, f3, f4, f5⟩ := hf it (by simp)
    have hl := rv.length
    exact wpAny_pyNext_list_end (I.ok.hd hc) st p.isList (by simp; omega) fun h' eb => ⟨rfl, I.turned (t' := s.toks) (fun b o hb e => eb b o hb e) f0 f1 f3 f4 f5⟩
  self := fun _ _ _ _ _ st h => wpAny_pyIter_listiter st h
theorem turn_tuple {P : Program} {w : World} {K : PySem.W.Frag} {tg : Expr} (a it : Addr) : Turn P w K tg (Itt K a) [it] it (fun i h => h.IsTupleIter it a i) where
  mem := by simp
  obj := fun i h st b hb => by
    have e : b = it := by simpa using hb
    subst e
    obtain ⟨o, e, c, d⟩ := st
    exact ⟨o, e, fun v z => by rw [d] at z; cases z⟩
  keep := fun i h h' st k => st.at fun o e => k it (by simp) o e
  item := by
    intro X hP hw hK hc i pins s σ H E I hf st hg
    subst hP hw hK
    obtain ⟨xs, x, hq, hx⟩ := hg
    obtain ⟨its, rv, p, hz⟩ := I.tuple hq
    obtain ⟨u, hu, ru⟩ := rv.get hx
    obtain ⟨f0, f1, f2, f3, f4, f5⟩ := hf it (by simp)
    refine wpAny_pyNext_tuple_item st (show s.heap.IsTuple a its.toArray from p) (x := u) (by simpa using hu) fun h' st' sb => ?_
    have I1 : Inv X pins σ H { s with heap := h' } := I.turned (t' := s.toks) (fun b o hb e => (sb.2 b hb).trans e) f0 f1 f3 f4 f5
    obtain ⟨o, e, c, d⟩ := id st'
    exact ⟨u, rfl, go_of (s := { s with heap := h' }) e c d (by decide) ⟨x, H, I1, ru, ⟨rfl, fun ys hy => by rw [I.tuple_inj hy hq]; exact hx⟩, st', fun b hb => (hf b hb).1⟩⟩
  done := by
    intro X hP hw hK hc i pins s σ H E I hf st hg
    subst hP hw hK
    obtain ⟨xs, hq, hx⟩ := hg
    obtain ⟨its, rv, p, hz⟩ := I.tuple hq
    obtain ⟨f0, f1, f2, f3, f4, f5⟩ := hf it (by simp)
    have hl := rv.length
    exact wpAny_pyNext_tuple_end (I.ok.hd hc) st (show s.heap.IsTuple a its.toArray from p) (by simp; omega) fun h' eb => ⟨rfl, I.turned (t' := s.toks) (fun b o hb e => eb b o hb e) f0 f1 f3 f4 f5⟩
  self := fun _ _ _ _ _ st h => wpAny_pyIter_tupleiter st h
theorem turn_range {P : Program} {w : World} {K : PySem.W.Frag} {tg : Expr} (it : Addr) (lo : Int) (n : Nat) : Turn P w K tg (Itr lo n) [it] it (fun i h => IsRangeIter h it (lo + (i : Nat) * 1) ((n : Int) - (i : Nat)) 1) where
  mem := by simp
  obj := fun i h st b hb => by
    have e : b = it := by simpa using hb
    subst e
    exact ⟨_, st, fun v z => by
      have z' : Data.fields _ = Data.cell v := z
      cases z'⟩
  keep := fun i h h' st k => k it (by simp) _ st
  item := by
    intro X hP hw hK hc i pins s σ H E I hf st hg
    subst hP hw hK
    obtain ⟨f0, f1, f2, f3, f4, f5⟩ := hf it (by simp)
    have W := Walks.range (prog := X.prog) (w := X.w) (I.ok.hd hc) it lo 1 n
    refine W.item i s _ _ hg st fun v h' tk hv st' kk => ?_
    obtain ⟨t, rfl⟩ := hv
    have I1 : Inv X pins σ H { s with heap := h', toks := tk } := I.turned (fun b o hb e => kk b o (by simpa using hb) e) f0 f1 f3 f4 f5
    refine ⟨_, rfl, go_of (s := { s with heap := h', toks := tk }) (n := "range_iterator") st' rfl rfl (by decide) ⟨.int (lo + i), H, I1, ⟨t, ?_⟩, ⟨rfl, rfl⟩, st', fun b hb => (hf b hb).1⟩⟩
    rw [Int.mul_one]
  done := by
    intro X hP hw hK hc i pins s σ H E I hf st hg
    subst hP hw hK
    obtain ⟨f0, f1, f2, f3, f4, f5⟩ := hf it (by simp)
    exact wpAny_pyNext_range_end (I.ok.hd hc) st (by have : n ≤ i := hg; omega) fun h' eb => ⟨rfl, I.turned (t' := s.toks) (fun b o hb e => eb b o hb e) f0 f1 f3 f4 f5⟩
  self := fun _ _ _ _ _ st h => wpAny_pyIter_rangeiter st h
end L2

namespace L2
open PySem PySem.Spec PyProof.Rows
section
variable {X : Cx} {tg : Expr}
/-- a range object just made, walked -/
theorem range_it {pins : List (Addr × Obj)} {σ : St} {H : Hp} {s : Shared} {R : It → Hp → Prop} {E : Value → Shared → Prop} {lo hi : Int} {t u v : Tok} {tk : Nat} (I : Inv X pins σ H s) (h1 : -(2 ^ 62) ≤ lo) (h2 : lo < 2 ^ 62) (h3 : -(2 ^ 62) ≤ hi) (h4 : hi < 2 ^ 62)
    (q : R (Itr lo (hi - lo).toNat) H) : wpAny (model X.prog X.w) X.A (pyIter (.ref s.heap.objs.size)) (PIE X pins σ tg R) E { s with heap := s.heap.push { cls := .type "range", data := .fields #[.int lo t, .int hi u, .int 1 v] }, toks := tk } := by
  refine wpAny_pyIter_range (IsRange.new ..) (small_one h1 h2 h3 h4) ?_
  have I1 : Inv X pins σ H { s with heap := s.heap.push { cls := .type "range", data := .fields #[.int lo t, .int hi u, .int 1 v] }, toks := tk } := I.kept fun b o e => Heap.get?_push_of_some _ e
  refine ⟨(s.heap.push { cls := .type "range", data := .fields #[.int lo t, .int hi u, .int 1 v] }).objs.size, [(s.heap.push { cls := .type "range", data := .fields #[.int lo t, .int hi u, .int 1 v] }).objs.size], _, _, H, rfl,
    I1.kept (t' := tk) fun b o e => Heap.get?_push_of_some _ e, turn_range _ lo (hi - lo).toNat, ?_, fun b hb => ?_, q⟩
  · have e1 : lo + ((0 : Nat) : Int) * 1 = lo := by simp
    have e2 : (((hi - lo).toNat : Nat) : Int) - ((0 : Nat) : Int) = Builtin.Range.rangeSize lo hi 1 := by rw [rangeSize_one]; split <;> omega
    show IsRangeIter _ _ (lo + ((0 : Nat) : Int) * 1) ((((hi - lo).toNat : Nat) : Int) - ((0 : Nat) : Int)) 1
    rw [e1, e2]
    exact Heap.get?_push_size _ rfl
  · have e : b = (s.heap.push { cls := .type "range", data := .fields #[.int lo t, .int hi u, .int 1 v] }).objs.size := by simpa using hb
    subst e
    exact I1.fpOk (Nat.le_refl _) (I1.hok.fresh (Nat.le_refl _))
/-- W: the invariant by the turn and a measure; N: what the body is to reach -/
noncomputable def tFor (wi : TI) (g : TG) (tb : TS) : TS := fun D σ H => wi σ H fun J H1 => ∃ W : Nat → Nat → St → Hp → Prop, (∃ m, W 0 m σ H1) ∧ ∀ i m σ H, W i m σ H →
  (J.stop i H ∧ D.nx σ H) ∨ (J.go i H ∧ ∃ N : St → Hp → Prop, (∀ σ' H', N σ' H' → ∃ m', m' < m ∧ W (i + 1) m' σ' H') ∧ ∀ x H', J.yld i H x H' → g x σ H' fun σ2 H2 => tb { D with nx := N, ct := N, bk := D.nx } σ2 H2)
/-- the records at fp as they stand -/
noncomputable def pinsAt (fp : List Addr) (h : Heap) : List (Addr × Obj) := fp.filterMap fun b => (h.get? b).map fun o => (b, o)
theorem mem_pinsAt {fp : List Addr} {h : Heap} {b : Addr} {o : Obj} (hb : b ∈ fp) (e : h.get? b = some o) : (b, o) ∈ pinsAt fp h := List.mem_filterMap.mpr ⟨b, hb, by rw [e]; rfl⟩
theorem of_pinsAt {fp : List Addr} {h : Heap} {p : Addr × Obj} (hp : p ∈ pinsAt fp h) : p.1 ∈ fp ∧ h.get? p.1 = some p.2 := by
  obtain ⟨b, hb, e⟩ := List.mem_filterMap.mp hp
  cases q : h.get? b with
  | none => rw [q] at e; cases e
  | some o =>
    rw [q] at e
    have e' : (b, o) = p := Option.some.inj e
    subst e'
    exact ⟨hb, q⟩
theorem Inv.pinned {pins : List (Addr × Obj)} {σ : St} {H : Hp} {s : Shared} {fp : List Addr} (I : Inv X pins σ H s) (hf : ∀ b ∈ fp, FpOk X pins H b) (ho : ∀ b ∈ fp, ∃ o, s.heap.get? b = some o ∧ ∀ v, o.data ≠ .cell v) : Inv X (pins ++ pinsAt fp s.heap) σ H s :=
  I.pins_of fun p hp => (List.mem_append.mp hp).elim (fun z => I.pin p (List.mem_append_right _ z)) fun z => by
    obtain ⟨hb, e⟩ := of_pinsAt z
    obtain ⟨f0, f1, f2, _⟩ := hf p.1 hb
    obtain ⟨o, e', d⟩ := ho p.1 hb
    rw [e] at e'; cases e'
    exact ⟨e, f0, f1, f2, d⟩
theorem Inv.unpinned {pins pl : List (Addr × Obj)} {σ : St} {H : Hp} {s : Shared} (I : Inv X (pins ++ pl) σ H s) : Inv X pins σ H s := I.pins_of fun p hp => I.pin p (List.mem_append_right _ (List.mem_append_left _ hp))
theorem ps_for {iter : Expr} {body : List Stmt} {wi : TI} {g : TG} {tb : TS} {pos : Pos} (hp : PassesOwn (model X.prog X.w) X.A X.env X.xe) (hc : X.calm = true) (hi : PI X tg iter wi) (hg : PG X tg g) (hb : PSs X body tb)
    (hs : ∀ x, foldedSetIterable iter X.env x = pure x := by intro _; rfl) : PS X (.For tg iter body [] pos) (tFor wi g tb) := by
  intro pins s σ H D I h
  refine wpAny_For (thn (hi pins s σ H _ I h) fun v s1 h1 => thn h1 fun itv s2 h2 => ?_) hs
  obtain ⟨it, fp, tn, J, H2, e, I2, T, st2, f2, W, ⟨m0, w0⟩, turn⟩ := h2
  subst e
  -- what stays true of the iterator's objects through the loop
  have stat : ∀ {H' : Hp}, (∀ b ∈ fp, H' b = none) → ∀ b ∈ fp, FpOk X pins H' b := fun hn b hb => ⟨hn b hb, (f2 b hb).2⟩
  refine codeAny_forLoop_any (fun n s' => ∃ i σ' H', Inv X pins σ' H' s' ∧ tn i s'.heap ∧ (∀ b ∈ fp, H' b = none) ∧ W i n σ' H') ?_ m0 ⟨0, σ, H2, I2, st2, fun b hb => (f2 b hb).1, w0⟩
  rintro n s3 ⟨i, σ3, H3, I3, st3, fr3, w3⟩
  rcases turn i n σ3 H3 w3 with ⟨stop, qn⟩ | ⟨go, N, hN, step⟩
  · refine wpAny_passesOwn hp (thn (T.done X rfl rfl rfl hc i pins s3 σ3 H3 X.xe I3 (stat fr3) st3 stop) fun r s4 ⟨hr, I4⟩ => ?_)
    subst hr
    exact wpAny_execs_nil ⟨σ3, H3, I4, qn⟩
  · refine wpAny_passesOwn hp (thn (T.item X rfl rfl rfl hc i pins s3 σ3 H3 X.xe I3 (stat fr3) st3 go) fun r s4 ⟨u, hr, h4⟩ => ?_)
    subst hr
    refine wpAny_passesOwn hp (thn h4 fun _ s5 ⟨x, H5, I5, r5, y5, st5, fr5⟩ => ?_)
    have I5' := I5.pinned (stat fr5) (T.obj _ _ st5)
    refine wpAny_passesOwn hp (thn (hg _ s5 σ3 H5 x u _ I5' r5 (step x H5 y5)) fun _ s6 ⟨σ6, H6, I6, q6⟩ => ?_)
    refine wpAny_passesOwn hp (thn (hb _ s6 σ6 H6 _ I6 q6) fun f s7 q7 => ?_)
    have again : ∀ {σ7 : St} {H7 : Hp}, Inv X (pins ++ pinsAt fp s5.heap) σ7 H7 s7 → N σ7 H7 → ∃ m, m < n ∧ ∃ i σ' H', Inv X pins σ' H' s7 ∧ tn i s7.heap ∧ (∀ b ∈ fp, H' b = none) ∧ W i m σ' H' := fun {σ7 H7} I7 n7 => by
      obtain ⟨m', hm, w7⟩ := hN σ7 H7 n7
      refine ⟨m', hm, i + 1, σ7, H7, I7.unpinned, T.keep _ _ _ st5 fun b hb o e => (I7.pin (b, o) (List.mem_append_right _ (List.mem_append_right _ (mem_pinsAt hb e)))).1, fun b hb => ?_, w7⟩
      obtain ⟨o, e, d⟩ := T.obj _ _ st5 b hb
      exact (I7.pin (b, o) (List.mem_append_right _ (List.mem_append_right _ (mem_pinsAt hb e)))).2.1
    cases f with
    | next => obtain ⟨σ7, H7, I7, n7⟩ := q7; exact again I7 n7
    | cont => obtain ⟨σ7, H7, I7, n7⟩ := q7; exact again I7 n7
    | brk => obtain ⟨σ7, H7, I7, q7⟩ := q7; exact ⟨σ7, H7, I7.unpinned, q7⟩
    | ret v => obtain ⟨x7, σ7, H7, I7, r7, q7⟩ := q7; exact ⟨x7, σ7, H7, I7.unpinned, r7, q7⟩
end

theorem for_range {lo : Int} {n : Nat} {g : TG} {tb : TS} {D : Ends} {σ : St} {H : Hp} (Pv : Nat → St → Hp → Prop) (h0 : Pv 0 σ H)
    (hs : ∀ i σ H, i < n → Pv i σ H → g (.int (lo + i)) σ H fun σ2 H2 => tb { D with nx := Pv (i + 1), ct := Pv (i + 1), bk := D.nx } σ2 H2) (hd : ∀ σ H, Pv n σ H → D.nx σ H) :
    ∃ W : Nat → Nat → St → Hp → Prop, (∃ m, W 0 m σ H) ∧ ∀ i m σ H, W i m σ H →
      ((Itr lo n).stop i H ∧ D.nx σ H) ∨ ((Itr lo n).go i H ∧ ∃ N : St → Hp → Prop, (∀ σ' H', N σ' H' → ∃ m', m' < m ∧ W (i + 1) m' σ' H') ∧ ∀ x H', (Itr lo n).yld i H x H' → g x σ H' fun σ2 H2 => tb { D with nx := N, ct := N, bk := D.nx } σ2 H2) := by
  refine ⟨fun i m σ H => m = n - i ∧ i ≤ n ∧ Pv i σ H, ⟨n, by simp, Nat.zero_le _, h0⟩, ?_⟩
  rintro i m σ H ⟨rfl, hi, p⟩
  by_cases hlt : i < n
  · refine .inr ⟨hlt, Pv (i + 1), fun σ' H' p' => ⟨n - (i + 1), by omega, rfl, hlt, p'⟩, fun x H' y => ?_⟩
    obtain ⟨e, y⟩ := y
    subst e y
    exact hs i σ _ hlt p
  · have e : i = n := by omega
    subst e
    exact .inl ⟨Nat.le_refl _, hd σ H p⟩
end L2

namespace L2
open PySem PySem.Spec PyProof.Rows

noncomputable abbrev R2 := V → V → Hp → VK → Prop
/-- a two-place operation on values: f is binaryOp op, inplaceOp op or compareOp op -/
noncomputable def OpR (X : Cx) (f : Value → Value → Sem Value) (r : R2) : Prop :=
  ∀ (pins : List (Addr × Obj)) (s : Shared) (σ : St) (H : Hp) (x y : V) (v u : Value) (Q : VK), Inv X pins σ H s → RelV x v → RelV y u → r x y H Q →
    wpAny (model X.prog X.w) X.A (f v u) (EP X pins σ Q) X.xe s
/-- a call of a value that is known (a builtin, a type) with values -/
noncomputable def CallR (X : Cx) (f : Value) (r : List V → Hp → VK → Prop) : Prop :=
  ∀ (pins : List (Addr × Obj)) (s : Shared) (σ : St) (H : Hp) (xs : List V) (us : List Value) (Q : VK), Inv X pins σ H s → Vals xs us → r xs H Q →
    wpAny (model X.prog X.w) X.A (call f us) (EP X pins σ Q) X.xe s
noncomputable def tOp (r : R2) (ta tb : TE) : TE := fun σ H Q => ta σ H fun x H1 => tb σ H1 fun y H2 => r x y H2 Q
noncomputable def tUn (r : V → Hp → VK → Prop) (ta : TE) : TE := fun σ H Q => ta σ H fun x H1 => r x H1 Q
/-- ints in, under C, and a value out -/
noncomputable def rI (C : Int → Int → Prop) (g : Int → Int → V) : R2 := fun x y H Q => ∃ i j, x = .int i ∧ y = .int j ∧ C i j ∧ Q (g i j) H
noncomputable def rI0 (g : Int → Int → V) : R2 := fun x y H Q => ∃ i j, x = .int i ∧ y = .int j ∧ Q (g i j) H
noncomputable def rU (g : Int → V) : V → Hp → VK → Prop := fun x H Q => ∃ i, x = .int i ∧ Q (g i) H

section
variable {X : Cx} {a b c : Expr} {ta tb tc : TE} {pos : Pos}

theorem binT (ha : PE X a ta) (hb : PE X b tb) {pins : List (Addr × Obj)} {s : Shared} {σ : St} {H : Hp} {R : V → V → Hp → Prop} (I : Inv X pins σ H s)
    (h : ta σ H fun x H1 => tb σ H1 fun y H2 => R x y H2) {Q : Value → Shared → Prop} {f : Value → Value → Sem Value}
    (hf : ∀ v u s2 x y H2, Inv X pins σ H2 s2 → RelV x v → RelV y u → R x y H2 → wpAny (model X.prog X.w) X.A (f v u) Q X.xe s2) :
    wpAny (model X.prog X.w) X.A (eval a X.env) (fun v s₁ => wpAny (model X.prog X.w) X.A (eval b X.env) (fun u s₂ => wpAny (model X.prog X.w) X.A (f v u) Q X.xe s₂) X.xe s₁) X.xe s := by
  refine thn (ha pins s σ H _ I h) fun v s1 ⟨x, H1, I1, r1, q1⟩ => ?_
  refine thn (hb pins s1 σ H1 _ I1 q1) fun u s2 ⟨y, H2, I2, r2, q2⟩ => ?_
  exact hf v u s2 x y H2 I2 r1 r2 q2

theorem pe_op {op : Operator} {r : R2} (ho : OpR X (binaryOp op) r) (ha : PE X a ta) (hb : PE X b tb) : PE X (.BinOp a op b pos) (tOp r ta tb) := by
  intro pins s σ H Q I h
  exact wpAny_BinOp (binT ha hb I h fun v u s2 x y H2 I2 rx ry q => ho pins s2 σ H2 x y v u Q I2 rx ry q)
theorem opI {f : Value → Value → Sem Value} {C : Int → Int → Prop} {g : Int → Int → Int}
    (rule : ∀ (i j : Int) (t u : Tok) (s : Shared) (Q : Value → Shared → Prop) (E : Value → Shared → Prop), C i j → Q (.int (g i j) s.toks) { s with toks := s.toks + 1 } → wpAny (model X.prog X.w) X.A (f (.int i t) (.int j u)) Q E s) :
    OpR X f (rI C fun i j => .int (g i j)) := by
  intro pins s σ H x y v u Q I rx ry h
  obtain ⟨i, j, rfl, rfl, hc, q⟩ := h
  obtain ⟨t, rfl⟩ := rx
  obtain ⟨t', rfl⟩ := ry
  exact rule i j t t' s _ _ hc ⟨.int (g i j), H, I.tok _, ⟨_, rfl⟩, q⟩
theorem opI0 {f : Value → Value → Sem Value} {g : Int → Int → Int}
    (rule : ∀ (i j : Int) (t u : Tok) (s : Shared) (Q : Value → Shared → Prop) (E : Value → Shared → Prop), Q (.int (g i j) s.toks) { s with toks := s.toks + 1 } → wpAny (model X.prog X.w) X.A (f (.int i t) (.int j u)) Q E s) :
    OpR X f (rI0 fun i j => .int (g i j)) := by
  intro pins s σ H x y v u Q I rx ry h
  obtain ⟨i, j, rfl, rfl, q⟩ := h
  obtain ⟨t, rfl⟩ := rx
  obtain ⟨t', rfl⟩ := ry
  exact rule i j t t' s _ _ ⟨.int (g i j), H, I.tok _, ⟨_, rfl⟩, q⟩
theorem opB0 {f : Value → Value → Sem Value} {g : Int → Int → Bool}
    (rule : ∀ (i j : Int) (t u : Tok) (s : Shared) (Q : Value → Shared → Prop) (E : Value → Shared → Prop), Q (.bool (g i j)) s → wpAny (model X.prog X.w) X.A (f (.int i t) (.int j u)) Q E s) :
    OpR X f (rI0 fun i j => .bl (g i j)) := by
  intro pins s σ H x y v u Q I rx ry h
  obtain ⟨i, j, rfl, rfl, q⟩ := h
  obtain ⟨t, rfl⟩ := rx
  obtain ⟨t', rfl⟩ := ry
  exact rule i j t t' s _ _ ⟨.bl (g i j), H, I, rfl, q⟩

noncomputable def CDiv (i j : Int) : Prop := 0 < j ∧ j < 1073741824
noncomputable def CMul (i j : Int) : Prop := (-(2 ^ 64) < i ∧ i < 2 ^ 64) ∨ (-(2 ^ 64) < j ∧ j < 2 ^ 64)
theorem CMul.ok {i j : Int} (h : CMul i j) : IntMulOk i j := by
  rcases h with ⟨h1, h2⟩ | ⟨h1, h2⟩
  · exact .of_left (intBits_le_64 h1 h2)
  · exact .of_right (intBits_le_64 h1 h2)
theorem two_pow_nn (k : Nat) : (0 : Int) ≤ 2 ^ k := by
  rw [two_pow_cast]
  exact Int.natCast_nonneg _

theorem op_add : OpR X (binaryOp .Add) (rI0 fun i j => .int (i + j)) := opI0 fun _ _ _ _ _ _ _ q => add_int q
theorem op_sub : OpR X (binaryOp .Sub) (rI0 fun i j => .int (i - j)) := opI0 fun _ _ _ _ _ _ _ q => sub_int q
theorem op_mul : OpR X (binaryOp .Mult) (rI CMul fun i j => .int (i * j)) := opI fun _ _ _ _ _ _ _ hc q => mul_int q hc.ok
/-- // by a positive divisor -/
theorem op_fdiv : OpR X (binaryOp .FloorDiv) (rI CDiv fun i j => .int (i / j)) := opI fun i j _ _ _ _ _ hc q => by
  have h1 : (0 : Int) < j := hc.1
  have h2 : j < 1073741824 := hc.2
  exact floordiv_int (by omega) (by rw [Int.fdiv_eq_ediv_of_nonneg i (by omega)]; exact q) (.inl (PyProof.noPylong_small (by omega)))
/-- % by a positive divisor of any size -/
theorem op_mod : OpR X (binaryOp .Mod) (rI (fun _ j => 0 < j) fun i j => .int (i % j)) := opI fun i j _ _ _ _ _ hc q => by
  have h1 : (0 : Int) < j := hc
  exact mod_int' (by omega) (by rw [Int.fmod_eq_emod_of_nonneg i (by omega)]; exact q)
theorem op_shr : OpR X (binaryOp .RShift) (rI (fun _ j => 0 ≤ j) fun i j => .int (i / 2 ^ j.toNat)) := opI fun i j _ _ _ _ _ hc q =>
  rshift_int hc (by rw [Int.fdiv_eq_ediv_of_nonneg i (two_pow_nn _)]; exact q)
theorem op_xor : OpR X (binaryOp .BitXor) (rI0 fun i j => .int (Builtin.bitXor i j)) := opI0 fun _ _ _ _ _ _ _ q => xor_int q

theorem iop_add : OpR X (inplaceOp .Add) (rI0 fun i j => .int (i + j)) := opI0 fun _ _ _ _ _ _ _ q => iadd_int q
end

/-- the scalars that == tells apart as data does -/
noncomputable def scal : V → V → Bool
  | .non, .non => true | .non, .int _ => true | .int _, .non => true | .non, .bl _ => true | .bl _, .non => true | .non, .str _ => true | .str _, .non => true
  | .int _, .int _ => true | .bl _, .bl _ => true | .str _, .str _ => true | .byt _, .byt _ => true
  | .int _, .str _ => true | .str _, .int _ => true | .bl _, .str _ => true | .str _, .bl _ => true
  | _, _ => false
noncomputable def rEq : R2 := fun x y H Q => scal x y = true ∧ Q (.bl (decide (x = y))) H
noncomputable def rNe : R2 := fun x y H Q => scal x y = true ∧ Q (.bl (!decide (x = y))) H

theorem dec_int {i j : Int} : decide (V.int i = V.int j) = (i == j) := by
  rw [Bool.eq_iff_iff]
  simp
theorem dec_bl {i j : Bool} : decide (V.bl i = V.bl j) = (i == j) := by
  rw [Bool.eq_iff_iff]
  simp
theorem dec_str {i j : Str} : decide (V.str i = V.str j) = (i == j) := by
  rw [Bool.eq_iff_iff]
  simp
theorem dec_byt {i j : Array UInt8} : decide (V.byt i = V.byt j) = (i.toList == j.toList) := by
  rw [Bool.eq_iff_iff]
  cases i
  cases j
  simp

section
variable {X : Cx} {a b c : Expr} {ta tb tc : TE} {pos : Pos}
theorem fin_bl {pins : List (Addr × Obj)} {σ : St} {H : Hp} {s : Shared} {Q : VK} {k k' : Bool} (I : Inv X pins σ H s) (q : Q (.bl k) H) (e : k = k') : EP X pins σ Q (.bool k') s := by
  subst e
  exact ⟨.bl k, H, I, rfl, q⟩
theorem op_eq : OpR X (compareOp .Eq) rEq := by
  intro pins s σ H x y v u Q I rx ry h
  obtain ⟨hs, q⟩ := h
  cases x with
  | non =>
    cases rx
    cases y with
    | non => cases ry; exact PySem.EqNone.eq_none_none (fin_bl I q (by simp))
    | bl j => cases ry; exact PySem.EqNone.eq_none_bool (fin_bl I q (by simp))
    | int j => obtain ⟨t', rfl⟩ := ry; exact PySem.EqNone.eq_none_int (fin_bl I q (by simp))
    | str j => obtain ⟨t', rfl⟩ := ry; exact PySem.EqNone.eq_none_str (fin_bl I q (by simp))
    | _ => exact absurd (show false = true from hs) Bool.false_ne_true
  | bl i =>
    cases rx
    cases y with
    | non => cases ry; exact PySem.EqNone.eq_bool_none (fin_bl I q (by simp))
    | bl j => cases ry; exact eq_bool (fin_bl I q dec_bl)
    | str j => obtain ⟨t', rfl⟩ := ry; exact PySem.EqMixed.eq_bool_str (fin_bl I q (by simp))
    | _ => exact absurd (show false = true from hs) Bool.false_ne_true
  | int i =>
    obtain ⟨t, rfl⟩ := rx
    cases y with
    | non => cases ry; exact PySem.EqNone.eq_int_none (fin_bl I q (by simp))
    | int j => obtain ⟨t', rfl⟩ := ry; exact eq_int (fin_bl I q dec_int)
    | str j => obtain ⟨t', rfl⟩ := ry; exact PySem.EqMixed.eq_int_str (fin_bl I q (by simp))
    | _ => exact absurd (show false = true from hs) Bool.false_ne_true
  | str i =>
    obtain ⟨t, rfl⟩ := rx
    cases y with
    | non => cases ry; exact PySem.EqNone.eq_str_none (fin_bl I q (by simp))
    | bl j => cases ry; exact PySem.EqMixed.eq_str_bool (fin_bl I q (by simp))
    | int j => obtain ⟨t', rfl⟩ := ry; exact PySem.EqMixed.eq_str_int (fin_bl I q (by simp))
    | str j => obtain ⟨t', rfl⟩ := ry; exact eq_str (fin_bl I q dec_str)
    | _ => exact absurd (show false = true from hs) Bool.false_ne_true
  | byt i =>
    obtain ⟨t, rfl⟩ := rx
    cases y with
    | byt j => obtain ⟨t', rfl⟩ := ry; exact PySem.W.eq_bytes (fin_bl I q dec_byt)
    | _ => exact absurd (show false = true from hs) Bool.false_ne_true
  | _ => cases y <;> exact absurd (show false = true from hs) Bool.false_ne_true
theorem op_ne : OpR X (compareOp .NotEq) rNe := by
  intro pins s σ H x y v u Q I rx ry h
  obtain ⟨hs, q⟩ := h
  cases x with
  | non =>
    cases rx
    cases y with
    | non => cases ry; exact PySem.EqNone.ne_none_none (fin_bl I q (by simp))
    | bl j => cases ry; exact PySem.EqNone.ne_none_bool (fin_bl I q (by simp))
    | int j => obtain ⟨t', rfl⟩ := ry; exact PySem.EqNone.ne_none_int (fin_bl I q (by simp))
    | str j => obtain ⟨t', rfl⟩ := ry; exact PySem.EqNone.ne_none_str (fin_bl I q (by simp))
    | _ => exact absurd (show false = true from hs) Bool.false_ne_true
  | bl i =>
    cases rx
    cases y with
    | non => cases ry; exact PySem.EqNone.ne_bool_none (fin_bl I q (by simp))
    | bl j => cases ry; exact ne_bool (fin_bl I q (congrArg not dec_bl))
    | str j => obtain ⟨t', rfl⟩ := ry; exact PySem.EqMixed.ne_bool_str (fin_bl I q (by simp))
    | _ => exact absurd (show false = true from hs) Bool.false_ne_true
  | int i =>
    obtain ⟨t, rfl⟩ := rx
    cases y with
    | non => cases ry; exact PySem.EqNone.ne_int_none (fin_bl I q (by simp))
    | int j => obtain ⟨t', rfl⟩ := ry; exact ne_int (fin_bl I q (congrArg not dec_int))
    | str j => obtain ⟨t', rfl⟩ := ry; exact PySem.EqMixed.ne_int_str (fin_bl I q (by simp))
    | _ => exact absurd (show false = true from hs) Bool.false_ne_true
  | str i =>
    obtain ⟨t, rfl⟩ := rx
    cases y with
    | non => cases ry; exact PySem.EqNone.ne_str_none (fin_bl I q (by simp))
    | bl j => cases ry; exact PySem.EqMixed.ne_str_bool (fin_bl I q (by simp))
    | int j => obtain ⟨t', rfl⟩ := ry; exact PySem.EqMixed.ne_str_int (fin_bl I q (by simp))
    | str j => obtain ⟨t', rfl⟩ := ry; exact ne_str (fin_bl I q (congrArg not dec_str))
    | _ => exact absurd (show false = true from hs) Bool.false_ne_true
  | byt i =>
    obtain ⟨t, rfl⟩ := rx
    cases y with
    | byt j => obtain ⟨t', rfl⟩ := ry; exact PySem.W.ne_bytes (fin_bl I q (congrArg not dec_byt))
    | _ => exact absurd (show false = true from hs) Bool.false_ne_true
  | _ => cases y <;> exact absurd (show false = true from hs) Bool.false_ne_true

theorem op_lt : OpR X (compareOp .Lt) (rI0 fun i j => .bl (decide (i < j))) := opB0 fun _ _ _ _ _ _ _ q => lt_int q
theorem op_le : OpR X (compareOp .LtE) (rI0 fun i j => .bl (decide (i ≤ j))) := opB0 fun _ _ _ _ _ _ _ q => le_int q
theorem op_gt : OpR X (compareOp .Gt) (rI0 fun i j => .bl (decide (j < i))) := opB0 fun _ _ _ _ _ _ _ q => gt_int q
theorem op_ge : OpR X (compareOp .GtE) (rI0 fun i j => .bl (decide (j ≤ i))) := opB0 fun _ _ _ _ _ _ _ q => ge_int q
/-- is None, is not None: the right side a value none -/
theorem op_isN : OpR X (compareOp .Is) (fun x y H Q => y = .non ∧ Q (.bl (decide (x = .non))) H) := by
  intro pins s σ H x y v u Q I rx ry h
  obtain ⟨rfl, q⟩ := h
  cases ry
  refine is_none_gen (fin_bl I q ?_)
  cases x <;> first
    | (cases rx; rfl)
    | (obtain ⟨t, rfl⟩ := rx; rfl)
/-- two rules for one operation: by cases -/
theorem OpR.or {f : Value → Value → Sem Value} {r r' : R2} (h : OpR X f r) (h' : OpR X f r') : OpR X f (fun x y H Q => r x y H Q ∨ r' x y H Q) := by
  intro pins s σ H x y v u Q I rx ry q
  rcases q with q | q
  · exact h pins s σ H x y v u Q I rx ry q
  · exact h' pins s σ H x y v u Q I rx ry q

theorem nomark (b : Expr) {op : CmpOp} (h : op ≠ .In := by decide) (h2 : op ≠ .NotIn := by decide) : behindInMarks op b = false := by
  have e1 : (op == CmpOp.In) = false := by cases op <;> first | rfl | exact absurd rfl h
  have e2 : (op == CmpOp.NotIn) = false := by cases op <;> first | rfl | exact absurd rfl h2
  cases b <;> simp [behindInMarks, e1, e2]
/-- a comparison as a value; hm: nomark b, or (for in, not in) by with_unfolding_all rfl -/
theorem pe_cmpR {op : CmpOp} {r : R2} (ho : OpR X (compareOp op) r) (ha : PE X a ta) (hb : PE X b tb) (hm : behindInMarks op b = false) : PE X (.Compare a [op] [b] pos) (tOp r ta tb) := by
  intro pins s σ H Q I h
  exact wpAny_Compare1 (binT ha hb I h fun v u s2 x y H2 I2 rx ry q => ho pins s2 σ H2 x y v u Q I2 rx ry q) hm
/-- a reading of a value as a test -/
noncomputable def tTest (t : TE) : TT := fun σ H Q => t σ H fun x H' => ∃ k, x = .bl k ∧ Q k H'
theorem pt_cmpR {op : CmpOp} {r : R2} (ho : OpR X (compareOp op) r) (ha : PE X a ta) (hb : PE X b tb) (hm : behindInMarks op b = false) : PT X (.Compare a [op] [b] pos) (tTest (tOp r ta tb)) := by
  intro pins s σ H Q I h
  refine wpAny_isTrue_Compare1 (thn (ha pins s σ H _ I h) fun v s1 ⟨x, H1, I1, r1, q1⟩ => thn (hb pins s1 σ H1 _ I1 q1) fun u s2 ⟨y, H2, I2, r2, q2⟩ =>
    thn (ho pins s2 σ H2 x y v u _ I2 r1 r2 q2) fun c s3 ⟨z, H3, I3, r3, k, e, q3⟩ => ?_) hm
  subst e
  cases r3
  exact wpAny_truthy_bool ⟨H3, I3, q3⟩
/-- a op1 b op2 c -/
noncomputable def tChain (r r' : R2) (ta tb tc : TE) : TE := fun σ H Q => ta σ H fun x H1 => tb σ H1 fun y H2 => r x y H2 fun z H3 => ∃ k, z = .bl k ∧
  (if k = true then tc σ H3 fun w' H4 => r' y w' H4 Q else Q (.bl false) H3)
theorem pe_chain {op op' : CmpOp} {r r' : R2} (ho : OpR X (compareOp op) r) (ho' : OpR X (compareOp op') r') (ha : PE X a ta) (hb : PE X b tb) (hc : PE X c tc)
    (hm : lastMarks [op, op'] [b, c] = false := by with_unfolding_all rfl) : PE X (.Compare a [op, op'] [b, c] pos) (tChain r r' ta tb tc) := by
  intro pins s σ H Q I h
  refine Compare_chain (thn (ha pins s σ H _ I h) fun v s1 ⟨x, H1, I1, r1, q1⟩ => chain_link (thn (hb pins s1 σ H1 _ I1 q1) fun u s2 ⟨y, H2, I2, r2, q2⟩ =>
    thn (ho pins s2 σ H2 x y v u _ I2 r1 r2 q2) fun d s3 ⟨z, H3, I3, r3, k, e, q3⟩ => ?_)) hm
  subst e
  cases r3
  refine wpAny_truthy_bool ?_
  cases k with
  | false => exact ite_ff ⟨.bl false, H3, I3, rfl, q3⟩
  | true => exact ite_tt (chain_last (thn (hc pins s3 σ H3 _ I3 q3) fun w' s4 ⟨z', H4, I4, r4, q4⟩ => ho' pins s4 σ H4 y z' u w' Q I4 r2 r4 q4))
theorem line63 : (sizeLine : Nat) < 2 ^ 63 := by rw [sizeLine_eq]; decide
theorem op_add_str : OpR X (binaryOp .Add) (fun x y H Q => ∃ i j, x = .str i ∧ y = .str j ∧ i.length + j.length ≤ sizeLine ∧ Q (.str (i ++ j)) H) := by
  intro pins s σ H x y v u Q I rx ry h
  obtain ⟨i, j, rfl, rfl, hz, q⟩ := h
  obtain ⟨t, rfl⟩ := rx
  obtain ⟨t', rfl⟩ := ry
  exact add_str (fun t' tk => ⟨.str (i ++ j), H, I.tok _, ⟨_, rfl⟩, q⟩) hz
theorem vals1 {x : V} {us : List Value} (r : Vals [x] us) : ∃ u, us = [u] ∧ RelV x u := by
  cases r with
  | cons r1 r2 => cases r2; exact ⟨_, rfl, r1⟩
theorem vals2 {x y : V} {us : List Value} (r : Vals [x, y] us) : ∃ u w', us = [u, w'] ∧ RelV x u ∧ RelV y w' := by
  cases r with
  | cons r1 r2 =>
    cases r2 with
    | cons r3 r4 => cases r4; exact ⟨_, _, rfl, r1, r3⟩
end
end L2

namespace L2
open PySem PySem.Spec PyProof.Rows

structure ObjM (h : Heap) (x dx C : Addr) (mA : Str → Option Value) : Prop where
  obj : h.get? x = some (PySem.W.instObj C dx)
  ns : h.Ns1 dx mA
  ne : dx ≠ x

theorem lookIn_ns {h : Heap} {dx : Addr} {mA : Str → Option Value} (n : h.Ns1 dx mA) : ∃ od, h.get? dx = some od ∧ ∀ name, PySem.W.lookIn name od = some (mA name) := by
  obtain ⟨o, es, ep, ho, hd, hk, _, hm⟩ := n
  refine ⟨o, ho, fun name => ?_⟩
  have e := hm name
  unfold nsFind findBy at e
  rw [← Array.find?_toList] at e
  unfold PySem.W.lookIn
  rw [hd]
  dsimp only
  split
  · rename_i y q
    rw [q] at e
    exact congrArg some e
  · rename_i q
    rw [q] at e
    have a : es.toList.any (·.refKey) = false := by
      rw [List.any_eq_false]
      intro y hy
      obtain ⟨z, t, hkey⟩ := hk y (Array.mem_toList_iff.mp hy)
      simp [DictEntry.refKey, hkey]
    have a' : ¬ es.toList.any (·.refKey) = true := by rw [a]; exact Bool.false_ne_true
    rw [if_neg a']
    exact congrArg some e

theorem ObjM.look {h : Heap} {x dx C : Addr} {mA : Str → Option Value} (I : ObjM h x dx C mA) : ∃ od, PySem.W.InstAt h x (PySem.W.instObj C dx) C (some od) ∧ ∀ name, PySem.W.lookIn name od = some (mA name) :=
  let ⟨od, ho, hl⟩ := lookIn_ns I.ns
  ⟨od, ⟨I.obj, rfl, rfl, ho⟩, hl⟩

section
variable {prog : Program} {w : World} {A : Around} {E : Value → Shared → Prop} {s : Shared} {K : PySem.W.Frag} {x dx C f : Addr} {mA : Str → Option Value} {name : Str} {v : Value}

theorem get_map {expr : Bool} {Q : Value → Shared → Prop} (X : K.In s.heap) (I : ObjM s.heap x dx C mA) (hg : PySem.W.plainGet K C name = true) (hh : PySem.W.hasDictIn K C = true)
    (ha : PySem.W.findIn K (.ref C) name = some none) (hv : mA name = some v) (hv' : PySem.W.handedIn v = true) (h : Q v { s with toks := s.toks + 1 }) :
    wpAny (model prog w) A (getAttr (.ref x) name expr) Q E s := by
  obtain ⟨od, J, hl⟩ := I.look
  exact PySem.W.get_value X J (PySem.W.plainGet_of hg).1 (PySem.W.findObj_own hh ha rfl (by rw [hl, hv])) hv' h

theorem get_meth {pl : Sem Bool} {Q : Value × List Value → Shared → Prop} (X : K.In s.heap) (I : ObjM s.heap x dx C mA) (hg : PySem.W.plainGet K C name = true)
    (hf : PySem.W.findIn K (.ref C) name = some (some (.ref f))) (ht : PySem.W.isFn K (.ref f) = true) (hv : mA name = none) (h : Q (.ref f, [.ref x]) s) :
    wpAny (model prog w) A (getMethod (.ref x) name pl) Q E s := by
  obtain ⟨od, J, hl⟩ := I.look
  exact PySem.W.method_fn X J (PySem.W.plainGet_of hg).1 (PySem.W.plainGet_of hg).2 hf (beq_iff_eq.mp ht) (by show (PySem.W.lookIn name od).map (·.isSome) = some false; rw [hl, hv]; rfl) h

theorem set_map {ns : List Str} {Q : Unit → Shared → Prop} (X : K.In s.heap) (I : ObjM s.heap x dx C mA)
    (hs : PySem.W.findIn K (.ref C) "__setattr__" = some (some (.builtin "object.__setattr__"))) (hp : PySem.W.plainOver K C = true) (ht : PySem.W.takerIn K C name = some none) (hh : PySem.W.hasDictIn K C = true)
    (hw : PySem.Within mA ns) (hsz : ns.length ≤ sizeLine)
    (h : ∀ h', ObjM h' x dx C (fun y => if y = name then some v else mA y) → Heap.SameBut dx s.heap h' → Q () { s with heap := h', toks := s.toks + 2 }) :
    wpAny (model prog w) A (setAttr (.ref x) name v) Q E s := by
  obtain ⟨od, J, hl⟩ := I.look
  refine PySem.W.set_plain X J hs (PySem.W.osa_open (s := { s with toks := s.toks + 1 }) (r := none) X J hp ht fun b => ?_)
  obtain ⟨cd, hc, hd'⟩ := PySem.W.any_some hh
  have hx : s.heap.get? x = some ⟨.ref C, some dx, .plain, #[]⟩ := I.obj
  refine wpAny_bind (wpAny_pure (wpAny_bind (wpAny_bind (wpAny_loadPart hx (wpAny_bind (PySem.W.Looks.here (s := { s with toks := s.toks + 1 }) (PySem.W.looks_clsIn X hc) ?_))))))
  rw [hd']
  refine wpAny_pure (a := some dx) (wpAny_bind (wpAny_pure (wpAny_bind ?_)))
  refine wpAny_nsSet1 (s := { s with toks := s.toks + 1 }) I.ns fun h' hn2 hs2 => ?_
  obtain ⟨oD, esD, epD, hoD, hdD, hcD⟩ := hn2.count (PySem.Within.cons name v hw)
  refine wpAny_bind (wpAny_lookBehind hoD (by rw [hdD]; exact pastItsLine_dict (Nat.le_trans hcD (by rw [List.length_cons]; omega))) ?_)
  exact wpAny_pure (h _ ⟨(hs2.2 _ (Ne.symm I.ne)).trans I.obj, hn2, I.ne⟩ hs2)

/-- C(..): the dict at the heap's end, the instance behind it; then its __init__ -/
theorem make_map {R : Result → Shared → Prop} {vs : List Value} {kw : List (Str × Value)} (X : K.In s.heap) (hm : PySem.W.makesIn K C = true)
    (hi : PySem.W.findIn K (.ref C) "__init__" = some (some (.ref f))) (hf : PySem.W.typeIn K (.ref f) = some (.type "function"))
    (h : codeAny (model prog w) (A.under (.builtin "type.__call__" ⟨.ref C :: vs, kw⟩)) (.call (.ref f) ⟨.ref (s.heap.objs.size + 1) :: vs, kw⟩) (PySem.W.InitBack (s.heap.objs.size + 1) R)
      { s with heap := (s.heap.push PySem.W.emptyDict).push (PySem.W.instObj C s.heap.objs.size) }) :
    codeAny (model prog w) A (.call (.ref C) ⟨vs, kw⟩) R s := by
  obtain ⟨hh, g, d, t, os⟩ := s
  exact PySem.W.make_core (PySem.W.makes_of X hm) (PySem.W.looks_findIn X hi) (fun self => PySem.W.bind_fn X self hf) (.inl rfl) h
end

noncomputable def putF (f : Str) (v : V) : List (Str × V) → List (Str × V)
  | [] => [(f, v)]
  | (g, x) :: r => if g = f then (g, v) :: r else (g, x) :: putF f v r
theorem lookup_putF (f g : Str) (v : V) : ∀ fs : List (Str × V), (putF f v fs).lookup g = if g = f then some v else fs.lookup g
  | [] => by
    show List.lookup g [(f, v)] = _
    by_cases h : g = f
    · have hb : (g == f) = true := beq_iff_eq.mpr h
      simp only [List.lookup, hb, if_pos h]
    · have hb : (g == f) = false := beq_eq_false_iff_ne.mpr h
      simp only [List.lookup, hb, if_neg h]
  | (k, x) :: r => by
    have ih := lookup_putF f g v r
    rw [show putF f v ((k, x) :: r) = (if k = f then (k, v) :: r else (k, x) :: putF f v r) from rfl]
    by_cases hk : k = f
    · rw [if_pos hk]
      by_cases h : g = k
      · have hb : (g == k) = true := beq_iff_eq.mpr h
        simp only [List.lookup, hb, if_pos (h.trans hk)]
      · have hb : (g == k) = false := beq_eq_false_iff_ne.mpr h
        simp only [List.lookup, hb, if_neg (fun e : g = f => h (e.trans hk.symm))]
    · rw [if_neg hk]
      by_cases h : g = k
      · have hb : (g == k) = true := beq_iff_eq.mpr h
        simp only [List.lookup, hb, if_neg (fun e : g = f => hk (h.symm.trans e))]
      · have hb : (g == k) = false := beq_eq_false_iff_ne.mpr h
        simp only [List.lookup, hb]
        exact ih
theorem keys_putF (f : Str) (v : V) : ∀ fs : List (Str × V), f ∈ (putF f v fs).map (·.1) ∧ ∀ g, g ∈ fs.map (·.1) → g ∈ (putF f v fs).map (·.1)
  | [] => ⟨by simp [putF], fun g h => by simp at h⟩
  | (k, x) :: r => by
    obtain ⟨i1, i2⟩ := keys_putF f v r
    rw [show putF f v ((k, x) :: r) = (if k = f then (k, v) :: r else (k, x) :: putF f v r) from rfl]
    by_cases hk : k = f
    · rw [if_pos hk]
      subst hk
      exact ⟨by simp, fun g h => by simpa using h⟩
    · rw [if_neg hk]
      refine ⟨?_, fun g h => ?_⟩
      · rw [List.map_cons]
        exact List.mem_cons_of_mem _ i1
      · rw [List.map_cons] at h ⊢
        rcases List.mem_cons.mp h with e | e
        · exact List.mem_cons.mpr (.inl e)
        · exact List.mem_cons_of_mem _ (i2 g e)
theorem length_putF (f : Str) (v : V) : ∀ fs : List (Str × V), (putF f v fs).length ≤ fs.length + 1
  | [] => by simp [putF]
  | (k, x) :: r => by
    have ih := length_putF f v r
    rw [show putF f v ((k, x) :: r) = (if k = f then (k, v) :: r else (k, x) :: putF f v r) from rfl]
    by_cases hk : k = f
    · rw [if_pos hk, List.length_cons, List.length_cons]; omega
    · rw [if_neg hk, List.length_cons, List.length_cons]; omega

theorem RelO.some_of {v : V} {o : Option Value} (r : RelO (some v) o) : ∃ u, o = some u ∧ RelV v u := by
  cases o with
  | none => exact (show False from r).elim
  | some u => exact ⟨u, rfl, r⟩
theorem RelO.none_of {o : Option Value} (r : RelO none o) : o = none := by
  cases o with
  | none => rfl
  | some u => exact (show False from r).elim
theorem handed_of {v : V} {u : Value} (r : RelV v u) : PySem.W.handedIn u = true := by
  cases v with
  | non => cases (show u = Value.none from r); rfl
  | bl b => cases (show u = Value.bool b from r); rfl
  | int i => obtain ⟨t, e⟩ := (show ∃ t, u = Value.int i t from r); cases e; rfl
  | str x => obtain ⟨t, e⟩ := (show ∃ t, u = Value.str x t from r); cases e; rfl
  | byt b => obtain ⟨t, e⟩ := (show ∃ t, u = Value.bytes b t from r); cases e; rfl
  | flt b => obtain ⟨t, e⟩ := (show ∃ t, u = Value.float b t from r); cases e; rfl
  | ref a => cases (show u = Value.ref a from r); rfl
  | ty n => cases (show u = Value.type n from r); rfl

section
variable {P : Program} {w : World} {H H' : Hp} {h h' : Heap} {a C dx : Addr} {fs fs' : List (Str × V)}
theorem ins_get (hok : HOk P w H h) (e : H a = some (.ins C dx fs)) : ∃ mA, ObjM h a dx C mA ∧ (∀ f, RelO (fs.lookup f) (mA f)) ∧ PySem.Within mA (fs.map (·.1)) ∧ fs.length ≤ 1000 ∧ H dx = some (.own a) := by
  obtain ⟨d, z, ne, ob, mA, n, r, q⟩ := (show ObjOk P w H h a (.ins C dx fs) from hok a _ e)
  exact ⟨mA, ⟨ob, n, ne⟩, r, q, z, d⟩
end

structure Cls (K : PySem.W.Frag) (C : Addr) : Prop where
  pg : PySem.W.plainGet K C Str.empty = true
  hd : PySem.W.hasDictIn K C = true
  po : PySem.W.plainOver K C = true
  sa : PySem.W.findIn K (.ref C) "__setattr__" = some (some (.builtin "object.__setattr__"))
theorem Cls.get {K : PySem.W.Frag} {C : Addr} (c : Cls K C) (f : Str) : PySem.W.plainGet K C f = true := c.pg
/-- no class of it has the name -/
noncomputable def NoAttr (K : PySem.W.Frag) (C : Addr) (f : Str) : Prop := PySem.W.findIn K (.ref C) f = some none
theorem NoAttr.taker {K : PySem.W.Frag} {C : Addr} {f : Str} (n : NoAttr K C f) : PySem.W.takerIn K C f = some none := by
  unfold PySem.W.takerIn
  rw [show PySem.W.findIn K (.ref C) f = some none from n]
  rfl
/-- a constant of the class -/
structure Con (K : PySem.W.Frag) (C : Addr) (f : Str) (v : V) (u : Value) : Prop where
  at_ : PySem.W.findIn K (.ref C) f = some (some u)
  rel : RelV v u
  get : PySem.W.specialIn K u "__get__" = some none
  cp : PySem.W.copiedNames.contains f = false
/-- a method: a plain def of the class or of one above it -/
structure Meth (K : PySem.W.Frag) (C : Addr) (m : Str) (f : Addr) : Prop where
  at_ : PySem.W.findIn K (.ref C) m = some (some (.ref f))
  fn : PySem.W.isFn K (.ref f) = true
  kp : PySem.W.keepIn K (.ref f) = true

section
variable {X : Cx} {pins : List (Addr × Obj)} {σ : St} {H : Hp} {s : Shared} {a C dx : Addr} {fs : List (Str × V)} {f : Str} {v : V} {A : Around} {E : Value → Shared → Prop}

theorem getattr_ok {b : Bool} {Q : Value → Shared → Prop} (I : Inv X pins σ H s) (e : H a = some (.ins C dx fs)) (c : Cls X.K C) (n : NoAttr X.K C f) (l : fs.lookup f = some v)
    (h : ∀ u s', Inv X pins σ H s' → RelV v u → Q u s') : wpAny (model X.prog X.w) A (getAttr (.ref a) f b) Q E s := by
  obtain ⟨mA, O, r, _, _, _⟩ := ins_get I.hok e
  obtain ⟨u, hu, ru⟩ := RelO.some_of (v := v) (o := mA f) (by rw [← l]; exact r f)
  exact get_map I.kIn O (c.get f) c.hd n hu (handed_of ru) (h u _ (I.tok _) ru)

theorem getmeth_ok {m : Str} {g : Addr} {pl : Sem Bool} {Q : Value × List Value → Shared → Prop} (I : Inv X pins σ H s) (e : H a = some (.ins C dx fs)) (c : Cls X.K C) (k : Meth X.K C m g) (l : fs.lookup m = none)
    (h : Q (.ref g, [.ref a]) s) : wpAny (model X.prog X.w) A (getMethod (.ref a) m pl) Q E s := by
  obtain ⟨mA, O, r, _, _, _⟩ := ins_get I.hok e
  have hn : mA m = none := RelO.none_of (by rw [← l]; exact r m)
  exact get_meth I.kIn O (c.get m) k.at_ k.fn hn h

theorem setattr_ok {y : V} {u : Value} {Q : Unit → Shared → Prop} (I : Inv X pins σ H s) (e : H a = some (.ins C dx fs)) (c : Cls X.K C) (n : NoAttr X.K C f) (hl : fs.length < 1000) (ry : RelV y u)
    (h : ∀ s', Inv X pins σ (upd H a (.ins C dx (putF f y fs))) s' → Q () s') : wpAny (model X.prog X.w) A (setAttr (.ref a) f u) Q E s := by
  obtain ⟨mA, O, r, wi, _, ho⟩ := ins_get I.hok e
  have hz : (fs.map (·.1)).length ≤ sizeLine := by rw [List.length_map, sizeLine_eq]; omega
  refine set_map I.kIn O c.sa c.po n.taker c.hd wi hz fun h' O' sb => h _ ?_
  have hd : ∃ o, h'.get? dx = some o := let ⟨o, _, _, e', _⟩ := O'.ns; ⟨o, e'⟩
  refine I.write (x := a) (e := dx) (by rw [e]; exact True.intro) (.inr ho) (fun b q hb z => (sb.2 b hb).trans z) hd ?_
  refine ⟨by rw [upd_ne O.ne]; exact ho, ?_, O.ne, O'.obj, _, O'.ns, fun g => ?_, fun g hg => ?_⟩
  · have := length_putF f y fs; omega
  · show RelO ((putF f y fs).lookup g) (if g = f then some u else mA g)
    rw [lookup_putF]
    by_cases q : g = f
    · rw [if_pos q, if_pos q]; exact ry
    · rw [if_neg q, if_neg q]; exact r g
  · by_cases q : g = f
    · rw [q]; exact (keys_putF f y fs).1
    · refine (keys_putF f y fs).2 g (wi g fun z => hg ?_)
      show (if g = f then some u else mA g) = none
      rw [if_neg q]; exact z

/-- a new instance, tracked, without attributes -/
theorem Inv.made (I : Inv X pins σ H s) : Inv X pins σ (upd (upd H s.heap.objs.size (.own (s.heap.objs.size + 1))) (s.heap.objs.size + 1) (.ins C s.heap.objs.size []))
    { s with heap := (s.heap.push PySem.W.emptyDict).push (PySem.W.instObj C s.heap.objs.size) } := by
  have e1 : (s.heap.push PySem.W.emptyDict).get? s.heap.objs.size = some PySem.W.emptyDict := Heap.get?_push_size s.heap rfl
  have e2 : ((s.heap.push PySem.W.emptyDict).push (PySem.W.instObj C s.heap.objs.size)).get? (s.heap.objs.size + 1) = some (PySem.W.instObj C s.heap.objs.size) := by
    have := Heap.get?_push_size (s.heap.push PySem.W.emptyDict) (o := PySem.W.instObj C s.heap.objs.size) rfl
    rwa [Heap.size_push] at this
  have e3 : (s.heap.push PySem.W.emptyDict).Ns s.heap.objs.size (fun _ => none) := ⟨PySem.W.emptyDict, #[], _, e1, rfl, (fun e he => absurd he (by simp)), fun _ => rfl⟩
  have I1 := I.laid (a := s.heap.objs.size) (o := .own (s.heap.objs.size + 1)) (h' := s.heap.push PySem.W.emptyDict) (t' := s.toks) (fun b u q => Heap.get?_push_of_some _ q) (Nat.le_refl _) ⟨_, e1⟩
  refine I1.laid (a := s.heap.objs.size + 1) (o := .ins C s.heap.objs.size []) (t' := s.toks) (fun b u q => Heap.get?_push_of_some _ q) (Nat.le_of_eq (Heap.size_push _ _)) ?_
  have ne : s.heap.objs.size ≠ s.heap.objs.size + 1 := Nat.ne_of_lt (Nat.lt_succ_self _)
  refine ⟨by rw [upd_ne ne, upd_same], Nat.zero_le _, ne, e2, fun _ => none, (Heap.Ns1.of_empty e3).at fun o q => Heap.get?_push_of_some _ q, fun _ => True.intro, fun y hy => absurd rfl hy⟩

/-- e.f where nothing but the object is asked: through attributeBase (super) and the last hold -/
theorem attr_of {prog : Program} {w : World} {env : Env} {e : Expr} {f : Str} {pos : Pos} {s : Shared} {Q : Value → Shared → Prop} (hb : attributeBase e f env (eval e env) = eval e env)
    (h : wpAny (model prog w) A (eval e env) (fun o s₁ => wpAny (model prog w) A (getAttr o f true) Q E s₁) E s) : wpAny (model prog w) A (eval (.Attribute e f pos) env) Q E s :=
  Attribute_any_ h (by rw [arm_eval_Attribute, hb])
end

section
variable {X : Cx} {o e value : Expr} {f : Str} {pos pos' tpos : Pos} {ta tv : TE}
end

section
variable {X : Cx} {pins : List (Addr × Obj)} {σ : St} {H : Hp} {s : Shared} {A : Around} {E : Value → Shared → Prop} {Q : Value → Shared → Prop} {c : Value} {b : Bool}
/-- the type of a value, as the fragment's deciders take it; for an instance its class -/
inductive TyOf (K : PySem.W.Frag) (H : Hp) : V → Value → Prop where
  | non : TyOf K H .non (.type "NoneType")
  | bl (x : Bool) : TyOf K H (.bl x) (.type "bool")
  | int (i : Int) : TyOf K H (.int i) (.type "int")
  | str (x : Str) : TyOf K H (.str x) (.type "str")
  | flt (x : UInt64) : TyOf K H (.flt x) (.type "float")
  | lst {a : Addr} {xs : List V} (e : H a = some (.lst xs)) : TyOf K H (.ref a) (.type "list")
  | frz {a : Addr} {o : Obj} {xs : List V} (e : H a = some (.frz o (.lst xs))) : TyOf K H (.ref a) (.type "list")
  | tup {a : Addr} {xs : List V} (e : H a = some (.tup xs)) : TyOf K H (.ref a) (.type "tuple")
  | dK {a : Addr} {kvs : List (Key × V)} (e : H a = some (.dK kvs)) : TyOf K H (.ref a) (.type "dict")
  | dT {a : Addr} {kvs : List (List Key × V)} (e : H a = some (.dT kvs)) : TyOf K H (.ref a) (.type "dict")
  | ins {a C dx : Addr} {fs : List (Str × V)} (e : H a = some (.ins C dx fs)) (cl : Cls K C) (ha : PySem.W.findIn K (.ref C) "__class__" = some (some (.builtin "object.__class__")))
      (hn : PySem.W.specialIn K (.builtin "object.__class__") "__get__" = some (some (.builtin "getset_descriptor.__get__"))) (htk : PySem.W.takesIn K (.builtin "object.__class__") = some true)
      (hm : PySem.W.mroIn K C (.type "object") = some true) : TyOf K H (.ref a) (.ref C)
/-- isinstance(x, c) for one class c, a built-in or an own one: kitOne's answer -/
theorem isinst_ok {x : V} {u t : Value} (I : Inv X pins σ H s) (rx : RelV x u) (ty : TyOf X.K H x t) (e : PySem.W.kitOne X.K t c = some b) (h : ∀ tk, Q (.bool b) { s with toks := tk }) :
    wpAny (model X.prog X.w) A (call (.builtin "isinstance") [u, c]) Q E s := by
  cases ty with
  | non => cases (show u = Value.none from rx); exact PySem.W.kia_one PySem.W.kitx_none I.kIn True.intro e (fun z => nomatch z) h
  | bl y => cases (show u = Value.bool y from rx); exact PySem.W.kia_one PySem.W.kitx_bool I.kIn True.intro e (fun z => nomatch z) h
  | int i => obtain ⟨t, q⟩ := (show ∃ t, u = Value.int i t from rx); cases q; exact PySem.W.kia_one PySem.W.kitx_int I.kIn True.intro e (fun z => nomatch z) h
  | str y => obtain ⟨t, q⟩ := (show ∃ t, u = Value.str y t from rx); cases q; exact PySem.W.kia_one PySem.W.kitx_str I.kIn True.intro e (fun z => nomatch z) h
  | flt y => obtain ⟨t, q⟩ := (show ∃ t, u = Value.float y t from rx); cases q; exact PySem.W.kia_one PySem.W.kitx_float I.kIn True.intro e (fun z => nomatch z) h
  | @lst a xs ea =>
    cases (show u = Value.ref a from rx)
    obtain ⟨_, _, n, _, h1⟩ := (show ObjOk X.prog X.w H s.heap a (.lst xs) from I.hok a _ ea)
    exact PySem.W.kia_one PySem.W.kitx_list I.kIn ⟨_, h1, rfl⟩ e (fun z => nomatch z) h
  | @frz a ob xs ea =>
    cases (show u = Value.ref a from rx)
    obtain ⟨_, _, _, n, _, h1⟩ := (show ObjOk X.prog X.w H s.heap a (.frz ob (.lst xs)) from I.hok a _ ea)
    exact PySem.W.kia_one PySem.W.kitx_list I.kIn ⟨_, h1, rfl⟩ e (fun z => nomatch z) h
  | @tup a xs ea =>
    cases (show u = Value.ref a from rx)
    obtain ⟨_, _, _, p⟩ := (show ObjOk X.prog X.w H s.heap a (.tup xs) from I.hok a _ ea)
    obtain ⟨o, h1, h2, _⟩ := p
    exact PySem.W.kia_one PySem.W.kitx_tuple I.kIn ⟨o, h1, h2⟩ e (fun z => nomatch z) h
  | @dK a kvs ea =>
    cases (show u = Value.ref a from rx)
    obtain ⟨_, _, vs, _, p⟩ := (show ObjOk X.prog X.w H s.heap a (.dK kvs) from I.hok a _ ea)
    obtain ⟨o, es, ep, h1, h2, _⟩ := p
    exact PySem.W.kia_one PySem.W.kitx_dict I.kIn ⟨o, h1, h2.1⟩ e (fun z => nomatch z) h
  | @dT a kvs ea =>
    cases (show u = Value.ref a from rx)
    obtain ⟨_, _, xs, _, o, es, ep, h1, h2, _⟩ := (show ObjOk X.prog X.w H s.heap a (.dT kvs) from I.hok a _ ea)
    exact PySem.W.kia_one PySem.W.kitx_dict I.kIn ⟨o, h1, h2.1⟩ e (fun z => nomatch z) h
  | @ins a C dx fs ea cl ha hn htk hm =>
    cases (show u = Value.ref a from rx)
    obtain ⟨mA, O, _⟩ := ins_get I.hok ea
    obtain ⟨od, J, _⟩ := O.look
    exact PySem.W.kia_one (PySem.W.kitx_own (cl.get _) cl.hd ha hn htk hm) I.kIn J e (fun z => nomatch z) h
end
end L2

namespace L2
open PySem PySem.Spec PyProof.Rows

structure Room (k : Nat) (A : Around) : Prop where
  hd : A.handled = none
  dp : A.depth + 3 * k + 5 < recursionLimit
  un : A.units + 16 * k + 200 < cLine
theorem Room.mono {j k : Nat} {A : Around} (r : Room k A) (h : j ≤ k) : Room j A := ⟨r.hd, by have := r.dp; omega, by have := r.un; omega⟩
theorem Room.deeper {k : Nat} {A : Around} (r : Room (k + 1) A) (env : Env) : Room k (A.deeper env) :=
  ⟨r.hd, by have := r.dp; show A.depth + 1 + 3 * k + 5 < _; omega, by have := r.un; show A.units + 3 + 16 * k + 200 < _; omega⟩
theorem make_depth {A : Around} {C : Addr} {us : List Value} {kw : List (Str × Value)} : (A.under (.builtin "type.__call__" ⟨.ref C :: us, kw⟩)).depth = A.depth + 1 := by
  first | rfl | simp [Around.under, Code.weight, Code.isCreation, Code.isGuard, Code.isCaller, Code.frames, Code.isFrame, guardIds]
theorem make_units {A : Around} {C : Addr} {us : List Value} {kw : List (Str × Value)} : (A.under (.builtin "type.__call__" ⟨.ref C :: us, kw⟩)).units = A.units + 1 := by
  first | rfl | simp [Around.under, Code.cUnits, Code.frames, Code.isFrame]
theorem Room.make {k : Nat} {A : Around} (r : Room (k + 1) A) (C : Addr) (us : List Value) (kw : List (Str × Value)) : Room k (A.under (.builtin "type.__call__" ⟨.ref C :: us, kw⟩)) :=
  ⟨r.hd, by have := r.dp; rw [make_depth]; omega, by have := r.un; rw [make_units]; omega⟩
theorem Room.depth {k : Nat} {A : Around} (r : Room k A) : A.depth < recursionLimit := by have := r.dp; omega
theorem Room.units {k : Nat} {A : Around} (r : Room k A) : A.units + 64 < cLine := by have := r.un; omega
noncomputable def tNil : TA := fun _ H Q => Q [] H
noncomputable def tCons (ta : TE) (tr : TA) : TA := fun σ H Q => ta σ H fun x H1 => tr σ H1 fun xs H2 => Q (x :: xs) H2
section
variable {X : Cx} {e : Expr} {es : List Expr} {te : TE} {t : TA} {pos : Pos}
theorem pa_nil : PA X [] tNil := fun _ _ _ _ H Q I h => Calls.spliced_nil ⟨[], H, I, .nil, h⟩
theorem pa_cons (ha : PE X e te) (hr : PA X es t) (hs : starEach (e :: es) X.env = (false, eval e X.env) :: starEach es X.env := by rfl) : PA X (e :: es) (tCons te t) := by
  intro pos pins s σ H Q I h
  rw [hs]
  show wpAny _ _ (spliced ((false, eval e X.env) :: backTo pos (starEach es X.env))) _ _ s
  refine Calls.spliced_cons (thn (ha pins s σ H _ I h) fun u s1 ⟨x, H1, I1, r1, q1⟩ => ?_)
  exact thn (hr pos pins s1 σ H1 _ I1 q1) fun us s2 ⟨xs, H2, I2, r2, q2⟩ => ⟨x :: xs, H2, I2, .cons r1 r2, q2⟩

/-- a tuple, a list of written items -/
noncomputable def tTup (t : TA) : TE := fun σ H Q => t σ H fun xs H1 => xs.length ≤ sizeLine ∧ ∀ p, H1 p = none → Q (.ref p) (upd H1 p (.tup xs))
noncomputable def tLst (t : TA) : TE := fun σ H Q => t σ H fun xs H1 => xs.length ≤ sizeLine ∧ ∀ p, H1 p = none → Q (.ref p) (upd H1 p (.lst xs))
theorem pe_tup {x1} (h : PA X es t) : PE X (.Tuple es x1 pos) (tTup t) := by
  intro pins s σ H Q I hq
  refine wpAny_Tuple_spliced (thn (h pos pins s σ H _ I hq) fun us s1 ⟨xs, H1, I1, r, z, q⟩ => ⟨by rw [← r.length]; exact z, ?_⟩)
  have hf : H1 s1.heap.objs.size = none := I1.hok.fresh (Nat.le_refl _)
  refine ⟨.ref s1.heap.objs.size, upd H1 s1.heap.objs.size (.tup xs), I1.laid (t' := s1.toks) (fun b u e => Heap.get?_push_of_some _ e) (Nat.le_refl _) ?_, rfl, q _ hf⟩
  exact ⟨z, us, r, ⟨_, Heap.get?_push_size _ rfl, rfl, _, rfl⟩⟩
theorem pe_lst (h : PA X es t) : PE X (.List es pos) (tLst t) := by
  intro pins s σ H Q I hq
  refine wpAny_List_spliced (thn (h pos pins s σ H _ I hq) fun us s1 ⟨xs, H1, I1, r, z, q⟩ => ⟨by rw [← r.length]; exact z, ?_⟩)
  have hf : H1 s1.heap.objs.size = none := I1.hok.fresh (Nat.le_refl _)
  refine ⟨.ref s1.heap.objs.size, upd H1 s1.heap.objs.size (.lst xs), I1.laid (t' := s1.toks) (fun b u e => Heap.get?_push_of_some _ e) (Nat.le_refl _) ?_, rfl, q _ hf⟩
  exact ⟨z, us, 0, r, Heap.get?_push_size _ rfl⟩
end

/-- a def's promise: the bound arguments in the parameters' order, the heap, the wanted end, the wanted exception -/
noncomputable abbrev Sp := List V → Hp → VK → XK → Prop
/-- how an exception lies behind a call (file 08 gives it): the callers' frames, abstract heap and state ahead of the call, the wish, the exception, the state -/
noncomputable abbrev CXT := List Env → Hp → Shared → XK → Value → Shared → Prop

/-- the state at a call -/
structure Env0 (P : Program) (w : World) (K : PySem.W.Frag) (mg : Str → Option Value) (base : Heap) (A : Around) (outer : List Env) (s : Shared) (H : Hp) : Prop where
  frames : A.frames = some outer
  mod : Mod K mg base
  bs : ∀ b o, base.get? b = some o → s.heap.get? b = some o ∧ H b = none
  bsz : base.objs.size ≤ s.heap.objs.size
  funs : s.heap.FunFrames base outer
  frf : ∀ b ∈ frs outer, H b = none
  hok : HOk P w H s.heap
  bare : AllBare s.gens
/-- a call's end -/
noncomputable def CE (outer : List Env) (P : Program) (w : World) (H : Hp) (s : Shared) (Q : VK) (u : Value) (s' : Shared) : Prop :=
  ∃ v H', s'.os = s.os ∧ AllBare s'.gens ∧ Un (frs outer) [] H H' s.heap s'.heap ∧ HOk P w H' s'.heap ∧ RelV v u ∧ Q v H'
noncomputable def CR (CX : CXT) (outer : List Env) (P : Program) (w : World) (H : Hp) (s : Shared) (Q : VK) (E : XK) (r : Result) (s' : Shared) : Prop :=
  match r with
  | .ok (.ret u) => CE outer P w H s Q u s'
  | .ok _ => False
  | .error e => CX outer H s E e s'
structure FnOk (P : Program) (w : World) (K : PySem.W.Frag) (mg : Str → Option Value) (base : Heap) (CX : CXT) (k : Nat) (f : Addr) (fd : FuncData) (ps : List Str) (sp : Sp) : Prop where
  len : ∀ vs H Q E, sp vs H Q E → vs.length = ps.length
  run : ∀ (A : Around) (outer : List Env) (s : Shared) (H : Hp) (args : Args) (us : List Value) (vs : List V) (Q : VK) (E : XK), Room k A → Env0 P w K mg base A outer s H → BindsTo s fd args (ps.zip us) → Vals vs us → sp vs H Q E →
    codeAny (model P w) A (.call (.ref f) args) (CR CX outer P w H s Q E) s
theorem Env0.make {P : Program} {w : World} {K : PySem.W.Frag} {mg : Str → Option Value} {base : Heap} {A : Around} {outer : List Env} {s : Shared} {H : Hp} (e : Env0 P w K mg base A outer s H) (C : Addr) (us : List Value) (kw : List (Str × Value)) :
    Env0 P w K mg base (A.under (.builtin "type.__call__" ⟨.ref C :: us, kw⟩)) outer s H := ⟨by first | exact e.frames | (simpa [Around.under, Code.envs, Code.isFrame, pushEnvs] using e.frames), e.mod, e.bs, e.bsz, e.funs, e.frf, e.hok, e.bare⟩
section
variable {X : Cx} {pins : List (Addr × Obj)} {σ : St} {H : Hp} {s s' : Shared}
/-- from a body: what a callee wants -/
theorem Inv.env0 (I : Inv X pins σ H s) : Env0 X.prog X.w X.K X.mg X.base X.A X.stack s H :=
  ⟨I.ok.frames, I.ok.mod, I.bs, Nat.le_trans I.ok.bsz I.sz, I.stack, I.stkFree, I.hok, I.bare⟩
/-- behind a call -/
theorem Inv.after {Q : VK} {u : Value} (I : Inv X pins σ H s) (h : CE X.stack X.prog X.w H s Q u s') : EP X pins σ Q u s' := by
  obtain ⟨v, H', os, bare, un, hok, r, q⟩ := h
  obtain ⟨hh, g, d, t, os'⟩ := s'
  obtain rfl : os' = s.os := os
  exact ⟨v, H', I.call (h' := hh) (g' := g) (d' := d) (t' := t) (ch := []) un hok bare (fun b z => absurd z (by simp)), r, q⟩
end

/-- f(..): the written arguments, then the defaults dvs; E: what is wanted of an exception -/
noncomputable def tCall (sp : Sp) (dvs : List V) (E : XK) (t : TA) : TE := fun σ H Q => t σ H fun vs H1 => sp (vs ++ dvs) H1 Q E
/-- C(..): a new instance and its dict, then __init__ -/
noncomputable def tMake (C : Addr) (sp : Sp) (dvs : List V) (E : XK) (t : TA) : TE := fun σ H Q => t σ H fun vs H1 => ∀ x dx, H1 x = none → H1 dx = none → dx ≠ x →
  sp (.ref x :: (vs ++ dvs)) (upd (upd H1 dx (.own x)) x (.ins C dx [])) (fun v H2 => v = .non ∧ Q (.ref x) H2) E

/-- how the parameters are bound: us the positional arguments, kw the keywords' values by name, ds the defaults that fill up -/
noncomputable def Binds (K : PySem.W.Frag) (fd : FuncData) (ps : List Str) (ds : List Value) : Prop :=
  ∀ (s : Shared) (us : List Value), K.In s.heap → (us ++ ds).length = ps.length → BindsTo s fd ⟨us, []⟩ (ps.zip (us ++ ds))
/-- every parameter is given -/
theorem Binds.all {K : PySem.W.Frag} {fd : FuncData} {ps : List Str} (h : ∀ us : List Value, us.length = ps.length → bindArgs fd ⟨us, []⟩ = pure (ps.zip us)) : Binds K fd ps [] := fun s us _ hl => by
  rw [List.append_nil] at hl ⊢
  exact .of_eq (h us hl)

/-- an exception of a callee reaches what this body wants of exceptions -/
noncomputable def Passes (CX : CXT) (X : Cx) (E : XK) : Prop := ∀ (pins : List (Addr × Obj)) (σ : St) (H : Hp) (s : Shared) (e : Value) (s' : Shared), Inv X pins σ H s → CX X.stack H s E e s' → X.xe e s'

section
variable {X : Cx} {CX : CXT} {k : Nat} {f C : Addr} {fd : FuncData} {ps : List Str} {sp : Sp} {dvs : List V} {ds : List Value} {E : XK} {x m : Str} {p pos apos : Pos} {e o : Expr} {es : List Expr} {ta : TE} {t : TA}

/-- the callee runs -/
theorem run_fn {pins : List (Addr × Obj)} {σ : St} {H : Hp} {s : Shared} {Q : VK} {us : List Value} {vs : List V} (F : FnOk X.prog X.w X.K X.mg X.base CX k f fd ps sp) (hr : Room k X.A) (hb : Binds X.K fd ps ds) (hd : Vals dvs ds) (hx : Passes CX X E)
    (I : Inv X pins σ H s) (r : Vals vs us) (h : sp (vs ++ dvs) H Q E) : wpAny (model X.prog X.w) X.A (call (.ref f) us) (EP X pins σ Q) X.xe s := by
  have r2 : Vals (vs ++ dvs) (us ++ ds) := r.append hd
  have hl : (us ++ ds).length = ps.length := by rw [← r2.length]; exact F.len _ _ _ _ h
  refine wpAny_call (codeAny_mono (F.run X.A X.stack s H ⟨us, []⟩ (us ++ ds) (vs ++ dvs) Q E hr I.env0 (hb s us I.kIn hl) r2 h) fun r s' hq => ?_)
  cases r with
  | error e => exact hx pins σ H s e s' I hq
  | ok fl =>
    cases fl with
    | ret u => exact I.after hq
    | next => exact False.elim hq
    | brk => exact False.elim hq
    | cont => exact False.elim hq

theorem pe_call (F : FnOk X.prog X.w X.K X.mg X.base CX k f fd ps sp) (hr : Room k X.A) (hg : Gl X x) (hm : X.mg x = some (.ref f)) (hk : PySem.W.keepIn X.K (.ref f) = true) (hb : Binds X.K fd ps ds) (hd : Vals dvs ds) (hx : Passes CX X E)
    (ha : PA X (e :: es) t) (hdb : (x == ("__debug__" : Str)) = false := by decide) (he : starEach (e :: es) X.env = (false, eval e X.env) :: starEach es X.env := by rfl) (hpl : (backTo pos (starEach es X.env)).any (·.1) = false := by rfl) :
    PE X (.Call (.Name x p) (e :: es) [] pos) (tCall sp dvs E t) := by
  intro pins s σ H Q I h
  refine wpAny_Call_Name_kw (ld_glob I hg hm ?_ hdb)
  refine PySem.W.callWith_K (h₀ := X.base) I.ok.mod.kin hk (thn (ha pos pins s σ H _ I h) fun us s1 ⟨vs, H1, I1, r, q⟩ => ⟨I1.kIn, ?_⟩) he hpl
  exact run_fn F hr hb hd hx I1 r q
/-- what a class must have to be made -/
structure Mk (K : PySem.W.Frag) (C f : Addr) : Prop where
  makes : PySem.W.makesIn K C = true
  init : PySem.W.findIn K (.ref C) "__init__" = some (some (.ref f))
  fn : PySem.W.isFn K (.ref f) = true
  kp : PySem.W.keepIn K (.ref C) = true

theorem run_make {pins : List (Addr × Obj)} {σ : St} {H : Hp} {s : Shared} {Q : VK} {us : List Value} {vs : List V} (M : Mk X.K C f) (F : FnOk X.prog X.w X.K X.mg X.base CX k f fd ps sp) (hr : Room (k + 1) X.A) (hb : Binds X.K fd ps ds) (hd : Vals dvs ds)
    (hx : Passes CX X E) (I : Inv X pins σ H s) (r : Vals vs us)
    (h : ∀ x dx, H x = none → H dx = none → dx ≠ x → sp (.ref x :: (vs ++ dvs)) (upd (upd H dx (.own x)) x (.ins C dx [])) (fun v H2 => v = .non ∧ Q (.ref x) H2) E) :
    wpAny (model X.prog X.w) X.A (call (.ref C) us) (EP X pins σ Q) X.xe s := by
  have hq := h (s.heap.objs.size + 1) s.heap.objs.size (I.hok.fresh (Nat.le_succ _)) (I.hok.fresh (Nat.le_refl _)) (Nat.ne_of_lt (Nat.lt_succ_self _))
  have I2 := Inv.made (C := C) I
  have r2 : Vals (V.ref (s.heap.objs.size + 1) :: (vs ++ dvs)) (Value.ref (s.heap.objs.size + 1) :: (us ++ ds)) := .cons rfl (r.append hd)
  have hl : (Value.ref (s.heap.objs.size + 1) :: us ++ ds).length = ps.length := by
    have e := r2.length
    rw [F.len _ _ _ _ hq] at e
    exact e.symm
  refine wpAny_call (make_map (f := f) I.kIn M.makes M.init (beq_iff_eq.mp M.fn) (codeAny_mono (F.run _ X.stack _ _ ⟨Value.ref (s.heap.objs.size + 1) :: us, []⟩ (Value.ref (s.heap.objs.size + 1) :: (us ++ ds)) _ _ E (hr.make C us [])
    (I2.env0.make C us []) (hb _ (Value.ref (s.heap.objs.size + 1) :: us) I2.kIn hl) r2 hq) fun r s' hq' => ?_))
  cases r with
  | error e => exact hx pins σ _ _ e s' I2 hq'
  | ok fl =>
    cases fl with
    | ret u =>
      obtain ⟨v, H', I3, rv, ev, q3⟩ := I2.after hq'
      subst ev
      exact ⟨rv, ⟨V.ref (s.heap.objs.size + 1), H', I3, rfl, q3⟩⟩
    | next => exact False.elim hq'
    | brk => exact False.elim hq'
    | cont => exact False.elim hq'
theorem pe_make (M : Mk X.K C f) (F : FnOk X.prog X.w X.K X.mg X.base CX k f fd ps sp) (hr : Room (k + 1) X.A) (hg : Gl X x) (hm : X.mg x = some (.ref C)) (hb : Binds X.K fd ps ds) (hd : Vals dvs ds) (hx : Passes CX X E)
    (ha : PA X (e :: es) t) (hdb : (x == ("__debug__" : Str)) = false := by decide) (he : starEach (e :: es) X.env = (false, eval e X.env) :: starEach es X.env := by rfl) (hpl : (backTo pos (starEach es X.env)).any (·.1) = false := by rfl) :
    PE X (.Call (.Name x p) (e :: es) [] pos) (tMake C sp dvs E t) := by
  intro pins s σ H Q I h
  refine wpAny_Call_Name_kw (ld_glob I hg hm ?_ hdb)
  refine PySem.W.callWith_K (h₀ := X.base) I.ok.mod.kin M.kp (thn (ha pos pins s σ H _ I h) fun us s1 ⟨vs, H1, I1, r, q⟩ => ⟨I1.kIn, ?_⟩) he hpl
  exact run_make M F hr hb hd hx I1 r q
end

section
variable {X : Cx} {CX : CXT} {k : Nat} {f C : Addr} {fd : FuncData} {ps ks : List Str} {sp : Sp} {E : XK} {x m : Str} {p pos apos kpos : Pos} {e o : Expr} {es : List Expr} {kws : List Keyword} {te ta : TE} {t tk : TA} {nm : Option Str}
/-- how a call with keywords binds: g puts the positional values us and the keywords' values ws (names ks) in the parameters' order, defaults among them -/
structure KBinds (K : PySem.W.Frag) (fd : FuncData) (ps ks : List Str) (g : List Value → List Value → List Value) (gV : List V → List V → List V) : Prop where
  to : ∀ (s : Shared) (us ws : List Value), K.In s.heap → (g us ws).length = ps.length → BindsTo s fd ⟨us, ks.zip ws⟩ (ps.zip (g us ws))
  rel : ∀ {vs : List V} {us : List Value} {zs : List V} {ws : List Value}, Vals vs us → Vals zs ws → Vals (gV vs zs) (g us ws)
variable {g : List Value → List Value → List Value} {gV : List V → List V → List V}
end

/-- names: the parameters first -/
structure FnScope (N P : List Str) (sc : Scope) : Prop where
  kind : sc.kind = .function
  co : sc.isCoroutine = false
  gen : sc.isGenerator = false
  nd : N.Nodup
  pre : N.take P.length = P
  par : ∀ x ∈ P, sc.names.lookup x = some .local ∨ sc.names.lookup x = some .cell
  nofree : ∀ y ∈ sc.names, y.2 ≠ .free

theorem bindL_out {kindOf : Str → Option NameKind} {x : Str} : ∀ {binds : List (Str × Value)} {m : Str → Option Value}, (∀ v, (x, v) ∉ binds) → bindL kindOf binds m x = m x
  | [], _, _ => rfl
  | (n, v) :: r, m, h => by
    unfold bindL
    rw [bindL_out fun w hw => h w (List.mem_cons_of_mem _ hw)]
    split
    · have : x ≠ n := by rintro rfl; exact h v List.mem_cons_self
      simp [this]
    · rfl
theorem bindC_out {kindOf : Str → Option NameKind} {x : Str} : ∀ {binds : List (Str × Value)} {m : Str → Option Value}, (∀ v, (x, v) ∉ binds) → bindC kindOf binds m x = m x
  | [], _, _ => rfl
  | (n, v) :: r, m, h => by
    unfold bindC
    rw [bindC_out fun w hw => h w (List.mem_cons_of_mem _ hw)]
    split
    · rfl
    · have : x ≠ n := by rintro rfl; exact h v List.mem_cons_self
      simp [this]
theorem bindL_get {kindOf : Str → Option NameKind} {x : Str} {v : Value} : ∀ {P : List Str} {vs : List Value} {i : Nat} {m : Str → Option Value}, P.Nodup → P[i]? = some x → vs[i]? = some v → kindOf x = some .local →
    bindL kindOf (P.zip vs) m x = some v
  | [], _, _, _, _, h, _, _ => by simp at h
  | _ :: _, [], _, _, _, _, h, _ => by simp at h
  | p :: P, w :: vs, 0, m, nd, h1, h2, hk => by
    simp at h1 h2; subst h1; subst h2
    show bindL kindOf ((p, w) :: P.zip vs) m p = _
    unfold bindL
    rw [bindL_out fun v hv => (List.nodup_cons.mp nd).1 (List.of_mem_zip hv).1, if_pos hk]
    simp
  | p :: P, w :: vs, i + 1, m, nd, h1, h2, hk => by
    show bindL kindOf ((p, w) :: P.zip vs) m x = _
    unfold bindL
    exact bindL_get (i := i) (List.nodup_cons.mp nd).2 (by simpa using h1) (by simpa using h2) hk
theorem bindC_get {kindOf : Str → Option NameKind} {x : Str} {v : Value} : ∀ {P : List Str} {vs : List Value} {i : Nat} {m : Str → Option Value}, P.Nodup → P[i]? = some x → vs[i]? = some v → kindOf x ≠ some .local →
    bindC kindOf (P.zip vs) m x = some v
  | [], _, _, _, _, h, _, _ => by simp at h
  | _ :: _, [], _, _, _, _, h, _ => by simp at h
  | p :: P, w :: vs, 0, m, nd, h1, h2, hk => by
    simp at h1 h2; subst h1; subst h2
    show bindC kindOf ((p, w) :: P.zip vs) m p = _
    unfold bindC
    rw [bindC_out fun v hv => (List.nodup_cons.mp nd).1 (List.of_mem_zip hv).1, if_neg hk]
    simp
  | p :: P, w :: vs, i + 1, m, nd, h1, h2, hk => by
    show bindC kindOf ((p, w) :: P.zip vs) m x = _
    unfold bindC
    exact bindC_get (i := i) (List.nodup_cons.mp nd).2 (by simpa using h1) (by simpa using h2) hk

/-- the names' values at the entry -/
noncomputable def start (N : List Str) (vs : List V) : St := vs.map some ++ List.replicate (N.length - vs.length) none

/-- the context of a def's body, at its entry; an exception leaves the frame, then lies as CX says -/
noncomputable def cxOf (CX : CXT) (P : Program) (w : World) (K : PySem.W.Frag) (mg : Str → Option Value) (base : Heap) (N : List Str) (qual : Str) (scope : Scope) (f : Addr) (cd : Value) (A : Around) (outer : List Env) (s : Shared) (H : Hp) (E : XK) : Cx where
  prog := P
  w := w
  K := K
  mg := mg
  base := base
  A := A.deeper (envOfC qual scope s.heap.objs.size f cd)
  N := N
  s₀ := s
  H₀ := H
  env := envOfC qual scope s.heap.objs.size f cd
  outer := outer
  stack := envOfC qual scope s.heap.objs.size f cd :: outer
  ex := []
  calm := true
  fn := fun _ => true
  pn := []
  xe := fun e s' => wpAny (model P w) (A.deeper (envOfC qual scope s.heap.objs.size f cd)) (leaving (envOfC qual scope s.heap.objs.size f cd) e) (fun _ s'' => CX outer H s E e s'') (fun e' s'' => CX outer H s E e' s'') s'

theorem cell_has {sc : Scope} {n : Nat} {x : Str} (h : sc.names.lookup x = some .cell) : ∃ c, (cellsFrom n sc.names []).lookup x = some c := by
  have q := PySem.W.cellsFrom_some sc.names n [] (.inl h)
  exact Option.isSome_iff_exists.mp q

theorem inv_start {CX : CXT} {P : Program} {w : World} {K : PySem.W.Frag} {mg : Str → Option Value} {base : Heap} {N ps : List Str} {qual : Str} {scope : Scope} {f : Addr} {cd : Value} {A : Around} {outer : List Env} {s s1 : Shared} {H : Hp} {E : XK} {us : List Value} {vs : List V}
    (S : FnScope N ps scope) (hd : A.handled = none) (e0 : Env0 P w K mg base A outer s H) (hl : vs.length = ps.length) (r : Vals vs us)
    (x : InCallC s s.heap.objs.size (bindL (envOfC qual scope s.heap.objs.size f cd).kindOf (ps.zip us) fun _ => none) (cellsFrom (s.heap.objs.size + 1) scope.names []) (bindC (envOfC qual scope s.heap.objs.size f cd).kindOf (ps.zip us) fun _ => none) s1) :
    Inv (cxOf CX P w K mg base N qual scope f cd A outer s H E) [] (start N vs) H s1 := by
  have hpl : ps.length ≤ N.length := by have := congrArg List.length S.pre; rw [List.length_take] at this; omega
  obtain ⟨h1, tk, rfl, hk⟩ := x.done
  have noA : ∀ b : Addr, b ∉ (cxOf CX P w K mg base N qual scope f cd A outer s H E).ex := fun b z => absurd (show b ∈ ([] : List Addr) from z) (by simp)
  refine ⟨⟨e0.mod, S.kind, rfl, rfl, Nat.le_refl _, fun y z c h1 h2 => ?_, fun y hy => ?_, fun y c _ h => ?_, fun _ => hd, Around.frames_deeper e0.frames, .inr ⟨rfl, rfl⟩, fun b z => absurd z (noA b), e0.bs, e0.bsz, fun b _ _ => noA b, fun b z => absurd z (noA b), e0.funs, e0.frf⟩,
    rfl, e0.bare, Un.kept hk, ⟨_, x.toInCall.ns, fun i y v h1 h2 h3 => ?_⟩, fun y c h => ⟨_, x.cell y c h⟩, e0.hok.fresh (Nat.le_refl _), fun y c h => ?_, fun p hp => absurd (show p ∈ ([] : List (Addr × Obj)) from hp) (by simp), e0.hok.kept hk, ?_⟩
  · exact name_of_addr x.apart (PySem.mem_of_lookup h1) (PySem.mem_of_lookup h2)
  · have hy : scope.names.lookup y = some .cell ∨ scope.names.lookup y = some .free := hy
    rcases hy with hy | hy
    · exact cell_has hy
    · exact absurd rfl (S.nofree _ (PySem.mem_of_lookup hy))
  · exact Nat.le_of_lt (x.above y c (PySem.mem_of_lookup h))
  · have hi : i < vs.length := by
      unfold start at h2
      by_cases hi : i < vs.length
      · exact hi
      · rw [List.getElem?_append_right (by simpa using hi)] at h2
        rw [List.getElem?_replicate] at h2
        split at h2 <;> cases h2
    have ha : vs[i]? = some v := by
      unfold start at h2
      rw [List.getElem?_append_left (by simpa using hi), List.getElem?_map] at h2
      cases e : vs[i]? with
      | none => rw [e] at h2; cases h2
      | some a => rw [e] at h2; cases h2; rfl
    obtain ⟨u, hu, rv⟩ := r.get ha
    have hp : ps[i]? = some y := by
      rw [← S.pre, List.getElem?_take_of_lt (by omega)]; exact h1
    have ndP : ps.Nodup := by rw [← S.pre]; exact S.nd.sublist (List.take_sublist _ _)
    refine ⟨u, rv, ?_⟩
    rcases S.par y (List.mem_of_getElem? hp) with k | k
    · exact .inl ⟨k, bindL_get ndP hp hu k⟩
    · obtain ⟨c, e⟩ := cell_has (n := s.heap.objs.size + 1) k
      refine .inr ⟨.inl k, c, e, ?_⟩
      have q := x.cell y c e
      rw [bindC_get ndP hp hu (by show scope.names.lookup y ≠ _; rw [k]; decide)] at q
      exact q
  · exact e0.hok.fresh (Nat.le_of_lt (x.above y c (PySem.mem_of_lookup h)))
  · unfold start
    show _ = N.length
    rw [List.length_append, List.length_map, List.length_replicate]
    omega

/-- THE RULE: a def (or a method) of the text, by its body. The body's reading t is chosen for each entry; it is run at the parameters' values -/
theorem fn_of {CX : CXT} {P : Program} {w : World} {K : PySem.W.Frag} {mg : Str → Option Value} {base : Heap} {k : Nat} {f : Addr} {name qual : Str} {params : Arguments} {body : List Stmt} {scope : Scope} {dV kV doc pm cdv ct oc : Value} {an od : Option Addr}
    {osl : Array (Option Value)} {N ps : List Str} {sp : Sp} (lk : K.lookup f = some ⟨oc, od, .func (PySem.W.fnOf name qual params body scope dV kV doc pm an cdv ct), osl⟩) (hcd : PySem.W.codeIn K cdv qual = true) (S : FnScope N ps scope)
    (len : ∀ vs H Q E, sp vs H Q E → vs.length = ps.length)
    (hbody : ∀ (A : Around) (outer : List Env) (s : Shared) (H : Hp) (vs : List V) (Q : VK) (E : XK), Room k (A.deeper (envOfC qual scope s.heap.objs.size f cdv)) → sp vs H Q E →
      ∃ t, PSs (cxOf CX P w K mg base N qual scope f cdv A outer s H E) body t ∧ t { nx := fun _ H' => Q .non H', rt := Q } (start N vs) H) :
    FnOk P w K mg base CX (k + 1) f (PySem.W.fnOf name qual params body scope dV kV doc pm an cdv ct) ps sp := by
  refine ⟨len, fun A outer s H args us vs Q E hr e0 hb r hsp => ?_⟩
  have hl := len _ _ _ _ hsp
  have KX : K.In s.heap := e0.mod.kin.keeps fun b o e => (e0.bs b o e).1
  have lim : s.heap.NoLimit := e0.mod.nolimit.keeps fun b o e => (e0.bs b o e).1
  have hkind : ∀ y ∈ ps.zip us, scope.names.lookup y.1 = some .local ∨ (scope.names.lookup y.1 = some .cell ∧ ((cellsFrom (s.heap.objs.size + 1) scope.names []).lookup y.1).isSome = true) := fun ⟨n, v⟩ hy => by
    rcases S.par n (List.of_mem_zip hy).1 with q | q
    · exact .inl q
    · exact .inr ⟨q, PySem.W.cellsFrom_some _ _ _ (.inl q)⟩
  refine codeAny_call_function hr.depth (KX _ _ lk) rfl S.co S.gen rfl (PySem.W.codeRec_of KX hcd) (hb _ _ _ _ ?_)
  refine wpAny_newFunctionEnv_cells S.kind hkind fun env he s1 x => ?_
  subst he
  refine ⟨lim.keeps x.toInCall.keep, codeAny_func ?_⟩
  obtain ⟨t, ht, hq⟩ := hbody A outer s H vs Q E (hr.deeper _) hsp
  have I : Inv (cxOf CX P w K mg base N qual scope f cdv A outer s H E) [] (start N vs) H s1 := inv_start S hr.hd e0 hl r x
  refine wpAny_mono (ht [] s1 (start N vs) H _ I hq) (fun fl s' hs => ?_) fun e s' hs => hs
  have fin : ∀ {σ' : St} {H' : Hp} {v : V} {u : Value}, Inv (cxOf CX P w K mg base N qual scope f cdv A outer s H E) [] σ' H' s' → RelV v u → Q v H' → CE outer P w H s Q u s' :=
    fun {σ' H' v u} J rv q => ⟨v, H', J.os, J.bare, J.base, J.hok, rv, q⟩
  cases fl with
  | ret u =>
    obtain ⟨v, σ', H', J, rv, q⟩ := hs
    exact fin J rv q
  | next =>
    obtain ⟨σ', H', J, q⟩ := hs
    exact fin (v := V.non) (u := Value.none) J rfl q
  | brk =>
    obtain ⟨_, _, _, q⟩ := hs
    exact False.elim q
  | cont =>
    obtain ⟨_, _, _, q⟩ := hs
    exact False.elim q
end L2

namespace L2
open PySem PySem.Spec PyProof.Rows
section
variable {X : Cx} {x : Str} {p pos : Pos} {e : Expr} {es : List Expr} {t : TA} {id T : String} {r : List V → Hp → VK → Prop}

noncomputable def tCB (r : List V → Hp → VK → Prop) (t : TA) : TE := fun σ H Q => t σ H fun vs H1 => r vs H1 Q
/-- f(e, ..), f a built-in function -/
theorem pe_callB (hc : CallR X (.builtin id) r) (hg : Gl X x) (hm : X.mg x = none) (hv : bootBuiltins x = some (.builtin id)) (ha : PA X (e :: es) t) (hn : x ≠ "__name__" := by decide) (hdb : (x == ("__debug__" : Str)) = false := by decide)
    (he : starEach (e :: es) X.env = (false, eval e X.env) :: starEach es X.env := by rfl) (hpl : (backTo pos (starEach es X.env)).any (·.1) = false := by rfl) : PE X (.Call (.Name x p) (e :: es) [] pos) (tCB r t) := by
  intro pins s σ H Q I h
  refine wpAny_Call_Name_kw (ld_blt I hg hm hv ?_ hn hdb)
  exact PyProof.Rows.callWith_builtin1 (thn (ha pos pins s σ H _ I h) fun us s1 ⟨vs, H1, I1, r1, q1⟩ => hc pins s1 σ H1 vs us Q I1 r1 q1) he hpl
/-- T(e, ..), T a built-in type -/
theorem pe_callTy (hc : CallR X (.type T) r) (hg : Gl X x) (hm : X.mg x = none) (hv : bootBuiltins x = some (.type T)) (ha : PA X (e :: es) t) (hn : x ≠ "__name__" := by decide) (hdb : (x == ("__debug__" : Str)) = false := by decide)
    (he : starEach (e :: es) X.env = (false, eval e X.env) :: starEach es X.env := by rfl) (hpl : (backTo pos (starEach es X.env)).any (·.1) = false := by rfl) : PE X (.Call (.Name x p) (e :: es) [] pos) (tCB r t) := by
  intro pins s σ H Q I h
  refine wpAny_Call_Name_kw (ld_blt I hg hm hv ?_ hn hdb)
  exact PyProof.Rows.callWith_type1 (thn (ha pos pins s σ H _ I h) fun us s1 ⟨vs, H1, I1, r1, q1⟩ => hc pins s1 σ H1 vs us Q I1 r1 q1) he hpl
end
end L2

namespace HT
open PySem PyProof.Rows

section
open PySem.SeqAt
open PySem.AutoSeq1 (wpAny_loadPart')
open PySem.MeetsSeq PySem.MeetsSeq2 PySem.MeetsSeq3

end

section
variable {prog : Program} {w : World} {A : Around} {E : Value → Shared → Prop} {s : Shared}

/-- t + u, t not empty -/
theorem cat_tup {t b : Addr} {vs ws : List Value} {Q : Value → Shared → Prop} (ht : IsTup s.heap t vs.toArray) (hb : IsTup s.heap b ws.toArray) (hv : vs ≠ [])
    (h1 : ws = [] → Q (.ref t) s) (h2 : ws ≠ [] → Q (.ref s.heap.objs.size) { s with heap := s.heap.push { cls := .type "tuple", data := .seq (vs ++ ws).toArray } })
    (hsz : vs.length + ws.length ≤ sizeLine) : wpAny (model prog w) A (binaryOp .Add (.ref t) (.ref b)) Q E s := by
  obtain ⟨⟨cls, dd, data, sl⟩, ho, hc, n, hd⟩ := id ht
  obtain ⟨⟨cls2, dd2, data2, sl2⟩, ho2, hc2, n2, hd2⟩ := id hb
  simp only at hc hd hc2 hd2
  subst hc hd hc2 hd2
  have e : vs.toArray ++ ws.toArray = (vs ++ ws).toArray := by simp
  by_cases hw : ws = []
  · exact concat_meets ⟨_, ho, rfl⟩ ⟨_, ho2, rfl⟩ noFill_tuple_add seq_tuple_add PySem.F.slot_tuple_add PySem.F.entry_tuple_add (PySem.F.args_tuple_add_2 _ _)
      (tuple_addW1 t b vs.toArray ws.toArray n n2 dd dd2 sl sl2 (by simpa using hv) (by simp [hw])) ⟨ho, ho2, h1 hw⟩
  · refine concat_meets ⟨_, ho, rfl⟩ ⟨_, ho2, rfl⟩ noFill_tuple_add seq_tuple_add PySem.F.slot_tuple_add PySem.F.entry_tuple_add (PySem.F.args_tuple_add_2 _ _)
      (tuple_addW2 t b vs.toArray ws.toArray n n2 dd dd2 sl sl2 (by simpa using hv) (by simpa using hw) (by rw [List.size_toArray, List.size_toArray]; exact hsz)) ⟨ho, ho2, ?_⟩
    rw [e]
    exact h2 hw

/-- a slice's bound as a place among n (d where it is left out) -/
noncomputable def sIx (n d : Nat) : Option Int → Nat
  | none => d
  | some v => if v < 0 then (v + (n : Int)).toNat else min v.toNat n
end
end HT

namespace L2
open PySem PySem.Spec PyProof.Rows

noncomputable abbrev TO := St → Hp → (Option Int → Hp → Prop) → Prop
noncomputable def tNoPart : TO := fun _ H Q => Q none H
noncomputable def tPart (t : TE) : TO := fun σ H Q => t σ H fun x H1 => ∃ i, x = .int i ∧ Q (some i) H1

section
variable {X : Cx} {e : Expr} {te : TE} {lo hi : Option Expr} {tl th : TO} {pos p2 : Pos}

noncomputable def tSl (r : V → Option Int → Option Int → Hp → VK → Prop) (te : TE) (tl th : TO) : TE := fun σ H Q => te σ H fun x H1 => tl σ H1 fun l H2 => th σ H2 fun u H3 => r x l u H3 Q
/-- the items of xs[lo:hi] -/
noncomputable def cutV (xs : List V) (lo hi : Option Int) : List V := (xs.drop (HT.sIx xs.length 0 lo)).take (HT.sIx xs.length xs.length hi - HT.sIx xs.length 0 lo)
/-- t[lo:hi], not the whole of it (the whole would be t itself) -/
noncomputable def rSlT (K : PySem.W.Frag) : V → Option Int → Option Int → Hp → VK → Prop := fun x lo hi H Q => ∃ a xs, x = .ref a ∧ SqT K H a xs ∧
  ¬ (HT.sIx xs.length 0 lo = 0 ∧ HT.sIx xs.length xs.length hi = xs.length) ∧ ∀ p, H p = none → Q (.ref p) (upd H p (.tup (cutV xs lo hi)))
/-- t + u, t not empty: u empty gives t itself -/
noncomputable def rCatT (K : PySem.W.Frag) : R2 := fun x y H Q => ∃ a b xs ys, x = .ref a ∧ y = .ref b ∧ SqT K H a xs ∧ SqT K H b ys ∧ xs ≠ [] ∧ xs.length + ys.length ≤ sizeLine ∧
  (ys = [] → Q (.ref a) H) ∧ (ys ≠ [] → ∀ p, H p = none → Q (.ref p) (upd H p (.tup (xs ++ ys))))
theorem Vals.nil_iff {xs : List V} {us : List Value} (r : Vals xs us) : us = [] ↔ xs = [] := by
  cases r with
  | nil => simp
  | cons _ _ => simp
theorem op_catT : OpR X (binaryOp .Add) (rCatT X.K) := by
  intro pins s σ H x y v u Q I rx ry h
  obtain ⟨a, b, xs, ys, rfl, rfl, ha, hb, hx, hz, q1, q2⟩ := h
  cases rx
  cases ry
  obtain ⟨its, r1, p1, _⟩ := I.tuple ha
  obtain ⟨its2, r2, p2, _⟩ := I.tuple hb
  refine HT.cat_tup p1 p2 (fun z => hx (r1.nil_iff.mp z)) (fun z => ⟨.ref a, H, I, rfl, q1 (r2.nil_iff.mp z)⟩) (fun z => ?_) (by rw [← r1.length, ← r2.length]; exact hz)
  refine ⟨.ref s.heap.objs.size, _, I.laid (t' := s.toks) (o := .tup (xs ++ ys)) (fun b ob q => Heap.get?_push_of_some _ q) (Nat.le_refl _) ?_, rfl, q2 (fun w => z (r2.nil_iff.mpr w)) _ (I.hok.fresh (Nat.le_refl _))⟩
  exact ⟨by rw [List.length_append]; exact hz, _, r1.append r2, IsTup.new _ _⟩
end
end L2

namespace L2
open PySem PySem.Spec PyProof.Rows

/-- the place that an index of any sign means -/
noncomputable def ixN (n : Nat) (i : Int) : Option Nat := if 0 ≤ i then (if i < n then some i.toNat else none) else if -(n : Int) ≤ i then some (i + n).toNat else none
noncomputable def atI {α : Type} (xs : List α) (i : Int) : Option α := (ixN xs.length i).bind fun j => xs[j]?
theorem ixN_seq {n : Nat} {i : Int} {j : Nat} (h : ixN n i = some j) : seqIndex? i n = some j ∧ j < n ∧ -(n : Int) ≤ i ∧ i < n := by
  unfold ixN at h
  by_cases h0 : 0 ≤ i
  · rw [if_pos h0] at h
    by_cases h1 : i < n
    · rw [if_pos h1] at h
      have e : i.toNat = j := Option.some.inj h
      exact ⟨by rw [seqIndex_of h0 h1, e], by omega, by omega, h1⟩
    · rw [if_neg h1] at h; cases h
  · rw [if_neg h0] at h
    by_cases h1 : -(n : Int) ≤ i
    · rw [if_pos h1] at h
      have e : (i + n).toNat = j := Option.some.inj h
      exact ⟨by rw [seqIndex_neg (by omega) h1, e], by omega, h1, by omega⟩
    · rw [if_neg h1] at h; cases h
theorem atI_get {α : Type} {xs : List α} {i : Int} {v : α} (h : atI xs i = some v) : ∃ j, seqIndex? i xs.length = some j ∧ xs[j]? = some v ∧ j < xs.length ∧ -(xs.length : Int) ≤ i ∧ i < xs.length := by
  unfold atI at h
  cases e : ixN xs.length i with
  | none => rw [e] at h; cases h
  | some j =>
    rw [e] at h
    obtain ⟨h1, h2, h3, h4⟩ := ixN_seq e
    exact ⟨j, h1, h, h2, h3, h4⟩
theorem atI_nat {α : Type} {xs : List α} {j : Nat} {v : α} (h : xs[j]? = some v) : atI xs (j : Int) = some v := by
  have hj : j < xs.length := (List.getElem?_eq_some_iff.mp h).1
  have e : ixN xs.length (j : Int) = some j := by
    unfold ixN
    rw [if_pos (by omega), if_pos (by omega)]; simp
  unfold atI; rw [e]; exact h
/-- what stands as an index of a plain subscript -/
noncomputable def PlainIx (b : Expr) : Prop := ∀ o i, subscripted b false o i = operate [o, i] (getItem o i)
/-- a subscript by values -/
noncomputable def IxR (X : Cx) (r : R2) : Prop :=
  ∀ (value slice : Expr) (pins : List (Addr × Obj)) (s : Shared) (σ : St) (H : Hp) (x y : V) (v u : Value) (Q : VK), Inv X pins σ H s → RelV x v → RelV y u → r x y H Q →
    subscripted slice false v u = operate [v, u] (getItem v u) → wpAny (model X.prog X.w) X.A (subscriptTail value slice v u) (EP X pins σ Q) X.xe s
/-- a call of a builtin's method by values: the receiver, the arguments -/
noncomputable def MtR (X : Cx) (id : String) (r : V → List V → Hp → VK → Prop) : Prop :=
  ∀ (pins : List (Addr × Obj)) (s : Shared) (σ : St) (H : Hp) (x : V) (xs : List V) (v : Value) (us : List Value) (Q : VK), Inv X pins σ H s → RelV x v → Vals xs us → r x xs H Q →
    wpAny (model X.prog X.w) X.A (call (.builtin id) (v :: us)) (EP X pins σ Q) X.xe s
section
variable {X : Cx} {a b : Expr} {ta tb : TE} {pos : Pos}
theorem IxR.or {r r' : R2} (h : IxR X r) (h' : IxR X r') : IxR X (fun x y H Q => r x y H Q ∨ r' x y H Q) := by
  intro value slice pins s σ H x y v u Q I rx ry q hs
  rcases q with q | q
  · exact h value slice pins s σ H x y v u Q I rx ry q hs
  · exact h' value slice pins s σ H x y v u Q I rx ry q hs
/-- a[b] -/
theorem pe_ix {r : R2} (hr : IxR X r) (ha : PE X a ta) (hb : PE X b tb) (hs : PlainIx b) : PE X (.Subscript a b pos) (tOp r ta tb) := by
  intro pins s σ H Q I h
  exact Subscript_ (binT ha hb I h fun v u s2 x y H2 I2 rx ry q => hr a b pins s2 σ H2 x y v u Q I2 rx ry q (hs _ _))

noncomputable def rIxL (K : PySem.W.Frag) : R2 := fun x y H Q => ∃ p xs i v, x = .ref p ∧ y = .int i ∧ SqL K H p xs ∧ atI xs i = some v ∧ Q v H
noncomputable def rIxT (K : PySem.W.Frag) : R2 := fun x y H Q => ∃ p xs i v, x = .ref p ∧ y = .int i ∧ SqT K H p xs ∧ atI xs i = some v ∧ Q v H
noncomputable def rIxS : R2 := fun x y H Q => ∃ z i c, x = .str z ∧ y = .int i ∧ z.length ≤ sizeLine ∧ atI z.cps.toList i = some c ∧ Q (.str ⟨#[c]⟩) H
theorem ix_list : IxR X (rIxL X.K) := by
  intro value slice pins s σ H x y v u Q I rx ry h hs
  obtain ⟨p, xs, i, z, rfl, rfl, hq, he, q⟩ := h
  cases rx
  obtain ⟨t, rfl⟩ := ry
  obtain ⟨its, r, pl, hz⟩ := I.list hq
  obtain ⟨j, h1, h2, h3, h4, h5⟩ := atI_get he
  obtain ⟨w, ew, rw'⟩ := r.get h2
  have hl := r.length
  have hn := line63
  have fin : EP X pins σ Q w s := ⟨z, H, I, rw', q⟩
  by_cases h0 : 0 ≤ i
  · have hj : i.toNat = j := by
      rw [seqIndex_of h0 h5] at h1
      exact Option.some.inj h1
    exact item_listR pl.isList h0 (by omega) (by rw [hj]; simpa using ew) fin hs
  · have hj : (i + (its.toArray.size : Int)).toNat = j := by
      rw [seqIndex_neg (by omega) h4] at h1
      rw [List.size_toArray, ← hl]
      exact Option.some.inj h1
    exact subscriptTail_builtinR (x := w) pl.isList.typeIs slot_list_getitem.lookup
      (wpAny_getItem_list_neg (Q := fun r s' => r = w ∧ EP X pins σ Q r s') pl.isList (by omega) (by rw [List.size_toArray] <;> omega) (by omega) (by rw [hj]; simpa using ew) ⟨rfl, fin⟩) hs
theorem ix_tup : IxR X (rIxT X.K) := by
  intro value slice pins s σ H x y v u Q I rx ry h hs
  obtain ⟨p, xs, i, z, rfl, rfl, hq, he, q⟩ := h
  cases rx
  obtain ⟨t, rfl⟩ := ry
  obtain ⟨its, r, pl, hz⟩ := I.tuple hq
  obtain ⟨j, h1, h2, h3, h4, h5⟩ := atI_get he
  obtain ⟨w, ew, rw'⟩ := r.get h2
  have hl := r.length
  have hn := line63
  have fin : EP X pins σ Q w s := ⟨z, H, I, rw', q⟩
  exact subscriptTail_builtinR (x := w) pl.typeIs slot_tuple_getitem.lookup
    (getItem_tuple (j := j) (Q := fun r s' => r = w ∧ EP X pins σ Q r s') pl (by omega) (by omega) (by rw [List.size_toArray, ← hl]; exact h1) (by simpa using ew) ⟨rfl, fin⟩) hs
theorem ix_str : IxR X rIxS := by
  intro value slice pins s σ H x y v u Q I rx ry h hs
  obtain ⟨z, i, c, rfl, rfl, hz, he, q⟩ := h
  obtain ⟨t, rfl⟩ := rx
  obtain ⟨t', rfl⟩ := ry
  obtain ⟨j, h1, h2, h3, h4, h5⟩ := atI_get he
  have hl : z.cps.toList.length = z.length := by simp [Str.length]
  rw [hl] at h1 h4 h5
  have hn := line63
  exact tail_any (typeIs_str s z t) slot_str_getitem.lookup (getItem_str (c := c) (by
    have e1 : decide (i < -(2 ^ 63 : Int)) = false := decide_eq_false (by omega)
    have e2 : decide (i ≥ 2 ^ 63) = false := decide_eq_false (by omega)
    rw [e1, e2, Bool.or_false]) (by rw [h1]; simpa using h2) ⟨.str ⟨#[c]⟩, H, I.tok _, ⟨_, rfl⟩, q⟩) hs
/-- list, tuple or str -/
noncomputable def rIx (K : PySem.W.Frag) : R2 := fun x y H Q => rIxL K x y H Q ∨ rIxT K x y H Q ∨ rIxS x y H Q
theorem ix_seq : IxR X (rIx X.K) := ix_list.or (ix_tup.or ix_str)

/-- the list's object behind a store -/
theorem mapSeq_set (its : List Value) (n j : Nat) (u : Value) : Obj.mapSeq (·.setIfInBounds j u) { cls := .type "list", data := .seq its.toArray n } = { cls := .type "list", data := .seq (its.set j u).toArray n } := by
  simp [Obj.mapSeq]
theorem Inv.lst {pins : List (Addr × Obj)} {σ : St} {H : Hp} {s : Shared} {p : Addr} {xs : List V} (I : Inv X pins σ H s) (h : H p = some (.lst xs)) :
    ∃ (its : List Value) (n : Nat), Vals xs its ∧ s.heap.get? p = some { cls := .type "list", data := .seq its.toArray n } ∧ xs.length ≤ sizeLine := by
  obtain ⟨z, its, n, r, e⟩ := I.hok p _ h
  exact ⟨its, n, r, e, z⟩
/-- the list at p is written by an update of its object -/
theorem Inv.lstUpd {pins : List (Addr × Obj)} {σ : St} {H : Hp} {s : Shared} {p : Addr} {xs ys : List V} {its its' : List Value} {n n' : Nat} {f : Obj → Obj} (I : Inv X pins σ H s) (h : H p = some (.lst xs))
    (ho : s.heap.get? p = some { cls := .type "list", data := .seq its.toArray n }) (hf : f { cls := .type "list", data := .seq its.toArray n } = { cls := .type "list", data := .seq its'.toArray n' }) (r : Vals ys its') (hz : ys.length ≤ sizeLine) (t : Nat) :
    Inv X pins σ (upd H p (.lst ys)) { s with heap := s.heap.update p f, toks := t } := by
  have e : (s.heap.update p f).get? p = some { cls := .type "list", data := .seq its'.toArray n' } := by
    rw [Heap.get?_update_self f ho (by rw [hf] <;> rfl), hf]
  refine I.write (x := p) (e := p) (by rw [h]; trivial) (.inl rfl) (fun b u hb q => (Heap.get?_update_other _ _ (Ne.symm hb)).trans q) ⟨_, e⟩ ?_
  exact ⟨hz, its', n', r, e⟩
noncomputable def rSetL : V → V → V → Hp → (Hp → Prop) → Prop := fun o i v H Q => ∃ p xs k j, o = .ref p ∧ i = .int k ∧ H p = some (.lst xs) ∧ ixN xs.length k = some j ∧ Q (upd H p (.lst (xs.set j v)))
theorem set_list : PSet X rSetL := by
  intro pins s σ H o i v ov iv u Q I ro ri rv h
  obtain ⟨p, xs, k, j, rfl, rfl, hp, hj, q⟩ := h
  cases ro
  obtain ⟨t, rfl⟩ := ri
  obtain ⟨its, n, r, ho, hz⟩ := I.lst hp
  obtain ⟨h1, h2, h3, h4⟩ := ixN_seq hj
  have hl := r.length
  have hn := line63
  have I' : Inv X pins σ (upd H p (.lst (xs.set j v))) { s with heap := s.heap.update p (Obj.mapSeq (·.setIfInBounds j u)) } :=
    I.lstUpd hp ho (mapSeq_set its n j u) (r.set rv j) (by rw [List.length_set]; exact hz) s.toks
  by_cases h0 : 0 ≤ k
  · have hk : k.toNat = j := by
      rw [seqIndex_of h0 h4] at h1
      exact Option.some.inj h1
    exact PySem.W.ki_setAt ho h0 (by omega) (by rw [List.size_toArray, ← hl]; exact h4) (by rw [hk]; exact ⟨_, I', q⟩)
  · have hk : (k + (its.toArray.size : Int)).toNat = j := by
      rw [seqIndex_neg (by omega) h3] at h1
      rw [List.size_toArray, ← hl]
      exact Option.some.inj h1
    exact PySem.W.ki_setBack ho (by omega) (by rw [List.size_toArray, ← hl]; exact h3) (by omega) (by rw [hk]; exact ⟨_, I', q⟩)

noncomputable def flatV : V → Bool
  | .non => true
  | .bl _ => true
  | .int _ => true
  | .str _ => true
  | _ => false
/-- == of flat values -/
noncomputable def eqV : V → V → Bool
  | .non, .non => true
  | .bl a, .bl b => a == b
  | .bl a, .int b => (if a then 1 else 0) == b
  | .int a, .bl b => a == (if b then 1 else 0)
  | .int a, .int b => a == b
  | .str a, .str b => a == b
  | _, _ => false
noncomputable def inV (x : V) (xs : List V) : Bool := xs.any fun y => eqV y x
theorem call_len_seq : CallR X (.builtin "len") (fun xs H Q => ∃ p ys, xs = [.ref p] ∧ (SqL X.K H p ys ∨ SqT X.K H p ys) ∧ Q (.int ys.length) H) := by
  intro pins s σ H xs us Q I r h
  obtain ⟨p, ys, rfl, hq, q⟩ := h
  obtain ⟨u, rfl, rx⟩ := vals1 r
  cases rx
  have hn := line63
  rcases hq with hq | hq
  · obtain ⟨its, r', pl, hz⟩ := I.list hq
    have hlen := r'.length
    exact Calls.call_len_list pl.isList (by simp only [List.size_toArray] <;> omega) ⟨.int ys.length, H, I.tok _, ⟨s.toks + 1, by rw [List.size_toArray, hlen]⟩, q⟩
  · obtain ⟨its, r', pl, hz⟩ := I.tuple hq
    have hlen := r'.length
    exact len_tuple pl (by simp only [List.size_toArray] <;> omega) ⟨.int ys.length, H, I.tok _, ⟨s.toks + 1, by rw [List.size_toArray, hlen]⟩, q⟩
theorem call_len_str : CallR X (.builtin "len") (fun xs H Q => ∃ z, xs = [.str z] ∧ z.length ≤ sizeLine ∧ Q (.int z.length) H) := by
  intro pins s σ H xs us Q I r h
  obtain ⟨z, rfl, hz, q⟩ := h
  obtain ⟨u, rfl, t, rfl⟩ := vals1 r
  have hn := line63
  exact len_str (by omega) ⟨.int z.length, H, I.tok _, ⟨_, rfl⟩, q⟩
theorem CallR.or {f : Value} {r r' : List V → Hp → VK → Prop} (h : CallR X f r) (h' : CallR X f r') : CallR X f (fun xs H Q => r xs H Q ∨ r' xs H Q) := by
  intro pins s σ H xs us Q I rs q
  rcases q with q | q
  · exact h pins s σ H xs us Q I rs q
  · exact h' pins s σ H xs us Q I rs q
theorem call_list_of : CallR X (.type "list") (fun xs H Q => ∃ p ys, xs = [.ref p] ∧ (SqL X.K H p ys ∨ SqT X.K H p ys) ∧ ∀ l, H l = none → Q (.ref l) (upd H l (.lst ys))) := by
  intro pins s σ H xs us Q I r h
  obtain ⟨p, ys, rfl, hq, q⟩ := h
  obtain ⟨u, rfl, rx⟩ := vals1 r
  cases rx
  have fin : ∀ (its : List Value), Vals ys its → ys.length ≤ sizeLine → ∀ (h' : Heap) (c' : Nat), (∀ b o', s.heap.get? b = some o' → h'.get? b = some o') →
      h'.get? s.heap.objs.size = some { cls := .type "list", dict := none, data := .seq its.toArray c', slots := #[] } → EP X pins σ Q (.ref s.heap.objs.size) { s with heap := h' } := fun its r' hz h' c' kp e =>
    ⟨.ref s.heap.objs.size, _, I.laid (t' := s.toks) kp (Nat.le_refl _) (show ObjOk X.prog X.w _ h' _ (.lst ys) from ⟨hz, its, c', r', e⟩), rfl, q _ (I.hok.fresh (Nat.le_refl _))⟩
  rcases hq with hq | hq
  · obtain ⟨its, r', pl, hz⟩ := I.list hq
    have hlen := r'.length
    obtain ⟨o, ho, hc, n, hd⟩ := pl.isList
    exact call_list_seq p (.inl rfl) ho hc hd (fun h' c' kp e => fin its r' hz h' c' kp e) (by simp only [List.size_toArray] <;> omega)
  · obtain ⟨its, r', pl, hz⟩ := I.tuple hq
    have hlen := r'.length
    obtain ⟨o, ho, hc, n, hd⟩ := pl
    exact call_list_seq p (.inr rfl) ho hc hd (fun h' c' kp e => fin its r' hz h' c' kp e) (by simp only [List.size_toArray] <;> omega)
/-- the value is of that builtin type -/
noncomputable def tyV (K : PySem.W.Frag) (T : String) (x : V) (H : Hp) : Prop := match x with
  | .str _ => T = "str"
  | .int _ => T = "int"
  | .ref p => (T = "list" ∧ ∃ xs, SqL K H p xs) ∨ (T = "tuple" ∧ ∃ o, K.lookup p = some o ∧ o.cls = .type "tuple" ∧ o.dict = none) ∨
      (T = "dict" ∧ ((∃ kvs, H p = some (.dK kvs)) ∨ ∃ kvs, H p = some (.dT kvs))) ∨ (T = "set" ∧ ∃ S n, H p = some (.set S n))
  | _ => False
theorem tyV_is {pins : List (Addr × Obj)} {σ : St} {H : Hp} {s : Shared} {T : String} {x : V} {v : Value} (I : Inv X pins σ H s) (r : RelV x v) (ty : tyV X.K T x H) :
    s.TypeIs v T ∧ ∀ a, v = .ref a → ∃ ob, s.heap.get? a = some ob ∧ ob.dict = none := by
  cases x with
  | str z =>
    obtain ⟨t, rfl⟩ := r
    cases (show T = "str" from ty)
    exact ⟨typeIs_str s z t, fun _ e => nomatch e⟩
  | int i =>
    obtain ⟨t, rfl⟩ := r
    cases (show T = "int" from ty)
    exact ⟨typeIs_int s i t, fun _ e => nomatch e⟩
  | ref p =>
    cases r
    rcases ty with ⟨rfl, xs, hq⟩ | ⟨rfl, o, hk, hc, hd⟩ | ⟨rfl, hk⟩ | ⟨rfl, S, n, hk⟩
    · obtain ⟨its, _, pl, _⟩ := I.list hq
      refine ⟨pl.isList.typeIs, fun a e => ?_⟩
      cases e
      obtain ⟨o, n, e, c, hd, _⟩ := pl
      exact ⟨o, e, hd⟩
    · refine ⟨⟨o, I.kIn p o hk, hc⟩, fun a e => ?_⟩
      cases e
      exact ⟨o, I.kIn _ o hk, hd⟩
    · have z : ∃ o, s.heap.get? p = some o ∧ o.ExactDict := by
        rcases hk with ⟨kvs, hk⟩ | ⟨kvs, hk⟩
        · obtain ⟨_, _, _, _, o, _, _, e, ex, _⟩ := I.hok p _ hk
          exact ⟨o, e, ex⟩
        · obtain ⟨_, _, _, _, o, _, _, e, ex, _⟩ := I.hok p _ hk
          exact ⟨o, e, ex⟩
      obtain ⟨o, e, ex⟩ := z
      refine ⟨⟨o, e, ex.1⟩, fun a e2 => ?_⟩
      cases e2
      exact ⟨o, e, ex.2.1⟩
    · obtain ⟨o, _, _, _, e, ex, _⟩ := I.hok p _ hk
      refine ⟨⟨o, e, ex.1⟩, fun a e2 => ?_⟩
      cases e2
      exact ⟨o, e, ex.2.1⟩
  | _ => exact False.elim ty
noncomputable def tBM0 (K : PySem.W.Frag) (T : String) (r : V → List V → Hp → VK → Prop) (to : TE) : TE := fun σ H Q => to σ H fun x H1 => tyV K T x H1 ∧ r x [] H1 Q
noncomputable def tBM (K : PySem.W.Frag) (T : String) (r : V → List V → Hp → VK → Prop) (to : TE) (t : TA) : TE := fun σ H Q => to σ H fun x H1 => tyV K T x H1 ∧ t σ H1 fun xs H2 => r x xs H2 Q
variable {o e : Expr} {es : List Expr} {to : TE} {t : TA} {name : Str} {apos cpos : Pos} {T id : String} {r : V → List V → Hp → VK → Prop}
theorem pe_bm (pa : PlainAttrs T) (slot : Slot T name id) (hty : typeOf (.builtin id) = pure (.type "method_descriptor")) (hm : MtR X id r) (ho : PE X o to) (ha : PA X (e :: es) t)
    (hbase : attributeBase o name X.env (eval o X.env) = eval o X.env := by rfl)
    (hfew : ((backTo cpos (starEach (e :: es) X.env)).all (fun x => !x.1) && (backToKw cpos (keywordEach [] X.env)).all (fun x => x.1.isSome)
      && decide ((e :: es).length + ([] : List Keyword).length + (if ([] : List Keyword).isEmpty then 0 else 1) < 30)) = true := by rfl)
    (hline : (apos.endLine == cpos.line) = true := by rfl) (hs : starEach (e :: es) X.env = (false, eval e X.env) :: starEach es X.env := by rfl) (hplain : (backTo cpos (starEach es X.env)).any (·.1) = false := by rfl) :
    PE X (.Call (.Attribute o name apos) (e :: es) [] cpos) (tBM X.K T r to t) := by
  intro pins s σ H Q I h
  refine wpAny_Call_method_late hbase hfew hline rfl (thn (ho pins s σ H _ I h) fun v s1 ⟨x, H1, I1, r1, ty, q1⟩ => ?_)
  obtain ⟨h1, h2⟩ := tyV_is I1 r1 ty
  refine ⟨T, id, pa, slot, hty, h1, h2, ?_⟩
  have hA := ha cpos pins s1 σ H1 _ I1 q1
  rw [hs] at hA ⊢
  refine Calls.callWith_builtin (by show (false || (backTo cpos (starEach es X.env)).any (·.1)) = false; rw [hplain] <;> rfl) (Calls.evalArgs_plain ?_)
  exact thn hA fun us s2 ⟨vs, H2, I2, r2, q2⟩ => hm pins s2 σ H2 x vs v us Q I2 r1 r2 q2
/- xs.append(e), list.index on a module's tuple .. are MtR facts of 06m -/
end
end L2

namespace L2
open PySem PySem.Spec PyProof.Rows

noncomputable def MtM (X : Cx) (id : String) (r : V → List V → Hp → VK → Prop) : Prop :=
  ∀ (pins : List (Addr × Obj)) (s : Shared) (σ : St) (H : Hp) (x : V) (xs : List V) (v : Value) (us : List Value) (Q : VK), Inv X pins σ H s → RelV x v → Vals xs us → r x xs H Q →
    wpAny (model X.prog X.w) X.A (call (.builtin id) (v :: us)) (EP X pins σ Q) X.xe s

theorem Vals.one : ∀ {x : V} {us : List Value}, Vals [x] us → ∃ u, us = [u] ∧ RelV x u
  | _, _, .cons r .nil => ⟨_, rfl, r⟩
theorem Vals.rep {xs : List V} {us : List Value} (h : Vals xs us) : ∀ k : Nat, Vals (List.replicate k xs).flatten (List.replicate k us).flatten
  | 0 => .nil
  | k + 1 => by
    rw [List.replicate_succ, List.replicate_succ, List.flatten_cons, List.flatten_cons]
    exact Vals.append h (Vals.rep h k)
theorem foldl_rep (its : List Value) : ∀ (k : Nat) (acc : List Value),
    List.foldl (fun x1 x2 => x1 ++ x2) acc.toArray (List.replicate k its.toArray) = (acc ++ (List.replicate k its).flatten).toArray
  | 0, acc => by simp
  | k + 1, acc => by
    have e : acc.toArray ++ its.toArray = (acc ++ its).toArray := by simp
    have e2 : (acc ++ its) ++ (List.replicate k its).flatten = acc ++ (List.replicate (k + 1) its).flatten := by
      rw [List.replicate_succ, List.flatten_cons, List.append_assoc]
    rw [← e2, ← foldl_rep its k (acc ++ its), ← e, List.replicate_succ, List.foldl_cons]

section
variable {X : Cx} {pins : List (Addr × Obj)} {σ : St} {H : Hp} {s : Shared} {l b : Addr} {xs ys zs : List V}

theorem Inv.lset {its its' : List Value} {n : Nat} {f : Array Value → Array Value} {t' : Nat} (I : Inv X pins σ H s) (hH : H l = some (.lst xs))
    (e : s.heap.get? l = some { cls := .type "list", data := .seq its.toArray n }) (hf : f its.toArray = its'.toArray) (hv : Vals ys its') (hz : ys.length ≤ sizeLine) :
    Inv X pins σ (upd H l (.lst ys)) { s with heap := s.heap.update l (Obj.mapSeq f), toks := t' } := by
  have q := PySem.IsL.update e f
  rw [hf] at q
  refine I.write (x := l) (e := l) (by rw [hH]; exact trivial) (.inl rfl) (fun b' u hb hu => (Heap.get?_update_other s.heap (Obj.mapSeq f) (Ne.symm hb)).trans hu) ⟨_, q⟩ ?_
  exact ⟨hz, its', _, hv, q⟩
theorem Inv.lnew {its : List Value} {t' : Nat} (I : Inv X pins σ H s) (hv : Vals ys its) (hz : ys.length ≤ sizeLine) :
    Inv X pins σ (upd H s.heap.objs.size (.lst ys)) { s with heap := s.heap.push { cls := .type "list", data := .seq its.toArray }, toks := t' } :=
  I.laid (fun _ _ q => Heap.get?_push_of_some _ q) (Nat.le_refl _) ⟨hz, its, 0, hv, Heap.get?_push_size _ rfl⟩
theorem Inv.fresh (I : Inv X pins σ H s) : H s.heap.objs.size = none := I.hok.fresh (Nat.le_refl _)
theorem Inv.lstM (I : Inv X pins σ H s) (hH : H l = some (.lst xs)) : xs.length ≤ sizeLine ∧ ∃ (its : List Value) (n : Nat), Vals xs its ∧ xs.length = its.length ∧ s.heap.get? l = some { cls := .type "list", data := .seq its.toArray n } := by
  obtain ⟨z, its, n, r, e⟩ := I.hok l _ hH
  exact ⟨z, its, n, r, r.length, e⟩

theorem notLongL {n : Nat} (h : n ≤ sizeLine) : Builtin.List.listTooLong n = false := by
  unfold Builtin.List.listTooLong
  exact decide_eq_false (by omega)
end

section
variable {X : Cx}

noncomputable def rAppend : V → List V → Hp → VK → Prop := fun x vs H Q => ∃ l xs y, x = .ref l ∧ vs = [y] ∧ H l = some (.lst xs) ∧ xs.length < sizeLine ∧ Q .non (upd H l (.lst (xs ++ [y])))
theorem mt_append : MtM X "list.append" rAppend := by
  intro pins s σ H x vs v us Q I rx rv h
  obtain ⟨l, xs, y, rfl, rfl, hH, hz, q⟩ := h
  cases rx
  obtain ⟨u, rfl, ru⟩ := rv.one
  obtain ⟨z, its, n, r, hl, e⟩ := I.lstM hH
  refine call_meets F.slot_list_append ⟨_, e, rfl⟩ F.entry_list_append (F.args_list_append_2 _ _) (PySem.list_append l its.toArray n u (by rw [List.size_toArray]; omega)) ⟨e, ?_⟩
  refine ⟨.non, _, I.lset (its' := its ++ [u]) hH e (by simp) (r.append (.cons ru .nil)) ?_, rfl, q⟩
  rw [List.length_append, List.length_singleton]
  omega

noncomputable def rCat : R2 := fun x y H Q => ∃ l b xs zs, x = .ref l ∧ y = .ref b ∧ H l = some (.lst xs) ∧ H b = some (.lst zs) ∧ xs.length + zs.length ≤ sizeLine ∧ ∀ p, H p = none → Q (.ref p) (upd H p (.lst (xs ++ zs)))
theorem op_cat : OpR X (binaryOp .Add) rCat := by
  intro pins s σ H x y v u Q I rx ry h
  obtain ⟨l, b, xs, zs, rfl, rfl, hH, hB, hz, q⟩ := h
  cases rx
  cases ry
  obtain ⟨z, its, n, r, hl, e⟩ := I.lstM hH
  obtain ⟨z2, its2, n2, r2, hl2, e2⟩ := I.lstM hB
  refine PySem.P.add_list e e2 ?_ (by rw [List.size_toArray, List.size_toArray]; omega)
  have ea : its.toArray ++ its2.toArray = (its ++ its2).toArray := by simp
  rw [ea]
  exact ⟨.ref _, _, I.lnew (t' := s.toks) (r.append r2) (by rw [List.length_append]; omega), rfl, q _ I.fresh⟩
/-- a list times an int (a negative one is nothing) -/
noncomputable def rRep : R2 := fun x y H Q => ∃ l k xs, x = .ref l ∧ y = .int k ∧ H l = some (.lst xs) ∧ -(2 ^ 63) ≤ k ∧ k < 2 ^ 63 ∧ xs.length * k.toNat ≤ sizeLine ∧
  ∀ p, H p = none → Q (.ref p) (upd H p (.lst (List.replicate k.toNat xs).flatten))
theorem len_rep {α : Type} (xs : List α) (k : Nat) : (List.replicate k xs).flatten.length = k * xs.length := by
  induction k with
  | zero => simp
  | succ k ih => rw [List.replicate_succ, List.flatten_cons, List.length_append, ih, Nat.succ_mul, Nat.add_comm]
theorem op_rep : OpR X (binaryOp .Mult) rRep := by
  intro pins s σ H x y v u Q I rx ry h
  obtain ⟨l, k, xs, rfl, rfl, hH, h1, h2, hz, q⟩ := h
  cases rx
  obtain ⟨t, rfl⟩ := ry
  obtain ⟨z, its, n, r, hl, e⟩ := I.lstM hH
  have hlen : its.toArray.size * k.toNat ≤ sizeLine := by rw [List.size_toArray, ← hl]; exact hz
  have hcap : ¬ its.toArray.size * k.toNat > (2 ^ 63 - 1) / 8 := by
    have : (sizeLine : Nat) ≤ (2 ^ 63 - 1) / 8 := by decide
    omega
  have hfit : ¬ (!Builtin.List.listFitsIndex k) = true := by
    rw [fitsIndex_both h1 h2]
    exact Bool.false_ne_true
  have hlong : ¬ Builtin.List.listTooLong (its.toArray.size * k.toNat) = true := by
    rw [notLongL hlen]
    exact Bool.false_ne_true
  have hnew : List.foldl (fun x1 x2 => x1 ++ x2) #[] (List.replicate (if its.toArray.isEmpty = true then 0 else k.toNat) its.toArray) = (List.replicate k.toNat its).flatten.toArray := by
    have f0 : ∀ m : Nat, List.foldl (fun x1 x2 => x1 ++ x2) #[] (List.replicate m its.toArray) = (List.replicate m its).flatten.toArray := fun m => by
      have := foldl_rep its m []
      rw [List.nil_append] at this
      exact this
    rw [f0]
    cases its with
    | nil => simp
    | cons a r' => rw [if_neg (by simp)]
  refine wpAny_binaryOp_repeat_ref (T := "list") (U := "int") (by decide) ⟨_, e, rfl⟩ (fun s' => typeIs_int s' k t) noFill_list_mul F.fills_int_mul F.slot_int_rmul repeat_list F.slot_int_index.lookup
    (call_meets F.slot_int_rmul (typeIs_int s k t) F.entry_int_rmul (F.args_int_rmul_2 _ _) (int___rmul___int_list k t l its.toArray n)
      ⟨e, rfl, ⟨_, e, rfl⟩, call_meets F.slot_list_mul ⟨_, e, rfl⟩ F.entry_list_mul (F.args_list_mul_2 _ _) (AutoListH.list___mul___list_int_3 l its.toArray n k t hfit hcap hlong) ⟨e, ?_⟩⟩)
  rw [hnew]
  exact ⟨.ref _, _, I.lnew (t' := s.toks) (r.rep k.toNat) (by rw [len_rep, Nat.mul_comm]; exact hz), rfl, q _ I.fresh⟩

end

section
variable {prog : Program} {w : World} {A : Around} {E : Value → Shared → Prop} {s : Shared}
end

section
variable {X : Cx}
end
end L2

namespace Att
open PySem PySem.W PySem.Calls PyProof.Rows

theorem ints_of_wellAll {P : Params} {h : Heap} : ∀ (ns : List Int) (vs : List Value), WellAll P h vs (ns.map WData.int) → IntsAre vs ns := by
  intro ns
  induction ns with
  | nil =>
    intro vs w
    rw [List.map_nil] at w
    cases w
    exact .nil
  | cons n ns ih =>
    intro vs w
    rw [List.map_cons] at w
    cases w with
    | cons a b =>
      cases a
      exact .cons _ _ (ih _ b)

theorem script_of {l : OpenLaw} {n : Nat} (hn : l.most = some n) {P : Params} {h : Heap} {args : List WData} {vals : List Value}
    (hpre : l.row.toRowW.claim.pre args = true) (hwl : WellAll P h vals args) :
    ∃ a vs ns, vals = [Value.ref a] ∧ args = [WData.list (ns.map WData.int)] ∧ h.get? a = some { cls := .type "list", data := .seq vs.toArray } ∧ IntsAre vs ns ∧ ns.length ≤ n := by
  have hsh : WShape.hasAll [] args [.list .int] = true := (pre_splitW hpre).1
  have hc : l.pre.holds [] { args := args } = true := (pre_splitW hpre).2
  obtain ⟨d, r, rfl, h1, h2⟩ := hasAllW_cons hsh
  obtain rfl := hasAllW_nil h2
  obtain ⟨xs, rfl, h3⟩ := hasW_list h1
  obtain ⟨ns, rfl⟩ := items_int h3
  have hlen : ns.length ≤ n := by
    unfold OpenLaw.pre at hc
    have h4 : (WTm.not (.lt (.lit (.int (n : Int))) (.len (.arg 0)))).holds [] { args := [.list (ns.map .int)] } = true := by
      have h4 := (holds_andW hc).1
      rw [hn] at h4
      exact h4
    have h5 := condW_of h4 (w_not (w_lt w_lit (w_len_list (w_arg rfl))))
    rw [List.length_map] at h5
    refine Nat.le_of_not_lt fun q => ?_
    have q' : (n : Int) < ((ns.length : Nat) : Int) := by omega
    first
      | (rw [decide_eq_true q'] at h5; exact absurd h5 (by decide))
      | (simp at h5; omega)
  cases hwl with
  | cons w1 w2 =>
    cases w2
    cases w1 with
    | list ho hall => exact ⟨_, _, ns, rfl, rfl, ho, ints_of_wellAll ns _ hall, hlen⟩

theorem post_true (l : OpenLaw) (args : List WData) : l.row.toRowW.claim.post args (.bool true) args = true :=
  postW_of (r := l.row.toRowW) (X := (true == true))
    (show WShape.has [] (.bool true) .bool = true by first | rfl | decide | simp [WShape.has, WShape.arms, WShape.armsAll])
    (show (WTm.eq .res (.lit (.bool true))).value [] { args := args, res := some (.bool true), after := args } = some (.bool (true == true)) from w_eq_bool (w_res rfl) w_lit) rfl

/-- the same from a codeAny of the CALL (for a layer whose function contracts speak of calls) -/
theorem attach_call {l : OpenLaw} {n : Nat} {q : Program} {loose : List Str} {XP : (Str → Option Value) → Heap → Prop} {YP : World → Heap → Prop} {d : DefRec}
    (hn : l.most = some n) (hdf : d.params.defaults = [])
    (call : ∀ (w : World) (s₀ s₁ : Shared) (mg mb : Str → Option Value) (fa : Addr) (o : Obj) (pm cd doc : Value) (a : Addr) (vs : List Value) (ns : List Int),
      Ground q loose [] XP w s₀ mg mb s₁.heap → YP w s₁.heap →
      s₁.heap.get? fa = some o → o.data = .func (docDef d.name d.params d.body d.scope pm cd doc) → s₁.heap.CodeRec cd d.name → mg d.name = some (.ref fa) →
      s₁.heap.get? a = some { cls := .type "list", data := .seq vs.toArray } → IntsAre vs ns → ns.length ≤ n → s₁.gens = #[] →
      codeAny (model l.prog w) callerA (.call (.ref fa) ⟨[.ref a], []⟩) (fun r s' => r = .ok (.ret (.bool true)) ∧ OldK s₁.heap s'.heap ∧ s'.os = s₁.os ∧ AllBare s'.gens) s₁) :
    WalkO q loose XP YP l.row.toRowW d [] (fun f vs => PySem.call f vs) := by
  intro w s₀ s₁ mg mb G Y fa o pm cd doc dV kV ho hd hcd hD hmg hg args vals as hpre hlay hrd hwl hlo
  obtain rfl : dV = .none := Dflts.none hD hdf
  obtain rfl : kV = .none := Dflts.noKw hD
  obtain ⟨a, vs, ns, rfl, rfl, hobj, hints, hlen⟩ := script_of hn hpre hwl
  refine enter_call (codeAny_mono (call w s₀ s₁ mg mb fa o pm cd doc a vs ns G Y ho (fd_plain hd) hcd hmg hobj hints hlen hg) fun r s' hq => ?_)
  obtain ⟨rfl, h2, h3, h4⟩ := hq
  exact ⟨.inl ⟨.bool true, .bool true, [], rfl, fun _ => rfl, .bool true, post_true l _, fun _ => ⟨List.Pairwise.nil, fun _ hm => (nomatch hm)⟩⟩, h2, h3, h4⟩

section
variable {prog : Program} {w : World} {A : Around} {E : Value → Shared → Prop} {s : Shared} {K : Frag}

end
end Att

namespace L2
open PySem PySem.Spec PyProof.Rows

theorem vals_ints : ∀ {vs : List Value} {ns : List Int}, IntsAre vs ns → Vals (ns.map V.int) vs
  | _, _, .nil => .nil
  | _, _, .cons n t h => .cons ⟨t, rfl⟩ (vals_ints h)

/-- nothing is tracked but the script, known to the object (or it is an object of the module) -/
noncomputable def Only (H : Hp) : Prop := ∀ b, H b = none ∨ ∃ o xs, H b = some (.frz o (.lst xs))

/-- THE HEAD: the law's promise, at the heap behind the top. F, the promise of the law's def, may use that base is part of the heap (so K.In base, base.Ns mainGlobals mg stand in Mod) -/
theorem law_call {P : Program} {w : World} {K : PySem.W.Frag} {mg mb : Str → Option Value} {CX : CXT} {k : Nat} {fa a : Addr} {fd : FuncData} {x : Str} {sp : Sp} {s₁ : Shared} {vs : List Value} {ns : List Int}
    (KX : K.In s₁.heap) (hns : s₁.heap.Ns mainGlobals mg) (hb : s₁.heap.Ns builtinsNs mb) (hbb : ∀ x : Str, x ≠ "__name__" → mb x = bootBuiltins x) (hlim : s₁.heap.NoLimit) (hg : s₁.gens = #[])
    (ha : s₁.heap.get? a = some { cls := .type "list", data := .seq vs.toArray }) (hi : IntsAre vs ns) (hl : ns.length ≤ sizeLine) (hr : Room k callerA)
    (F : ∀ base : Heap, K.In base → base.Ns mainGlobals mg → FnOk P w K mg base CX k fa fd [x] sp) (hbind : ∀ (s : Shared) (u : Value), BindsTo s fd ⟨[u], []⟩ [(x, u)])
    (hsp : ∀ H : Hp, Only H → SqL K H a (ns.map V.int) → sp [.ref a] H (fun v _ => v = .bl true) fun _ _ _ => False)
    (hCX : ∀ H e s', CX [] H s₁ (fun _ _ _ => False) e s' → False) :
    codeAny (model P w) callerA (.call (.ref fa) ⟨[.ref a], []⟩) (fun r s' => r = .ok (.ret (.bool true)) ∧ OldK s₁.heap s'.heap ∧ s'.os = s₁.os ∧ AllBare s'.gens) s₁ := by
  have rv := vals_ints hi
  have lenV := hi.length
  -- from an abstract heap in which nothing but the script may be tracked
  have core : ∀ H : Hp, Only H → SqL K H a (ns.map V.int) → HOk P w H s₁.heap → (∀ b, H b ≠ none → b = a) → (H a ≠ none → K.lookup a = none) →
      codeAny (model P w) callerA (.call (.ref fa) ⟨[.ref a], []⟩) (fun r s' => r = .ok (.ret (.bool true)) ∧ OldK s₁.heap s'.heap ∧ s'.os = s₁.os ∧ AllBare s'.gens) s₁ := by
    intro H hO hS hok hA hK
    have base_of : ∀ {b : Addr} {o : Obj}, s₁.heap.get? b = some o → H b = none → (hidT s₁.heap H).get? b = some o := fun e n => hidT_get e n
    have noA : ∀ {b : Addr} {o : Obj} {es : Array DictEntry} {ep : Nat}, s₁.heap.get? b = some o → o.data = .dict es ep → H b = none := fun {b o es ep} e d => by
      cases q : H b with
      | none => rfl
      | some u =>
        have e' : b = a := hA b (by rw [q]; simp)
        subst e'
        rw [ha] at e; cases e
        have d' : Data.seq vs.toArray _ = Data.dict es ep := d
        cases d'
    have nsK : ∀ {b : Addr} {m : Str → Option Value}, s₁.heap.Ns b m → (hidT s₁.heap H).Ns b m := fun {b m} ⟨o, es, ep, e, d, r⟩ => ⟨o, es, ep, base_of e (noA e d), d, r⟩
    have hKb : K.In (hidT s₁.heap H) := fun b o e => base_of (KX b o e) (by
      cases q : H b with
      | none => rfl
      | some u =>
        have e' : b = a := hA b (by rw [q]; simp)
        subst e'
        rw [hK (by rw [q]; simp)] at e; cases e)
    have hM : Mod K mg (hidT s₁.heap H) := ⟨hKb, nsK hns, ⟨mb, nsK hb, hbb⟩, let ⟨mc, h1, h2⟩ := hlim; ⟨mc, nsK h1, h2⟩⟩
    have e0 : Env0 P w K mg (hidT s₁.heap H) callerA [] s₁ H := ⟨rfl, hM, fun b o e => of_hidT e, Nat.le_of_eq (hidT_size _ _), trivial, fun b hb => absurd (show b ∈ ([] : List Addr) from hb) (by simp), hok, .of_eq hg⟩
    refine codeAny_mono ((F _ hKb (nsK hns)).run callerA [] s₁ H ⟨[.ref a], []⟩ [.ref a] [.ref a] _ _ hr e0 (hbind s₁ (.ref a)) (.cons rfl .nil) (hsp H hO hS)) fun r s' h => ?_
    cases r with
    | error e => exact (hCX H e s' h).elim
    | ok fl =>
      cases fl with
      | next => exact False.elim h
      | brk => exact False.elim h
      | cont => exact False.elim h
      | ret u =>
        obtain ⟨v, H', os, bare, un, hok', r', q⟩ := h
        have q' : v = .bl true := q
        subst q'
        obtain rfl : u = Value.bool true := r'
        refine ⟨rfl, OldK.of_keep fun b o e => ?_, os, bare⟩
        cases q : H b with
        | none => exact un.keep b o e q (by intro z; exact absurd (show b ∈ ([] : List Addr) from z) (by simp)) (by simp)
        | some u =>
          rcases hO b with z | ⟨ob, xs, z⟩
          · rw [q] at z; cases z
          · have z2 := un.frzs b ob _ z
            obtain ⟨e1, _⟩ := hok b _ z
            obtain ⟨e2, _⟩ := hok' b _ z2
            rw [e] at e1; cases e1
            exact e2
  cases hk : K.lookup a with
  | some o =>
    -- the script is one of the module's own objects
    have e := KX a o hk
    rw [ha] at e
    cases e
    refine core (fun _ => none) (fun _ => .inl rfl) (.inr ⟨_, vs.toArray, _, hk, rfl, rfl, rfl, by rw [List.size_toArray, lenV]; exact hl, by simpa using rv⟩) (fun b u z => by have z' : (none : Option HO) = some u := z; cases z') (fun b z => absurd rfl z) fun z => absurd rfl z
  | none =>
    refine core (fun b => if b = a then some (.frz { cls := .type "list", data := .seq vs.toArray } (.lst (ns.map V.int))) else none) (fun b => ?_) (.inl (.inr ⟨{ cls := .type "list", data := .seq vs.toArray }, if_pos rfl⟩)) (fun b u z => ?_) (fun b z => ?_) fun _ => hk
    · by_cases hb : b = a
      · exact .inr ⟨_, _, if_pos hb⟩
      · exact .inl (if_neg hb)
    · by_cases hb : b = a
      · have z' := (if_pos hb).symm.trans z
        cases z'
        subst hb
        exact ⟨ha, by rw [List.length_map]; exact hl, vs, _, rv, ha⟩
      · have z' := (if_neg hb).symm.trans z
        cases z'
    · by_cases hb : b = a
      · exact hb
      · exact absurd (if_neg hb) z
end L2

namespace L2
open PySem PySem.Spec PyProof.Rows

/-- the goal that k_head leaves (case hc), from the law's promise. F gives the function object fd (K's own) once, then the promise over every base -/
theorem walk_of {l : PySem.W.OpenLaw} {n k : Nat} {q : Program} {loose : List Str} {XP : (Str → Option Value) → Heap → Prop} {YP : World → Heap → Prop} {d : DefRec} {K : Params → PySem.W.Frag} {CX : World → CXT} {sp : World → Sp} {x : Str}
    (hn : l.most = some n) (hn2 : n ≤ sizeLine) (hdf : d.params.defaults = []) (hr : Room k callerA)
    (hY : ∀ (w : World) (h : Heap), YP w h → (K w.params).In h)
    (F : ∀ (w : World) (mg : Str → Option Value) (fa : Addr) (h : Heap), (K w.params).In h → h.Ns mainGlobals mg → mg d.name = some (.ref fa) →
      ∃ fd : FuncData, (∀ (s : Shared) (u : Value), BindsTo s fd ⟨[u], []⟩ [(x, u)]) ∧
        ∀ base : Heap, (K w.params).In base → base.Ns mainGlobals mg → FnOk l.prog w (K w.params) mg base (CX w) k fa fd [x] (sp w))
    (hsp : ∀ (w : World) (H : Hp) (a : Addr) (ns : List Int), ns.length ≤ n → Only H → SqL (K w.params) H a (ns.map V.int) → sp w [.ref a] H (fun v _ => v = .bl true) fun _ _ _ => False)
    (hCX : ∀ (w : World) (H : Hp) (s : Shared) (e : Value) (s' : Shared), CX w [] H s (fun _ _ _ => False) e s' → False) :
    PySem.W.WalkO q loose XP YP l.row.toRowW d [] (fun f vs => PySem.call f vs) := by
  refine Att.attach_call hn hdf fun w s₀ s₁ mg mb fa o pm cd doc a vs ns G Y ho hd hcd hmg hobj hints hlen hg => ?_
  have KX := hY w _ Y
  obtain ⟨fd, hb, hF⟩ := F w mg fa _ KX G.T.g hmg
  exact law_call KX G.T.g G.T.b G.T.builtins G.T.nolimit hg hobj hints (Nat.le_trans hlen hn2) hr hF hb (fun H hO hS => hsp w H a ns hlen hO hS) fun H e s' => hCX w H s₁ e s'
/-- the same where the promise hangs on the written part alone: (sp := My.sp_law), no hole under a binder -/
theorem walk_ofK {l : PySem.W.OpenLaw} {n k : Nat} {q : Program} {loose : List Str} {XP : (Str → Option Value) → Heap → Prop} {YP : World → Heap → Prop} {d : DefRec} {K : Params → PySem.W.Frag} {CX : CXT} {sp : PySem.W.Frag → Sp} {x : Str}
    (hn : l.most = some n) (hn2 : n ≤ sizeLine) (hdf : d.params.defaults = []) (hr : Room k callerA)
    (hY : ∀ (w : World) (h : Heap), YP w h → (K w.params).In h)
    (F : ∀ (w : World) (mg : Str → Option Value) (fa : Addr) (h : Heap), (K w.params).In h → h.Ns mainGlobals mg → mg d.name = some (.ref fa) →
      ∃ fd : FuncData, (∀ (s : Shared) (u : Value), BindsTo s fd ⟨[u], []⟩ [(x, u)]) ∧
        ∀ base : Heap, (K w.params).In base → base.Ns mainGlobals mg → FnOk l.prog w (K w.params) mg base CX k fa fd [x] (sp (K w.params)))
    (hsp : ∀ (K : PySem.W.Frag) (H : Hp) (a : Addr) (ns : List Int), ns.length ≤ n → Only H → SqL K H a (ns.map V.int) → sp K [.ref a] H (fun v _ => v = .bl true) fun _ _ _ => False)
    (hCX : ∀ (H : Hp) (s : Shared) (e : Value) (s' : Shared), CX [] H s (fun _ _ _ => False) e s' → False) :
    PySem.W.WalkO q loose XP YP l.row.toRowW d [] (fun f vs => PySem.call f vs) :=
  walk_of (K := K) (CX := fun _ => CX) (sp := fun w => sp (K w.params)) hn hn2 hdf hr hY F (fun w H a ns h1 h2 h3 => hsp (K w.params) H a ns h1 h2 h3) fun _ H s e s' => hCX H s e s'
end L2

/- THE LAST THEOREM (shape; LID, My.* are yours):
   My.Adr: a structure of the addresses that your layer names (classes, functions); My.Txt K t: a structure (Prop) of the equations over K;
   My.txt_mk : {K} {implicit addresses ..} (e1 : nsIn K mainGlobals "law" = some (some (.ref f))) (e2 : K.lookup f = some ⟨oc, od, .func (fnOf "law" "law" params body scope dV kV doc pm an cdv ct), sl⟩) (e3 : codeIn K cdv "law" = true) .. : ∃ t, My.Txt K t

set_option maxRecDepth 100000 in
set_option maxHeartbeats 0 in
theorem PySem.Challenge.cw_LID_holds : PySem.Challenge.rw_LID.Holds := by
  w_on; o_law; k_head; (case hw => w_witness2)
  k_fill
  refine L2.walk_of (l := PySem.Challenge.rw_LID) (n := 63) (k := 40) (x := "script") (CX := fun w => ..) (sp := fun _ => My.sp_law) rfl (by decide) rfl ⟨rfl, by decide, by decide⟩ (fun w h Y => PySem.W.kIn_of Y) ?F ?S ?C
  case F =>
    intro w mg fa h KX G hmg
    have T : ∃ t, My.Txt (L2.KOf KX) t := by
      dsimp only [L2.KOf]                          -- K must stand as «<heap const> w.params» for k_is
      refine' My.txt_mk ?e1 ?e2 ?e3 ..
      (case e1 => PySem.W.k_is)                    -- in the order: a name -> its address -> its object -> its parts
      (case e2 => PySem.W.k_is)
      ..
    obtain ⟨t, T⟩ := T
    have e0 := hmg.symm.trans (PySem.W.mg_of KX G T.law)
    cases e0                                       -- fa is the law's own address
    exact ⟨_, fun s u => .of_eq rfl, fun base kb nb => My.law_fn T kb nb⟩     -- if «.of_eq rfl» comes too early: refine' ⟨_, ?b, fun base kb nb => My.law_fn T kb nb⟩; exact fun s u => .of_eq rfl
  case S => exact fun w H a ns hl hO hS => ..
  case C => exact ..
(the tactic k_is has no namespace: write k_is) -/

namespace L2
open PySem PySem.Spec PyProof.Rows

/-- the j-th statement of a class's body -/
noncomputable def inClass (s : Stmt) (j : Nat) : Stmt := match s with
  | .ClassDef _ _ _ body _ _ _ _ _ _ _ => body.getD j (.Pass ⟨0, 0, 0, 0⟩)
  | _ => .Pass ⟨0, 0, 0, 0⟩
noncomputable def defArgs (s : Stmt) : Arguments := match s with
  | .FunctionDef _ a _ _ _ _ _ _ _ _ => a
  | _ => { posonlyargs := [], args := [], vararg := none, kwonlyargs := [], kw_defaults := [], kwarg := none, defaults := [] }
noncomputable def defBody (s : Stmt) : List Stmt := match s with
  | .FunctionDef _ _ b _ _ _ _ _ _ _ => b
  | _ => []
noncomputable def defScope (s : Stmt) : Scope := match s with
  | .FunctionDef _ _ _ _ _ _ sc _ _ _ => sc
  | _ => { kind := .function, names := [], isGenerator := false, isCoroutine := false }

noncomputable abbrev CX0 : CXT := fun _ _ _ _ _ _ => False
noncomputable abbrev E0 : XK := fun _ _ _ => False
theorem pass0 {X : Cx} : Passes CX0 X E0 := fun _ _ _ _ _ _ _ h => h.elim

structure Fun (K : PySem.W.Frag) (x qual : Str) (st : Stmt) (f : Addr) (fd : FuncData) : Prop where
  ex : ∃ (oc : Value) (od : Option Addr) (kV doc pm : Value) (an : Option Addr) (cdv ct : Value) (osl : Array (Option Value)),
    fd = PySem.W.fnOf x qual (defArgs st) (defBody st) (defScope st) .none kV doc pm an cdv ct ∧ K.lookup f = some ⟨oc, od, .func fd, osl⟩ ∧ PySem.W.codeIn K cdv qual = true
  kp : PySem.W.keepIn K (.ref f) = true
section
variable {P : Program} {w : World} {K : PySem.W.Frag} {mg : Str → Option Value} {base : Heap}
/-- how its arguments bind (no defaults): h is «fun _ _ _ _ _ _ us hl => match us, hl with | [_, _], _ => rfl», one _ a parameter -/
theorem Fun.binds {x qual : Str} {st : Stmt} {f : Addr} {fd : FuncData} {ps : List Str} (F : Fun K x qual st f fd)
    (h : ∀ (kV doc pm : Value) (an : Option Addr) (cdv ct : Value) (us : List Value), us.length = ps.length → bindArgs (PySem.W.fnOf x qual (defArgs st) (defBody st) (defScope st) .none kV doc pm an cdv ct) ⟨us, []⟩ = pure (ps.zip us)) : Binds K fd ps [] := by
  obtain ⟨oc, od, kV, doc, pm, an, cdv, ct, osl, rfl, lk, hcd⟩ := F.ex
  exact .all (h kV doc pm an cdv ct)
theorem fun_mk {x qual : Str} {st : Stmt} {f : Addr} {oc : Value} {od an : Option Addr} {osl : Array (Option Value)} {kV doc pm cdv ct : Value} (l : K.lookup f = some ⟨oc, od, .func (PySem.W.fnOf x qual (defArgs st) (defBody st) (defScope st) .none kV doc pm an cdv ct), osl⟩)
    (c : PySem.W.codeIn K cdv qual = true) (k : PySem.W.keepIn K (.ref f) = true) : Fun K x qual st f (PySem.W.fnOf x qual (defArgs st) (defBody st) (defScope st) .none kV doc pm an cdv ct) := ⟨⟨oc, od, kV, doc, pm, an, cdv, ct, osl, rfl, l, c⟩, k⟩
end
section
variable {X : Cx}
theorem pv (i : Nat) {x : Str} {pos : Pos} (hN : X.N[i]? = some x := by rfl) (hv : Vis X.env.scope x := by first | exact Or.inl rfl | exact Or.inr (Or.inl rfl) | exact Or.inr (Or.inr rfl)) (hd : (x == ("__debug__" : Str)) = false := by decide)
    (hcd : (x == ("__classdict__" : Str)) = false := by decide) : PE X (.Name x pos) (tVar i) := pe_var hN hv hd hcd
end

/-- all that was tracked is as it was -/
noncomputable def Same (H H' : Hp) : Prop := ∀ b o, H b = some o → H' b = some o
theorem Same.refl (H : Hp) : Same H H := fun _ _ h => h
theorem Same.trans {H H1 H2 : Hp} (a : Same H H1) (b : Same H1 H2) : Same H H2 := fun c o h => b c o (a c o h)
theorem Same.seq {K : PySem.W.Frag} {H H' : Hp} {a : Addr} {xs : List V} (e : Same H H') (h : SqL K H a xs) : SqL K H' a xs := by
  rcases h with (h | ⟨o, h⟩) | h
  · exact .inl (.inl (e _ _ h))
  · exact .inl (.inr ⟨o, e _ _ h⟩)
  · exact .inr h

end L2


set_option maxRecDepth 100000
namespace L2
open PySem PySem.Spec PyProof.Rows

section
variable {κ : Type} [DecidableEq κ]
end


section
variable {P : Program} {w : World} {H : Hp} {h : Heap} {a : Addr}
end

section
variable {X : Cx} {pins : List (Addr × Obj)} {σ : St} {H : Hp} {s : Shared} {a : Addr} {y v : V} {u r : Value} {o : Option V} {A : Around} {E : Value → Shared → Prop}

end

section
variable {X : Cx} {pins : List (Addr × Obj)} {σ : St} {H : Hp} {s : Shared} {a : Addr} {kvs : List (Key × V)} {k : Key} {u : Value} {A : Around} {E : Value → Shared → Prop}
end


section
variable {X : Cx} {o i e value : Expr} {pos pos' tpos : Pos} {td ty tv : TE}
end


section
variable {X : Cx} {pos : Pos}
end

/-- a method call o.m(e) of a built-in, with one argument: what must be seen of the text -/
structure M1 (X : Cx) (o : Expr) (m : Str) (apos : Pos) (e : Expr) (cpos : Pos) : Prop where
  base : attributeBase o m X.env (eval o X.env) = eval o X.env
  few : ((backTo cpos (starEach [e] X.env)).all (fun x => !x.1) && (backToKw cpos (keywordEach [] X.env)).all (fun x => x.1.isSome)
    && decide (([e] : List Expr).length + ([] : List Keyword).length + (if ([] : List Keyword).isEmpty then 0 else 1) < 30)) = true
  line : (apos.endLine == cpos.line) = true
  trees : backTo cpos (starEach [e] X.env) = [(false, eval e X.env)]
structure M2 (X : Cx) (o : Expr) (m : Str) (apos : Pos) (e f : Expr) (cpos : Pos) : Prop where
  base : attributeBase o m X.env (eval o X.env) = eval o X.env
  few : ((backTo cpos (starEach [e, f] X.env)).all (fun x => !x.1) && (backToKw cpos (keywordEach [] X.env)).all (fun x => x.1.isSome)
    && decide (([e, f] : List Expr).length + ([] : List Keyword).length + (if ([] : List Keyword).isEmpty then 0 else 1) < 30)) = true
  line : (apos.endLine == cpos.line) = true
  trees : backTo cpos (starEach [e, f] X.env) = [(false, eval e X.env), (false, eval f X.env)]

section
variable {X : Cx} {pins : List (Addr × Obj)} {σ : St} {H : Hp} {s : Shared} {a : Addr} {y d : V} {u r : Value} {o : Option V} {A : Around} {E : Value → Shared → Prop}
end

section
variable {X : Cx} {o e f : Expr} {apos cpos : Pos} {td ty tx : TE}
end

section
variable {X : Cx} {pins : List (Addr × Obj)} {σ : St} {H : Hp} {s : Shared} {a : Addr} {kvs : List (Key × V)} {A : Around} {E : Value → Shared → Prop}
end


section
variable {X : Cx} {pins : List (Addr × Obj)} {σ : St} {H : Hp} {s : Shared} {a : Addr} {y : V} {u : Value} {A : Around} {E : Value → Shared → Prop}
end
end L2
namespace L2
open PySem PySem.Spec PyProof.Rows
section
variable {X : Cx}
end
section
variable {κ : Type} [DecidableEq κ]
end
end L2


set_option maxRecDepth 100000
namespace L2
open PySem PySem.Spec PyProof.Rows

noncomputable def FnAt (P : Program) (w : World) (K : PySem.W.Frag) (mg : Str → Option Value) (base : Heap) (CX : CXT) (x : Str) (k : Nat) (ps : List Str) (sp : Sp) : Prop :=
  ∃ f fd, FnOk P w K mg base CX k f fd ps sp ∧ mg x = some (.ref f) ∧ PySem.W.keepIn K (.ref f) = true ∧ Binds K fd ps [] ∧ ∃ oc od osl, K.lookup f = some ⟨oc, od, .func fd, osl⟩
noncomputable def DefAt (K : PySem.W.Frag) (mg : Str → Option Value) (x : Str) (st : Stmt) : Prop := ∃ f fd, Fun K x x st f fd ∧ mg x = some (.ref f)
/-- exceptions that nobody wants do not come -/
class Quiet (CX : CXT) : Prop where
  pass : ∀ (X : Cx), Passes CX X E0
noncomputable instance : Quiet CX0 := ⟨fun _ => pass0⟩
theorem defat_mk {K : PySem.W.Frag} {h : Heap} {mg : Str → Option Value} {x : Str} {st : Stmt} {f : Addr} {oc : Value} {od an : Option Addr} {osl : Array (Option Value)} {kV doc pm cdv ct : Value} (X : K.In h) (G : h.Ns mainGlobals mg)
    (a : PySem.W.nsIn K mainGlobals x = some (some (.ref f)))
    (l : K.lookup f = some ⟨oc, od, .func (PySem.W.fnOf x x (defArgs st) (defBody st) (defScope st) .none kV doc pm an cdv ct), osl⟩) (c : PySem.W.codeIn K cdv x = true) (k : PySem.W.keepIn K (.ref f) = true) : DefAt K mg x st :=
  ⟨f, _, fun_mk l c k, PySem.W.mg_of X G a⟩
section
variable {P : Program} {w : World} {K : PySem.W.Frag} {mg : Str → Option Value} {base : Heap} {CX : CXT}
/-- a def whose body lets no exception out -/
theorem DefAt.fn {x : Str} {st : Stmt} {N ps : List Str} {k : Nat} {sp : Sp} (F : DefAt K mg x st) (S : FnScope N ps (defScope st))
    (hb : ∀ (kV doc pm : Value) (an : Option Addr) (cdv ct : Value) (us : List Value), us.length = ps.length → bindArgs (PySem.W.fnOf x x (defArgs st) (defBody st) (defScope st) .none kV doc pm an cdv ct) ⟨us, []⟩ = pure (ps.zip us))
    (len : ∀ vs H Q E, sp vs H Q E → vs.length = ps.length)
    (hbody : ∀ (f : Addr) (cdv : Value) (A : Around) (outer : List Env) (s : Shared) (H : Hp) (vs : List V) (Q : VK) (E : XK), Room k (A.deeper (envOfC x (defScope st) s.heap.objs.size f cdv)) → sp vs H Q E →
      ∃ t, PSs (cxOf CX P w K mg base N x (defScope st) f cdv A outer s H E).nox (defBody st) t ∧ t { nx := fun _ H' => Q .non H', rt := Q } (start N vs) H) : FnAt P w K mg base CX x (k + 1) ps sp := by
  obtain ⟨f, fd, F, hm⟩ := F
  have bd := F.binds hb
  have kp := F.kp
  obtain ⟨oc, od, kV, doc, pm, an, cdv, ct, osl, rfl, lk, hcd⟩ := F.ex
  refine ⟨f, _, fn_of lk hcd S len fun A outer s H vs Q E hr hsp => ?_, hm, kp, bd, oc, od, osl, lk⟩
  obtain ⟨t, h, q⟩ := hbody f cdv A outer s H vs Q E hr hsp
  exact ⟨t, h.nox, q⟩
end
section
variable {X : Cx} {CX : CXT} {k n : Nat} {ps : List Str} {sp : Sp} {x : Str} {p pos : Pos} {e : Expr} {es : List Expr} {t : TA}
theorem pe_fn [Quiet CX] (G : FnAt X.prog X.w X.K X.mg X.base CX x k ps sp) (hr : Room n X.A) (hk : k ≤ n) (hg : Gl X x) (ha : PA X (e :: es) t)
    (hdb : (x == ("__debug__" : Str)) = false := by decide) (he : starEach (e :: es) X.env = (false, eval e X.env) :: starEach es X.env := by rfl) (hpl : (backTo pos (starEach es X.env)).any (·.1) = false := by rfl) :
    PE X (.Call (.Name x p) (e :: es) [] pos) (tCall sp [] E0 t) := by
  obtain ⟨f, fd, F, hm, kp, b, _⟩ := G
  exact pe_call F (hr.mono hk) hg hm kp b .nil (Quiet.pass X) ha hdb he hpl
/-- a constant of the module -/
noncomputable def CstAt (mg : Str → Option Value) (x : Str) (v : V) : Prop := ∃ u, mg x = some u ∧ RelV v u
theorem pe_cst {v : V} (hg : Gl X x) (h : CstAt X.mg x v) (hd : (x == ("__debug__" : Str)) = false := by decide) : PE X (.Name x pos) (tC v) := by
  obtain ⟨u, hm, r⟩ := h
  exact pe_glob hg hm r hd
end

noncomputable def ItrS (lo c : Int) (n : Nat) : It := ⟨fun i _ => i < n, fun i H x H' => H' = H ∧ x = .int (lo + i * c), fun i _ => n ≤ i⟩
/-- how many turns range(lo, hi, c) has -/
noncomputable def rcount (lo hi c : Int) : Nat := (Builtin.Range.rangeSize lo hi c).toNat
section
variable {X : Cx} {tg : Expr}
end
end L2


set_option maxRecDepth 100000
namespace L2
open PySem PySem.Spec PyProof.Rows

section
variable {g : Int → Int → V} {C : Int → Int → Prop} {i j : Int} {H : Hp} {Q : VK}
theorem rI0_int : rI0 g (.int i) (.int j) H Q = Q (g i j) H := by
  apply propext
  constructor
  · rintro ⟨a, b, e1, e2, q⟩
    cases e1; cases e2; exact q
  · intro q; exact ⟨i, j, rfl, rfl, q⟩
theorem rI_int : rI C g (.int i) (.int j) H Q = (C i j ∧ Q (g i j) H) := by
  apply propext
  constructor
  · rintro ⟨a, b, e1, e2, q⟩
    cases e1; cases e2; exact q
  · intro q; exact ⟨i, j, rfl, rfl, q⟩
theorem rU_int {f : Int → V} : rU f (.int i) H Q = Q (f i) H := by
  apply propext
  constructor
  · rintro ⟨a, e1, q⟩
    cases e1; exact q
  · intro q; exact ⟨i, rfl, q⟩
theorem ex_bl {b : Bool} {P : Bool → Prop} : (∃ k, V.bl b = .bl k ∧ P k) = P b := by
  apply propext
  constructor
  · rintro ⟨k, e, q⟩
    cases e; exact q
  · intro q; exact ⟨b, rfl, q⟩
theorem ex_sv {v : V} {P : V → Prop} : (∃ u, some (some v) = some (some u) ∧ P u) = P v := by
  apply propext
  constructor
  · rintro ⟨k, e, q⟩
    cases e; exact q
  · intro q; exact ⟨v, rfl, q⟩
theorem rEq_int : rEq (.int i) (.int j) H Q = Q (.bl (decide (i = j))) H := by
  have e : decide (V.int i = V.int j) = decide (i = j) := by
    by_cases h : i = j
    · subst h; simp
    · rw [decide_eq_false h, decide_eq_false (fun q => h (V.int.inj q))]
  unfold rEq
  rw [e]
  apply propext
  exact ⟨fun h => h.2, fun h => ⟨rfl, h⟩⟩
theorem rNe_int : rNe (.int i) (.int j) H Q = Q (.bl (!decide (i = j))) H := by
  have e : decide (V.int i = V.int j) = decide (i = j) := by
    by_cases h : i = j
    · subst h; simp
    · rw [decide_eq_false h, decide_eq_false (fun q => h (V.int.inj q))]
  unfold rNe
  rw [e]
  apply propext
  exact ⟨fun h => h.2, fun h => ⟨rfl, h⟩⟩
theorem rEq_str {a b : Str} : rEq (.str a) (.str b) H Q = Q (.bl (decide (a = b))) H := by
  have e : decide (V.str a = V.str b) = decide (a = b) := by
    by_cases h : a = b
    · subst h; simp
    · rw [decide_eq_false h, decide_eq_false (fun q => h (V.str.inj q))]
  unfold rEq
  rw [e]
  apply propext
  exact ⟨fun h => h.2, fun h => ⟨rfl, h⟩⟩
theorem rNe_str {a b : Str} : rNe (.str a) (.str b) H Q = Q (.bl (!decide (a = b))) H := by
  have e : decide (V.str a = V.str b) = decide (a = b) := by
    by_cases h : a = b
    · subst h; simp
    · rw [decide_eq_false h, decide_eq_false (fun q => h (V.str.inj q))]
  unfold rNe
  rw [e]
  apply propext
  exact ⟨fun h => h.2, fun h => ⟨rfl, h⟩⟩
theorem rEq_bl {a b : Bool} : rEq (.bl a) (.bl b) H Q = Q (.bl (decide (a = b))) H := by
  have e : decide (V.bl a = V.bl b) = decide (a = b) := by
    by_cases h : a = b
    · subst h; simp
    · rw [decide_eq_false h, decide_eq_false (fun q => h (V.bl.inj q))]
  unfold rEq
  rw [e]
  apply propext
  exact ⟨fun h => h.2, fun h => ⟨rfl, h⟩⟩
theorem rNe_bl {a b : Bool} : rNe (.bl a) (.bl b) H Q = Q (.bl (!decide (a = b))) H := by
  have e : decide (V.bl a = V.bl b) = decide (a = b) := by
    by_cases h : a = b
    · subst h; simp
    · rw [decide_eq_false h, decide_eq_false (fun q => h (V.bl.inj q))]
  unfold rNe
  rw [e]
  apply propext
  exact ⟨fun h => h.2, fun h => ⟨rfl, h⟩⟩
end

theorem OpR.imp {X : Cx} {f : Value → Value → Sem Value} {r r' : R2} (h : OpR X f r) (i : ∀ x y H Q, r' x y H Q → r x y H Q) : OpR X f r' :=
  fun pins s σ H x y v u Q I rx ry q => h pins s σ H x y v u Q I rx ry (i _ _ _ _ q)
theorem CallR.imp {X : Cx} {f : Value} {r r' : List V → Hp → VK → Prop} (h : CallR X f r) (i : ∀ xs H Q, r' xs H Q → r xs H Q) : CallR X f r' :=
  fun pins s σ H xs us Q I rs q => h pins s σ H xs us Q I rs (i _ _ _ q)
noncomputable def rAddA (K : PySem.W.Frag) : R2 := fun x y H Q => match x, y with
  | .int i, .int j => Q (.int (i + j)) H
  | .str a, .str b => a.length + b.length ≤ sizeLine ∧ Q (.str (a ++ b)) H
  | .ref l, .ref b => rCat (.ref l) (.ref b) H Q ∨ rCatT K (.ref l) (.ref b) H Q
  | _, _ => False
section
variable {X : Cx}
theorem op_addA : OpR X (binaryOp .Add) (rAddA X.K) := by
  refine OpR.imp (op_add.or (op_add_str.or (op_cat.or op_catT))) fun x y H Q h => ?_
  unfold rAddA at h
  split at h
  · exact .inl ⟨_, _, rfl, rfl, h⟩
  · exact .inr (.inl ⟨_, _, rfl, rfl, h⟩)
  · exact .inr (.inr h)
  · exact h.elim
/-- << , the left side below 2 ^ 512 -/
noncomputable def CShl (i j : Int) : Prop := (0 ≤ j ∧ j ≤ 1000000) ∧ -(2 ^ 512) < i ∧ i < 2 ^ 512
theorem CShl.bits {i j : Int} (h : CShl i j) : (Builtin.Int.intBits i : Int) + j ≤ 2 ^ 27 := by
  have hb : Builtin.Int.intBits i ≤ 512 := by
    unfold Builtin.Int.intBits
    split
    · omega
    · rename_i hz
      have hz' : i ≠ 0 := fun q => hz (by rw [q]; rfl)
      have : i.natAbs.log2 < 512 := (Nat.log2_lt (by omega)).mpr (by have := h.2; omega)
      omega
  have := h.1.2
  omega
theorem op_shlA : OpR X (binaryOp .LShift) (rI CShl fun i j => .int (i * 2 ^ j.toNat)) := opI fun _ _ _ _ _ _ _ hc q => lshift_int hc.1.1 hc.bits q
end
noncomputable def CPowA (i j : Int) : Prop := (0 ≤ j ∧ j ≤ 1000000) ∧ -(2 ^ 64) < i ∧ i < 2 ^ 64
noncomputable def rLenA (K : PySem.W.Frag) : List V → Hp → VK → Prop := fun xs H Q => match xs with
  | [.str z] => z.length ≤ sizeLine ∧ Q (.int z.length) H
  | [.ref p] => ∃ ys, (SqL K H p ys ∨ SqT K H p ys) ∧ Q (.int ys.length) H
  | _ => False
section
variable {X : Cx}
theorem call_lenA : CallR X (.builtin "len") (rLenA X.K) := by
  refine CallR.imp (call_len_seq.or call_len_str) fun xs H Q h => ?_
  unfold rLenA at h
  split at h
  · exact .inr ⟨_, rfl, h.1, h.2⟩
  · obtain ⟨ys, h1, h2⟩ := h
    exact .inl ⟨_, ys, rfl, h1, h2⟩
  · exact h.elim
noncomputable def rMinA : List V → Hp → VK → Prop := fun xs H Q => match xs with
  | [.int i, .int j] => Q (.int (if j < i then j else i)) H
  | _ => False
noncomputable def rMaxA : List V → Hp → VK → Prop := fun xs H Q => match xs with
  | [.int i, .int j] => Q (.int (if i < j then j else i)) H
  | _ => False
/-- isinstance(x, T), T a built-in type, x a scalar -/
noncomputable def isiF : V → String → Option Bool
  | .int _, "int" => some true
  | .int _, "bool" => some false
  | .int _, "str" => some false
  | .bl _, "int" => some true
  | .bl _, "bool" => some true
  | .str _, "str" => some true
  | .str _, "int" => some false
  | _, _ => none
noncomputable def rIsi (K : PySem.W.Frag) : List V → Hp → VK → Prop := fun xs H Q => match xs with
  | [x, .ty T] => (match isiF x T with
    | some b => Q (.bl b) H
    | none => ∃ t b, TyOf K H x t ∧ PySem.W.kitOne K t (.type T) = some b ∧ Q (.bl b) H)
  | _ => False
theorem kit_ii (K : PySem.W.Frag) : PySem.W.kitOne K (.type "int") (.type "int") = some true := by first | rfl | kernel_rfl
theorem kit_ib (K : PySem.W.Frag) : PySem.W.kitOne K (.type "int") (.type "bool") = some false := by first | rfl | kernel_rfl
theorem kit_is (K : PySem.W.Frag) : PySem.W.kitOne K (.type "int") (.type "str") = some false := by first | rfl | kernel_rfl
theorem kit_bi (K : PySem.W.Frag) : PySem.W.kitOne K (.type "bool") (.type "int") = some true := by first | rfl | kernel_rfl
theorem kit_bb (K : PySem.W.Frag) : PySem.W.kitOne K (.type "bool") (.type "bool") = some true := by first | rfl | kernel_rfl
theorem kit_ss (K : PySem.W.Frag) : PySem.W.kitOne K (.type "str") (.type "str") = some true := by first | rfl | kernel_rfl
theorem kit_si (K : PySem.W.Frag) : PySem.W.kitOne K (.type "str") (.type "int") = some false := by first | rfl | kernel_rfl
theorem kit_tt (K : PySem.W.Frag) : PySem.W.kitOne K (.type "tuple") (.type "tuple") = some true := by first | rfl | kernel_rfl
theorem call_isi : CallR X (.builtin "isinstance") (rIsi X.K) := by
  intro pins s σ H xs us Q I rs q
  unfold rIsi at q
  split at q
  · rename_i x T
    obtain ⟨u, c, rfl, ru, rc⟩ := vals2 rs
    obtain rfl : c = Value.type T := rc
    have key : ∀ {t b}, TyOf X.K H x t → PySem.W.kitOne X.K t (.type T) = some b → Q (.bl b) H → wpAny (model X.prog X.w) X.A (call (.builtin "isinstance") [u, .type T]) (EP X pins σ Q) X.xe s := fun {t b} ty e h =>
      isinst_ok I ru ty e fun tk => ⟨.bl b, H, I.tok tk, rfl, h⟩
    split at q
    · rename_i b e
      have h := q
      unfold isiF at e
      split at e <;> cases e
      · exact key (.int _) (kit_ii _) h
      · exact key (.int _) (kit_ib _) h
      · exact key (.int _) (kit_is _) h
      · exact key (.bl _) (kit_bi _) h
      · exact key (.bl _) (kit_bb _) h
      · exact key (.str _) (kit_ss _) h
      · exact key (.str _) (kit_si _) h
    · obtain ⟨t, b, ty, e, h⟩ := q
      exact key ty e h
  · exact q.elim
theorem pe_ty {x : Str} {T : String} {pos : Pos} (hg : Gl X x) (hm : X.mg x = none) (hv : bootBuiltins x = some (.type T)) (hn : x ≠ "__name__" := by decide) (hd : (x == ("__debug__" : Str)) = false := by decide) : PE X (.Name x pos) (tC (.ty T)) :=
  pe_bltn hg hm hv rfl hn hd
end
theorem bt_len : bootBuiltins "len" = some (.builtin "len") := by decide +kernel
theorem bt_all : bootBuiltins "all" = some (.builtin "all") := by decide +kernel
theorem bt_isinstance : bootBuiltins "isinstance" = some (.builtin "isinstance") := by decide +kernel
theorem bt_int : bootBuiltins "int" = some (.type "int") := by decide +kernel
theorem bt_bool : bootBuiltins "bool" = some (.type "bool") := by decide +kernel
theorem bt_list : bootBuiltins "list" = some (.type "list") := by decide +kernel
theorem bt_tuple : bootBuiltins "tuple" = some (.type "tuple") := by decide +kernel
section
variable {K : PySem.W.Frag} {H : Hp} {Q : VK}
theorem rAddA_int {i j : Int} : rAddA K (.int i) (.int j) H Q = Q (.int (i + j)) H := rfl
theorem rAddA_str {i j : Str} : rAddA K (.str i) (.str j) H Q = (i.length + j.length ≤ sizeLine ∧ Q (.str (i ++ j)) H) := rfl
theorem rLenA_str {z : Str} : rLenA K [.str z] H Q = (z.length ≤ sizeLine ∧ Q (.int z.length) H) := rfl
theorem rLenA_ref {p : Addr} : rLenA K [.ref p] H Q = (∃ ys, (SqL K H p ys ∨ SqT K H p ys) ∧ Q (.int ys.length) H) := rfl
theorem rIsi_ii {i : Int} : rIsi K [.int i, .ty "int"] H Q = Q (.bl true) H := rfl
theorem rIsi_ib {i : Int} : rIsi K [.int i, .ty "bool"] H Q = Q (.bl false) H := rfl
theorem rIsi_is {i : Int} : rIsi K [.int i, .ty "str"] H Q = Q (.bl false) H := rfl
theorem rIsi_bi {i : Bool} : rIsi K [.bl i, .ty "int"] H Q = Q (.bl true) H := rfl
theorem rIsi_bb {i : Bool} : rIsi K [.bl i, .ty "bool"] H Q = Q (.bl true) H := rfl
theorem rIsi_ss {i : Str} : rIsi K [.str i, .ty "str"] H Q = Q (.bl true) H := rfl
theorem rIsi_si {i : Str} : rIsi K [.str i, .ty "int"] H Q = Q (.bl false) H := rfl
theorem rMinA_int {i j : Int} : rMinA [.int i, .int j] H Q = Q (.int (if j < i then j else i)) H := rfl
theorem rMaxA_int {i j : Int} : rMaxA [.int i, .int j] H Q = Q (.int (if i < j then j else i)) H := rfl
end
theorem cxOf_K {CX : CXT} {P : Program} {w : World} {K : PySem.W.Frag} {mg : Str → Option Value} {base : Heap} {N : List Str} {qual : Str} {scope : Scope} {f : Addr} {cd : Value} {A : Around} {outer : List Env} {s : Shared} {H : Hp} {E : XK} :
    (cxOf CX P w K mg base N qual scope f cd A outer s H E).K = K := rfl
end L2


set_option maxRecDepth 100000
namespace L2
open PySem PySem.Spec PyProof.Rows

section
variable {ta : TA} {tl : TE} {K : PySem.W.Frag} {g : TG} {tb : TS} {D : Ends} {σ : St} {H : Hp}
end
theorem law_fin {P : Program} {w : World} {K : PySem.W.Frag} {mg : Str → Option Value} {CX : CXT} {k : Nat} {fa : Addr} {x nm : Str} {st : Stmt} {sp : Sp} (hmg : mg nm = some (.ref fa)) (D : DefAt K mg nm st)
    (hb : ∀ (kV doc pm : Value) (an : Option Addr) (cdv ct : Value) (us : List Value), us.length = ([x] : List Str).length → bindArgs (PySem.W.fnOf nm nm (defArgs st) (defBody st) (defScope st) .none kV doc pm an cdv ct) ⟨us, []⟩ = pure (([x] : List Str).zip us))
    (ok : ∀ base : Heap, FnAt P w K mg base CX nm k [x] sp) :
    ∃ fd : FuncData, (∀ (s : Shared) (u : Value), BindsTo s fd ⟨[u], []⟩ [(x, u)]) ∧ ∀ base : Heap, K.In base → base.Ns mainGlobals mg → FnOk P w K mg base CX k fa fd [x] sp := by
  obtain ⟨f, fd, F, hm⟩ := D
  rw [hmg] at hm
  cases hm
  obtain ⟨oc, od, kV, doc, pm, an, cdv, ct, osl, e, lk, hcd⟩ := F.ex
  refine ⟨fd, fun s u => ?_, fun base _ _ => ?_⟩
  · rw [e]
    exact .of_eq (hb kV doc pm an cdv ct [u] rfl)
  · obtain ⟨f', fd', h, hm', _, _, oc', od', osl', lk'⟩ := ok base
    rw [hmg] at hm'
    cases hm'
    rw [lk] at lk'
    cases lk'
    exact h
/-- a law takes a list of at most 63 ints and gives True -/
noncomputable def spLaw (K : PySem.W.Frag) : Sp := fun vs H Q _ => match vs with
  | [.ref a] => ∃ ns : List Int, SqL K H a (ns.map V.int) ∧ ns.length ≤ 63 ∧ Only H ∧ ∀ H', Q (.bl true) H'
  | _ => False
theorem law_walk {l : PySem.W.OpenLaw} {k : Nat} {q : Program} {loose : List Str} {XP : (Str → Option Value) → Heap → Prop} {YP : World → Heap → Prop} {d : DefRec} {K : Params → PySem.W.Frag} {x : Str} (hn : l.most = some 63) (hdf : d.params.defaults = [])
    (hr : Room k callerA) (hY : ∀ (w : World) (h : Heap), YP w h → (K w.params).In h)
    (F : ∀ (w : World) (mg : Str → Option Value) (fa : Addr) (h : Heap), (K w.params).In h → h.Ns mainGlobals mg → mg d.name = some (.ref fa) →
      ∃ fd : FuncData, (∀ (s : Shared) (u : Value), BindsTo s fd ⟨[u], []⟩ [(x, u)]) ∧ ∀ base : Heap, (K w.params).In base → base.Ns mainGlobals mg → FnOk l.prog w (K w.params) mg base CX0 k fa fd [x] (spLaw (K w.params))) :
    PySem.W.WalkO q loose XP YP l.row.toRowW d [] (fun f vs => PySem.call f vs) :=
  L2.walk_ofK (n := 63) (CX := CX0) (sp := spLaw) hn (by decide) hdf hr hY F (fun K H a ns hl hO hS => ⟨ns, hS, hl, hO, fun _ => rfl⟩) fun _ _ _ _ z => z
end L2


set_option maxRecDepth 100000
namespace L2
open PySem PySem.Spec PyProof.Rows

noncomputable def Cx.comp (X : Cx) (scope : Scope) (cl : List (Str × Addr)) (C : Addr) (N : List Str) (s : Shared) (H : Hp) (ex : List Addr) : Cx :=
  { prog := X.prog, w := X.w, K := X.K, mg := X.mg, base := X.base, A := X.A, N := N, s₀ := s, H₀ := H, env := compEnvC scope cl C X.env, outer := X.stack, stack := X.stack, ex := ex, fn := fun _ => false, calm := X.calm, pn := [], xe := fun _ _ => False }

/-- the free names of a block are cells of the frame -/
theorem closure_ok {env : Env} {scope : Scope} (h : ∀ y ∈ scope.names, y.2 = .free → ∃ c, env.cells.lookup y.1 = some c) :
    ∃ cl, closureFor scope env = pure cl ∧ (∀ y c, cl.lookup y = some c → env.cells.lookup y = some c) ∧ ∀ y ∈ scope.names, y.2 = .free → ∃ c, cl.lookup y.1 = some c := by
  have key : ∀ (l : List (Str × NameKind)) (acc : List (Str × Addr)), (∀ y ∈ l, y.2 = .free → ∃ c, env.cells.lookup y.1 = some c) → (∀ y c, acc.lookup y = some c → env.cells.lookup y = some c) →
      ∃ cl, (forIn l acc fun (x : Str × NameKind) (cs : List (Str × Addr)) => if (x.2 == NameKind.free) = true then do let a ← cellOf env x.1; pure (ForInStep.yield ((x.1, a) :: cs)) else pure (ForInStep.yield cs)) = (pure cl : Sem (List (Str × Addr))) ∧
        (∀ y c, cl.lookup y = some c → env.cells.lookup y = some c) ∧ (∀ y c, acc.lookup y = some c → ∃ c, cl.lookup y = some c) ∧ ∀ y ∈ l, y.2 = .free → ∃ c, cl.lookup y.1 = some c := by
    intro l
    induction l with
    | nil => intro acc _ ha; exact ⟨acc, rfl, ha, fun y c e => ⟨c, e⟩, fun y hy => nomatch hy⟩
    | cons x r ih =>
      intro acc hl ha
      obtain ⟨n, k⟩ := x
      by_cases hk : k = .free
      · subst hk
        obtain ⟨c, hc⟩ := hl (n, .free) List.mem_cons_self rfl
        have ha' : ∀ y d, ((n, c) :: acc).lookup y = some d → env.cells.lookup y = some d := fun y d e => by
          simp only [List.lookup_cons] at e
          cases q : y == n with
          | true => rw [q] at e; cases e; rw [beq_iff_eq.mp q]; exact hc
          | false => rw [q] at e; exact ha y d e
        obtain ⟨cl, e, h1, h2, h3⟩ := ih ((n, c) :: acc) (fun y hy => hl y (List.mem_cons_of_mem _ hy)) ha'
        have top : ∃ d, cl.lookup n = some d := h2 n c (by simp [List.lookup_cons])
        refine ⟨cl, ?_, h1, fun y d q => ?_, fun y hy hf => ?_⟩
        · rw [List.forIn_cons]
          have ec : cellOf env n = pure c := by unfold cellOf; rw [hc]
          show ((if (NameKind.free == NameKind.free) = true then (do let a ← cellOf env n; pure (ForInStep.yield ((n, a) :: acc))) else _) >>= _) = _
          rw [if_pos (by decide), ec]
          exact e
        · cases z : y == n with
          | true => rw [beq_iff_eq.mp z]; exact top
          | false => exact h2 y d (by simp only [List.lookup_cons, z]; exact q)
        · rcases List.mem_cons.mp hy with rfl | hy
          · exact top
          · exact h3 y hy hf
      · have hb : (k == NameKind.free) = false := by simpa using hk
        obtain ⟨cl, e, h1, h2, h3⟩ := ih acc (fun y hy => hl y (List.mem_cons_of_mem _ hy)) ha
        refine ⟨cl, ?_, h1, h2, fun y hy hf => ?_⟩
        · rw [List.forIn_cons]
          show ((if (k == NameKind.free) = true then _ else pure (ForInStep.yield acc)) >>= _) = _
          rw [hb, if_neg Bool.false_ne_true]
          exact e
        · rcases List.mem_cons.mp hy with rfl | hy
          · exact absurd hf hk
          · exact h3 y hy hf
  obtain ⟨cl, e, h1, _, h3⟩ := key scope.names [] h (fun y c q => by simp at q)
  refine ⟨cl, ?_, h1, h3⟩
  unfold closureFor
  exact (bind_congr (fun _ => rfl)).trans (by rw [e]; rfl)

theorem relabel_look {scope : Scope} {env : Env} {x : Str} {k : NameKind} (h : (relabel scope env).names.lookup x = some k) : scope.names.lookup x = some k ∨ (scope.names.lookup x = some .free ∧ k = .cell) := by
  unfold relabel at h
  have key : ∀ l : List (Str × NameKind), (l.map fun (n, k) => if (k == NameKind.free && env.scope.kind == .function && env.kindOf n == some .cell) then (n, NameKind.cell) else (n, k)).lookup x = some k → l.lookup x = some k ∨ (l.lookup x = some .free ∧ k = .cell) := by
    intro l
    induction l with
    | nil => intro h; simp at h
    | cons y r ih =>
      obtain ⟨n, j⟩ := y
      intro h
      rw [List.map_cons] at h
      simp only [List.lookup_cons]
      cases q : x == n with
      | true =>
        by_cases hc : (j == NameKind.free && env.scope.kind == .function && env.kindOf n == some .cell) = true
        · simp only [hc, if_true, List.lookup_cons, q] at h
          cases h
          have : j = .free := by
            simp only [Bool.and_eq_true, beq_iff_eq] at hc
            exact hc.1.1
          subst this
          exact .inr ⟨rfl, rfl⟩
        · have hc' : (j == NameKind.free && env.scope.kind == .function && env.kindOf n == some .cell) = false := by simpa using hc
          simp only [hc', Bool.false_eq_true, if_false, List.lookup_cons, q] at h
          exact .inl h
      | false =>
        by_cases hc : (j == NameKind.free && env.scope.kind == .function && env.kindOf n == some .cell) = true
        · simp only [hc, if_true, List.lookup_cons, q] at h
          exact ih h
        · have hc' : (j == NameKind.free && env.scope.kind == .function && env.kindOf n == some .cell) = false := by simpa using hc
          simp only [hc', Bool.false_eq_true, if_false, List.lookup_cons, q] at h
          exact ih h
  exact key _ h

theorem lt_ne {h : Heap} {b n : Addr} {o : Obj} (e : h.get? b = some o) (hn : h.objs.size ≤ n) : b ≠ n := Nat.ne_of_lt (Nat.lt_of_lt_of_le (Heap.lt_size e) hn)
/-- what of its scope a comprehension must have; nv: its own names, ix: the places of the frame's names that it reads -/
structure CScope (X : Cx) (scope : Scope) (N : List Str) (nv : Nat) (ix : List Nat) : Prop where
  kind : scope.kind = .function
  nocell : ∀ y ∈ scope.names, y.2 ≠ .cell
  names : ∀ y ∈ scope.names, y.2 = .local → scope.names.lookup y.1 = some .local
  fre : ∀ y ∈ scope.names, y.2 = .free → X.env.kindOf y.1 = some .cell ∨ X.env.kindOf y.1 = some .free
  len : N.length = nv + ix.length
  at_ : ∀ j y, N[nv + j]? = some y → ∃ i, ix[j]? = some i ∧ X.N[i]? = some y ∧ (X.env.kindOf y = some .cell ∨ X.env.kindOf y = some .free) ∧ scope.names.lookup y = some .free
noncomputable def compSt (nv : Nat) (ix : List Nat) (σ : St) : St := List.replicate nv none ++ ix.map fun i => (σ[i]?).join

section
variable {X : Cx} {pins : List (Addr × Obj)} {σ : St} {H : Hp} {s : Shared} {scope : Scope} {N : List Str} {nv : Nat} {ix : List Nat}
theorem comp_start {h1 : Heap} {tk : Nat} {cl : List (Str × Addr)} {fp : List Addr} {C D : Addr} {oD : Obj} (S : CScope X scope N nv ix) (I : Inv X pins σ H s) (hcl : ∀ y c, cl.lookup y = some c → X.env.cells.lookup y = some c)
    (hcl2 : ∀ y ∈ scope.names, y.2 = .free → ∃ c, cl.lookup y.1 = some c) (hfp : ∀ b ∈ fp, FpOk X pins H b) (hob : ∀ b ∈ fp, b < s.heap.objs.size)
    (hC : s.heap.objs.size ≤ C) (hD : s.heap.objs.size ≤ D) (hDC : D ≠ C) (old : ∀ b o, s.heap.get? b = some o → h1.get? b = some o) {m : Str → Option Value} (hm : h1.Ns C m) (hoD : h1.get? D = some oD) (hdat : ∀ v, oD.data ≠ .cell v) :
    Inv (X.comp scope cl C N s H fp) [(D, oD)] (compSt nv ix σ) H { s with heap := h1, toks := tk } := by
  refine ⟨⟨I.ok.mod, S.kind, I.ok.glob, I.ok.blt, hC, fun x y c e1 e2 => I.ok.inj x y c (hcl x c e1) (hcl y c e2), fun x hx => ?_, fun _ _ z => absurd z Bool.false_ne_true, I.ok.hd, I.ok.frames, .inl rfl, fun b hb => ⟨fun z => ?_, fun x c e => (hfp b hb).2.2.2.2.1 x c (hcl x c e)⟩, I.bs,
    Nat.le_trans I.ok.bsz I.sz, fun b o e hb => ?_, fun b hb z => ?_, I.stack, I.stkFree⟩, rfl, I.bare, Un.kept old, ⟨m, hm, fun i x v e1 e2 e3 => ?_⟩, fun x c e => ?_, I.hok.fresh hC, fun x c e => I.freeC x c (hcl x c e), fun p hp => ?_, I.hok.kept old, ?_⟩
  · have hx' : (relabel scope X.env).names.lookup x = some .cell ∨ (relabel scope X.env).names.lookup x = some .free := hx
    have fr : scope.names.lookup x = some .free := by
      rcases hx' with z | z
      · rcases relabel_look z with q | q
        · exact absurd rfl (S.nocell _ (PySem.mem_of_lookup q))
        · exact q.1
      · rcases relabel_look z with q | q
        · exact q
        · cases q.2
    exact hcl2 (x, .free) (PySem.mem_of_lookup fr) rfl
  · exact Nat.ne_of_lt (Nat.lt_of_lt_of_le (hob b hb) hC) z
  · rcases (hfp b hb).2.2.2.1 with z | z
    · exact I.ok.noex b o e z
    · exact lt_ne e (Nat.le_trans I.ok.bsz z) rfl
  · rcases List.mem_cons.mp (I.stkSub b z) with q | q
    · exact (hfp b hb).2.1 q
    · exact (hfp b hb).2.2.1 q
  · have e1' : N[i]? = some x := e1
    by_cases hi : i < nv
    · have e2' : (compSt nv ix σ)[i]? = some (some v) := e2
      unfold compSt at e2'
      rw [List.getElem?_append_left (by simpa using hi), List.getElem?_replicate, if_pos hi] at e2'
      cases e2'
    · obtain ⟨j, rfl⟩ : ∃ j, i = nv + j := ⟨i - nv, by omega⟩
      obtain ⟨k, hk, hN, hkd, hsc⟩ := S.at_ j x e1'
      have e2' : (compSt nv ix σ)[nv + j]? = some (some v) := e2
      unfold compSt at e2'
      rw [List.getElem?_append_right (by simp), List.length_replicate, Nat.add_sub_cancel_left, List.getElem?_map, hk] at e2'
      have e4 : σ[k]? = some (some v) := by
        have e5 : (σ[k]?).join = some v := by simpa using e2'
        cases q : σ[k]? with
        | none => rw [q] at e5; cases e5
        | some z => rw [q] at e5; have : z = some v := e5; rw [this]
      obtain ⟨m0, _, hl⟩ := I.loc
      have vis : Vis X.env.scope x := by
        rcases hkd with z | z
        · exact .inr (.inl z)
        · exact .inr (.inr z)
      obtain ⟨u, r, l⟩ := hl k x v hN e4 vis
      refine ⟨u, r, ?_⟩
      rcases l with ⟨z, _⟩ | ⟨_, c, hc, hcell⟩
      · rcases hkd with q | q <;> rw [q] at z <;> cases z
      · obtain ⟨c', hc'⟩ := hcl2 (x, .free) (PySem.mem_of_lookup hsc) rfl
        have := hcl x c' hc'
        rw [hc] at this
        cases this
        refine .inr ⟨?_, c, hc', hcell.keeps old⟩
        rcases e3 with z | z | z
        · rcases relabel_look z with q | q
          · rw [hsc] at q; cases q
          · cases q.2
        · exact .inl z
        · exact .inr z
  · obtain ⟨v, q⟩ := I.cell x c (hcl x c e)
    exact ⟨v, q.keeps old⟩
  · have hp' : p ∈ [(D, oD)] := hp
    have e : p = (D, oD) := by simpa using hp'
    subst e
    refine ⟨hoD, I.hok.fresh hD, hDC, fun z => ?_, hdat⟩
    rcases List.mem_cons.mp (I.stkSub D z) with q | q
    · exact Nat.ne_of_gt (Nat.lt_of_lt_of_le I.lt hD) q
    · exact I.nofs hD q
  · show (compSt nv ix σ).length = N.length
    unfold compSt
    rw [List.length_append, List.length_replicate, List.length_map, S.len]
/-- out of the block -/
theorem comp_end {cl : List (Str × Addr)} {fp : List Addr} {C D : Addr} {its : List Value} {ys : List V} {n : Nat} {σ' : St} {H' : Hp} {s' : Shared} (I : Inv X pins σ H s) (hfp : ∀ b ∈ fp, FpOk X pins H b) (hD : s.heap.objs.size ≤ D)
    (J : Inv (X.comp scope cl C N s H fp) [(D, { cls := .type "list", data := .seq its.toArray n })] σ' H' s') (r : Vals ys its) (hl : ys.length ≤ sizeLine) : Inv X pins σ (upd H' D (.lst ys)) s' := by
  obtain ⟨eD, fD, _⟩ := J.pin (D, { cls := .type "list", data := .seq its.toArray n }) (by simp [Cx.comp])
  have U : Un (frs X.stack) fp H H' s.heap s'.heap := J.base
  have neD : ∀ b o, s.heap.get? b = some o → b ≠ D := fun b o e => lt_ne e hD
  refine I.call' (ch := fp) J.os ⟨U.keep, U.slot, fun b o e n hx => ?_, U.there, fun b xs e => ?_, fun b o xs e => ?_, fun b ps e => ?_⟩ (fun b u e => ?_) J.bare fun b hb => (hfp b hb).2.2.2 |> fun z => ⟨z.1, (hfp b hb).2.1, z.2.1, z.2.2⟩
  · rw [upd_ne (neD b o e)]; exact U.free b o e n hx
  · have q := U.tups b xs e
    rw [upd_ne (ne_of_none q fD)]; exact q
  · have q := U.frzs b o xs e
    rw [upd_ne (ne_of_none q fD)]; exact q
  · obtain ⟨more, q⟩ := U.tbls b ps e
    exact ⟨more, by rw [upd_ne (ne_of_none q fD)]; exact q⟩
  · by_cases hb : b = D
    · subst hb
      rw [upd_same] at e
      cases e
      exact ⟨hl, its, n, r, eD⟩
    · rw [upd_ne hb] at e
      exact (J.hok b u e).stay (fun c v _ q => q) (fun c q => by rw [upd_ne (ne_of_none q fD)]; exact q) fun c xs q => by rw [upd_ne (ne_of_none q fD)]; exact q
end

section
variable {prog : Program} {w : World} {A : Around} {E : Value → Shared → Prop} {R : Result → Shared → Prop} {s : Shared}
/-- the loop, the step ahead of the store within -/
theorem compLoop_own {elt target iter : Expr} {ifs : List Expr} {scope : Scope} {pos : Pos} {it acc : Value} {env : Env} (I : Nat → Shared → Prop)
    (turn : ∀ n s, I n s → wpAny (model prog w) A (pyNext it) (fun r s₁ => match r with
      | none => R (.ok .next) s₁
      | some v => wpAny (model prog w) A (letOwnedTupleGo target it v) (fun _ s₀ => wpAny (model prog w) A (assign target env v) (fun _ s₂ =>
          wpAny (model prog w) A (forIn ifs true fun c r => if r = true then do let ok ← isTrue c env (eval c env); pure (ForInStep.yield ok) else pure (ForInStep.yield r)) (fun ok s₃ =>
            if ok = true then wpAny (model prog w) A (eval elt env) (fun x s₄ =>
              wpAny (model prog w) A (call (.builtin "list.append") [acc, x]) (fun _ s₅ => ∃ m, m < n ∧ I m s₅) (fun _ _ => False) s₄) (fun _ _ => False) s₃
            else ∃ m, m < n ∧ I m s₃) (fun _ _ => False) s₂) (fun _ _ => False) s₀) (fun _ _ => False) s₁) (fun _ _ => False) s)
    (n : Nat) (h : I n s) :
    codeAny (model prog w) A (.compLoop (.ListComp elt [⟨target, iter, ifs, 0⟩] scope pos) 0 it acc env) R s := by
  refine codeAny_loop rfl I (fun n s hI => ?_) n h
  show wpAny _ A ((compTurn (.ListComp elt [⟨target, iter, ifs, 0⟩] scope pos) 0 it acc env).onRaise (fun x => do noteFrame x env; theTreesLotGoes x)) _ _ s
  refine wpAny_noted ?_
  rw [compTurn_list]
  refine wpAny_bind (wpAny_standAt (wpAny_bind (wpAny_mono (turn n s hI) (fun r s₁ h₁ => ?_) fun _ _ h' => h'.elim)))
  cases r with
  | none => exact wpAny_pure h₁
  | some v =>
    refine wpAny_bind (wpAny_mono h₁ (fun _ s₀ h₀ => ?_) fun _ _ h' => h'.elim)
    refine wpAny_bind (wpAny_mono h₀ (fun _ s₂ h₂ => wpAny_bind (wpAny_mono h₂ (fun ok s₃ h₃ => ?_) fun _ _ h' => h'.elim)) fun _ _ h' => h'.elim)
    cases ok with
    | false => exact wpAny_pure ⟨rfl, h₃⟩
    | true =>
      exact wpAny_bind (wpAny_bind (wpAny_mono h₃ (fun x s₄ h₄ => wpAny_bind (wpAny_mono h₄ (fun _ s₅ h₅ => wpAny_pure (wpAny_pure ⟨rfl, h₅⟩)) fun _ _ h' => h'.elim)) fun _ _ h' => h'.elim))
end

/-- tests of a comprehension -/
noncomputable def tYes : TT := fun _ H Q => Q true H
/-- the reading -/
noncomputable def compR (J : It) (g : TG) (tt : TT) (te : TE) (σ₀ : St) (H1 : Hp) (Q : List V → Hp → Prop) : Prop :=
  ∃ W : Nat → Nat → List V → St → Hp → Prop, (∃ m, W 0 m [] σ₀ H1) ∧ ∀ i m ys σ' H', W i m ys σ' H' →
    (J.stop i H' ∧ Q ys H') ∨ (J.go i H' ∧ ys.length < sizeLine ∧ ∃ N : List V → St → Hp → Prop, (∀ ys' σ'' H'', N ys' σ'' H'' → ∃ m', m' < m ∧ W (i + 1) m' ys' σ'' H'') ∧
      ∀ x H'', J.yld i H' x H'' → g x σ' H'' fun σ2 H2 => tt σ2 H2 fun b H3 => if b = true then te σ2 H3 fun y H4 => N (ys ++ [y]) σ2 H4 else N ys σ2 H3)
noncomputable def tComp (nv : Nat) (ix : List Nat) (wi : TI) (g : TG) (tt : TT) (te : TE) : TE := fun σ H Q => wi σ H fun J H1 => compR J g tt te (compSt nv ix σ) H1 fun ys H' => ys.length ≤ sizeLine ∧ ∀ D, H' D = none → Q (.ref D) (upd H' D (.lst ys))

section
variable {X : Cx} {tg elt iter : Expr} {ifs : List Expr} {scope : Scope} {N : List Str} {nv : Nat} {ix : List Nat} {pos spos : Pos} {wi : TI} {g : TG} {tt : TT} {te : TE}
/-- the tests of a block -/
noncomputable def PTs (X : Cx) (ifs : List Expr) (tt : TT) : Prop :=
  ∀ (pins : List (Addr × Obj)) (s : Shared) (σ : St) (H : Hp) (Q : Bool → Hp → Prop), Inv X pins σ H s → tt σ H Q →
    wpAny (model X.prog X.w) X.A (forIn ifs true fun c r => if r = true then do let ok ← isTrue c X.env (eval c X.env); pure (ForInStep.yield ok) else pure (ForInStep.yield r)) (TP X pins σ Q) X.xe s
theorem pts_nil : PTs X [] tYes := fun _ _ _ H _ I h => wpAny_tests_nil ⟨H, I, h⟩
theorem pts_one {c : Expr} (h : PT X c tt) : PTs X [c] tt := fun pins s σ H Q I hw => wpAny_tests_one (h pins s σ H Q I hw)

theorem comp_core {use : Option (Value → Sem Unit)} {Qv : Value → Shared → Prop} {pins : List (Addr × Obj)} {s : Shared} {σ : St} {H : Hp} {Q : List V → Hp → Prop} (hc : X.calm = true) (S : CScope X scope N nv ix) (hi : PI X tg iter wi)
    (hg : ∀ cl C s H ex, PG (X.comp scope cl C N s H ex) tg g) (ht : ∀ cl C s H ex, PTs (X.comp scope cl C N s H ex) ifs tt) (he : ∀ cl C s H ex, PE (X.comp scope cl C N s H ex) elt te) (I : Inv X pins σ H s)
    (h : wi σ H fun J H1 => compR J g tt te (compSt nv ix σ) H1 fun ys H' => ys.length ≤ sizeLine ∧ Q ys H')
    (fin : ∀ ys D C H' s' (s2 : Shared) (σ2 : St), Q ys H' → H' D = none → D ≠ C → Inv X pins σ (upd H' D (.lst ys)) s' → (∃ m, s'.heap.Ns C m) → (∀ H'', H'' C = none → FpOk X pins H'' C) → H' C = none → compPost (model X.prog X.w) X.A X.xe use Qv (.ref D) C (.ok .next) s')
    (hs : ∀ x, foldedSetIterable iter X.env x = pure x) :
    wpAny (model X.prog X.w) X.A (comprehension (.ListComp elt [⟨tg, iter, ifs, 0⟩] scope pos) scope X.env (firstIterPos [⟨tg, iter, ifs, 0⟩] pos) (newList []) false (eval iter X.env) use) Qv X.xe s := by
  obtain ⟨cl, hclos, hcl, hcl2⟩ := closure_ok (env := X.env) (scope := scope) fun y hy hf => I.ok.has y.1 (S.fre y hy hf)
  refine wpAny_comprehension_free (use := use) rfl hs hclos S.kind S.names (thn (hi pins s σ H _ I h) fun v s1 h1 => thn h1 fun itv s2 h2 => ?_)
  obtain ⟨it, fp, tn, J, H2, e, I2, T, st2, f2, W, ⟨m0, w0⟩, turn⟩ := h2
  subst e
  refine wpAny_newObj_type (wpAny_newFunctionEnv S.nocell (by intro y hy; simp at hy) (fun h₁ hns₁ hsb₁ => ?_) S.kind)
  dsimp only at hns₁ hsb₁ ⊢
  generalize hH2 : s2.heap.push { cls := .type "list", dict := none, data := .seq ([] : List Value).toArray } = G2 at hns₁ hsb₁ ⊢
  have hC : G2.objs.size = s2.heap.objs.size + 1 := by rw [← hH2, Heap.size_push]
  have hDC : s2.heap.objs.size ≠ G2.objs.size := by rw [hC]; exact Nat.ne_of_lt (Nat.lt_succ_self _)
  have old : ∀ b o, s2.heap.get? b = some o → h₁.get? b = some o := fun b o e => hsb₁.extBut b o (lt_ne e (by rw [hC]; exact Nat.le_succ _)) (Heap.get?_push_of_some _ (hH2 ▸ Heap.get?_push_of_some _ e))
  have hacc : h₁.get? s2.heap.objs.size = some { cls := .type "list", data := .seq ([] : List Value).toArray 0 } := hsb₁.extBut _ _ hDC (Heap.get?_push_of_some _ (hH2 ▸ Heap.get?_push_size _ rfl))
  have hob : ∀ b ∈ fp, b < s2.heap.objs.size := fun b hb => by
    obtain ⟨o, e, _⟩ := T.obj _ _ st2 b hb
    exact Heap.lt_size e
  have hCle : s2.heap.objs.size ≤ G2.objs.size := by rw [hC]; exact Nat.le_succ _
  have I4 : ∀ tk, Inv (X.comp scope cl G2.objs.size N s2 H2 fp) [(s2.heap.objs.size, { cls := .type "list", data := .seq ([] : List Value).toArray 0 })] (compSt nv ix σ) H2 { s2 with heap := h₁, toks := tk } := fun tk =>
    comp_start S I2 hcl hcl2 f2 hob hCle (Nat.le_refl _) hDC old hns₁ hacc (fun v z => by cases z)
  have hst₁ : tn 0 h₁ := T.keep _ _ _ st2 fun b _ o e => old b o e
  have stat : ∀ {H' : Hp} {pns : List (Addr × Obj)}, (∀ p ∈ pns, p.1 = s2.heap.objs.size) → (∀ b ∈ fp, H' b = none) → ∀ b ∈ fp, FpOk (X.comp scope cl G2.objs.size N s2 H2 fp) pns H' b := fun {H' pns} hp hn b hb => by
    obtain ⟨f0, f1, f3, f4, f5, f6⟩ := f2 b hb
    have hlt := hob b hb
    refine ⟨hn b hb, fun z => ?_, fun z => ?_, .inl hb, fun x c e => f5 x c (hcl x c e), fun p hp' z => ?_⟩
    · exact Nat.ne_of_lt (Nat.lt_of_lt_of_le hlt hCle) z
    · rcases List.mem_cons.mp (I2.stkSub b z) with q | q
      · exact f1 q
      · exact f3 q
    · have hp'' : p ∈ pns := by simpa [Cx.comp] using hp'
      exact Nat.ne_of_gt (by rw [hp p hp'']; exact hlt) z
  have loop : ∀ s₃ : Shared, s₃ = { s2 with heap := h₁, toks := s2.toks + ([] : List (Str × Value)).length } →
      codeAny (model X.prog X.w) X.A (.compLoop (.ListComp elt [⟨tg, iter, ifs, 0⟩] scope pos) 0 (.ref it) (.ref s2.heap.objs.size) (compEnvC scope cl G2.objs.size X.env))
        (compPost (model X.prog X.w) X.A X.xe use Qv (.ref s2.heap.objs.size) G2.objs.size) s₃ := by
    rintro s₃ rfl
    refine compLoop_own (fun n s' => ∃ i ys its σ' H', Inv (X.comp scope cl G2.objs.size N s2 H2 fp) [(s2.heap.objs.size, { cls := .type "list", data := .seq its.toArray its.length })] σ' H' s' ∧ tn i s'.heap ∧ (∀ b ∈ fp, H' b = none) ∧ Vals ys its ∧ W i n ys σ' H') ?_ m0
      ⟨0, [], [], _, H2, I4 _, hst₁, fun b hb => (f2 b hb).1, .nil, w0⟩
    rintro n s' ⟨i, ys, its, σ', H', I', st', fr', rv, w'⟩
    have pin1 : ∀ {o : Obj}, ∀ p ∈ [(s2.heap.objs.size, o)], p.1 = s2.heap.objs.size := fun {o} p hp => by
      exact congrArg Prod.fst (List.mem_singleton.mp hp)
    rcases turn i n ys σ' H' w' with ⟨stop, hl, qn⟩ | ⟨go, hlen, Nx, hN, step⟩
    · refine thn (T.done (X.comp scope cl G2.objs.size N s2 H2 fp) rfl rfl rfl hc i _ s' σ' H' (fun _ _ => False) I' (stat pin1 fr') st' stop) fun r s4 ⟨hr, I5⟩ => ?_
      subst hr
      obtain ⟨m5, hm5, _⟩ := I5.loc
      have fD := (I5.pin (s2.heap.objs.size, { cls := .type "list", data := .seq its.toArray its.length }) (List.mem_append_right _ (by simp))).2.1
      exact fin ys _ _ H' s4 s2 σ' qn fD hDC (comp_end I2 f2 (Nat.le_refl _) I5 rv hl) ⟨m5, hm5⟩ (fun H'' hn => I2.fpOk hCle hn) I5.free
    · refine thn (T.item (X.comp scope cl G2.objs.size N s2 H2 fp) rfl rfl rfl hc i _ s' σ' H' (fun _ _ => False) I' (stat pin1 fr') st' go) fun r s4 ⟨u, hr, h4⟩ => ?_
      subst hr
      refine thn h4 fun _ s5 ⟨x, H5, I5, r5, y5, st5, fr5⟩ => ?_
      have I5' := I5.pinned (stat pin1 fr5) (T.obj _ _ st5)
      refine thn (hg _ _ _ _ _ _ s5 σ' H5 x u _ I5' r5 (step x H5 y5)) fun _ s6 ⟨σ6, H6, I6, q6⟩ => ?_
      refine thn (ht _ _ _ _ _ _ s6 σ6 H6 _ I6 q6) fun b s7 ⟨H7, I7, q7⟩ => ?_
      have back : ∀ {σ8 : St} {H8 : Hp} {s8 : Shared}, Inv (X.comp scope cl G2.objs.size N s2 H2 fp) ([(s2.heap.objs.size, { cls := .type "list", data := .seq its.toArray its.length })] ++ pinsAt fp s5.heap) σ8 H8 s8 → tn (i + 1) s8.heap ∧ ∀ b ∈ fp, H8 b = none := fun {σ8 H8 s8} J =>
        ⟨T.keep _ _ _ st5 fun b hb o e => (J.pin (b, o) (List.mem_append_right _ (List.mem_append_right _ (mem_pinsAt hb e)))).1, fun b hb => by
          obtain ⟨o, e, d⟩ := T.obj _ _ st5 b hb
          exact (J.pin (b, o) (List.mem_append_right _ (List.mem_append_right _ (mem_pinsAt hb e)))).2.1⟩
      cases b with
      | false =>
        rw [if_neg Bool.false_ne_true] at q7
        obtain ⟨m', hm, w7⟩ := hN _ _ _ q7
        exact ⟨m', hm, i + 1, ys, its, σ6, H7, I7.unpinned, (back I7).1, (back I7).2, rv, w7⟩
      | true =>
        rw [if_pos rfl] at q7
        refine thn (he _ _ _ _ _ _ s7 σ6 H7 _ I7 q7) fun y s8 ⟨yv, H8, I8, r8, q8⟩ => ?_
        obtain ⟨eD, fD, nD, nfD, dD⟩ := I8.pin (s2.heap.objs.size, { cls := .type "list", data := .seq its.toArray its.length }) (List.mem_append_right _ (by simp))
        refine append_at (hsz := by rw [List.size_toArray, ← rv.length]; exact Nat.le_of_lt hlen) eD fun h₅ hs₅ hD₅ => ?_
        obtain ⟨m', hm, w8⟩ := hN _ _ _ q8
        have fpD : s2.heap.objs.size ∉ fp := fun z => Nat.lt_irrefl _ (hob _ z)
        have I9 : Inv (X.comp scope cl G2.objs.size N s2 H2 fp) [] σ6 H8 s8 := I8.pins_of fun p hp => absurd hp (by simp)
        have fk := I2.fpOk (H' := H8) (Nat.le_refl _) fD
        have I10 : Inv (X.comp scope cl G2.objs.size N s2 H2 fp) [] σ6 H8 { s8 with heap := h₅, toks := s8.toks } :=
          I9.turned (it := s2.heap.objs.size) (fun b o hb e => hs₅.extBut b o hb e) fD nD (.inr (Nat.le_refl _)) (fun x c e => fk.2.2.2.2.1 x c (hcl x c e)) (fun p hp => absurd hp (by simp [Cx.comp]))
        refine ⟨m', hm, i + 1, ys ++ [yv], its ++ [y], σ6, H8, I10.pins_of fun p hp => ?_, ?_, (back I8).2, rv.append (.cons r8 .nil), w8⟩
        · have e : p = (s2.heap.objs.size, { cls := .type "list", data := .seq (its ++ [y]).toArray (its ++ [y]).length }) := by simpa using hp
          subst e
          refine ⟨?_, fD, nD, nfD, fun v z => by cases z⟩
          show h₅.get? s2.heap.objs.size = _
          rw [hD₅, List.push_toArray, List.length_append, List.length_singleton]
        · exact T.keep _ _ _ (back I8).1 fun b hb o e => hs₅.extBut b o (fun z => fpD (by have z' : b = s2.heap.objs.size := z; rw [← z']; exact hb)) e
  exact codeAny_compStart_list (loop _ rfl) (T.self _ 0 _ _ _ hst₁ (loop _ rfl))

theorem pe_comp (hc : X.calm = true) (S : CScope X scope N nv ix) (hi : PI X tg iter wi)
    (hg : ∀ cl C s H ex, PG (X.comp scope cl C N s H ex) tg g) (ht : ∀ cl C s H ex, PTs (X.comp scope cl C N s H ex) ifs tt) (he : ∀ cl C s H ex, PE (X.comp scope cl C N s H ex) elt te)
    (hs : ∀ x, foldedSetIterable iter X.env x = pure x := by intro _; rfl) : PE X (.ListComp elt [⟨tg, iter, ifs, 0⟩] scope pos) (tComp nv ix wi g tt te) := by
  intro pins s σ H Q I h
  rw [eval_ListComp]
  refine comp_core (Q := fun ys H' => ∀ D, H' D = none → Q (.ref D) (upd H' D (.lst ys))) (use := none) hc S hi hg ht he I ?_ (fun ys D C H' s' s2 σ2 q fD hDC J hm fk fC => ?_) hs
  · exact h
  · obtain ⟨m, hm⟩ := hm
    refine ⟨m, hm, fun h' sb => ⟨.ref D, _, ?_, rfl, q D fD⟩⟩
    have fC' : upd H' D (.lst ys) C = none := by rw [upd_ne (Ne.symm hDC)]; exact fC
    obtain ⟨f0, f1, f2, f3, f4, f5⟩ := fk _ fC'
    exact J.turned (t' := s'.toks) (it := C) (fun b o hb e => sb.extBut b o hb e) f0 f1 f3 f4 f5
/-- name = a comprehension (the store ahead of the block's own names being let go) -/
theorem ps_setc {i : Nat} {x : Str} {px : Pos} (hc : X.calm = true) (hN : X.N.Nodup) (hi' : X.N[i]? = some x) (hx : X.env.scope.names.lookup x = some .local) (S : CScope X scope N nv ix) (hi : PI X tg iter wi)
    (hg : ∀ cl C s H ex, PG (X.comp scope cl C N s H ex) tg g) (ht : ∀ cl C s H ex, PTs (X.comp scope cl C N s H ex) ifs tt) (he : ∀ cl C s H ex, PE (X.comp scope cl C N s H ex) elt te)
    (hsw : swapsWith (.ListComp elt [⟨tg, iter, ifs, 0⟩] scope pos) (some (.Name x px)) spos.line X.env = pure true := by rfl)
    (hs : ∀ x, foldedSetIterable iter X.env x = pure x := by intro _; rfl) : PS X (.Assign [.Name x px] (.ListComp elt [⟨tg, iter, ifs, 0⟩] scope pos) spos) (tAsg (tComp nv ix wi g tt te) (gName i)) := by
  intro pins s σ H D I h
  rw [exec_Assign_Name_used _ _ _ _ hsw]
  refine wpAny_bind (wpAny_standAt (wpAny_bind ?_))
  show wpAny _ _ (do let _ ← comprehension (.ListComp elt [⟨tg, iter, ifs, 0⟩] scope pos) scope X.env (firstIterPos [⟨tg, iter, ifs, 0⟩] pos) (newList []) false (eval iter X.env) (some (assign (.Name x px) X.env))) _ _ s
  refine wpAny_bind (thn (comp_core (Q := fun ys H' => ∀ l, H' l = none → D.nx (σ.set i (some (.ref l))) (upd H' l (.lst ys))) (use := some (assign (.Name x px) X.env)) (Qv := fun _ s' => SP X pins D .next s') hc S hi hg ht he I h (fun ys l C H' s' s2 σ2 q fD hDC J hm fk fC => ?_) hs)
    fun _ s' hq => wpAny_pure (wpAny_pure hq))
  obtain ⟨m, hm⟩ := hm
  have fC' : upd H' l (.lst ys) C = none := by rw [upd_ne (Ne.symm hDC)]; exact fC
  obtain ⟨f0, f1, f2, f3, f4, f5⟩ := fk _ fC'
  show wpAny _ _ (assign (.Name x px) X.env (.ref l)) _ _ s'
  refine wpAny_assign_Name (store_ok2 J hN hi' (.inl hx) (v := .ref l) (u := .ref l) rfl (fun s'' J' ⟨a, sb, ha⟩ => ?_) (.inr hx))
  have hCa : C ≠ a := by
    rcases ha with z | z
    · rw [z]; exact f1
    · exact Ne.symm (f4 x a z)
  refine ⟨m, hm.sameBut sb hCa, fun h' sb' => ⟨_, _, ?_, q l fD⟩⟩
  exact J'.turned (t' := s''.toks) (it := C) (fun b o hb e => sb'.extBut b o hb e) f0 f1 f3 f4 f5
end
end L2


set_option maxRecDepth 100000
namespace L2
open PySem PySem.Spec PyProof.Rows

noncomputable def Its (x : Str) : It := ⟨fun i _ => i < x.cps.size, fun i H v H' => H' = H ∧ ∃ c, x.cps[i]? = some c ∧ v = .str ⟨#[c]⟩, fun i _ => x.cps.size ≤ i⟩
theorem turn_str {P : Program} {w : World} {K : PySem.W.Frag} {tg : Expr} (it : Addr) (x : Str) (t : Tok) (T : String) (hT : T = "str_ascii_iterator" ∨ T = "str_iterator") : Turn P w K tg (Its x) [it] it (fun i h => h.IsStrIter it T x t i) where
  mem := by simp
  obj := fun i h st b hb => by
    have e : b = it := by simpa using hb
    subst e
    obtain ⟨o, e, c, d⟩ := st
    exact ⟨o, e, fun v z => by rw [d] at z; cases z⟩
  keep := fun i h h' st k => by
    obtain ⟨o, e, r⟩ := st
    exact ⟨o, k it (by simp) o e, r⟩
  item := by
    intro X hP hw hK hc i pins s σ H E I hf st hg
    subst hP hw hK
    obtain ⟨f0, f1, f2, f3, f4, f5⟩ := hf it (by simp)
    have hg' : i < x.cps.size := hg
    have W : Walks X.prog X.w X.A it [it] [it] x.cps.size (SignAt x) (fun i h => h.IsStrIter it T x t i) := by
      rcases hT with rfl | rfl
      · exact Walks.strAscii (I.ok.hd hc) it x t
      · exact Walks.strWide (I.ok.hd hc) it x t
    refine W.item i s _ _ hg' st fun v h' tk hv st' kk => ?_
    obtain ⟨c, u, hcx, rfl⟩ := hv
    have I1 : Inv X pins σ H { s with heap := h', toks := tk } := I.turned (fun b o hb e => kk b o (by simpa using hb) e) f0 f1 f3 f4 f5
    obtain ⟨o, e, c', d⟩ := id st'
    refine ⟨_, rfl, go_of (s := { s with heap := h', toks := tk }) e c' d (by rcases hT with rfl | rfl <;> decide) ⟨.str ⟨#[c]⟩, H, I1, ⟨u, rfl⟩, ⟨rfl, c, hcx, rfl⟩, st', fun b hb => (hf b hb).1⟩⟩
  done := by
    intro X hP hw hK hc i pins s σ H E I hf st hg
    subst hP hw hK
    obtain ⟨f0, f1, f2, f3, f4, f5⟩ := hf it (by simp)
    have hg' : x.cps.size ≤ i := hg
    have he : x.cps[i]? = none := by simp [hg']
    rcases hT with rfl | rfl
    · exact wpAny_pyNext_ascii_end (I.ok.hd hc) st he fun h' eb => ⟨rfl, I.turned (t' := s.toks) (fun b o hb e => eb b o hb e) f0 f1 f3 f4 f5⟩
    · exact wpAny_pyNext_wide_end (I.ok.hd hc) st he fun h' eb => ⟨rfl, I.turned (t' := s.toks) (fun b o hb e => eb b o hb e) f0 f1 f3 f4 f5⟩
  self := fun _ _ _ _ _ st h => by
    rcases hT with rfl | rfl
    · exact wpAny_pyIter_striter_ascii st h
    · exact wpAny_pyIter_striter_wide st h

noncomputable def seqR (K : PySem.W.Frag) (x : V) (H1 : Hp) (R : It → Hp → Prop) : Prop := match x with
  | .ref a => (∃ xs, SqL K H1 a xs ∧ R (Itl K a) H1) ∨ (∃ xs, SqT K H1 a xs ∧ R (Itt K a) H1)
  | .str z => R (Its z) H1
  | _ => False
noncomputable def iSeq (K : PySem.W.Frag) (tl : TE) : TI := fun σ H R => tl σ H fun x H1 => seqR K x H1 R
theorem pi_seq {X : Cx} {tg l : Expr} {tl : TE} (hl : PE X l tl) : PI X tg l (iSeq X.K tl) := by
  intro pins s σ H R I h
  refine thn (hl pins s σ H _ I h) fun v s1 ⟨x, H1, I1, r1, q1⟩ => ?_
  cases x with
  | ref a =>
    cases r1
    rcases q1 with ⟨xs, hq, q⟩ | ⟨xs, hq, q⟩
    · obtain ⟨its, rv, p, hz⟩ := I1.list hq
      refine wpAny_pyIter_list p.isList ?_
      refine ⟨s1.heap.objs.size, [s1.heap.objs.size], _, _, H1, rfl, I1.kept (t' := s1.toks) fun b o e => Heap.get?_push_of_some _ e, turn_list a _, ⟨_, Heap.get?_push_size _ rfl, rfl, rfl⟩, fun b hb => ?_, q⟩
      have e : b = s1.heap.objs.size := by simpa using hb
      subst e
      exact I1.fpOk (Nat.le_refl _) (I1.hok.fresh (Nat.le_refl _))
    · obtain ⟨its, rv, p, hz⟩ := I1.tuple hq
      refine wpAny_pyIter_tuple (show s1.heap.IsTuple a its.toArray from p) ?_
      refine ⟨s1.heap.objs.size, [s1.heap.objs.size], _, _, H1, rfl, I1.kept (t' := s1.toks) fun b o e => Heap.get?_push_of_some _ e, turn_tuple a _, ⟨_, Heap.get?_push_size _ rfl, rfl, rfl⟩, fun b hb => ?_, q⟩
      have e : b = s1.heap.objs.size := by simpa using hb
      subst e
      exact I1.fpOk (Nat.le_refl _) (I1.hok.fresh (Nat.le_refl _))
  | str z =>
    obtain ⟨t, rfl⟩ := r1
    have fp : ∀ b ∈ [s1.heap.objs.size], FpOk X pins H1 b := fun b hb => by
      have e : b = s1.heap.objs.size := by simpa using hb
      subst e
      exact I1.fpOk (Nat.le_refl _) (I1.hok.fresh (Nat.le_refl _))
    cases ha : z.cps.all (· < 128)
    · exact wpAny_pyIter_wide ha ⟨s1.heap.objs.size, [s1.heap.objs.size], _, _, H1, rfl, I1.kept (t' := s1.toks) fun b o e => Heap.get?_push_of_some _ e, turn_str _ z t _ (.inr rfl), ⟨_, Heap.get?_push_size _ rfl, rfl, rfl⟩, fp, q1⟩
    · exact wpAny_pyIter_ascii ha ⟨s1.heap.objs.size, [s1.heap.objs.size], _, _, H1, rfl, I1.kept (t' := s1.toks) fun b o e => Heap.get?_push_of_some _ e, turn_str _ z t _ (.inl rfl), ⟨_, Heap.get?_push_size _ rfl, rfl, rfl⟩, fp, q1⟩
  | _ => exact q1.elim

noncomputable def forR (J : It) (g : TG) (tb : TS) (D : Ends) (σ : St) (H : Hp) : Prop := ∃ W : Nat → Nat → St → Hp → Prop, (∃ m, W 0 m σ H) ∧ ∀ i m σ H, W i m σ H →
  (J.stop i H ∧ D.nx σ H) ∨ (J.go i H ∧ ∃ N : St → Hp → Prop, (∀ σ' H', N σ' H' → ∃ m', m' < m ∧ W (i + 1) m' σ' H') ∧ ∀ x H', J.yld i H x H' → g x σ H' fun σ2 H2 => tb { D with nx := N, ct := N, bk := D.nx } σ2 H2)
section
variable {K : PySem.W.Frag} {tl : TE} {g : TG} {tb : TS} {D : Ends} {σ : St} {H : Hp} {tt : TT} {te : TE} {nv : Nat} {ix : List Nat} {Q : VK} {ta : TA}
theorem tFor_seq : tFor (iSeq K tl) g tb D σ H = tl σ H fun x H1 => seqR K x H1 fun J H2 => forR J g tb D σ H2 := rfl
theorem tComp_seq : tComp nv ix (iSeq K tl) g tt te σ H Q = tl σ H fun x H1 => seqR K x H1 fun J H2 => compR J g tt te (compSt nv ix σ) H2 fun ys H' => ys.length ≤ sizeLine ∧ ∀ l, H' l = none → Q (.ref l) (upd H' l (.lst ys)) := rfl
noncomputable def rngR1 (vs : List V) (H1 : Hp) (R : It → Hp → Prop) : Prop := match vs with
  | [.int j] => (-(2 ^ 62) ≤ j ∧ j < 2 ^ 62) ∧ R (Itr 0 j.toNat) H1
  | _ => False
noncomputable def rngR2 (vs : List V) (H1 : Hp) (R : It → Hp → Prop) : Prop := match vs with
  | [.int i, .int j] => (-(2 ^ 62) ≤ i ∧ i < 2 ^ 62 ∧ -(2 ^ 62) ≤ j ∧ j < 2 ^ 62) ∧ R (Itr i (j - i).toNat) H1
  | _ => False
noncomputable def jRng1 (ta : TA) : TI := fun σ H R => ta σ H fun vs H1 => rngR1 vs H1 R
noncomputable def jRng2 (ta : TA) : TI := fun σ H R => ta σ H fun vs H1 => rngR2 vs H1 R
noncomputable def rngR3 (vs : List V) (H1 : Hp) (R : It → Hp → Prop) : Prop := match vs with
  | [.int i, .int j, .int c] => (-(2 ^ 61) ≤ i ∧ i < 2 ^ 61 ∧ -(2 ^ 61) ≤ j ∧ j < 2 ^ 61 ∧ 0 < c ∧ c < 1000000) ∧ R (ItrS i c (rcount i j c)) H1
  | _ => False
noncomputable def jRng3 (ta : TA) : TI := fun σ H R => ta σ H fun vs H1 => rngR3 vs H1 R
theorem tFor_rng1 : tFor (jRng1 ta) g tb D σ H = ta σ H fun vs H1 => rngR1 vs H1 fun J H2 => forR J g tb D σ H2 := rfl
theorem tFor_rng2 : tFor (jRng2 ta) g tb D σ H = ta σ H fun vs H1 => rngR2 vs H1 fun J H2 => forR J g tb D σ H2 := rfl
theorem tFor_rng3 : tFor (jRng3 ta) g tb D σ H = ta σ H fun vs H1 => rngR3 vs H1 fun J H2 => forR J g tb D σ H2 := rfl
theorem tComp_rng1 : tComp nv ix (jRng1 ta) g tt te σ H Q = ta σ H fun vs H1 => rngR1 vs H1 fun J H2 => compR J g tt te (compSt nv ix σ) H2 fun ys H' => ys.length ≤ sizeLine ∧ ∀ l, H' l = none → Q (.ref l) (upd H' l (.lst ys)) := rfl
theorem tComp_rng2 : tComp nv ix (jRng2 ta) g tt te σ H Q = ta σ H fun vs H1 => rngR2 vs H1 fun J H2 => compR J g tt te (compSt nv ix σ) H2 fun ys H' => ys.length ≤ sizeLine ∧ ∀ l, H' l = none → Q (.ref l) (upd H' l (.lst ys)) := rfl
theorem tComp_rng3 : tComp nv ix (jRng3 ta) g tt te σ H Q = ta σ H fun vs H1 => rngR3 vs H1 fun J H2 => compR J g tt te (compSt nv ix σ) H2 fun ys H' => ys.length ≤ sizeLine ∧ ∀ l, H' l = none → Q (.ref l) (upd H' l (.lst ys)) := rfl
theorem rngR1_int {j : Int} {R : It → Hp → Prop} : rngR1 [.int j] H R = ((-(2 ^ 62) ≤ j ∧ j < 2 ^ 62) ∧ R (Itr 0 j.toNat) H) := rfl
theorem rngR2_int {i j : Int} {R : It → Hp → Prop} : rngR2 [.int i, .int j] H R = ((-(2 ^ 62) ≤ i ∧ i < 2 ^ 62 ∧ -(2 ^ 62) ≤ j ∧ j < 2 ^ 62) ∧ R (Itr i (j - i).toNat) H) := rfl
theorem rngR3_int {i j c : Int} {R : It → Hp → Prop} : rngR3 [.int i, .int j, .int c] H R = ((-(2 ^ 61) ≤ i ∧ i < 2 ^ 61 ∧ -(2 ^ 61) ≤ j ∧ j < 2 ^ 61 ∧ 0 < c ∧ c < 1000000) ∧ R (ItrS i c (rcount i j c)) H) := rfl
end
section
variable {X : Cx} {tg : Expr}
theorem pj_range1 {a : Expr} {ta : TA} {p pos : Pos} (hg : Gl X "range") (hm : X.mg "range" = none) (ha : PA X [a] ta) (hs : starEach [a] X.env = [(false, eval a X.env)] := by rfl) : PI X tg (.Call (.Name "range" p) [a] [] pos) (jRng1 ta) := by
  intro pins s σ H R I h
  refine Call_ (ld_blt I hg hm boot_range (PyProof.Rows.callWith_type1 (thn (ha pos pins s σ H _ I h) fun us s1 ⟨vs, H1, I1, r1, q1⟩ => ?_) hs rfl))
  replace q1 : rngR1 vs H1 R := q1
  unfold rngR1 at q1
  split at q1
  · obtain ⟨⟨q1, q2⟩, q⟩ := q1
    cases r1 with
    | cons r rr =>
      cases rr
      obtain ⟨t, rfl⟩ := r
      exact call_range_1 (range_it I1 (by omega) (by omega) q1 q2 (by simpa using q))
  · exact q1.elim
theorem pj_range2 {a b : Expr} {ta : TA} {p pos : Pos} (hg : Gl X "range") (hm : X.mg "range" = none) (ha : PA X [a, b] ta) (hs : starEach [a, b] X.env = [(false, eval a X.env), (false, eval b X.env)] := by rfl) (hs2 : starEach [b] X.env = [(false, eval b X.env)] := by rfl) :
    PI X tg (.Call (.Name "range" p) [a, b] [] pos) (jRng2 ta) := by
  intro pins s σ H R I h
  refine Call_ (ld_blt I hg hm boot_range (PyProof.Rows.callWith_type1 (thn (ha pos pins s σ H _ I h) fun us s1 ⟨vs, H1, I1, r1, q1⟩ => ?_) (by rw [hs, hs2]) (by rw [hs2]; rfl)))
  replace q1 : rngR2 vs H1 R := q1
  unfold rngR2 at q1
  split at q1
  · obtain ⟨⟨q1, q2, q3, q4⟩, q⟩ := q1
    cases r1 with
    | cons r rr =>
      cases rr with
      | cons r' rr =>
        cases rr
        obtain ⟨t, rfl⟩ := r
        obtain ⟨t', rfl⟩ := r'
        exact call_range_2 (range_it I1 q1 q2 q3 q4 q)
  · exact q1.elim
end
section
variable {K : PySem.W.Frag} {g : TG} {tb : TS} {D : Ends} {σ : St} {H : Hp}
theorem fo_rng {lo : Int} {n : Nat} (Pv : Nat → St → Hp → Prop) (h0 : Pv 0 σ H)
    (hs : ∀ (i : Nat) σ H, i < n → Pv i σ H → g (.int (lo + i)) σ H fun σ2 H2 => tb { D with nx := Pv (i + 1), ct := Pv (i + 1), bk := D.nx } σ2 H2) (hd : ∀ σ H, Pv n σ H → D.nx σ H) :
    forR (Itr lo n) g tb D σ H := for_range Pv h0 hs hd
end

section
variable {K : PySem.W.Frag} {tt : TT} {te : TE} {H : Hp} {tail : St} {Q : List V → Hp → Prop} {p : V → Bool} {f : V → V}
/-- n items, got by x; the target is the one name in slot 0 -/
theorem comp_pure {J : It} {n : Nat} {xs : List V} (hn : xs.length = n) (hz : n ≤ sizeLine) (go : ∀ i, i < n → J.go i H) (stop : J.stop n H) (yl : ∀ i x H', i < n → J.yld i H x H' → H' = H ∧ xs[i]? = some x)
    (ht : ∀ x ∈ xs, ∀ Q : Bool → Hp → Prop, Q (p x) H → tt (some x :: tail) H Q) (he : ∀ x ∈ xs, p x = true → ∀ Q : VK, Q (f x) H → te (some x :: tail) H Q) (q : Q ((xs.filter p).map f) H) :
    compR J (gName 0) tt te (none :: tail) H Q := by
  refine ⟨fun i m ys σ' H' => i ≤ n ∧ m = n - i ∧ ys = ((xs.take i).filter p).map f ∧ (∃ v, σ' = v :: tail) ∧ H' = H, ⟨n, Nat.zero_le _, rfl, by simp, ⟨_, rfl⟩, rfl⟩, ?_⟩
  rintro i m ys σ' H' ⟨hi, rfl, rfl, ⟨v, rfl⟩, rfl⟩
  by_cases e : i = n
  · subst e
    refine .inl ⟨stop, ?_⟩
    rw [List.take_of_length_le (by omega)]
    exact q
  · have hlt : i < n := by omega
    refine .inr ⟨go i hlt, ?_, fun ys' σ'' H'' => ys' = ((xs.take (i + 1)).filter p).map f ∧ (∃ v, σ'' = v :: tail) ∧ H'' = H', fun ys' σ'' H'' ⟨a, b, c⟩ => ⟨n - (i + 1), by omega, by omega, rfl, a, b, c⟩, fun x H'' y => ?_⟩
    · have h1 : (((xs.take i).filter p).map f).length ≤ i := by
        rw [List.length_map]
        exact Nat.le_trans (List.length_filter_le _ _) (by rw [List.length_take]; omega)
      omega
    · obtain ⟨rfl, hx⟩ := yl i x H'' hlt y
      have hm : x ∈ xs := List.mem_of_getElem? hx
      have tk : xs.take (i + 1) = xs.take i ++ [x] := by
        rw [List.take_succ, hx]; rfl
      show tt _ _ _
      refine ht x hm _ ?_
      cases hp : p x with
      | true =>
        rw [if_pos rfl]
        refine he x hm hp _ ⟨?_, ⟨_, rfl⟩, rfl⟩
        rw [tk, List.filter_append, List.map_append]
        simp [hp]
      | false =>
        rw [if_neg Bool.false_ne_true]
        refine ⟨?_, ⟨_, rfl⟩, rfl⟩
        rw [tk, List.filter_append, List.map_append]
        simp [hp]
theorem co_list {a : Addr} {xs : List V} (hS : SqL K H a xs) (hz : xs.length ≤ sizeLine) (ht : ∀ x ∈ xs, ∀ Q : Bool → Hp → Prop, Q (p x) H → tt (some x :: tail) H Q) (he : ∀ x ∈ xs, p x = true → ∀ Q : VK, Q (f x) H → te (some x :: tail) H Q) (q : Q ((xs.filter p).map f) H) :
    seqR K (.ref a) H fun J H2 => compR J (gName 0) tt te (none :: tail) H2 Q :=
  .inl ⟨xs, hS, comp_pure (n := xs.length) rfl hz (fun i hi => ⟨xs, xs[i], hS, by simp [hi]⟩) ⟨xs, hS, Nat.le_refl _⟩ (fun i x H' hi y => ⟨y.1, y.2 xs hS⟩) ht he q⟩
theorem compSt_one {ix : List Nat} {σ : St} : compSt 1 ix σ = none :: ix.map fun i => (σ[i]?).join := rfl
end
end L2


set_option maxRecDepth 100000
namespace L2
open PySem PySem.Spec PyProof.Rows

section
variable {X : Cx}
noncomputable def rIsB (neg : Bool) : R2 := fun x y H Q => match y with
  | .bl b => Q (.bl (if neg then !decide (x = .bl b) else decide (x = .bl b))) H
  | _ => False
theorem dec_blbl {a b : Bool} : decide (V.bl a = V.bl b) = decide (a = b) := by
  cases a <;> cases b <;> decide
theorem rIsB_bl {a b : Bool} {H : Hp} {Q : VK} : rIsB false (.bl a) (.bl b) H Q = Q (.bl (decide (a = b))) H := by
  show Q (.bl (if false = true then _ else decide (V.bl a = V.bl b))) H = _
  rw [if_neg Bool.false_ne_true, dec_blbl]
theorem rIsnotB_bl {a b : Bool} {H : Hp} {Q : VK} : rIsB true (.bl a) (.bl b) H Q = Q (.bl (!decide (a = b))) H := by
  show Q (.bl (if true = true then !decide (V.bl a = V.bl b) else _)) H = _
  rw [if_pos rfl, dec_blbl]

noncomputable def rIsN (neg : Bool) : R2 := fun x y H Q => match y with
  | .non => Q (.bl (if neg then !decide (x = .non) else decide (x = .non))) H
  | _ => False
theorem op_isNA : OpR X (compareOp .Is) (rIsN false) := OpR.imp op_isN fun x y H Q h => by
  unfold rIsN at h
  split at h
  · exact ⟨rfl, h⟩
  · exact h.elim
theorem rIsN_f {x : V} {H : Hp} {Q : VK} : rIsN false x .non H Q = Q (.bl (decide (x = .non))) H := rfl
theorem rIsN_t {x : V} {H : Hp} {Q : VK} : rIsN true x .non H Q = Q (.bl (!decide (x = .non))) H := rfl

noncomputable def rBitlen : V → List V → Hp → VK → Prop := fun x vs H Q => match x, vs with
  | .int i, [] => Q (.int ((Builtin.Int.intBits i : Nat) : Int)) H
  | _, _ => False
theorem tyV_int {K : PySem.W.Frag} {i : Int} {H : Hp} : tyV K "int" (.int i) H = True := by
  show ("int" = "int") = True
  simp
theorem tyV_str {K : PySem.W.Frag} {z : Str} {H : Hp} : tyV K "str" (.str z) H = True := by
  show ("str" = "str") = True
  simp
theorem rBitlen_int {i : Int} {H : Hp} {Q : VK} : rBitlen (.int i) [] H Q = Q (.int ((Builtin.Int.intBits i : Nat) : Int)) H := rfl

noncomputable def rSlA (K : PySem.W.Frag) : V → Option Int → Option Int → Hp → VK → Prop := fun x lo hi H Q => match x with
  | .ref a => (∃ xs, SqL K H a xs ∧ ∀ p, H p = none → Q (.ref p) (upd H p (.lst (cutV xs lo hi)))) ∨ rSlT K (.ref a) lo hi H Q
  | .str z => z.length ≤ sizeLine ∧ Q (.str (Txt.slice z lo hi)) H
  | _ => False
theorem rSlA_str {K : PySem.W.Frag} {z : Str} {lo hi : Option Int} {H : Hp} {Q : VK} : rSlA K (.str z) lo hi H Q = (z.length ≤ sizeLine ∧ Q (.str (Txt.slice z lo hi)) H) := rfl
noncomputable def rInA (K : PySem.W.Frag) (neg : Bool) : R2 := fun x y H Q => match y with
  | .ref p => ∃ xs, (SqL K H p xs ∨ SqT K H p xs) ∧ flatV x = true ∧ xs.all flatV = true ∧ Q (.bl (if neg then !inV x xs else inV x xs)) H
  | .str j => (match x with
    | .str i => Q (.bl (if neg then !(!(Builtin.Str.occurrences j i 0 j.length 1).isEmpty) else !(Builtin.Str.occurrences j i 0 j.length 1).isEmpty)) H
    | _ => False)
  | _ => False
theorem rInA_ref {K : PySem.W.Frag} {neg : Bool} {x : V} {p : Addr} {H : Hp} {Q : VK} : rInA K neg x (.ref p) H Q = (∃ xs, (SqL K H p xs ∨ SqT K H p xs) ∧ flatV x = true ∧ xs.all flatV = true ∧ Q (.bl (if neg then !inV x xs else inV x xs)) H) := rfl
theorem rInA_str {K : PySem.W.Frag} {neg : Bool} {i j : Str} {H : Hp} {Q : VK} : rInA K neg (.str i) (.str j) H Q = Q (.bl (if neg then !(!(Builtin.Str.occurrences j i 0 j.length 1).isEmpty) else !(Builtin.Str.occurrences j i 0 j.length 1).isEmpty)) H := rfl
end

inductive Dt where
  | non | int (i : Int) | str (z : Str) | l (ds : List Dt) | t (ds : List Dt)
/-- the value stands for the datum; n bounds the depth -/
noncomputable def Den (K : PySem.W.Frag) (H : Hp) : Nat → V → Dt → Prop
  | 0, x, d => (x = .non ∧ d = .non) ∨ (∃ i, x = .int i ∧ d = .int i) ∨ (∃ z, x = .str z ∧ d = .str z)
  | n + 1, x, d => Den K H n x d ∨ (∃ a xs ds, x = .ref a ∧ d = .l ds ∧ SqL K H a xs ∧ Paired (Den K H n) xs ds) ∨ (∃ a xs ds, x = .ref a ∧ d = .t ds ∧ SqT K H a xs ∧ Paired (Den K H n) xs ds)
theorem Paired.get {α β : Type} {F : α → β → Prop} : ∀ {xs : List α} {ys : List β} {i : Nat} {x : α}, Paired F xs ys → xs[i]? = some x → ∃ y, ys[i]? = some y ∧ F x y
  | _, _, _, _, .nil, e => by simp at e
  | _, _, 0, _, .cons r _, e => by simp at e; subst e; exact ⟨_, rfl, r⟩
  | _, _, i + 1, x, .cons _ t, e => by
    obtain ⟨u, h1, h2⟩ := Paired.get (i := i) (x := x) t (by simpa using e)
    exact ⟨u, by simpa using h1, h2⟩
open Classical in
theorem all_range_eq {α : Type} {xs ys : List α} {e : Nat → Bool} (hl : xs.length = ys.length) (h : ∀ j a b, xs[j]? = some a → ys[j]? = some b → e j = decide (a = b)) : (List.range xs.length).all e = decide (xs = ys) := by
  rw [Bool.eq_iff_iff, List.all_eq_true, decide_eq_true_eq]
  constructor
  · intro q
    refine List.ext_getElem hl fun j h1 h2 => ?_
    have := q j (List.mem_range.mpr h1)
    rw [h j xs[j] ys[j] (by simp [h1]) (by simp [h2]), decide_eq_true_eq] at this
    exact this
  · rintro rfl j hj
    have hj' := List.mem_range.mp hj
    rw [h j xs[j] xs[j] (by simp [hj']) (by simp [hj']), decide_eq_true_eq]
section
variable {X : Cx} {pins : List (Addr × Obj)} {σ : St} {H : Hp} {s : Shared}
open Classical in
theorem paired_det {F G : V → Dt → Prop} : ∀ {xs : List V} {ds es : List Dt}, Paired F xs ds → Paired G xs es → (∀ x d e, F x d → G x e → d = e) → ds = es
  | _, _, _, .nil, .nil, _ => rfl
  | _, _, _, .cons r t, .cons r' t', f => by rw [f _ _ _ r r', paired_det t t' f]
theorem list_not_tuple {a : Addr} {xs ys : List V} (I : Inv X pins σ H s) (h : SqL X.K H a xs) (h' : SqT X.K H a ys) : False := by
  obtain ⟨its, _, p, _⟩ := I.list h
  obtain ⟨its', _, p', _⟩ := I.tuple h'
  obtain ⟨o, n, e, c, _⟩ := p
  obtain ⟨o', e', c', _⟩ := p'
  rw [e] at e'
  cases e'
  rw [c] at c'
  injection c' with z
  exact absurd z (by decide)
theorem size_ne {its its2 : List Value} (h : ¬ its.length = its2.length) : (its.toArray.size != its2.toArray.size) = true := by
  rw [List.size_toArray, List.size_toArray, bne_iff_ne]
  exact h
open Classical in
open Classical in
theorem all_items {ds es : List Dt} {n : Nat} (hn : n = ds.length) (hl : ds.length = es.length) : (List.range n).all (fun j => decide (ds[j]? = es[j]?)) = decide (ds = es) := by
  subst hn
  exact all_range_eq hl fun j a b ha hb => by
    rw [ha, hb, Bool.eq_iff_iff, decide_eq_true_eq, decide_eq_true_eq]
    exact ⟨fun q => Option.some.inj q, fun q => by rw [q]⟩
open Classical in
end

noncomputable def rEqA (K : PySem.W.Frag) (neg : Bool) : R2 := fun x y H Q => match x, y with
  | .ref a, .ref b => ∃ n d e, n ≤ 60 ∧ Den K H n (.ref a) d ∧ Den K H n (.ref b) e ∧ ((d = e ∧ Q (.bl (!neg)) H) ∨ (d ≠ e ∧ Q (.bl neg) H))
  | x, y => scal x y = true ∧ Q (.bl (if neg then !decide (x = y) else decide (x = y))) H
section
variable {X : Cx}
open Classical in
open Classical in
end
section
variable {K : PySem.W.Frag} {H : Hp} {Q : VK}
theorem rEqA_int {i j : Int} : rEqA K false (.int i) (.int j) H Q = Q (.bl (decide (i = j))) H := by
  show (scal (.int i) (.int j) = true ∧ Q (.bl (if false = true then _ else decide (V.int i = V.int j))) H) = _
  rw [if_neg Bool.false_ne_true]
  exact rEq_int
theorem rNeA_int {i j : Int} : rEqA K true (.int i) (.int j) H Q = Q (.bl (!decide (i = j))) H := by
  show (scal (.int i) (.int j) = true ∧ Q (.bl (if true = true then !decide (V.int i = V.int j) else _)) H) = _
  rw [if_pos rfl]
  exact rNe_int
theorem rEqA_str {i j : Str} : rEqA K false (.str i) (.str j) H Q = Q (.bl (decide (i = j))) H := by
  show (scal (.str i) (.str j) = true ∧ Q (.bl (if false = true then _ else decide (V.str i = V.str j))) H) = _
  rw [if_neg Bool.false_ne_true]
  exact rEq_str
theorem rNeA_str {i j : Str} : rEqA K true (.str i) (.str j) H Q = Q (.bl (!decide (i = j))) H := by
  show (scal (.str i) (.str j) = true ∧ Q (.bl (if true = true then !decide (V.str i = V.str j) else _)) H) = _
  rw [if_pos rfl]
  exact rNe_str
theorem rEqA_bl {i j : Bool} : rEqA K false (.bl i) (.bl j) H Q = Q (.bl (decide (i = j))) H := by
  show (scal (.bl i) (.bl j) = true ∧ Q (.bl (if false = true then _ else decide (V.bl i = V.bl j))) H) = _
  rw [if_neg Bool.false_ne_true]
  exact rEq_bl
theorem rNeA_bl {i j : Bool} : rEqA K true (.bl i) (.bl j) H Q = Q (.bl (!decide (i = j))) H := by
  show (scal (.bl i) (.bl j) = true ∧ Q (.bl (if true = true then !decide (V.bl i = V.bl j) else _)) H) = _
  rw [if_pos rfl]
  exact rNe_bl
end
end L2


set_option maxRecDepth 100000
namespace L2
open PySem PySem.Spec PyProof.Rows

noncomputable def csOk (osc scope : Scope) (ON N : List Str) (nv : Nat) (ix : List Nat) : Bool :=
  scope.kind == .function && scope.names.all (fun y => y.2 != .cell && (y.2 != .local || scope.names.lookup y.1 == some .local) && (y.2 != .free || (osc.names.lookup y.1 == some .cell || osc.names.lookup y.1 == some .free))) &&
    N.length == nv + ix.length && (List.range ix.length).all fun j => match N[nv + j]?, ix[j]? with
      | some y, some i => ON[i]? == some y && (osc.names.lookup y == some .cell || osc.names.lookup y == some .free) && scope.names.lookup y == some .free
      | _, _ => false
theorem cs_of {X : Cx} {scope : Scope} {N : List Str} {nv : Nat} {ix : List Nat} (h : csOk X.env.scope scope X.N N nv ix = true) : CScope X scope N nv ix := by
  unfold csOk at h
  simp only [Bool.and_eq_true, beq_iff_eq, List.all_eq_true, List.mem_range, Bool.or_eq_true, bne_iff_ne, ne_eq] at h
  obtain ⟨⟨⟨h1, h2⟩, h3⟩, h4⟩ := h
  refine ⟨h1, fun y hy => (h2 y hy).1.1, fun y hy hl => ?_, fun y hy hf => ?_, h3, fun j y e => ?_⟩
  · rcases (h2 y hy).1.2 with z | z
    · exact absurd hl z
    · exact z
  · rcases (h2 y hy).2 with z | z
    · exact absurd hf z
    · exact z
  · have hj : j < ix.length := by
      have := (List.getElem?_eq_some_iff.mp e).1
      omega
    have q := h4 j hj
    rw [e, List.getElem?_eq_getElem hj] at q
    simp only [Bool.and_eq_true, beq_iff_eq, Bool.or_eq_true] at q
    exact ⟨ix[j], List.getElem?_eq_getElem hj, q.1.1, q.1.2, q.2⟩

noncomputable def tTC (K : PySem.W.Frag) (vs : List V) : TE := fun _ H Q => ∀ a, (∀ H, SqT K H a vs) → (∀ H, tyV K "tuple" (.ref a) H) → Q (.ref a) H
theorem all_range_bools (bs : List Bool) : (List.range bs.length).all (fun i => bs.getD i false) = bs.all id := by
  rw [Bool.eq_iff_iff, List.all_eq_true, List.all_eq_true]
  constructor
  · intro h b hb
    obtain ⟨i, hi, rfl⟩ := List.getElem_of_mem hb
    have := h i (List.mem_range.mpr hi)
    simpa [List.getD, hi] using this
  · intro h i hi
    have hi' := List.mem_range.mp hi
    have := h bs[i] (List.getElem_mem hi')
    simpa [List.getD, hi'] using this
section
variable {X : Cx}
noncomputable def rAll (K : PySem.W.Frag) (any : Bool) : List V → Hp → VK → Prop := fun xs H Q => match xs with
  | [.ref p] => ∃ bs : List Bool, SqL K H p (bs.map V.bl) ∧ Q (.bl (if any then bs.any id else bs.all id)) H
  | _ => False
theorem truth_bools {prog : Program} {w : World} {A : Around} {bs : List Bool} {its : List Value} (r : Vals (bs.map V.bl) its) : TruthOf prog w A (fun i v => its.toArray[i]? = some v) (fun i => bs.getD i false) := by
  intro i v s Q E hP hQ
  have hP' : its[i]? = some v := by simpa using hP
  have hi : i < bs.length := by
    have := (List.getElem?_eq_some_iff.mp hP').1
    have l := r.length
    rw [List.length_map] at l
    omega
  obtain ⟨u, hu, ru⟩ := r.get (i := i) (x := .bl bs[i]) (by rw [List.getElem?_map, List.getElem?_eq_getElem hi]; rfl)
  rw [hP'] at hu
  cases hu
  cases ru
  have e : bs.getD i false = bs[i] := by simp [List.getD, hi]
  replace hQ : Q (bs.getD i false) s := hQ
  rw [e] at hQ
  exact wpAny_truthy_bool hQ
theorem call_all (hc : X.calm = true) : CallR X (.builtin "all") (rAll X.K false) := by
  intro pins s σ H xs us Q I rs q
  unfold rAll at q
  split at q
  · rename_i p
    obtain ⟨u, rfl, ru⟩ := vals1 rs
    cases ru
    obtain ⟨bs, hS, q⟩ := q
    obtain ⟨its, r, pl, hz⟩ := I.list hS
    have hlt : p < s.heap.objs.size := by obtain ⟨o, e, _⟩ := pl.isList; exact Heap.lt_size e
    have hlen := r.length
    rw [List.length_map] at hlen
    refine call_all_walk (wpAny_pyIter_list pl.isList ⟨s.heap.objs.size, _, _, _, _, _, _, rfl, Walks.list (A := X.A.in1) (I.ok.hd hc) s.heap.objs.size p (Nat.ne_of_lt hlt) its.toArray, ⟨⟨_, Heap.get?_push_size _ rfl, rfl, rfl⟩, pl.isList.push _⟩, truth_bools r, fun h' tk hk => ?_⟩)
    refine ⟨.bl _, H, I.kept (h' := h') (t' := tk) fun b o e => hk b o (fun z => lt_ne e (Nat.le_refl _) (List.mem_singleton.mp z)) (Heap.get?_push_of_some _ e), ?_, q⟩
    rw [List.size_toArray, ← hlen, all_range_bools]
    rfl
  · exact q.elim
noncomputable def rSum (K : PySem.W.Frag) : List V → Hp → VK → Prop := fun xs H Q => match xs with
  | [.ref p] => ∃ ns : List Int, SqL K H p (ns.map V.int) ∧ Q (.int ns.sum) H
  | _ => False
theorem rAll_ref {K : PySem.W.Frag} {p : Addr} {H : Hp} {Q : VK} : rAll K false [.ref p] H Q = (∃ bs : List Bool, SqL K H p (bs.map V.bl) ∧ Q (.bl (bs.all id)) H) := rfl
theorem rAny_ref {K : PySem.W.Frag} {p : Addr} {H : Hp} {Q : VK} : rAll K true [.ref p] H Q = (∃ bs : List Bool, SqL K H p (bs.map V.bl) ∧ Q (.bl (bs.any id)) H) := rfl
theorem rSum_ref {K : PySem.W.Frag} {p : Addr} {H : Hp} {Q : VK} : rSum K [.ref p] H Q = (∃ ns : List Int, SqL K H p (ns.map V.int) ∧ Q (.int ns.sum) H) := rfl

noncomputable def rListA (K : PySem.W.Frag) : List V → Hp → VK → Prop := fun xs H Q => match xs with
  | [.ref p] => ∃ ys, (SqL K H p ys ∨ SqT K H p ys) ∧ ∀ l, H l = none → Q (.ref l) (upd H l (.lst ys))
  | _ => False
theorem call_listA : CallR X (.type "list") (rListA X.K) := CallR.imp call_list_of fun xs H Q h => by
  unfold rListA at h
  split at h
  · obtain ⟨ys, h1, h2⟩ := h
    exact ⟨_, ys, rfl, h1, h2⟩
  · exact h.elim
noncomputable def rTupleA (K : PySem.W.Frag) : List V → Hp → VK → Prop := fun xs H Q => match xs with
  | [.ref p] => ∃ ys, (SqL K H p ys ∧ ∀ l, H l = none → Q (.ref l) (upd H l (.tup ys))) ∨ (SqT K H p ys ∧ Q (.ref p) H)
  | _ => False
theorem rListA_ref {K : PySem.W.Frag} {p : Addr} {H : Hp} {Q : VK} : rListA K [.ref p] H Q = (∃ ys, (SqL K H p ys ∨ SqT K H p ys) ∧ ∀ l, H l = none → Q (.ref l) (upd H l (.lst ys))) := rfl
theorem rTupleA_ref {K : PySem.W.Frag} {p : Addr} {H : Hp} {Q : VK} : rTupleA K [.ref p] H Q = (∃ ys, (SqL K H p ys ∧ ∀ l, H l = none → Q (.ref l) (upd H l (.tup ys))) ∨ (SqT K H p ys ∧ Q (.ref p) H)) := rfl
noncomputable def rDivmodA : List V → Hp → VK → Prop := fun xs H Q => match xs with
  | [.int i, .int j] => CDiv i j ∧ ∀ p, H p = none → Q (.ref p) (upd H p (.tup [.int (i / j), .int (i % j)]))
  | _ => False
theorem rDivmodA_int {i j : Int} {H : Hp} {Q : VK} : rDivmodA [.int i, .int j] H Q = (CDiv i j ∧ ∀ p, H p = none → Q (.ref p) (upd H p (.tup [.int (i / j), .int (i % j)]))) := rfl

noncomputable def rAppendA : V → List V → Hp → VK → Prop := fun x vs H Q => match x, vs with
  | .ref l, [y] => ∃ xs, H l = some (.lst xs) ∧ xs.length < sizeLine ∧ Q .non (upd H l (.lst (xs ++ [y])))
  | _, _ => False
theorem mt_appendA : MtR X "list.append" rAppendA := by
  intro pins s σ H x xs v us Q I rx rs q
  unfold rAppendA at q
  split at q
  · obtain ⟨ys, h1, h2, h3⟩ := q
    exact mt_append pins s σ H _ _ v us Q I rx rs ⟨_, ys, _, rfl, rfl, h1, h2, h3⟩
  · exact q.elim
theorem pe_append {o e : Expr} {to te : TE} {apos cpos : Pos} (ho : PE X o to) (he : PE X e te) (hbase : attributeBase o "append" X.env (eval o X.env) = eval o X.env := by rfl)
    (hfew : ((backTo cpos (starEach [e] X.env)).all (fun x => !x.1) && (backToKw cpos (keywordEach [] X.env)).all (fun x => x.1.isSome)
      && decide ([e].length + ([] : List Keyword).length + (if ([] : List Keyword).isEmpty then 0 else 1) < 30)) = true := by rfl)
    (hline : (apos.endLine == cpos.line) = true := by rfl) (hs : starEach [e] X.env = (false, eval e X.env) :: starEach [] X.env := by rfl) (hplain : (backTo cpos (starEach [] X.env)).any (·.1) = false := by rfl) :
    PE X (.Call (.Attribute o "append" apos) [e] [] cpos) (tBM X.K "list" rAppendA to (tCons te tNil)) :=
  pe_bm F.plainAttrs_list F.slot_list_append F.type_list_append mt_appendA ho (pa_cons he pa_nil hs) hbase hfew hline hs hplain
theorem tyV_list {K : PySem.W.Frag} {a : Addr} {xs : List V} {H : Hp} (h : SqL K H a xs) : tyV K "list" (.ref a) H := .inl ⟨rfl, xs, h⟩
theorem rAppendA_ref {l : Addr} {y : V} {H : Hp} {Q : VK} : rAppendA (.ref l) [y] H Q = (∃ xs, H l = some (.lst xs) ∧ xs.length < sizeLine ∧ Q .non (upd H l (.lst (xs ++ [y])))) := rfl
/-- xs[i] = v -/
noncomputable def rSetA : V → V → V → Hp → (Hp → Prop) → Prop := fun o i v H Q => match o, i with
  | .ref p, .int k => ∃ xs j, H p = some (.lst xs) ∧ ixN xs.length k = some j ∧ Q (upd H p (.lst (xs.set j v)))
  | _, _ => False
theorem set_A : PSet X rSetA := by
  intro pins s σ H o i v ov iv u Q I ro ri rv q
  unfold rSetA at q
  split at q
  · obtain ⟨xs, j, h1, h2, h3⟩ := q
    exact set_list pins s σ H _ _ v ov iv u Q I ro ri rv ⟨_, xs, _, j, rfl, rfl, h1, h2, h3⟩
  · exact q.elim
theorem rSetA_ref {p : Addr} {k : Int} {v : V} {H : Hp} {Q : Hp → Prop} : rSetA (.ref p) (.int k) v H Q = (∃ xs j, H p = some (.lst xs) ∧ ixN xs.length k = some j ∧ Q (upd H p (.lst (xs.set j v)))) := rfl
/-- xs[i] -/
noncomputable def rIxA (K : PySem.W.Frag) : R2 := fun x y H Q => match x, y with
  | .ref p, .int i => ∃ xs v, (SqL K H p xs ∨ SqT K H p xs) ∧ atI xs i = some v ∧ Q v H
  | .str z, .int i => ∃ c, z.length ≤ sizeLine ∧ atI z.cps.toList i = some c ∧ Q (.str ⟨#[c]⟩) H
  | _, _ => False
theorem IxR.imp {r r' : R2} (h : IxR X r) (i : ∀ x y H Q, r' x y H Q → r x y H Q) : IxR X r' := fun value slice pins s σ H x y v u Q I rx ry q hs => h value slice pins s σ H x y v u Q I rx ry (i _ _ _ _ q) hs
theorem ix_A : IxR X (rIxA X.K) := IxR.imp ix_seq fun x y H Q h => by
  unfold rIxA at h
  split at h
  · obtain ⟨xs, v, h1, h2, h3⟩ := h
    rcases h1 with h1 | h1
    · exact .inl ⟨_, xs, _, v, rfl, rfl, h1, h2, h3⟩
    · exact .inr (.inl ⟨_, xs, _, v, rfl, rfl, h1, h2, h3⟩)
  · obtain ⟨c, h1, h2, h3⟩ := h
    exact .inr (.inr ⟨_, _, c, rfl, rfl, h1, h2, h3⟩)
  · exact h.elim
theorem ixA_list {K : PySem.W.Frag} {p : Addr} {i : Int} {H : Hp} {Q : VK} {xs : List V} {v : V} (h : SqL K H p xs) (e : atI xs i = some v) (q : Q v H) : rIxA K (.ref p) (.int i) H Q := ⟨xs, v, .inl h, e, q⟩
theorem ixA_tup {K : PySem.W.Frag} {p : Addr} {i : Int} {H : Hp} {Q : VK} {xs : List V} {v : V} (h : SqT K H p xs) (e : atI xs i = some v) (q : Q v H) : rIxA K (.ref p) (.int i) H Q := ⟨xs, v, .inr h, e, q⟩
theorem ixA_ints {K : PySem.W.Frag} {H : Hp} {a : Addr} {ns : List Int} {k : Int} {Q : VK} (hS : SqL K H a (ns.map V.int)) (h0 : 0 ≤ k) (h1 : k < (ns.length : Int)) (q : Q (.int (ns.getD k.toNat 0)) H) : rIxA K (.ref a) (.int k) H Q := by
  refine ixA_list hS ?_ q
  obtain ⟨j, rfl⟩ : ∃ j : Nat, k = (j : Int) := ⟨k.toNat, by omega⟩
  refine atI_nat ?_
  have hj : j < ns.length := by omega
  rw [List.getElem?_map, List.getElem?_eq_getElem hj]
  simp [List.getD, hj]
end
section
variable {K : PySem.W.Frag} {H : Hp} {σ : St}
theorem gTup_ref {n : Nat} {t : TGs} {a : Addr} {Q : St → Hp → Prop} : gTup K n t (.ref a) σ H Q = (∃ xs, SqT K H a xs ∧ xs.length = n ∧ t xs σ H Q) := by
  apply propext
  constructor
  · rintro ⟨b, xs, e, h⟩
    cases e
    exact ⟨xs, h⟩
  · rintro ⟨xs, h⟩
    exact ⟨a, xs, rfl, h⟩
theorem gCons_cons {t : TG} {u : TGs} {v : V} {r : List V} {Q : St → Hp → Prop} : gCons t u (v :: r) σ H Q = t v σ H fun σ' H' => u r σ' H' Q := by
  apply propext
  constructor
  · rintro ⟨v', r', e, h⟩
    cases e
    exact h
  · intro h
    exact ⟨v, r, rfl, h⟩
theorem gNil_nil {Q : St → Hp → Prop} : gNil [] σ H Q = Q σ H := by
  apply propext
  exact ⟨fun h => h.2, fun h => ⟨rfl, h⟩⟩
theorem ex_int {i : Int} {P : Int → Prop} : (∃ k, V.int i = .int k ∧ P k) = P i := by
  apply propext
  constructor
  · rintro ⟨k, e, q⟩
    cases e; exact q
  · intro q; exact ⟨i, rfl, q⟩
theorem small_line {n : Nat} (h : n ≤ 1000) : (n ≤ sizeLine) = True := by
  have := sizeLine_eq
  simp only [eq_iff_iff, iff_true]
  omega
theorem small_lt {n : Nat} (h : n ≤ 1000) : (n < sizeLine) = True := by
  have := sizeLine_eq
  simp only [eq_iff_iff, iff_true]
  omega
end
end L2


set_option maxRecDepth 100000
namespace L2
open PySem PySem.Spec PyProof.Rows
section
variable {X : Cx} (K : PySem.W.Frag) (h : X.K = K)
theorem op_addK (h : X.K = K) : OpR X (binaryOp .Add) (rAddA K) := h ▸ op_addA
theorem call_lenK (h : X.K = K) : CallR X (.builtin "len") (rLenA K) := h ▸ call_lenA
theorem call_isiK (h : X.K = K) : CallR X (.builtin "isinstance") (rIsi K) := h ▸ call_isi
theorem ix_K (h : X.K = K) : IxR X (rIxA K) := h ▸ ix_A
theorem pi_seqK {tg l : Expr} {tl : TE} (h : X.K = K) (hl : PE X l tl) : PI X tg l (iSeq K tl) := h ▸ pi_seq hl
theorem call_allK (h : X.K = K) (hc : X.calm = true) : CallR X (.builtin "all") (rAll K false) := h ▸ call_all hc
theorem call_listK (h : X.K = K) : CallR X (.type "list") (rListA K) := h ▸ call_listA
theorem pg_tupK {es : List Expr} {k : Nat} {pos : Pos} {t : TGs} {n : Nat} (h : X.K = K) (hc : X.calm = true) (hh : PGs X es t)
    (hn : (assignEach es X.env).length = n := by rfl) (hst : (assignEach es X.env).findIdx? (·.1) = none := by rfl) : PG X (.Tuple es k pos) (gTup K n t) := h ▸ pg_tup hc hh hn hst
theorem pe_appendK {o e : Expr} {to te : TE} {apos cpos : Pos} (h : X.K = K) (ho : PE X o to) (he : PE X e te) (hbase : attributeBase o "append" X.env (eval o X.env) = eval o X.env := by rfl)
    (hfew : ((backTo cpos (starEach [e] X.env)).all (fun x => !x.1) && (backToKw cpos (keywordEach [] X.env)).all (fun x => x.1.isSome)
      && decide ([e].length + ([] : List Keyword).length + (if ([] : List Keyword).isEmpty then 0 else 1) < 30)) = true := by rfl)
    (hline : (apos.endLine == cpos.line) = true := by rfl) (hs : starEach [e] X.env = (false, eval e X.env) :: starEach [] X.env := by rfl) (hplain : (backTo cpos (starEach [] X.env)).any (·.1) = false := by rfl) :
    PE X (.Call (.Attribute o "append" apos) [e] [] cpos) (tBM K "list" rAppendA to (tCons te tNil)) := h ▸ pe_append ho he hbase hfew hline hs hplain
end
noncomputable def tMid (t u : TS) : TS := fun D σ H => ∃ M : St → Hp → Prop, t { D with nx := M } σ H ∧ ∀ σ' H', M σ' H' → u D σ' H'
theorem pss_mid {X : Cx} {st : Stmt} {rest : List Stmt} {t u : TS} (h1 : PS X st t) (h2 : PSs X rest u) : PSs X (st :: rest) (tMid t u) := by
  intro pins s σ H D I ⟨M, h, k⟩
  refine wpAny_execs_cons (thn (h1 pins s σ H { D with nx := M } I h) fun f s1 q => ?_)
  cases f with
  | next =>
    obtain ⟨σ', H', I', q⟩ := q
    exact h2 pins s1 σ' H' D I' (k σ' H' q)
  | ret v => exact q
  | brk => exact q
  | cont => exact q
end L2


set_option maxRecDepth 100000
namespace L2
open PySem PySem.Spec PyProof.Rows
noncomputable def isStar : Expr → Bool
  | .Starred .. => true
  | _ => false
theorem starEach_of {e : Expr} {es : List Expr} {env : Env} (h : isStar e = false) : starEach (e :: es) env = (false, eval e env) :: starEach es env := by
  cases e <;> first | rfl | exact absurd h (by simp [isStar])
theorem noStars {pos : Pos} {env : Env} : ∀ {es : List Expr}, es.any isStar = false → (backTo pos (starEach es env)).any (·.1) = false
  | [], _ => rfl
  | e :: es, h => by
    rw [List.any_cons, Bool.or_eq_false_iff] at h
    rw [starEach_of h.1]
    show (false || (backTo pos (starEach es env)).any (·.1)) = false
    rw [noStars h.2]
    rfl
theorem assignEach_of {e : Expr} {es : List Expr} {env : Env} (h : isStar e = false) : (assignEach (e :: es) env).map (·.2) = assign e env :: (assignEach es env).map (·.2) := by
  cases e <;> first | rfl | exact absurd h (by simp [isStar])
theorem assignEach_len {env : Env} : ∀ {es : List Expr}, (assignEach es env).length = es.length
  | [] => rfl
  | e :: es => by
    have ih := @assignEach_len env es
    cases e <;> (show (assignEach es env).length + 1 = es.length + 1; rw [ih])
theorem assignEach_nostar {env : Env} : ∀ {es : List Expr}, es.any isStar = false → (assignEach es env).findIdx? (·.1) = none
  | [], _ => rfl
  | e :: es, h => by
    rw [List.any_cons, Bool.or_eq_false_iff] at h
    have ih := assignEach_nostar (env := env) h.2
    have e1 : assignEach (e :: es) env = (false, assign e env) :: assignEach es env := by
      have := h.1
      cases e <;> first | rfl | exact absurd this (by simp [isStar])
    rw [e1, List.findIdx?_cons, ih]
    rfl
/-- a test that is asked for its value's truth -/
noncomputable def plainTest : Expr → Bool
  | .UnaryOp .Not _ _ => false
  | .BoolOp .. => false
  | .IfExp .. => false
  | .Compare .. => false
  | _ => true
theorem isTrue_of {e : Expr} {env : Env} (h : plainTest e = true) (whole : Sem Value) : isTrue e env whole = (do let v ← whole; standAt e.pos; holding [v] (truthy v)) := by
  cases e with
  | UnaryOp op a p => cases op <;> first | rfl | exact absurd h (by simp [plainTest])
  | BoolOp => exact absurd h (by simp [plainTest])
  | IfExp => exact absurd h (by simp [plainTest])
  | Compare => exact absurd h (by simp [plainTest])
  | _ => rfl
section
variable {X : Cx} {CX : CXT} {k n : Nat} {ps : List Str} {sp : Sp} {x : Str} {p pos : Pos} {e : Expr} {es : List Expr} {t : TA} {te : TE} {id T : String} {r : List V → Hp → VK → Prop}
theorem pa_q (ha : PE X e te) (hr : PA X es t) (h : isStar e = false := by rfl) : PA X (e :: es) (tCons te t) := pa_cons ha hr (starEach_of h)
theorem pe_fnQ [Quiet CX] (G : FnAt X.prog X.w X.K X.mg X.base CX x k ps sp) (hr : Room n X.A) (hk : k ≤ n) (hg : Gl X x) (ha : PA X (e :: es) t)
    (hdb : (x == ("__debug__" : Str)) = false := by decide) (h : (e :: es).any isStar = false := by rfl) : PE X (.Call (.Name x p) (e :: es) [] pos) (tCall sp [] E0 t) := by
  rw [List.any_cons, Bool.or_eq_false_iff] at h
  exact pe_fn G hr hk hg ha hdb (starEach_of h.1) (noStars h.2)
theorem pe_callBQ (hc : CallR X (.builtin id) r) (hg : Gl X x) (hm : X.mg x = none) (hv : bootBuiltins x = some (.builtin id)) (ha : PA X (e :: es) t) (hn : x ≠ "__name__" := by decide) (hdb : (x == ("__debug__" : Str)) = false := by decide)
    (h : (e :: es).any isStar = false := by rfl) : PE X (.Call (.Name x p) (e :: es) [] pos) (tCB r t) := by
  rw [List.any_cons, Bool.or_eq_false_iff] at h
  exact pe_callB hc hg hm hv ha hn hdb (starEach_of h.1) (noStars h.2)
theorem pe_callTyQ (hc : CallR X (.type T) r) (hg : Gl X x) (hm : X.mg x = none) (hv : bootBuiltins x = some (.type T)) (ha : PA X (e :: es) t) (hn : x ≠ "__name__" := by decide) (hdb : (x == ("__debug__" : Str)) = false := by decide)
    (h : (e :: es).any isStar = false := by rfl) : PE X (.Call (.Name x p) (e :: es) [] pos) (tCB r t) := by
  rw [List.any_cons, Bool.or_eq_false_iff] at h
  exact pe_callTy hc hg hm hv ha hn hdb (starEach_of h.1) (noStars h.2)
theorem pgs_q {g : TG} {u : TGs} (h1 : PG X e g) (h2 : PGs X es u) (h : isStar e = false := by rfl) : PGs X (e :: es) (gCons g u) := pgs_cons h1 h2 (assignEach_of h)
theorem pg_tupQ (K : PySem.W.Frag) {j n : Nat} {u : TGs} (hK : X.K = K) (hc : X.calm = true) (hh : PGs X es u) (hn : es.length = n := by rfl) (h : es.any isStar = false := by rfl) : PG X (.Tuple es j pos) (gTup K n u) :=
  pg_tupK K hK hc hh (by rw [assignEach_len]; exact hn) (assignEach_nostar h)
theorem pt_q (he : PE X e te) (h : plainTest e = true := by rfl) : PT X e (tB te) := pt_val he (isTrue_of h)
end
end L2
namespace L2
open PySem PySem.Spec PyProof.Rows
noncomputable def isSl : Expr → Bool
  | .Slice .. => true
  | _ => false
noncomputable def isComp : Expr → Bool
  | .ListComp .. => true
  | .SetComp .. => true
  | .DictComp .. => true
  | _ => false
noncomputable def isTup : Expr → Bool
  | .Tuple .. => true
  | _ => false
noncomputable def isSetE : Expr → Bool
  | .Set .. => true
  | _ => false
theorem swaps_of {e : Expr} {tg : Option Expr} {l : Nat} {env : Env} (h : isComp e = false) : swapsWith e tg l env = pure false := by
  cases e <;> first | rfl | exact absurd h (by simp [isComp])
theorem stores_of {tg e : Expr} {env : Env} (h : isTup e = false) : swappedStores [tg] e env = pure none := by
  cases e with
  | Tuple => simp [isTup] at h
  | _ => cases tg <;> rfl
theorem nomarkQ {op : CmpOp} {b : Expr} (h : isSetE b = false) : behindInMarks op b = false := by
  cases b <;> first | rfl | exact absurd h (by simp [isSetE])
section
variable {X : Cx} {pos : Pos}
theorem pg_subQ {o i : Expr} {to ti : TE} {t : TSet} (ho : PE X o to) (hi : PE X i ti) (hs : PSet X t) (h : isSl i = false := by rfl) : PG X (.Subscript o i pos) (gSub to ti t) :=
  pg_sub ho hi hs fun v => by
    rw [arm_assign_Subscript]
    cases i <;> first | rfl | exact absurd h (by simp [isSl])
theorem ps_asgQ {tg e : Expr} {te : TE} {g : TG} (he : PE X e te) (hg : PG X tg g) (h1 : isComp e = false := by rfl) (h2 : isTup e = false := by rfl) (h3 : isStar tg = false := by rfl) : PS X (.Assign [tg] e pos) (tAsg te g) :=
  ps_asg he hg (swaps_of h1) (stores_of h2) (assignEach_of h3)
theorem ps_setQ {i : Nat} {x : Str} {e : Expr} {te : TE} {pos' : Pos} (hN : X.N.Nodup) (hi : X.N[i]? = some x) (hx : Loc X.env.scope x) (he : PE X e te) (h : isComp e = false := by rfl) (hf : X.fn x = true ∨ X.env.scope.names.lookup x = some .local := by first | exact .inl rfl | exact .inr rfl | assumption) :
    PS X (.Assign [.Name x pos'] e pos) (tAsg te (gName i)) := ps_set hN hi hx he (swaps_of h) hf
theorem ps_exprQ {e : Expr} {te : TE} (he : PE X e te) (h : isComp e = false := by rfl) : PS X (.Expr e pos) (tDrop te) := ps_expr he (swaps_of h)
end
end L2
namespace L2
open PySem PySem.Spec PyProof.Rows
noncomputable def tCs (vs : List V) : TA := fun _ H Q => Q vs H
end L2
namespace L2
open PySem PySem.Spec PyProof.Rows
end L2


namespace BitM
end BitM


namespace Rem
end Rem


namespace BitI
open PySem L2
end BitI


namespace Com
open PySem L2
theorem same_upd {H : Hp} {p : Addr} {o : HO} (h : H p = none) : Same H (upd H p o) := fun b u e => by rw [upd_ne (ne_of_none e h)]; exact e
theorem same_lst {K : PySem.W.Frag} {H H' : Hp} {a : Addr} {xs : List V} (e : Same H H') (h : SqL K H a xs) : SqL K H' a xs := e.seq h
theorem upd_old {H : Hp} {p q : Addr} {o x : HO} (h : H p = some x) (hn : H q = none) : upd H q o p = some x := by rw [upd_ne (ne_of_none h hn)]; exact h
theorem addA_lists {K : PySem.W.Frag} {H : Hp} {Q : VK} {l b : Addr} {xs zs : List V} (h1 : H l = some (.lst xs)) (h2 : H b = some (.lst zs)) (hz : xs.length + zs.length ≤ sizeLine) (q : ∀ p, H p = none → Q (.ref p) (upd H p (.lst (xs ++ zs)))) : rAddA K (.ref l) (.ref b) H Q :=
  .inl ⟨l, b, xs, zs, rfl, rfl, h1, h2, hz, q⟩
theorem cshl {i j : Int} (h0 : 0 ≤ j) (h1 : j ≤ 1000000) (h2 : 0 ≤ i) (h3 : i < 2 ^ 256) : CShl i j := by
  have e : (2 : Int) ^ 256 ≤ 2 ^ 512 := by decide +kernel
  exact ⟨⟨h0, h1⟩, by omega, by omega⟩
theorem small_ok {n : Nat} (h : n ≤ 1000) : n ≤ sizeLine := by rw [sizeLine_eq]; omega
theorem same_write {H H' : Hp} {p : Addr} {o : HO} (hs : Same H H') (hp : H p = none) : Same H (upd H' p o) := fun b u e => by rw [upd_ne (ne_of_none e hp)]; exact hs b u e
theorem isi_tup {K : PySem.W.Frag} {H : Hp} {a : Addr} {xs : List V} {Q : VK} (h : H a = some (.tup xs)) (q : Q (.bl true) H) : rIsi K [.ref a, .ty "tuple"] H Q := ⟨_, true, .tup h, kit_tt K, q⟩
theorem fresh_ne {H : Hp} {p q : Addr} {o : HO} (h : upd H p o q = none) : q ≠ p := fun e => by
  subst e
  rw [upd_same] at h
  cases h
theorem fresh_old {H : Hp} {p q : Addr} {o : HO} (h : upd H p o q = none) : H q = none := by
  rw [upd_ne (fresh_ne h)] at h
  exact h

theorem ixN_in {n i : Nat} (h : i < n) : ixN n (i : Int) = some i := by
  unfold ixN
  rw [if_pos (by omega), if_pos (by omega)]
  simp
end Com


set_option maxRecDepth 100000
namespace L2
open PySem PySem.Spec PyProof.Rows

structure KlsAt (K : PySem.W.Frag) (mg : Str → Option Value) (x : Str) (C : Addr) : Prop where
  mgC : mg x = some (.ref C)
  cl : Cls K C
  mks : PySem.W.makesIn K C = true
  kp : PySem.W.keepIn K (.ref C) = true
noncomputable def MethAt (K : PySem.W.Frag) (C : Addr) (m q : Str) (st : Stmt) : Prop := ∃ f fd, Fun K m q st f fd ∧ Meth K C m f
noncomputable def MtAt (P : Program) (w : World) (K : PySem.W.Frag) (mg : Str → Option Value) (base : Heap) (CX : CXT) (C : Addr) (m : Str) (k : Nat) (ps : List Str) (sp : Sp) : Prop :=
  ∃ f fd, FnOk P w K mg base CX k f fd ps sp ∧ Meth K C m f ∧ Binds K fd ps []
theorem klsat_mk {K : PySem.W.Frag} {h : Heap} {mg : Str → Option Value} {x : Str} {C : Addr} (X : K.In h) (G : h.Ns mainGlobals mg) (a : PySem.W.nsIn K mainGlobals x = some (some (.ref C)))
    (pg : PySem.W.plainGet K C Str.empty = true) (hd : PySem.W.hasDictIn K C = true) (po : PySem.W.plainOver K C = true) (sa : PySem.W.findIn K (.ref C) "__setattr__" = some (some (.builtin "object.__setattr__"))) (mk : PySem.W.makesIn K C = true) (kc : PySem.W.keepIn K (.ref C) = true) : KlsAt K mg x C :=
  ⟨PySem.W.mg_of X G a, ⟨pg, hd, po, sa⟩, mk, kc⟩
theorem methat_mk {K : PySem.W.Frag} {C : Addr} {m q : Str} {st : Stmt} {f : Addr} {oc : Value} {od an : Option Addr} {osl : Array (Option Value)} {kV doc pm cdv ct : Value}
    (a : PySem.W.findIn K (.ref C) m = some (some (.ref f))) (i : PySem.W.isFn K (.ref f) = true)
    (l : K.lookup f = some ⟨oc, od, .func (PySem.W.fnOf m q (defArgs st) (defBody st) (defScope st) .none kV doc pm an cdv ct), osl⟩) (c : PySem.W.codeIn K cdv q = true) (k : PySem.W.keepIn K (.ref f) = true) : MethAt K C m q st :=
  ⟨f, _, fun_mk l c k, ⟨a, i, k⟩⟩
section
variable {P : Program} {w : World} {K : PySem.W.Frag} {mg : Str → Option Value} {base : Heap} {CX : CXT}
theorem MethAt.fn {C : Addr} {m q : Str} {st : Stmt} {N ps : List Str} {k : Nat} {sp : Sp} (F : MethAt K C m q st) (S : FnScope N ps (defScope st))
    (hb : ∀ (kV doc pm : Value) (an : Option Addr) (cdv ct : Value) (us : List Value), us.length = ps.length → bindArgs (PySem.W.fnOf m q (defArgs st) (defBody st) (defScope st) .none kV doc pm an cdv ct) ⟨us, []⟩ = pure (ps.zip us))
    (len : ∀ vs H Q E, sp vs H Q E → vs.length = ps.length)
    (hbody : ∀ (f : Addr) (cdv : Value) (A : Around) (outer : List Env) (s : Shared) (H : Hp) (vs : List V) (Q : VK) (E : XK), Room k (A.deeper (envOfC q (defScope st) s.heap.objs.size f cdv)) → sp vs H Q E →
      ∃ t, PSs (cxOf CX P w K mg base N q (defScope st) f cdv A outer s H E).nox (defBody st) t ∧ t { nx := fun _ H' => Q .non H', rt := Q } (start N vs) H) : MtAt P w K mg base CX C m (k + 1) ps sp := by
  obtain ⟨f, fd, F, hm⟩ := F
  have bd := F.binds hb
  obtain ⟨oc, od, kV, doc, pm, an, cdv, ct, osl, rfl, lk, hcd⟩ := F.ex
  refine ⟨f, _, fn_of lk hcd S len fun A outer s H vs Q E hr hsp => ?_, hm, bd⟩
  obtain ⟨t, h, q⟩ := hbody f cdv A outer s H vs Q E hr hsp
  exact ⟨t, h.nox, q⟩
end

noncomputable def rFld (C : Addr) (f : Str) (x : V) (H : Hp) (Q : VK) : Prop := ∃ a, x = .ref a ∧ ∃ dx fs, H a = some (.ins C dx fs) ∧ ∃ v, fs.lookup f = some v ∧ Q v H
noncomputable def tFldC (C : Addr) (f : Str) (ta : TE) : TE := fun σ H Q => ta σ H fun x H1 => rFld C f x H1 Q
noncomputable def rSetF (C : Addr) (f : Str) (y x : V) (H : Hp) (N : Hp → Prop) : Prop := ∃ a, x = .ref a ∧ ∃ dx fs, H a = some (.ins C dx fs) ∧ fs.length < 1000 ∧ N (upd H a (.ins C dx (putF f y fs)))
noncomputable def sFldC (C : Addr) (f : Str) (ta tv : TE) : TS := fun D σ H => tv σ H fun y H1 => ta σ H1 fun x H2 => rSetF C f y x H2 (D.nx σ)
noncomputable def rAugF (C : Addr) (f : Str) (x : V) (H : Hp) (K : V → (V → Hp → Prop) → Prop) (N : Hp → Prop) : Prop := ∃ a, x = .ref a ∧ ∃ dx fs, H a = some (.ins C dx fs) ∧ ∃ v, fs.lookup f = some v ∧
  K v fun z H3 => ∃ dx' fs', H3 a = some (.ins C dx' fs') ∧ fs'.length < 1000 ∧ N (upd H3 a (.ins C dx' (putF f z fs')))
noncomputable def sAugC (C : Addr) (f : Str) (ta tv : TE) (rd : R2) : TS := fun D σ H => ta σ H fun x H1 => rAugF C f x H1 (fun v R => tv σ H1 fun y H2 => rd v y H2 R) (D.nx σ)
noncomputable def rMt (C : Addr) (m : Str) (x : V) (H : Hp) (N : Prop) : Prop := ∃ a, x = .ref a ∧ ∃ dx fs, H a = some (.ins C dx fs) ∧ fs.lookup m = none ∧ N
noncomputable def tMtC (C : Addr) (m : Str) (sp : Sp) (ta : TE) (t : TA) : TE := fun σ H Q => ta σ H fun x H1 => rMt C m x H1 (t σ H1 fun vs H2 => sp (x :: vs) H2 Q E0)
theorem rFld_ref {C a : Addr} {f : Str} {H : Hp} {Q : VK} : rFld C f (.ref a) H Q = ∃ dx fs, H a = some (.ins C dx fs) ∧ ∃ v, fs.lookup f = some v ∧ Q v H := by
  apply propext; unfold rFld; constructor
  · rintro ⟨b, e, h⟩; cases e; exact h
  · exact fun h => ⟨a, rfl, h⟩
theorem rSetF_ref {C a : Addr} {f : Str} {y : V} {H : Hp} {N : Hp → Prop} : rSetF C f y (.ref a) H N = ∃ dx fs, H a = some (.ins C dx fs) ∧ fs.length < 1000 ∧ N (upd H a (.ins C dx (putF f y fs))) := by
  apply propext; unfold rSetF; constructor
  · rintro ⟨b, e, h⟩; cases e; exact h
  · exact fun h => ⟨a, rfl, h⟩
theorem rAugF_ref {C a : Addr} {f : Str} {H : Hp} {K : V → (V → Hp → Prop) → Prop} {N : Hp → Prop} : rAugF C f (.ref a) H K N = ∃ dx fs, H a = some (.ins C dx fs) ∧ ∃ v, fs.lookup f = some v ∧
    K v fun z H3 => ∃ dx' fs', H3 a = some (.ins C dx' fs') ∧ fs'.length < 1000 ∧ N (upd H3 a (.ins C dx' (putF f z fs'))) := by
  apply propext; unfold rAugF; constructor
  · rintro ⟨b, e, h⟩; cases e; exact h
  · exact fun h => ⟨a, rfl, h⟩
theorem rMt_ref {C a : Addr} {m : Str} {H : Hp} {N : Prop} : rMt C m (.ref a) H N = ∃ dx fs, H a = some (.ins C dx fs) ∧ fs.lookup m = none ∧ N := by
  apply propext; unfold rMt; constructor
  · rintro ⟨b, e, h⟩; cases e; exact h
  · exact fun h => ⟨a, rfl, h⟩
theorem ex_ins {C d : Addr} {l : List (Str × V)} {N : Addr → List (Str × V) → Prop} : (∃ dx fs, some (HO.ins C d l) = some (HO.ins C dx fs) ∧ N dx fs) = N d l := by
  apply propext; constructor
  · rintro ⟨dx, fs, e, h⟩; cases e; exact h
  · exact fun h => ⟨d, l, rfl, h⟩
theorem ex_som {x : V} {N : V → Prop} : (∃ v, some x = some v ∧ N v) = N x := by
  apply propext; constructor
  · rintro ⟨v, e, h⟩; cases e; exact h
  · exact fun h => ⟨x, rfl, h⟩
theorem noattr_mk {K : PySem.W.Frag} {C : Addr} {f : Str} (h : PySem.W.findIn K (.ref C) f = some none) : NoAttr K C f := h
theorem same_new {H : Hp} {x dx C : Addr} {fs : List (Str × V)} (nx : H x = none) (nd : H dx = none) : Same H (upd (upd H dx (.own x)) x (.ins C dx fs)) := fun b o e => by
  rw [upd_ne (ne_of_none e nx), upd_ne (ne_of_none e nd)]; exact e
section
variable {X : Cx} {C : Addr} {o e value : Expr} {es : List Expr} {f m x : Str} {p pos pos' tpos apos : Pos} {ta tv : TE} {t : TA} {k n : Nat} {ps : List Str} {sp : Sp}
theorem pe_fldC (he : PE X e ta) (c : KlsAt X.K X.mg x C) (nn : NoAttr X.K C f) (hb : attributeBase e f X.env (eval e X.env) = eval e X.env) : PE X (.Attribute e f pos) (tFldC C f ta) := by
  intro pins s σ H Q I h
  refine attr_of hb (thn (he pins s σ H _ I h) fun u s1 ⟨x, H1, I1, rx, a, ex, dx, fs, ea, v, l, q⟩ => ?_)
  subst ex
  obtain rfl : u = Value.ref a := rx
  exact getattr_ok I1 ea c.cl nn l fun u' s2 I2 ru => ⟨v, H1, I2, ru, q⟩
theorem ps_fldC (ha : PE X o ta) (hv : PE X value tv) (c : KlsAt X.K X.mg x C) (nn : NoAttr X.K C f) (hs : isComp value = false := by rfl) : PS X (.Assign [.Attribute o f pos'] value pos) (sFldC C f ta tv) := by
  intro pins s σ H D I h
  refine plainObj_wpAny_Assign_Attribute (thn (hv pins s σ H _ I h) fun u s1 ⟨y, H1, I1, ry, q⟩ => thn (ha pins s1 σ H1 _ I1 q) fun ov s2 ⟨x, H2, I2, rx, a, ex, dx, fs, ea, l, q2⟩ => ?_) (swaps_of hs)
  subst ex
  obtain rfl : ov = Value.ref a := rx
  exact setattr_ok I2 ea c.cl nn l ry fun s3 I3 => ⟨σ, _, I3, q2⟩
theorem ps_augC {op : Operator} {rd : R2} (ha : PE X o ta) (hv : PE X value tv) (c : KlsAt X.K X.mg x C) (nn : NoAttr X.K C f) (hop : OpR X (inplaceOp op) rd) : PS X (.AugAssign (.Attribute o f tpos) op value pos) (sAugC C f ta tv rd) := by
  intro pins s σ H D I h
  refine wpAny_AugAssign_AttributeAny (thn (ha pins s σ H _ I h) fun ov s1 ⟨x, H1, I1, rx, a, ex, dx, fs, ea, v, l, q⟩ => ?_)
  subst ex
  obtain rfl : ov = Value.ref a := rx
  refine getattr_ok I1 ea c.cl nn l fun u s2 I2 ru => thn (hv pins s2 σ H1 _ I2 q) fun w3 s3 ⟨y, H2, I3, ry, q3⟩ => thn (hop pins s3 σ H2 v y u w3 _ I3 ru ry q3) fun w4 s4 ⟨z, H3, I4, rz, dx', fs', ea', l', q4⟩ => ?_
  exact setattr_ok I4 ea' c.cl nn l' rz fun s5 I5 => ⟨σ, _, I5, q4⟩
/-- o.m(e, ..) -/
theorem pe_mtC {CX : CXT} [Quiet CX] {pl : Sem Bool} (he : PE X o ta) (c : KlsAt X.K X.mg x C) (G : MtAt X.prog X.w X.K X.mg X.base CX C m k ps sp) (hr : Room n X.A) (hk : k ≤ n) (ha : PA X (e :: es) t) (hst : (e :: es).any isStar = false := by rfl)
    (ht : eval (.Call (.Attribute o m apos) (e :: es) [] pos) X.env = (do
      let ov ← eval o X.env
      standAt apos.atName
      let (f, first) ← holding [ov] (getMethod ov m pl)
      callWith pos f first (backTo pos (starEach (e :: es) X.env)) (backToKw pos (keywordEach [] X.env))) := by rfl) :
    PE X (.Call (.Attribute o m apos) (e :: es) [] pos) (tMtC C m sp ta t) := by
  obtain ⟨f, fd, F, hm, b⟩ := G
  rw [List.any_cons, Bool.or_eq_false_iff] at hst
  intro pins s σ H Q I h
  refine PySem.W.methodCall_KW (pl := pl) (thn (he pins s σ H _ I h) fun u s1 ⟨x, H1, I1, rx, a, ex, dx, fs, ea, l, q⟩ => ?_) ht
  subst ex
  obtain rfl : u = Value.ref a := rx
  refine getmeth_ok I1 ea c.cl hm l ?_
  refine PySem.W.callWith_K (first := [.ref a]) (h₀ := X.base) I.ok.mod.kin hm.kp (thn (ha pos pins s1 σ H1 _ I1 q) fun us s2 ⟨vs, H2, I2, r, q2⟩ => ⟨I2.kIn, ?_⟩) (starEach_of hst.1) (noStars hst.2)
  exact run_fn (us := .ref a :: us) (vs := .ref a :: vs) F (hr.mono hk) b .nil (Quiet.pass X) I2 (.cons rfl r) (by rw [List.append_nil]; exact q2)
/-- o.m() -/
theorem pe_mtC0 {CX : CXT} [Quiet CX] {pl : Sem Bool} (he : PE X o ta) (c : KlsAt X.K X.mg x C) (G : MtAt X.prog X.w X.K X.mg X.base CX C m k ps sp) (hr : Room n X.A) (hk : k ≤ n)
    (ht : eval (.Call (.Attribute o m apos) [] [] pos) X.env = (do
      let ov ← eval o X.env
      standAt apos.atName
      let (f, first) ← holding [ov] (getMethod ov m pl)
      callWith pos f first (backTo pos (starEach [] X.env)) (backToKw pos (keywordEach [] X.env))) := by rfl) :
    PE X (.Call (.Attribute o m apos) [] [] pos) (tMtC C m sp ta tNil) := by
  obtain ⟨f, fd, F, hm, b⟩ := G
  intro pins s σ H Q I h
  refine PySem.W.methodCall_KW (pl := pl) (thn (he pins s σ H _ I h) fun u s1 ⟨x, H1, I1, rx, a, ex, dx, fs, ea, l, q⟩ => ?_) ht
  subst ex
  obtain rfl : u = Value.ref a := rx
  refine getmeth_ok I1 ea c.cl hm l ?_
  exact PySem.W.callWith_K0 (first := [.ref a]) I1.kIn hm.kp (run_fn (us := [.ref a]) (vs := [.ref a]) F (hr.mono hk) b .nil (Quiet.pass X) I1 (.cons rfl .nil) q)
theorem pe_mkC {CX : CXT} [Quiet CX] (c : KlsAt X.K X.mg x C) (G : MtAt X.prog X.w X.K X.mg X.base CX C "__init__" k ps sp) (hr : Room n X.A) (hk : k + 1 ≤ n) (hg : Gl X x) (ha : PA X (e :: es) t)
    (hdb : (x == ("__debug__" : Str)) = false := by decide) (h : (e :: es).any isStar = false := by rfl) : PE X (.Call (.Name x p) (e :: es) [] pos) (tMake C sp [] E0 t) := by
  obtain ⟨f, fd, F, hm, b⟩ := G
  rw [List.any_cons, Bool.or_eq_false_iff] at h
  exact pe_make ⟨c.mks, hm.at_, hm.fn, c.kp⟩ F (hr.mono hk) hg c.mgC b .nil (Quiet.pass X) ha hdb (starEach_of h.1) (noStars h.2)
end
end L2


set_option maxRecDepth 100000
namespace L2
open PySem PySem.Spec PyProof.Rows
theorem atI_n {α : Type} {xs : List α} {i : Nat} {x : α} (h : xs[i]? = some x) : atI xs (i : Int) = some x := by
  have hl : i < xs.length := (List.getElem?_eq_some_iff.mp h).1
  unfold atI ixN
  rw [if_pos (by omega), if_pos (by omega)]
  exact h
theorem atI_0 {α : Type} {a : α} {l : List α} : atI (a :: l) 0 = some a := atI_n (i := 0) rfl
theorem atI_1 {α : Type} {a b : α} {l : List α} : atI (a :: b :: l) 1 = some b := atI_n (i := 1) rfl
theorem atI_2 {α : Type} {a b c : α} {l : List α} : atI (a :: b :: c :: l) 2 = some c := atI_n (i := 2) rfl
theorem atI_3 {α : Type} {a b c d : α} {l : List α} : atI (a :: b :: c :: d :: l) 3 = some d := atI_n (i := 3) rfl
theorem atI_4 {α : Type} {a b c d e : α} {l : List α} : atI (a :: b :: c :: d :: e :: l) 4 = some e := atI_n (i := 4) rfl
theorem atI_5 {α : Type} {a b c d e f : α} {l : List α} : atI (a :: b :: c :: d :: e :: f :: l) 5 = some f := atI_n (i := 5) rfl
/-- all but p stays -/
noncomputable def But (p : Addr) (H H' : Hp) : Prop := ∀ b o, H b = some o → b ≠ p → H' b = some o
theorem But.refl {p : Addr} {H : Hp} : But p H H := fun _ _ h _ => h
theorem But.upd {p : Addr} {H : Hp} {o : HO} : But p H (upd H p o) := fun b x hb hne => by rw [upd_ne hne]; exact hb
theorem But.write {p : Addr} {H H' : Hp} {o : HO} (h : But p H H') : But p H (L2.upd H' p o) := fun b x hb hne => by rw [upd_ne hne]; exact h b x hb hne
theorem But.new {p q : Addr} {H H' : Hp} {o : HO} (h : But p H H') (hq : H' q = none) : But p H (L2.upd H' q o) := fun b x hb hne => by
  rw [upd_ne (ne_of_none (h b x hb hne) hq)]; exact h b x hb hne
end L2


namespace MeterM
end MeterM
namespace MeterM
end MeterM


namespace WaysM
structure IsLow (t b t' b' s : Int) : Prop where
  s0 : 0 < s
  tt : t = s * t'
  bb : b = s * b'
  t0 : 0 ≤ t'
  b0 : 0 < b'
  od : ¬ (t' % 2 = 0 ∧ b' % 2 = 0)
  tl : t' ≤ t
  bl : b' ≤ b
end WaysM


set_option maxRecDepth 100000
namespace L2
open PySem PySem.Spec PyProof.Rows
end L2
namespace L2
end L2
namespace WaysI
open PySem L2
end WaysI


set_option maxRecDepth 100000
namespace L2
open PySem PySem.Spec PyProof.Rows
end L2


set_option maxRecDepth 100000
namespace L2
open PySem PySem.Spec PyProof.Rows
end L2


set_option maxRecDepth 100000
namespace L2
open PySem PySem.Spec PyProof.Rows
section
variable {X : Cx} {i o e value : Expr} {ti to te tv : TE} {pos pos' apos cpos : Pos}
end
end L2


set_option maxRecDepth 100000
namespace L2
open PySem PySem.Spec PyProof.Rows
end L2


set_option maxRecDepth 100000
namespace L2
open PySem PySem.Spec PyProof.Rows
end L2


set_option maxRecDepth 100000
namespace L2
open PySem PySem.Spec PyProof.Rows
section
variable {X : Cx} {K : PySem.W.Frag}
end
end L2


set_option maxRecDepth 100000
namespace L2
open PySem PySem.Spec PyProof.Rows
section
variable {X : Cx} {a b c d : Expr} {ta tb tc td : TE} {pos : Pos}
end
end L2


set_option maxRecDepth 100000
namespace L2
open PySem PySem.Spec PyProof.Rows
section
variable {X : Cx} {i o e value : Expr} {ti to te tv : TE} {pos pos' apos cpos : Pos}
end
end L2


set_option maxRecDepth 100000
namespace L2
open PySem PySem.Spec PyProof.Rows
noncomputable def Ite (a : Addr) : It :=
  ⟨fun i H => ∃ xs x, H a = some (.lst xs) ∧ xs[i]? = some x, fun i H v H' => ∃ p x, (∀ xs, H a = some (.lst xs) → xs[i]? = some x) ∧ H p = none ∧ v = .ref p ∧ H' = upd H p (.tup [.int i, x]), fun i H => ∃ xs, H a = some (.lst xs) ∧ xs.length ≤ i⟩
section
variable {X : Cx} {pins : List (Addr × Obj)} {σ : St} {H : Hp} {s : Shared} {h' : Heap}
theorem Inv.tupd {t' : Nat} {p : Addr} {ch : List Addr} {xs : List V} (I : Inv X pins σ H s) (k : ∀ b o, b ∉ ch → s.heap.get? b = some o → h'.get? b = some o) (f : ∀ b ∈ ch, FpOk X pins H b)
    (hp : s.heap.objs.size ≤ p) (new : ObjOk X.prog X.w (upd H p (.tup xs)) h' p (.tup xs)) : Inv X pins σ (upd H p (.tup xs)) { s with heap := h', toks := t' } := by
  have hn := I.hok.fresh hp
  have nit : ∀ b u, H b = some u → b ∉ ch := fun b u q z => by rw [(f b z).1] at q; cases q
  refine I.step (g' := s.gens) (d' := s.drawn) (ch := ch) (fun b hb => ?_) (fun b o _ _ hc q _ => k b o hc q) (fun b o _ _ hc q _ => ⟨o.slots, k b o hc q⟩)
    (fun b o _ q n => by rw [upd_ne (Nat.ne_of_lt (Nat.lt_of_lt_of_le (Heap.lt_size q) hp))]; exact n)
    (fun b o hc q => ⟨o, k b o hc q⟩) (fun b xs q => by rw [upd_ne (ne_of_none q hn)]; exact q) (fun b u xs q => by rw [upd_ne (ne_of_none q hn)]; exact q) (fun b ps q => ⟨#[], by rw [upd_ne (ne_of_none q hn), q]; simp⟩) (fun m hm => ?_) (fun b u q => ?_) I.bare
  · obtain ⟨e0, e1, e2, e3, e4, e5⟩ := f b hb
    exact ⟨e3, e1, e4, e5⟩
  · obtain ⟨o, es, ep, ho, r⟩ := hm
    exact ⟨o, es, ep, k _ o (fun z => (f _ z).2.1 rfl) ho, r⟩
  · by_cases hb : b = p
    · subst hb; rw [upd_same] at q; cases q; exact new
    · rw [upd_ne hb] at q
      refine (I.hok b u q).stay (fun c v hc q2 => ?_) (fun c q => by rw [upd_ne (ne_of_none q hn)]; exact q) fun c xs q => by rw [upd_ne (ne_of_none q hn)]; exact q
      rcases hc with z | z
      · subst z; exact k _ v (nit _ u q) q2
      · exact k c v (nit c _ z) q2
end
theorem turn_enum {P : Program} {w : World} {K : PySem.W.Frag} {elts : List Expr} {x1} {pos : Pos} (a e it : Addr) (ne : e ≠ it) : Turn P w K (.Tuple elts x1 pos) (Ite a) [e, it] e (fun i h => (∃ old, IsEnum h e it ((i : Nat) : Int) old) ∧ h.IsListIter it a i) where
  mem := by simp
  obj := fun i h st b hb => by
    obtain ⟨⟨old, he⟩, ⟨o, ho, c, d⟩⟩ := st
    have q : b = e ∨ b = it := by simpa using hb
    rcases q with rfl | rfl
    · exact ⟨_, he, fun v z => by cases z⟩
    · exact ⟨o, ho, fun v z => by rw [d] at z; cases z⟩
  keep := fun i h h' st k => ⟨st.1.elim fun old he => ⟨old, k e (by simp) _ he⟩, st.2.at fun o q => k it (by simp) o q⟩
  item := by
    intro X hP hw hK hc i pins s σ H E I hf st hg
    subst hP hw hK
    obtain ⟨⟨old, he⟩, hit⟩ := st
    obtain ⟨xs, x, hq, hx⟩ := hg
    obtain ⟨z, its, n, r, eo⟩ := I.hok a _ hq
    obtain ⟨u, hu, ru⟩ := r.get hx
    have fe := hf e (by simp)
    have fi := hf it (by simp)
    have hes : e < s.heap.objs.size := Heap.lt_size he
    have his : it < s.heap.objs.size := by obtain ⟨o, ho, _⟩ := hit; exact Heap.lt_size ho
    have hp := I.hok.fresh (Nat.le_refl s.heap.objs.size)
    refine wpAny_pyNext_enum_item he hit ⟨_, eo, rfl, n, rfl⟩ (x := u) (by simpa using hu) ne fun h1 heo hit1 ht1 hz1 hk1 => ⟨_, rfl, wpAny_letOwnedTupleGo_enum heo fun h2 he2 hs2 => ?_⟩
    replace hs2 : Heap.SameBut e h1 h2 := hs2
    have ht2 : h2.get? s.heap.objs.size = some { cls := .type "tuple", data := .seq #[.int i s.toks, u] } := (hs2.2 _ (Nat.ne_of_gt hes)).trans ht1
    refine ⟨.ref s.heap.objs.size, upd H s.heap.objs.size (.tup [.int i, x]), ?_, rfl, ⟨_, x, fun ys hy => by rw [hq] at hy; cases hy; exact hx, hp, rfl, rfl⟩, ⟨⟨u, ?_⟩, ?_⟩, fun b hb => ?_⟩
    · refine I.tupd (t' := s.toks + 1) (ch := [e, it]) (fun b o bn q => (hs2.2 b (fun z => bn (by simp [z]))).trans (hk1 b o (fun z => bn (by simp [z])) (fun z => bn (by simp [z])) q)) hf (Nat.le_refl _) ⟨by show 2 ≤ sizeLine; rw [sizeLine_eq]; decide, [.int i s.toks, u], .cons ⟨_, rfl⟩ (.cons ru .nil), ?_⟩
      exact ⟨_, ht2, rfl, _, rfl⟩
    · have : ((i + 1 : Nat) : Int) = (i : Int) + 1 := by push_cast; rfl
      rw [this]; exact he2
    · exact hit1.extBut hs2.extBut (Ne.symm ne)
    · have q : b = e ∨ b = it := by simpa using hb
      rcases q with rfl | rfl
      · rw [upd_ne (Nat.ne_of_lt hes)]; exact fe.1
      · rw [upd_ne (Nat.ne_of_lt his)]; exact fi.1
  done := by
    intro X hP hw hK hc i pins s σ H E I hf st hg
    subst hP hw hK
    obtain ⟨⟨old, he⟩, hit⟩ := st
    obtain ⟨xs, hq, hx⟩ := hg
    obtain ⟨z, its, n, r, eo⟩ := I.hok a _ hq
    have hl := r.length
    obtain ⟨f0, f1, f2, f3, f4, f5⟩ := hf it (by simp)
    exact wpAny_pyNext_enum_end (I.ok.hd hc) he hit ⟨_, eo, rfl, n, rfl⟩ (by simp; omega) fun h' eb => ⟨rfl, I.turned (t' := s.toks) (fun b o hb q => eb b o hb q) f0 f1 f3 f4 f5⟩
  self := fun _ _ _ _ _ st h => st.1.elim fun old he => wpAny_pyIter_enum he h
theorem boot_enumerate : bootBuiltins "enumerate" = some (.type "enumerate") := by decide +kernel
noncomputable def enR (x : V) (H1 : Hp) (R : It → Hp → Prop) : Prop := match x with
  | .ref a => ∃ xs, H1 a = some (.lst xs) ∧ R (Ite a) H1
  | _ => False
noncomputable def jEnum (ta : TA) : TI := fun σ H R => ta σ H fun vs H1 => match vs with
  | [x] => enR x H1 R
  | _ => False
section
variable {X : Cx} {elts : List Expr} {x1 : _} {tpos : Pos}
theorem pj_enum {a : Expr} {ta : TA} {p pos : Pos} (hg : Gl X "enumerate") (hm : X.mg "enumerate" = none) (ha : PA X [a] ta) (hs : starEach [a] X.env = [(false, eval a X.env)] := by rfl) : PI X (.Tuple elts x1 tpos) (.Call (.Name "enumerate" p) [a] [] pos) (jEnum ta) := by
  intro pins s σ H R I h
  refine Call_ (ld_blt I hg hm boot_enumerate (PyProof.Rows.callWith_type1 (thn (ha pos pins s σ H _ I h) fun us s1 ⟨vs, H1, I1, r1, q1⟩ => ?_) hs rfl))
  cases r1 with
  | nil => exact q1.elim
  | @cons x u xs us r rr =>
    cases rr with
    | cons _ _ => exact q1.elim
    | nil =>
      replace q1 : enR x H1 R := q1
      unfold enR at q1
      split at q1
      · rename_i b
        obtain ⟨ys, hb, q⟩ := q1
        cases r
        obtain ⟨z, its, n, rv, eo⟩ := I1.hok b _ hb
        refine call_enumerate_1 eo fun h' he hit hz hk => ?_
        refine wpAny_pyIter_enum he ?_
        refine ⟨_, [s1.heap.objs.size + 1, s1.heap.objs.size], _, _, H1, rfl, I1.kept (t' := s1.toks) fun b o e => hk b o e, turn_enum b (s1.heap.objs.size + 1) s1.heap.objs.size (Nat.succ_ne_self _), ⟨⟨_, he⟩, hit⟩, fun c hc => ?_, q⟩
        have e : c = s1.heap.objs.size + 1 ∨ c = s1.heap.objs.size := by simpa using hc
        rcases e with rfl | rfl
        · exact I1.fpOk (Nat.le_succ _) (I1.hok.fresh (Nat.le_succ _))
        · exact I1.fpOk (Nat.le_refl _) (I1.hok.fresh (Nat.le_refl _))
      · exact q1.elim
end
section
variable {K : PySem.W.Frag} {g : TG} {tb : TS} {D : Ends} {σ : St} {H : Hp} {ta : TA}
theorem tFor_enum : tFor (jEnum ta) g tb D σ H = ta σ H fun vs H1 => match vs with
  | [x] => enR x H1 fun J H2 => forR J g tb D σ H2
  | _ => False := by
  unfold tFor jEnum
  rfl
/-- over enumerate(list), the list left as it is -/
theorem fo_enum {a : Addr} {xs : List V} (hS : H a = some (.lst xs)) (Pv : Nat → St → Hp → Prop) (h0 : Pv 0 σ H) (hl : ∀ i σ H, i ≤ xs.length → Pv i σ H → H a = some (.lst xs))
    (hs : ∀ i x p σ H, xs[i]? = some x → Pv i σ H → H p = none → g (.ref p) σ (upd H p (.tup [.int i, x])) fun σ2 H2 => tb { D with nx := Pv (i + 1), ct := Pv (i + 1), bk := D.nx } σ2 H2) (hd : ∀ σ H, Pv xs.length σ H → D.nx σ H) :
    enR (.ref a) H fun J H2 => forR J g tb D σ H2 := by
  refine ⟨xs, hS, fun i m σ H => m = xs.length - i ∧ i ≤ xs.length ∧ Pv i σ H, ⟨_, rfl, Nat.zero_le _, h0⟩, ?_⟩
  rintro i m σ H ⟨rfl, hi, p⟩
  by_cases hlt : i < xs.length
  · refine .inr ⟨⟨xs, _, hl i σ H hi p, List.getElem?_eq_getElem hlt⟩, Pv (i + 1), fun σ' H' p' => ⟨xs.length - (i + 1), by omega, rfl, hlt, p'⟩, fun v H' y => ?_⟩
    obtain ⟨q, x, hx, hq, rfl, rfl⟩ := y
    exact hs i x q σ H (hx xs (hl i σ H hi p)) p hq
  · have e : i = xs.length := by omega
    subst e
    exact .inl ⟨⟨xs, hl _ σ H hi p, Nat.le_refl _⟩, hd σ H p⟩
end
end L2


set_option maxRecDepth 100000
namespace L2
open PySem PySem.Spec PyProof.Rows
section
variable {X : Cx} {o e f : Expr} {to te tf : TE} {apos cpos : Pos}
end
section
variable {X : Cx} {pos : Pos}
/-- a rule's premise in a shell: the elaborator does not look into it -/
structure QE (X : Cx) (e : Expr) (t : TE) : Prop where
  h : PE X e t
structure QS (X : Cx) (st : Stmt) (t : TS) : Prop where
  h : PS X st t
structure QSs (X : Cx) (l : List Stmt) (t : TS) : Prop where
  h : PSs X l t
theorem qss_one {st : Stmt} {t : TS} (h1 : QS X st t) : QSs X [st] t := ⟨pss_one h1.h⟩
theorem qss_cons {st : Stmt} {rest : List Stmt} {t u : TS} (h1 : QS X st t) (h2 : QSs X rest u) : QSs X (st :: rest) (tSeq t u) := ⟨pss_cons h1.h h2.h⟩
theorem qs_setQ {i : Nat} {x : Str} {e : Expr} {te : TE} {pos' : Pos} (hN : X.N.Nodup) (hi : X.N[i]? = some x) (hx : Loc X.env.scope x) (he : QE X e te) (h : isComp e = false := by rfl) (hf : X.fn x = true ∨ X.env.scope.names.lookup x = some .local := by first | exact .inl rfl | exact .inr rfl | assumption) :
    QS X (.Assign [.Name x pos'] e pos) (tAsg te (gName i)) := ⟨ps_setQ hN hi hx he.h h hf⟩
end
end L2


set_option maxRecDepth 100000
namespace L2
open PySem PySem.Spec PyProof.Rows
section
variable {X : Cx} {elts : List Expr} {x1 : _} {tpos : Pos}
end
section
variable {nv : Nat} {ix : List Nat} {g : TG} {tt : TT} {te : TE} {tb : TS} {D : Ends} {σ : St} {H : Hp} {ta : TA} {Q : VK}
end
section
variable {K : PySem.W.Frag} {g : TG} {tt : TT} {te : TE} {H : Hp} {σ : St} {Q : List V → Hp → Prop}
theorem co_any {J : It} {n : Nat} (Pv : Nat → List V → St → Hp → Prop) (h0 : Pv 0 [] σ H) (hz : n ≤ sizeLine) (hl : ∀ i ys σ H, Pv i ys σ H → ys.length ≤ i) (go : ∀ i ys σ H, i < n → Pv i ys σ H → J.go i H) (stop : ∀ ys σ H, Pv n ys σ H → J.stop n H)
    (step : ∀ i ys σ H x H'', i < n → Pv i ys σ H → J.yld i H x H'' → g x σ H'' fun σ2 H2 => tt σ2 H2 fun b H3 => if b = true then te σ2 H3 fun y H4 => Pv (i + 1) (ys ++ [y]) σ2 H4 else Pv (i + 1) ys σ2 H3) (q : ∀ ys σ H, Pv n ys σ H → Q ys H) : compR J g tt te σ H Q := by
  refine ⟨fun i m ys σ' H' => i ≤ n ∧ m = n - i ∧ Pv i ys σ' H', ⟨n, Nat.zero_le _, rfl, h0⟩, ?_⟩
  rintro i m ys σ' H' ⟨hi, rfl, hp⟩
  by_cases e : i = n
  · subst e
    exact .inl ⟨stop _ _ _ hp, q _ _ _ hp⟩
  · have hlt : i < n := by omega
    refine .inr ⟨go i _ _ _ hlt hp, by have := hl _ _ _ _ hp; omega, fun ys' σ'' H'' => Pv (i + 1) ys' σ'' H'', fun ys' σ'' H'' p' => ⟨n - (i + 1), by omega, by omega, rfl, p'⟩, fun x H'' y => step i ys σ' H' x H'' hlt hp y⟩
/-- over a range; the block may make things -/
theorem co_rngH {lo : Int} {n : Nat} (Pv : Nat → List V → St → Hp → Prop) (h0 : Pv 0 [] σ H) (hz : n ≤ sizeLine) (hl : ∀ i ys σ H, Pv i ys σ H → ys.length ≤ i)
    (step : ∀ (i : Nat) ys σ H, i < n → Pv i ys σ H → g (.int (lo + i)) σ H fun σ2 H2 => tt σ2 H2 fun b H3 => if b = true then te σ2 H3 fun y H4 => Pv (i + 1) (ys ++ [y]) σ2 H4 else Pv (i + 1) ys σ2 H3) (q : ∀ ys σ H, Pv n ys σ H → Q ys H) : compR (Itr lo n) g tt te σ H Q := by
  refine co_any Pv h0 hz hl (fun i _ _ _ hi _ => hi) (fun _ _ _ _ => Nat.le_refl _) (fun i ys σ H x H'' hi hp y => ?_) q
  obtain ⟨e, rfl⟩ := y
  subst e
  exact step i ys σ _ hi hp
/-- over a list that stays -/
theorem co_listH {a : Addr} {xs : List V} (hS : SqL K H a xs) (hz : xs.length ≤ sizeLine) (Pv : Nat → List V → St → Hp → Prop) (h0 : Pv 0 [] σ H) (hl : ∀ i ys σ H, Pv i ys σ H → ys.length ≤ i) (hk : ∀ i ys σ H, Pv i ys σ H → SqL K H a xs)
    (step : ∀ (i : Nat) x ys σ H, xs[i]? = some x → Pv i ys σ H → g x σ H fun σ2 H2 => tt σ2 H2 fun b H3 => if b = true then te σ2 H3 fun y H4 => Pv (i + 1) (ys ++ [y]) σ2 H4 else Pv (i + 1) ys σ2 H3) (q : ∀ ys σ H, Pv xs.length ys σ H → Q ys H) : seqR K (.ref a) H fun J H2 => compR J g tt te σ H2 Q := by
  refine .inl ⟨xs, hS, co_any (n := xs.length) Pv h0 hz hl (fun i ys σ H hi hp => ⟨xs, xs[i], hk _ _ _ _ hp, by simp [hi]⟩) (fun ys σ H hp => ⟨xs, hk _ _ _ _ hp, Nat.le_refl _⟩) (fun i ys σ H x H'' hi hp y => ?_) q⟩
  obtain ⟨e, hx⟩ := y
  subst e
  exact step i x ys σ _ (hx xs (hk _ _ _ _ hp)) hp
end
end L2


set_option maxRecDepth 100000
namespace L2
open PySem PySem.Spec PyProof.Rows
/-- the exception at e, of the class cls, with the dict dx; tb: the newest row of its trace, none yet -/
noncomputable def ExO (h : Heap) (e : Addr) (cls : Value) (dx tb : Option Addr) : Prop :=
  ∃ oe vs, h.get? e = some oe ∧ oe.cls = cls ∧ oe.dict = dx ∧ oe.data = .fields vs ∧ 1 < vs.size ∧ (match tb with
    | none => vs[1]? = some .none
    | some T => vs[1]? = some (.ref T) ∧ T ≠ e ∧ ∃ oT ts, h.get? T = some oT ∧ oT.data = .fields ts ∧ ts[3]? = some .none)
/-- what the leaving of a frame keeps -/
structure Lft (S : List Addr) (e : Addr) (tb : Option Addr) (h h' : Heap) : Prop where
  keep : ∀ b o, b ∉ S → b ≠ e → (∀ T, tb = some T → b ≠ T) → h.get? b = some o → h'.get? b = some o
  slot : ∀ b o, b ∈ S → h.get? b = some o → ∃ sl, h'.get? b = some { o with slots := sl }
  there : ∀ b o, h.get? b = some o → ∃ o', h'.get? b = some o'
section
variable {M : Model} {A : Around} {E : Value → Shared → Prop} {s : Shared}
theorem dict_mapFields (f : Array Value → Array Value) (o : Obj) : (Obj.mapFields f o).dict = o.dict := by
  unfold Obj.mapFields
  split <;> rfl
/-- a row of the trace, as it is laid -/
noncomputable abbrev rowO (top : Value) (L : Addr) (ps : List Value) : Obj := { cls := .type "traceback", dict := none, data := .fields ([top, .ref L, .none, rawInt L, .none] ++ (if ps.isEmpty then List.replicate 6 Value.none else ps)).toArray }
theorem entry_x {base : Heap} {env : Env} {outer : List Env} {L e : Addr} {oe : Obj} {vs : Array Value} {top : Value} {had : Bool} {Q : Unit → Shared → Prop}
    (hfr : A.frames = some (env :: outer)) (hl : s.heap.FunFrames base (env :: outer)) (hf : env.frame = some L)
    (he : s.heap.get? e = some oe) (hd : oe.data = .fields vs) (hsz : 1 < vs.size)
    (h : ∀ h', ExO h' e oe.cls oe.dict (some s.heap.objs.size) → Lft ((env :: outer).filterMap (·.frame)) e none s.heap h' → Q () { s with heap := h' }) :
    wpAny M A (do let a ← frameOf env; let pl ← entryPlaceOf L had; let b ← EntryCells.newEntry top a .none (rawInt L) .none pl; setField (.ref e) 1 b) (fun _ s' => wpAny M A (setFlight (.ref e) none) Q E s') E s := by
  have out : e ∉ (env :: outer).filterMap (·.frame) := fun hm => by
    obtain ⟨_, o', ho', no⟩ := hl.mem hm
    cases he.symm.trans ho'
    exact no vs hd
  refine wpAny_bind (wpAny_frameOf_fun hfr hl hf fun k ks => wpAny_bind (wpAny_entryPlaceOf fun ps hps => ?_))
  unfold EntryCells.newEntry newFields
  refine wpAny_bind (wpAny_newObj_type ?_ (hps.sizeOk5 _ _ _ _ _))
  have ke : k.get? e = some oe := (ks.2.1 e out).trans he
  have far : k.objs.size ≠ e := Nat.ne_of_gt (Heap.lt_size ke)
  have esz : k.objs.size = s.heap.objs.size := ks.1
  have de := Obj.data_mapFields hd (·.setIfInBounds 1 (Value.ref k.objs.size))
  have e1 := Heap.get?_push_of_some (h := k) (rowO top L ps) ke
  have e2 := Heap.get?_update_self (Obj.mapFields (·.setIfInBounds 1 (Value.ref k.objs.size))) e1 (Obj.isFreed_of_fields de)
  have r2 := (Heap.get?_update_other (k.push (rowO top L ps)) (Obj.mapFields (·.setIfInBounds 1 (Value.ref k.objs.size))) (Ne.symm far)).trans (Heap.get?_push_size k rfl)
  refine wpAny_setField e1 hd hsz ?_
  unfold setFlight
  refine wpAny_bind (wpAny_field e2 de (x := .ref k.objs.size) (by simp [hsz]) ?_)
  rw [if_pos (by simp)]
  have r3 := Heap.get?_update_self (Obj.mapFields (·.setIfInBounds 3 ((none : Option Addr).elim Value.none fun f => rawInt f))) r2 (Obj.isFreed_of_fields (Obj.data_mapFields rfl _))
  refine wpAny_setField r2 rfl (by simp only [List.size_toArray, List.length_append, List.length_cons, List.length_nil] <;> omega) (h _ ?_ ?_)
  · rw [← esz]
    refine ⟨_, _, ?_, Obj.cls_mapFields _ _, dict_mapFields _ _, de, by simp [hsz], by simp [hsz], far, _, _, r3, Obj.data_mapFields rfl _, ?_⟩
    · rw [Heap.get?_update_other _ _ far]; exact e2
    · first | (simp; done) | (rcases hps with rfl | ⟨_, _, _, _, _, _, _, rfl⟩ <;> simp)
  · have keep : ∀ b o, b ≠ e → k.get? b = some o → (((k.push (rowO top L ps)).update e (Obj.mapFields (·.setIfInBounds 1 (Value.ref k.objs.size)))).update k.objs.size (Obj.mapFields (·.setIfInBounds 3 ((none : Option Addr).elim Value.none fun f => rawInt f)))).get? b = some o := fun b o ne hb => by
      rw [Heap.get?_update_other _ _ (Nat.ne_of_gt (Heap.lt_size hb)), Heap.get?_update_other _ _ (Ne.symm ne)]
      exact Heap.get?_push_of_some _ hb
    refine ⟨fun b o hS ne _ hb => keep b o ne ((ks.2.1 b hS).trans hb), fun b o hS hb => ?_, fun b o hb => ?_⟩
    · obtain ⟨sl, q⟩ := ks.2.2 b o hb
      exact ⟨sl, keep b _ (fun z => out (z ▸ hS)) q⟩
    · by_cases z : b = e
      · subst z
        rw [Heap.get?_update_other _ _ far]
        exact ⟨_, e2⟩
      · obtain ⟨sl, q⟩ := ks.2.2 b o hb
        exact ⟨_, keep b _ z q⟩
/-- an exception leaves a frame -/
theorem note_x {base : Heap} {env : Env} {outer : List Env} {L e : Addr} {cls : Value} {dx tb : Option Addr} {Q : Unit → Shared → Prop}
    (hfr : A.frames = some (env :: outer)) (hl : s.heap.FunFrames base (env :: outer)) (hf : env.frame = some L) (hx : ExO s.heap e cls dx tb)
    (h : ∀ h', ExO h' e cls dx (some s.heap.objs.size) → Lft ((env :: outer).filterMap (·.frame)) e tb s.heap h' → Q () { s with heap := h' }) : wpAny M A (noteFrame (.ref e) env) (fun _ s' => wpAny M A (setFlight (.ref e) none) Q E s') E s := by
  obtain ⟨oe, vs, he, rfl, rfl, hd, hsz, ht⟩ := hx
  unfold noteFrame
  simp only [hf]
  cases tb with
  | none =>
    refine wpAny_bind (wpAny_field he hd ht ?_)
    rw [if_neg (by decide)]
    exact entry_x hfr hl hf he hd hsz h
  | some T =>
    obtain ⟨h1, ne, oT, ts, hT, dT, h3⟩ := ht
    have apart : ∀ b o, s.heap.get? b = some o → (∀ ws, o.data ≠ .fields ws) → b ≠ T := fun b o hb no z => by
      subst z
      cases hb.symm.trans hT
      exact no ts dT
    have out : T ∉ (env :: outer).filterMap (·.frame) := fun hm => by
      obtain ⟨_, o', ho', no⟩ := hl.mem hm
      exact apart T o' ho' no rfl
    refine wpAny_bind (wpAny_field he hd h1 ?_)
    rw [if_pos (by simp)]
    refine wpAny_bind (wpAny_field hT dT h3 ?_)
    rw [if_neg (by simp [rawInt])]
    refine wpAny_bind (wpAny_setField hT dT (Array.getElem?_eq_some_iff.mp h3).1 ?_)
    have oth : ∀ b, b ≠ T → (s.heap.update T (Obj.mapFields (·.setIfInBounds 3 Value.none))).get? b = s.heap.get? b := fun b z => Heap.get?_update_other _ _ (Ne.symm z)
    have self := Heap.get?_update_self (Obj.mapFields (·.setIfInBounds 3 Value.none)) hT (Obj.isFreed_of_fields (Obj.data_mapFields dT _))
    have fr := hl.of_keeps (h' := s.heap.update T (Obj.mapFields (·.setIfInBounds 3 Value.none))) fun b o hb no => ⟨o, (oth b (apart b o hb no)).trans hb, rfl⟩
    refine entry_x (oe := oe) (vs := vs) hfr fr hf ((oth e (Ne.symm ne)).trans he) hd hsz fun h' x k => ?_
    have sz : (s.heap.update T (Obj.mapFields (·.setIfInBounds 3 Value.none))).objs.size = s.heap.objs.size := Heap.size_update ..
    change ExO h' e oe.cls oe.dict (some (s.heap.update T (Obj.mapFields (·.setIfInBounds 3 Value.none))).objs.size) at x
    rw [sz] at x
    refine h h' x ⟨fun b o hS z zT hb => k.keep b o hS z (fun _ q => by cases q) ((oth b (zT T rfl)).trans hb), fun b o hS hb => k.slot b o hS ((oth b (fun q => out (q ▸ hS))).trans hb), fun b o hb => ?_⟩
    by_cases q : b = T
    · exact q ▸ k.there _ _ self
    · exact k.there b o ((oth b q).trans hb)
theorem leaving_x {base : Heap} {env : Env} {outer : List Env} {L e : Addr} {cls : Value} {dx tb : Option Addr} {Q : Unit → Shared → Prop}
    (hfr : A.frames = some (env :: outer)) (hl : s.heap.FunFrames base (env :: outer)) (hf : env.frame = some L) (hx : ExO s.heap e cls dx tb)
    (h : ∀ h', ExO h' e cls dx (some s.heap.objs.size) → Lft ((env :: outer).filterMap (·.frame)) e tb s.heap h' → Q () { s with heap := h' }) : wpAny M A (leaving env (.ref e)) Q E s := wpAny_bind (note_x hfr hl hf hx h)
end
noncomputable def CX1 (P : Program) (w : World) : CXT := fun outer H s E e s' => ∃ ea cls dx T H', e = .ref ea ∧ s'.os = s.os ∧ AllBare s'.gens ∧ Un (frs outer) [] H H' s.heap s'.heap ∧ HOk P w H' s'.heap ∧ ExO s'.heap ea cls dx (some T) ∧
  (s.heap.get? ea = none ∧ s.heap.get? T = none ∧ H' ea = none ∧ H' T = none) ∧ E cls dx H'
noncomputable instance {P : Program} {w : World} : Quiet (CX1 P w) := ⟨fun X pins σ H s e s' I h => by
  obtain ⟨_, _, _, _, _, _, _, _, _, _, _, _, h⟩ := h
  exact h.elim⟩
/-- an exception in a body, not yet out of its frame -/
structure Fly (X : Cx) (pins : List (Addr × Obj)) (σ : St) (H : Hp) (s : Shared) (ea : Addr) (cls : Value) (dx tb : Option Addr) : Prop where
  inv : Inv X pins σ H s
  ex : ExO s.heap ea cls dx tb
  n0 : X.s₀.heap.get? ea = none
  nH : H ea = none
  tbs : ∀ T, tb = some T → X.s₀.heap.get? T = none ∧ H T = none
  apart : ∀ p ∈ X.pn ++ pins, p.1 ≠ ea ∧ ∀ T, tb = some T → p.1 ≠ T
/-- what a body does with an exception that it does not catch -/
noncomputable def Rz (X : Cx) (E : XK) : Prop := ∀ pins σ H s ea cls dx tb, Fly X pins σ H s ea cls dx tb → E cls dx H → X.xe (.ref ea) s
section
variable {P : Program} {w : World} {K : PySem.W.Frag} {mg : Str → Option Value} {base : Heap} {N : List Str} {qual : Str} {scope : Scope} {f : Addr} {cd : Value} {A : Around} {outer : List Env} {s : Shared} {H : Hp} {E : XK}
theorem rz_fn : Rz (cxOf (CX1 P w) P w K mg base N qual scope f cd A outer s H E) E := by
  intro pins σ H1 s1 ea cls dx tb F hE
  have I := F.inv
  have hst : (cxOf (CX1 P w) P w K mg base N qual scope f cd A outer s H E).stack = envOfC qual scope s.heap.objs.size f cd :: outer := rfl
  show wpAny (model P w) (A.deeper (envOfC qual scope s.heap.objs.size f cd)) (leaving (envOfC qual scope s.heap.objs.size f cd) (.ref ea)) _ _ s1
  refine leaving_x (base := base) (L := s.heap.objs.size) (by have := I.ok.frames; exact this) (by have := I.stack; exact this) rfl F.ex fun h' hx hk => ?_
  have hfree : ∀ b ∈ frs (envOfC qual scope s.heap.objs.size f cd :: outer), H1 b = none := I.stkFree
  have hin : ∀ b, b ∈ (envOfC qual scope s.heap.objs.size f cd :: outer).filterMap (·.frame) → b = s.heap.objs.size ∨ b ∈ frs outer := fun b hb => by
    rw [List.filterMap_cons] at hb
    exact (List.mem_cons.mp hb).elim .inl .inr
  have hne : ∀ b o, s.heap.get? b = some o → b ≠ ea ∧ (∀ T, tb = some T → b ≠ T) ∧ b ≠ s.heap.objs.size := fun b o e =>
    ⟨fun q => (by have h1 : s.heap.get? ea = none := F.n0; rw [q, h1] at e; cases e),
     fun T hT q => (by have h1 : s.heap.get? T = none := (F.tbs T hT).1; rw [q, h1] at e; cases e),
     Nat.ne_of_lt (Heap.lt_size e)⟩
  have B : Un (frs outer) [] H H1 s.heap s1.heap := I.base
  refine ⟨ea, cls, dx, _, H1, rfl, I.os, I.bare, ⟨fun b o q n hb hx => ?_, fun b o q n hb hx => ?_, B.free, fun b o q hx => ?_, B.tups, B.frzs, B.tbls⟩, fun b o q => ?_, hx, ⟨F.n0, ?_, F.nH, I.hok.fresh (Nat.le_refl _)⟩, hE⟩
  · obtain ⟨n1, n2, n3⟩ := hne b o q
    exact hk.keep b o (fun hm => (hin b hm).elim n3 hb) n1 n2 (B.keep b o q n hb hx)
  · obtain ⟨sl, e⟩ := B.slot b o q n hb hx
    obtain ⟨sl', e'⟩ := hk.slot b _ (by rw [List.filterMap_cons]; exact List.mem_cons_of_mem _ hb) e
    exact ⟨sl', e'⟩
  · obtain ⟨o', e⟩ := B.there b o q hx
    exact hk.there b o' e
  · have some_ne : ∀ c u, H1 c = some u → c ∉ (envOfC qual scope s.heap.objs.size f cd :: outer).filterMap (·.frame) ∧ c ≠ ea ∧ ∀ T, tb = some T → c ≠ T := fun c u e =>
      ⟨fun hm => (by rw [hfree c hm] at e; cases e), fun z => (by rw [z, F.nH] at e; cases e), fun T hT z => (by rw [z, (F.tbs T hT).2] at e; cases e)⟩
    refine (I.hok b o q).stay (fun c u hc e => ?_) (fun c e => e) (fun c xs e => e)
    rcases hc with z | z
    · obtain ⟨m1, m2, m3⟩ := some_ne b o q
      subst z
      exact hk.keep _ u m1 m2 m3 e
    · obtain ⟨m1, m2, m3⟩ := some_ne c _ z
      exact hk.keep c u m1 m2 m3 e
  · exact Heap.get?_none_of_le I.sz
end
section
variable {X : Cx} {E : XK}
/-- an exception of a callee goes on in this body -/
theorem fly_of {pins : List (Addr × Obj)} {σ : St} {H : Hp} {s s' : Shared} {e : Value} (hex : X.ex = []) (I : Inv X pins σ H s) (h : CX1 X.prog X.w X.stack H s E e s') : ∃ ea cls dx T H', e = .ref ea ∧ Fly X pins σ H' s' ea cls dx (some T) ∧ E cls dx H' := by
  obtain ⟨ea, cls, dx, T, H', rfl, os, bare, un, hok, hx, ⟨n1, n2, n3, n4⟩, hE⟩ := h
  have I' := I.call' (ch := []) os un hok bare (fun b z => absurd z (by simp))
  have old : ∀ b, s.heap.get? b = none → X.s₀.heap.get? b = none := fun b hb => by
    cases q : X.s₀.heap.get? b with
    | none => rfl
    | some o =>
      obtain ⟨o', e⟩ := I.base.there b o q (by rw [hex]; simp)
      rw [hb] at e; cases e
  refine ⟨ea, cls, dx, T, H', rfl, ⟨I', hx, old ea n1, n3, (fun T' e => by cases e; exact ⟨old T n2, n4⟩), fun p hp => ⟨fun z => ?_, fun T' e z => ?_⟩⟩, hE⟩
  · have q := (I.pin p hp).1
    rw [z, n1] at q; cases q
  · cases e
    have q := (I.pin p hp).1
    rw [z, n2] at q; cases q
theorem Rz.passes (hex : X.ex = []) (h : Rz X E) : Passes (CX1 X.prog X.w) X E := fun pins σ H s e s' I q => by
  obtain ⟨ea, cls, dx, T, H', rfl, F, hE⟩ := fly_of hex I q
  exact h _ _ _ _ _ _ _ _ F hE
end
/-- the rule of a def that may raise -/
theorem DefAt.fnX {P : Program} {w : World} {K : PySem.W.Frag} {mg : Str → Option Value} {base : Heap} {CX : CXT} {x : Str} {st : Stmt} {N ps : List Str} {k : Nat} {sp : Sp} (F : DefAt K mg x st) (S : FnScope N ps (defScope st))
    (hb : ∀ (kV doc pm : Value) (an : Option Addr) (cdv ct : Value) (us : List Value), us.length = ps.length → bindArgs (PySem.W.fnOf x x (defArgs st) (defBody st) (defScope st) .none kV doc pm an cdv ct) ⟨us, []⟩ = pure (ps.zip us))
    (len : ∀ vs H Q E, sp vs H Q E → vs.length = ps.length)
    (hbody : ∀ (f : Addr) (cdv : Value) (A : Around) (outer : List Env) (s : Shared) (H : Hp) (vs : List V) (Q : VK) (E : XK), Room k (A.deeper (envOfC x (defScope st) s.heap.objs.size f cdv)) → sp vs H Q E →
      ∃ t, PSs (cxOf CX P w K mg base N x (defScope st) f cdv A outer s H E) (defBody st) t ∧ t { nx := fun _ H' => Q .non H', rt := Q } (start N vs) H) : FnAt P w K mg base CX x (k + 1) ps sp := by
  obtain ⟨f, fd, F, hm⟩ := F
  have bd := F.binds hb
  have kp := F.kp
  obtain ⟨oc, od, kV, doc, pm, an, cdv, ct, osl, rfl, lk, hcd⟩ := F.ex
  exact ⟨f, _, fn_of lk hcd S len fun A outer s H vs Q E hr hsp => hbody f cdv A outer s H vs Q E hr hsp, hm, kp, bd, oc, od, osl, lk⟩
theorem ObjOk.there {P : Program} {w : World} {H : Hp} {h : Heap} {a : Addr} {o : HO} (x : ObjOk P w H h a o) : ∃ u, h.get? a = some u := by
  cases o with
  | lst xs => obtain ⟨_, _, _, _, e⟩ := x; exact ⟨_, e⟩
  | tup xs => obtain ⟨_, _, _, ⟨o, e, _⟩⟩ := x; exact ⟨_, e⟩
  | dK kvs => obtain ⟨_, _, _, _, o, _, _, e, _⟩ := x; exact ⟨_, e⟩
  | dT kvs => obtain ⟨_, _, _, _, o, _, _, e, _⟩ := x; exact ⟨_, e⟩
  | set S n => obtain ⟨o, _, _, _, e, _⟩ := x; exact ⟨_, e⟩
  | ins C dx fs => obtain ⟨_, _, _, e, _⟩ := x; exact ⟨_, e⟩
  | own y => obtain ⟨_, e⟩ := x; exact ⟨_, e⟩
  | xd fs => obtain ⟨_, ⟨_, _, _, e, _⟩, _⟩ := x; exact ⟨_, e⟩
  | rng lo hi => obtain ⟨_, _, _, e⟩ := x; exact ⟨_, e⟩
  | frz ob u => obtain ⟨e, _⟩ := x; exact ⟨_, e⟩
  | tbl ps => exact ⟨_, (show h.get? a = some _ from x)⟩
  | met f y => exact ⟨_, (show h.get? a = some _ from x)⟩
  | ext φ => obtain ⟨_, e, _⟩ := x; exact e
noncomputable abbrev vErr : List Value := [.type "ValueError", .type "Exception", .type "BaseException", .type "object"]
/-- the class x at C, right under the class at R, which stands right under ValueError; ini: what C's own __init__ is -/
structure XcAt (K : PySem.W.Frag) (mg : Str → Option Value) (x : Str) (C R : Addr) (ini : Option Value) : Prop where
  mgC : mg x = some (.ref C)
  cls : ∃ N nm q bs sn sub ab col dd k0 k1 k2 k3 k5, K.lookup C = some (excClassObj nm q C N bs (.ref R :: vErr) true sn sub ab col dd k0 k1 k2 k3 k5 "ValueError.__new__") ∧ PySem.W.nsOkIn K N = true ∧ PySem.W.nsIn K N "__init__" = some ini ∧ PySem.W.nsIn K N "__setattr__" = some none
  road : ∃ c0 dd cd sl, K.lookup R = some { cls := c0, dict := dd, data := .cls cd, slots := sl } ∧ PySem.W.nsOkIn K cd.ns = true ∧ PySem.W.nsIn K cd.ns "__init__" = some none ∧ PySem.W.nsIn K cd.ns "__setattr__" = some none
theorem xcat_mk {K : PySem.W.Frag} {h : Heap} {mg : Str → Option Value} {x : Str} {C R N : Addr} {ini : Option Value} {nm q : Str} {bs : List Value} {sn : List Str} {sub : List Value} {ab : Bool} {col : Option Bool} {dd ddR : Option Addr} {k0 k1 k2 k3 k5 : Option Value} {c0 : Value} {cd : ClassData} {sl : Array (Option Value)} (X : K.In h) (G : h.Ns mainGlobals mg)
    (a : PySem.W.nsIn K mainGlobals x = some (some (.ref C))) (l : K.lookup C = some (excClassObj nm q C N bs (.ref R :: vErr) true sn sub ab col dd k0 k1 k2 k3 k5 "ValueError.__new__")) (o : PySem.W.nsOkIn K N = true) (i : PySem.W.nsIn K N "__init__" = some ini) (t : PySem.W.nsIn K N "__setattr__" = some none)
    (l' : K.lookup R = some { cls := c0, dict := ddR, data := .cls cd, slots := sl }) (o' : PySem.W.nsOkIn K cd.ns = true) (i' : PySem.W.nsIn K cd.ns "__init__" = some none) (t' : PySem.W.nsIn K cd.ns "__setattr__" = some none) : XcAt K mg x C R ini :=
  ⟨PySem.W.mg_of X G a, ⟨N, nm, q, bs, sn, sub, ab, col, dd, k0, k1, k2, k3, k5, l, o, i, t⟩, ⟨c0, ddR, cd, sl, l', o', i', t'⟩⟩
theorem XcAt.tail {K : PySem.W.Frag} {mg : Str → Option Value} {x : Str} {C R : Addr} {ini : Option Value} (c : XcAt K mg x C R ini) {h : Heap} (X : K.In h) : OwnTail h vErr (.ref R :: vErr) := by
  obtain ⟨c0, dd, cd, sl, l, o, i, _⟩ := c.road
  exact .own (X _ _ l) (.of_isNs (PySem.W.isNs_of_in X o)) (PySem.W.nsMap_none_of_in X o i) .base
section
variable {X : Cx} {E : XK}
noncomputable def tRaise0 (E : XK) (C : Addr) : TS := fun _ _ H => E (.ref C) none H
end
end L2


set_option maxRecDepth 100000
set_option maxHeartbeats 1000000
namespace L2
open PySem PySem.Spec PyProof.Rows
section
variable {prog : Program} {w : World} {A : Around} {s : Shared} {K : PySem.W.Frag} {x C R : Addr} {cd : ClassData} {name : Str} {v : Value}
theorem set_x {E : Value → Shared → Prop} {vs : Array Value} {Q : Unit → Shared → Prop} (X : K.In s.heap) (hx : s.heap.get? x = some ⟨.ref C, none, .fields vs, #[]⟩) (hc : PySem.W.clsIn K C = some cd) (hm : cd.mro = .ref C :: .ref R :: vErr) (hd : cd.hasDict = true)
    (hs : PySem.W.findIn K (.ref C) "__setattr__" = some (some (.builtin "object.__setattr__"))) (ha : PySem.W.findIn K (.ref C) name = some none)
    (h : ∀ h' t', h'.get? x = some ⟨.ref C, some s.heap.objs.size, .fields vs, #[]⟩ → h'.Ns1 s.heap.objs.size (fun y => if y = name then some v else none) → (∀ b o, b ≠ x → s.heap.get? b = some o → h'.get? b = some o) → Q () { s with heap := h', toks := t' }) :
    wpAny (model prog w) A (setAttr (.ref x) name v) Q E s := by
  have I : PySem.W.InstAt s.heap x ⟨.ref C, none, .fields vs, #[]⟩ C none := ⟨hx, rfl, rfl, True.intro⟩
  have F := PySem.F.store_object
  have lc : PySem.W.Looks (model prog w) s.heap (classData C) cd := PySem.W.looks_clsIn X hc
  have sub : PySem.W.Looks (model prog w) s.heap (isInstance (.ref x) (.type "object")) true := I.type.andThen (PySem.W.looks_mroIn X (by unfold PySem.W.mroIn; rw [hc, Option.bind_some, hm]; rfl))
  have mro : PySem.W.Looks (model prog w) s.heap (mroOf (.ref C)) cd.mro := lc.andThen .now
  refine PySem.W.set_plain X I hs ?_
  refine codeAny_call_builtin F.slot.plain F.entry ?_
  refine @PySem.W.check_slot (model prog w) _ _ { s with toks := s.toks + 1 } "object.__setattr__" "object" "__setattr__" (.ref x) [.str name s.toks, v] [] _ F.kind F.split sub (F.args (.ref x) (.str name s.toks) v) ?_
  rw [PySem.W.osa_eq, refuse_eq]
  refine wpAny_bind (wpAny_bind (I.type.here (s := { s with toks := s.toks + 1 }) (wpAny_bind (mro.here (s := { s with toks := s.toks + 1 }) ?_))))
  rw [hm, refuseLoop_ref, refuseLoop_ref, PySem.F.store_ValueError.passes]
  refine wpAny_pure (wpAny_bind (I.type.here (s := { s with toks := s.toks + 1 }) (wpAny_bind ((PySem.W.looks_findIn X ha).here (s := { s with toks := s.toks + 1 }) (wpAny_bind (wpAny_pure ?_))))))
  refine wpAny_bind (wpAny_pure (wpAny_bind (wpAny_bind (wpAny_loadPart (s := { s with toks := s.toks + 1 }) hx (wpAny_bind (lc.here (s := { s with toks := s.toks + 1 }) ?_))))))
  rw [hd, if_neg (by decide)]
  have sx : x ≠ s.heap.objs.size := Nat.ne_of_lt (Heap.lt_size hx)
  have h1 : (s.heap.push { cls := .type "dict", data := .dict #[] }).get? x = some ⟨.ref C, none, .fields vs, #[]⟩ := Heap.get?_push_of_some _ hx
  have h2 := Heap.get?_update_self (fun o : Obj => { cls := o.cls, dict := some s.heap.objs.size, data := o.data, slots := o.slots }) h1 rfl
  have h3 : ((s.heap.push { cls := .type "dict", data := .dict #[] }).update x fun o => { cls := o.cls, dict := some s.heap.objs.size, data := o.data, slots := o.slots }).get? s.heap.objs.size = some { cls := .type "dict", data := .dict #[] } :=
    (Heap.get?_update_other _ _ sx).trans (Heap.get?_push_size _ rfl)
  have hn : ((s.heap.push { cls := .type "dict", data := .dict #[] }).update x fun o => { cls := o.cls, dict := some s.heap.objs.size, data := o.data, slots := o.slots }).Ns s.heap.objs.size (fun _ => none) :=
    ⟨_, #[], _, h3, rfl, fun e he => absurd he (by simp), fun _ => rfl⟩
  show wpAny _ _ (alloc { cls := .type "dict", data := .dict #[] } >>= fun d => update x (fun o => { cls := o.cls, dict := some d, data := o.data, slots := o.slots }) >>= fun _ => dictMade (.ref C) x d) _ _ _
  refine wpAny_bind (wpAny_alloc ?_)
  refine wpAny_bind (wpAny_update (s := { s with heap := s.heap.push { cls := .type "dict", data := .dict #[] }, toks := s.toks + 1 }) h1 ?_)
  refine wpAny_pure ?_
  show wpAny _ _ (Builtin.ObjectAttr.storeInDict s.heap.objs.size (.str name s.toks) name v) _ _ _
  unfold Builtin.ObjectAttr.storeInDict Builtin.ObjectAttr.newKeyGuard
  refine wpAny_bind (wpAny_pure (wpAny_bind (wpAny_nsSet1 (Heap.Ns1.of_empty hn) fun h' n' sb => ?_)))
  obtain ⟨oD, esD, epD, hoD, hdD, hcD⟩ := n'.count (PySem.Within.cons name v PySem.Within.nil)
  refine wpAny_bind (wpAny_lookBehind hoD (by rw [hdD]; exact pastItsLine_dict (Nat.le_trans hcD (by rw [List.length_cons, List.length_nil, sizeLine_eq]; omega))) ?_)
  refine wpAny_pure (h h' _ ((sb.2 x sx).trans h2) ?_ fun b o ne hb => ?_)
  · obtain ⟨o', es, ep, e1, e2, e3, eu, e4⟩ := n'
    exact ⟨o', es, ep, e1, e2, e3, eu, fun y => by rw [e4 y]⟩
  · exact (sb.2 b (Nat.ne_of_lt (Heap.lt_size hb))).trans ((Heap.get?_update_other _ _ (Ne.symm ne)).trans (Heap.get?_push_of_some _ hb))
end
section
variable {prog : Program} {w : World} {A : Around} {E : Value → Shared → Prop} {h : Heap} {g : Array GenState} {d : Drawn} {t : Nat} {os : OsState} {K : PySem.W.Frag}
variable {nm q : Str} {C N : Addr} {bs bm : List Value} {hdct : Bool} {sn : List Str} {sub : List Value} {ab : Bool} {col : Option Bool} {dd : Option Addr} {k0 k1 k2 k3 k5 : Option Value}
theorem tcall_x {rest : List Value} {fI : Addr} {Q : Fin → Shared → Prop} (X : K.In h) (T : OwnTail h vErr bm)
    (hC : h.get? C = some (excClassObj nm q C N bs bm hdct sn sub ab col dd k0 k1 k2 k3 k5 "ValueError.__new__")) (hi : PySem.W.findIn K (.ref C) "__init__" = some (some (.ref fI))) (hf : PySem.W.typeIn K (.ref fI) = some (.type "function"))
    (hr : rest.length ≤ sizeLine)
    (hq : ∀ h' e, Heap.MadeExcOf h h' e (.ref C) rest → wpAny (model prog w) A (call (.ref fI) (.ref e :: rest)) (fun r s' => r = .none ∧ Q (.done (.ret (.ref e))) s') E ⟨h', g, d, t, os⟩) :
    wpAny (model prog w) A (Builtin.«type.__call__» ⟨.ref C :: rest, []⟩) Q E ⟨h, g, d, t, os⟩ := by
  have F := PySem.F.excBase_ValueError
  repeat (first | with_reducible refine wpAny_loadPart_at hC ?_ | with_reducible refine wpAny_madeBy_exc hC ?_ | wp_step)
  refine codeAny_call_builtin_code (Code.quiet_builtin _ F.quiet) (wpAny_check_new_subT F T hC ?_)
  refine codeAny_exc_new_subT F T hC ?_ hr
  show wpAny _ _ _ _ _ _
  have up : ∀ b o, h.get? b = some o → ((h.push { cls := .type "tuple", data := .seq rest.toArray }).push { cls := .ref C, data := .fields #[.ref h.objs.size, .none, .none, .none, .bool false, .none] }).get? b = some o := fun b o e => Heap.get?_push_of_some _ (Heap.get?_push_of_some _ e)
  have C2 := up _ _ hC
  have X2 := X.keeps up
  have e2 : ((h.push { cls := .type "tuple", data := .seq rest.toArray }).push { cls := .ref C, data := .fields #[.ref h.objs.size, .none, .none, .none, .bool false, .none] }).get? (h.objs.size + 1) = some { cls := .ref C, data := .fields #[.ref h.objs.size, .none, .none, .none, .bool false, .none] } := by heap_get
  have t2 : ((h.push { cls := .type "tuple", data := .seq rest.toArray }).push { cls := .ref C, data := .fields #[.ref h.objs.size, .none, .none, .none, .bool false, .none] }).get? h.objs.size = some { cls := .type "tuple", data := .seq rest.toArray } := Heap.get?_push_of_some _ (Heap.get?_push_at rfl rfl)
  have made : Heap.MadeExcOf h ((h.push { cls := .type "tuple", data := .seq rest.toArray }).push { cls := .ref C, data := .fields #[.ref h.objs.size, .none, .none, .none, .bool false, .none] }) (h.objs.size + 1) (.ref C) rest :=
    ⟨up, Heap.get?_none_of_le (Nat.le_succ _), h.objs.size, e2, Heap.get?_none_of_le (Nat.le_refl _), t2⟩
  have q2 := hq _ _ made
  have me : (Value.ref C :: bm).contains (.ref C) = true := by simp
  generalize (h.push { cls := .type "tuple", data := .seq rest.toArray }).push { cls := .ref C, data := .fields #[.ref h.objs.size, .none, .none, .none, .bool false, .none] } = h2 at *
  unfold isInstance
  repeat (first | with_reducible refine wpAny_loadPart_at e2 ?_ | (with_reducible refine wpAny_isSubtype_exc C2 ?_; rw [me]) | wp_step)
  show wpAny _ _ (typeLookup (.ref C) _) _ _ _
  refine (PySem.W.looks_findIn X2 hi).here (s := ⟨h2, g, d, t, os⟩) ?_
  refine wpAny_holding (wpAny_bind ((PySem.W.bind_fn X2 _ hf).here (s := ⟨h2, g, d, t, os⟩) (wpAny_bind (wpAny_mono q2 (fun r s' hr => ?_) fun _ _ z => z))))
  obtain ⟨rfl, hQ⟩ := hr
  wp_walk
  exact hQ
theorem call_x {rest : List Value} {fI : Addr} {Q : Value → Shared → Prop} (X : K.In h) (T : OwnTail h vErr bm)
    (hC : h.get? C = some (excClassObj nm q C N bs bm hdct sn sub ab col dd k0 k1 k2 k3 k5 "ValueError.__new__")) (hi : PySem.W.findIn K (.ref C) "__init__" = some (some (.ref fI))) (hf : PySem.W.typeIn K (.ref fI) = some (.type "function"))
    (hr : rest.length ≤ sizeLine)
    (hq : ∀ h' e, Heap.MadeExcOf h h' e (.ref C) rest → wpAny (model prog w) (A.under (.builtin "type.__call__" ⟨.ref C :: rest, []⟩)) (call (.ref fI) (.ref e :: rest)) (fun r s' => r = .none ∧ Q (.ref e) s') E ⟨h', g, d, t, os⟩) :
    wpAny (model prog w) A (call (.ref C) rest) Q E ⟨h, g, d, t, os⟩ := by
  have f1 := tc_lookup
  have f2 := tc_bind (.ref C)
  have hT : (⟨h, g, d, t, os⟩ : Shared).TypeIs (.ref C) "type" := ⟨_, hC, rfl⟩
  refine wpAny_call (codeAny_of_tree ?_)
  show wpAny _ _ (callAny (.ref C) _) _ _ _
  repeat (any_goals (first | assumption | with_reducible refine wpAny_loadPart_at hC ?_ | wp_step))
  refine ⟨rfl, ?_⟩
  refine codeAny_call_builtin_at (Code.quiet_builtin _ (by decide +kernel)) entry_typeCall (wpAny_check_type_call_sub hC (tcall_x X T hC hi hf hr fun h' e hm => ?_))
  exact hq h' e hm
theorem raise_x {s : Shared} {env : Env} {x : Sem Value} {Q : Flow → Shared → Prop} (hbase : bm.contains (.type "BaseException") = true) (hh : A.handled = none)
    (hx : wpAny (model prog w) A x (fun v s₁ => ∃ e dx vs, v = .ref e ∧ s₁.heap.get? C = some (excClassObj nm q C N bs bm hdct sn sub ab col dd k0 k1 k2 k3 k5 "ValueError.__new__") ∧ s₁.heap.get? e = some ⟨.ref C, dx, .fields vs, #[]⟩ ∧ vs[1]? = some .none ∧ E (.ref e) s₁) E s) :
    wpAny (model prog w) A (raiseStmt env (some x) none) Q E s := by
  have me : (Value.ref C :: bm).contains (.type "BaseException") = true := by rw [List.contains_cons, hbase, Bool.or_true]
  unfold raiseStmt
  refine wpAny_bind (wpAny_mono hx (fun v s₁ h₁ => ?_) fun _ _ x => x)
  obtain ⟨e, dx, vs, rfl, hC, he, h1, hE⟩ := h₁
  obtain ⟨hp, g, d, tk, os⟩ := s₁
  repeat (first | with_reducible refine wpAny_loadPart_at he ?_ | with_reducible refine wpAny_loadPart_at hC ?_ | (with_reducible refine wpAny_isSubtype_exc hC ?_; rw [me]) | wp_step)
  rw [h1]
  refine wpAny_pure ?_
  rw [if_neg (by decide)]
  exact wpAny_pure (wpAny_raiseNew_none hh hE)
end
end L2


set_option maxRecDepth 100000
set_option maxHeartbeats 1000000
namespace L2
open PySem PySem.Spec PyProof.Rows
noncomputable def exN (e C : Addr) (dx : Option Addr) : Heap → Prop := fun h => ∃ vs : Array Value, h.get? e = some ⟨.ref C, dx, .fields vs, #[]⟩ ∧ 1 < vs.size ∧ vs[1]? = some .none
theorem exN_ok {P : Program} {w : World} {H : Hp} {h : Heap} {e C : Addr} {dx : Option Addr} (x : exN e C dx h) : ObjOk P w H h e (.ext (exN e C dx)) :=
  ⟨x, x.elim fun vs q => ⟨_, q.1⟩, fun h1 h2 x1 k => by obtain ⟨vs, q, r⟩ := x1; exact ⟨vs, k _ q, r⟩⟩
noncomputable def dropH (H : Hp) (e : Addr) : Hp := fun b => if b = e then none else H b
theorem dropH_ne {H : Hp} {e b : Addr} (n : b ≠ e) : dropH H e b = H b := by unfold dropH; rw [if_neg n]
theorem dropH_same {H : Hp} {e : Addr} : dropH H e e = none := by unfold dropH; rw [if_pos rfl]
section
variable {X : Cx} {pins : List (Addr × Obj)} {σ : St} {H : Hp} {s : Shared} {h' : Heap} {e C : Addr}
theorem Inv.drop {φ : Heap → Prop} (I : Inv X pins σ H s) (h : H e = some (.ext φ)) : Inv X pins σ (dropH H e) s := by
  have ne : ∀ {b : Addr} {o : HO}, H b = some o → (∀ ψ, o ≠ .ext ψ) → b ≠ e := fun {b o} q n z => by
    subst z
    rw [h] at q
    injection q with q
    exact n φ q.symm
  refine I.un (t' := s.toks) (h' := s.heap) ⟨fun b o q n _ _ => q, fun b o q n _ _ => ⟨o.slots, q⟩, fun b o q n _ => ?_, fun b o q _ => ⟨o, q⟩, fun b xs q => ?_, fun b o u q => ?_, fun b ps q => ⟨#[], ?_⟩⟩ fun b o q => ?_
  · unfold dropH
    split
    · rfl
    · exact n
  · rw [dropH_ne (ne q (by simp))]; exact q
  · rw [dropH_ne (ne q (by simp))]; exact q
  · rw [dropH_ne (ne q (by simp)), q]; simp
  · have nb : b ≠ e := fun z => by rw [z, dropH_same] at q; cases q
    rw [dropH_ne nb] at q
    exact (I.hok b o q).stay (fun c u _ z => z) (fun c z => by rw [dropH_ne (ne z (by simp))]; exact z) fun c xs z => by rw [dropH_ne (ne z (by simp))]; exact z
theorem Inv.setx {vs : Array Value} {y : V} {u : Value} {f : Str} {t' : Nat} (I : Inv X pins σ H s) (hH : H e = some (.ext (exN e C none))) (he : h'.get? e = some ⟨.ref C, some s.heap.objs.size, .fields vs, #[]⟩) (v1 : 1 < vs.size) (v2 : vs[1]? = some .none)
    (hn : h'.Ns1 s.heap.objs.size (fun z => if z = f then some u else none)) (k : ∀ b o, b ≠ e → s.heap.get? b = some o → h'.get? b = some o) (ry : RelV y u) :
    Inv X pins σ (upd (upd H s.heap.objs.size (.xd [(f, y)])) e (.ext (exN e C (some s.heap.objs.size)))) { s with heap := h', toks := t' } := by
  have eN : e ≠ s.heap.objs.size := Nat.ne_of_lt (I.hok e _ hH).lt
  have hN : H s.heap.objs.size = none := I.hok.fresh (Nat.le_refl _)
  have nn : ∀ {b : Addr} {o : HO}, H b = some o → b ≠ s.heap.objs.size := fun {b o} q z => by rw [z, hN] at q; cases q
  have ne : ∀ {b : Addr} {o : HO}, H b = some o → (∀ ψ, o ≠ .ext ψ) → b ≠ e := fun {b o} q n z => by
    subst z
    rw [hH] at q
    injection q with q
    exact n _ q.symm
  have fr : ∀ b, H b = none → b ≠ e := fun b q z => by rw [z, hH] at q; cases q
  refine I.un (t' := t') ⟨fun b o q n _ _ => k b o (fr b n) q, fun b o q n _ _ => ⟨o.slots, k b o (fr b n) q⟩, fun b o q n _ => ?_, fun b o q _ => ?_, fun b xs q => ?_, fun b o u q => ?_, fun b ps q => ⟨#[], ?_⟩⟩ fun b o q => ?_
  · rw [upd_ne (fr b n), upd_ne (Nat.ne_of_lt (Heap.lt_size q))]; exact n
  · by_cases z : b = e
    · exact ⟨_, z ▸ he⟩
    · exact ⟨o, k b o z q⟩
  · rw [upd_ne (ne q (by simp)), upd_ne (nn q)]; exact q
  · rw [upd_ne (ne q (by simp)), upd_ne (nn q)]; exact q
  · rw [upd_ne (ne q (by simp)), upd_ne (nn q), q]; simp
  · by_cases z : b = e
    · subst z
      rw [upd_same] at q
      cases q
      exact exN_ok ⟨vs, he, v1, v2⟩
    · rw [upd_ne z] at q
      by_cases z2 : b = s.heap.objs.size
      · subst z2
        rw [upd_same] at q
        cases q
        refine ⟨_, hn, fun g => ?_⟩
        show RelO (List.lookup g [(f, y)]) (if g = f then some u else none)
        by_cases c : g = f
        · rw [if_pos c, c]
          simp only [List.lookup, BEq.rfl]
          exact ry
        · rw [if_neg c]
          have : (g == f) = false := beq_eq_false_iff_ne.mpr c
          simp only [List.lookup, this]
          exact True.intro
      · rw [upd_ne z2] at q
        refine (I.hok b o q).stay (fun c u hc g => ?_) (fun c g => by rw [upd_ne (ne g (by simp)), upd_ne (nn g)]; exact g) fun c xs g => by rw [upd_ne (ne g (by simp)), upd_ne (nn g)]; exact g
        rcases hc with r | r
        · exact k c u (r ▸ z) g
        · exact k c u (ne r (by simp)) g
end
/-- what must be seen of the class for its instances' attribute f -/
structure XfAt (K : PySem.W.Frag) (C : Addr) (f : Str) : Prop where
  sa : PySem.W.findIn K (.ref C) "__setattr__" = some (some (.builtin "object.__setattr__"))
  no : PySem.W.findIn K (.ref C) f = some none
noncomputable def sFldX (C : Addr) (ta tv : TE) (f : Str) : TS := fun D σ H => tv σ H fun y H1 => ta σ H1 fun x H2 => ∃ e, x = .ref e ∧ H2 e = some (.ext (exN e C none)) ∧ ∀ dx, H2 dx = none → D.nx σ (upd (upd H2 dx (.xd [(f, y)])) e (.ext (exN e C (some dx))))
section
variable {X : Cx} {E : XK}
theorem XcAt.cd {K : PySem.W.Frag} {mg : Str → Option Value} {x : Str} {C R : Addr} {ini : Option Value} (c : XcAt K mg x C R ini) : ∃ cd : ClassData, PySem.W.clsIn K C = some cd ∧ cd.mro = .ref C :: .ref R :: vErr ∧ cd.hasDict = true := by
  obtain ⟨N, nm, q, bs, sn, sub, ab, col, dd, k0, k1, k2, k3, k5, l, _⟩ := c.cls
  unfold PySem.W.clsIn
  rw [l]
  exact ⟨_, rfl, rfl, rfl⟩
theorem ps_fldX {o value : Expr} {f x : Str} {C R : Addr} {ini : Option Value} {pos pos' : Pos} {ta tv : TE} (c : XcAt X.K X.mg x C R ini) (m : XfAt X.K C f) (ha : PE X o ta) (hv : PE X value tv) (hs : isComp value = false := by rfl) : PS X (.Assign [.Attribute o f pos'] value pos) (sFldX C ta tv f) := by
  intro pins s σ H D I h
  obtain ⟨cd, hc, hm, hd⟩ := c.cd
  refine plainObj_wpAny_Assign_Attribute (thn (hv pins s σ H _ I h) fun u s1 ⟨y, H1, I1, ry, q⟩ => thn (ha pins s1 σ H1 _ I1 q) fun ov s2 ⟨x, H2, I2, rx, e, ex, eH, q2⟩ => ?_) (swaps_of hs)
  subst ex
  obtain rfl : ov = Value.ref e := rx
  obtain ⟨⟨vs, he, v1, v2⟩, _⟩ := I2.hok e _ eH
  refine set_x I2.kIn he hc hm hd m.sa m.no fun h' t' g1 g2 g3 => ⟨σ, _, I2.setx eH g1 v1 v2 g2 g3 ry, q2 _ (I2.hok.fresh (Nat.le_refl _))⟩
end
noncomputable def tRaiseI (C : Addr) (sp : Sp) (E : XK) (ta : TA) : TS := fun _ σ H => ta σ H fun vs H1 => ∀ e, H1 e = none → sp (.ref e :: vs) (upd H1 e (.ext (exN e C none))) (fun v H2 => v = .non ∧ ∃ dx, H2 e = some (.ext (exN e C dx)) ∧ E (.ref C) dx (dropH H2 e)) E0
section
variable {X : Cx} {E : XK}
theorem Inv.newx {pins : List (Addr × Obj)} {σ : St} {H : Hp} {s : Shared} {h' : Heap} {e C : Addr} {args : List Value} (I : Inv X pins σ H s) (he : H e = none) (hm : Heap.MadeExcOf s.heap h' e (.ref C) args) : Inv X pins σ (upd H e (.ext (exN e C none))) { s with heap := h' } := by
  obtain ⟨t, oe, _, _⟩ := hm.there
  have ne : ∀ {b : Addr} {o : HO}, H b = some o → b ≠ e := fun {b o} q z => by rw [z, he] at q; cases q
  refine I.un (t' := s.toks) ⟨fun b o q n _ _ => hm.keeps b o q, fun b o q n _ _ => ⟨o.slots, hm.keeps b o q⟩, fun b o q n _ => ?_, fun b o q _ => ⟨o, hm.keeps b o q⟩, fun b xs q => ?_, fun b o u q => ?_, fun b ps q => ⟨#[], ?_⟩⟩ fun b o q => ?_
  · rw [upd_ne (fun z => by rw [z, hm.new] at q; cases q)]; exact n
  · rw [upd_ne (ne q)]; exact q
  · rw [upd_ne (ne q)]; exact q
  · rw [upd_ne (ne q), q]; simp
  · by_cases z : b = e
    · subst z
      rw [upd_same] at q
      cases q
      exact exN_ok ⟨_, oe, by show 1 < 6; decide, rfl⟩
    · rw [upd_ne z] at q
      exact (I.hok b o q).stay (fun c u _ g => hm.keeps c u g) (fun c g => by rw [upd_ne (ne g)]; exact g) fun c xs g => by rw [upd_ne (ne g)]; exact g
theorem ps_raiseI {CX : CXT} [Quiet CX] {x : Str} {C R : Addr} {ini : Option Value} {k : Nat} {ps : List Str} {sp : Sp} {a : Expr} {es : List Expr} {ta : TA} {np cpos pos : Pos} (c : XcAt X.K X.mg x C R ini) (G : MtAt X.prog X.w X.K X.mg X.base CX C "__init__" k ps sp) (kp : PySem.W.keepIn X.K (.ref C) = true)
    (hr : Room (k + 1) X.A) (hz : Rz X E) (hc : X.calm = true) (hex : X.ex = []) (hg : Gl X x) (ha : PA X (a :: es) ta) (hdb : (x == ("__debug__" : Str)) = false := by decide)
    (he : starEach (a :: es) X.env = (false, eval a X.env) :: starEach es X.env := by rfl) (hpl : (backTo cpos (starEach es X.env)).any (·.1) = false := by rfl) (hlen : ∀ us : List Value, us.length + 1 = ps.length → us.length ≤ sizeLine := by intro us h; simp at h; rw [sizeLine_eq]; omega) :
    PS X (.Raise (some (.Call (.Name x np) (a :: es) [] cpos)) none pos) (tRaiseI C sp E ta) := by
  intro pins s σ H D I h
  obtain ⟨f, fd, F, M, hb⟩ := G
  obtain ⟨N, nm, q, bs, sn, sub, ab, col, dd, k0, k1, k2, k3, k5, l, _⟩ := c.cls
  rw [arm_exec_Raise]
  refine wpAny_bind (wpAny_standAt ?_)
  refine raise_x (nm := nm) (q := q) (C := C) (N := N) (bs := bs) (bm := .ref R :: vErr) (hdct := true) (sn := sn) (sub := sub) (ab := ab) (col := col) (dd := dd) (k0 := k0) (k1 := k1) (k2 := k2) (k3 := k3) (k5 := k5) ((c.tail I.kIn).hasType (by decide +kernel)) (I.ok.hd hc) ?_
  refine wpAny_bind (wpAny_mono (wpAny_Call_Name_kw (ld_glob I hg c.mgC (PySem.W.callWith_K (h₀ := X.base) I.ok.mod.kin kp (thn (ha cpos pins s σ H _ I h) fun us s1 ⟨vs, H1, I1, r, q1⟩ => ⟨I1.kIn, ?_⟩) he hpl) hdb)) (fun v s₃ h₃ => wpAny_bind (wpAny_standAt (wpAny_pure h₃))) fun _ _ z => z)
  have T := c.tail I1.kIn
  have hC := I1.kIn _ _ l
  have hl1 : us.length ≤ sizeLine := by
    have e0 := (q1 s1.heap.objs.size (I1.hok.fresh (Nat.le_refl _)))
    have e1 := F.len _ _ _ _ e0
    have e2 := r.length
    rw [List.length_cons] at e1
    exact hlen us (by omega)
  obtain ⟨hp, g, d, t, os⟩ := s1
  refine call_x I1.kIn T hC M.at_ (beq_iff_eq.mp M.fn) hl1 fun h' e hm => ?_
  have e0 : H1 e = none := by
    cases z : H1 e with
    | none => rfl
    | some u =>
      obtain ⟨o', e'⟩ := (I1.hok e u z).there
      rw [hm.new] at e'; cases e'
  have n0 : X.s₀.heap.get? e = none := by
    cases z : X.s₀.heap.get? e with
    | none => rfl
    | some o =>
      obtain ⟨o', e'⟩ := I1.base.there e o z (by rw [hex]; simp)
      rw [hm.new] at e'; cases e'
  have I2 := I1.newx e0 hm
  have hq := q1 e e0
  have r2 : Vals (V.ref e :: vs) (Value.ref e :: us) := .cons rfl r
  have hl : (Value.ref e :: us ++ []).length = ps.length := by
    have z := F.len _ _ _ _ hq
    rw [List.append_nil, ← r2.length]
    exact z
  refine wpAny_call (codeAny_mono (F.run _ X.stack _ _ ⟨Value.ref e :: us, []⟩ (Value.ref e :: us) _ _ E0 (hr.make C us []) (I2.env0.make C us []) (by have z := hb { heap := h', gens := g, drawn := d, toks := t, os := os } (Value.ref e :: us) I2.kIn hl; rw [List.append_nil] at z; exact z) r2 hq) fun r s' hq' => ?_)
  cases r with
  | error x => exact Quiet.pass X pins σ _ _ x s' I2 hq'
  | ok fl =>
    cases fl with
    | ret u =>
      obtain ⟨v, H', I3, rv, ev, dx, eH, hE⟩ := I2.after hq'
      subst ev
      obtain ⟨⟨ws, oe, w1, w2⟩, _⟩ := I3.hok e _ eH
      exact ⟨rv, e, dx, ws, rfl, I3.kIn _ _ l, oe, w2, hz _ _ _ _ _ _ _ none ⟨I3.drop eH, ⟨_, ws, oe, rfl, rfl, rfl, w1, w2⟩, n0, dropH_same, (fun T z => by cases z), fun p hp => ⟨fun z => (by have q := (I1.pin p hp).1; rw [z, hm.new] at q; cases q), fun T z => by cases z⟩⟩ hE⟩
    | next => exact False.elim hq'
    | brk => exact False.elim hq'
    | cont => exact False.elim hq'
end
end L2


set_option maxRecDepth 100000
set_option maxHeartbeats 1000000
namespace L2
open PySem PySem.Spec PyProof.Rows
noncomputable def exF (e : Addr) (cls : Value) (dx : Option Addr) : Heap → Prop := fun h => ∃ oe vs, h.get? e = some oe ∧ oe.cls = cls ∧ oe.dict = dx ∧ oe.data = .fields vs
theorem exF_ok {P : Program} {w : World} {H : Hp} {h : Heap} {e : Addr} {cls : Value} {dx : Option Addr} (x : exF e cls dx h) : ObjOk P w H h e (.ext (exF e cls dx)) :=
  ⟨x, x.elim fun oe q => q.elim fun vs q => ⟨_, q.1⟩, fun h1 h2 x1 k => by obtain ⟨oe, vs, q, r⟩ := x1; exact ⟨oe, vs, k _ q, r⟩⟩
noncomputable def exT (T : Addr) : Heap → Prop := fun h => ∃ o, h.get? T = some o
theorem exT_ok {P : Program} {w : World} {H : Hp} {h : Heap} {e : Addr} (x : exT e h) : ObjOk P w H h e (.ext (exT e)) :=
  ⟨x, x, fun h1 h2 x1 k => by obtain ⟨o, q⟩ := x1; exact ⟨o, k _ q⟩⟩
section
variable {X : Cx} {pins : List (Addr × Obj)} {σ : St} {H : Hp} {s : Shared} {h' : Heap} {ea : Addr} {cls : Value} {dx tb : Option Addr}
theorem Inv.track {a : Addr} {φ : Heap → Prop} (I : Inv X pins σ H s) (n : H a = none) (n0 : X.s₀.heap.get? a = none) (np : ∀ p ∈ X.pn ++ pins, p.1 ≠ a) (ho : ∃ o vs, s.heap.get? a = some o ∧ o.data = .fields vs)
    (k : ObjOk X.prog X.w (upd H a (.ext φ)) s.heap a (.ext φ)) : Inv X pins σ (upd H a (.ext φ)) s := by
  obtain ⟨o, vs, ho, hd⟩ := ho
  have ne : ∀ {b : Addr} {u : HO}, H b = some u → b ≠ a := fun {b u} q z => by rw [z, n] at q; cases q
  have nl : X.env.locals ≠ a := fun z => by
    obtain ⟨m, ⟨o', es, ep, e1, e2, _⟩, _⟩ := I.loc
    rw [z, ho] at e1; cases e1
    rw [hd] at e2; cases e2
  have nc : ∀ x c, X.env.cells.lookup x = some c → c ≠ a := fun x c e z => by
    obtain ⟨v, o', e1, e2⟩ := I.cell x c e
    rw [z, ho] at e1; cases e1
    rw [hd] at e2; cases e2
  refine ⟨I.ok, I.os, I.bare, ⟨I.base.keep, I.base.slot, fun b u q m hx => ?_, I.base.there, fun b xs q => ?_, fun b o u q => ?_, fun b ps q => ?_⟩, I.loc, I.cell, ?_, fun x c e => ?_, fun p hp => ?_, fun b u q => ?_, I.len⟩
  · rw [upd_ne (fun z => by rw [z, n0] at q; cases q)]; exact I.base.free b u q m hx
  · have q' := I.base.tups b xs q
    rw [upd_ne (ne q')]; exact q'
  · have q' := I.base.frzs b o u q
    rw [upd_ne (ne q')]; exact q'
  · obtain ⟨more, q'⟩ := I.base.tbls b ps q
    exact ⟨more, by rw [upd_ne (ne q')]; exact q'⟩
  · rw [upd_ne nl]; exact I.free
  · rw [upd_ne (nc x c e)]; exact I.freeC x c e
  · obtain ⟨p1, p2, p3⟩ := I.pin p hp
    exact ⟨p1, by rw [upd_ne (np p hp)]; exact p2, p3⟩
  · by_cases z : b = a
    · subst z
      rw [upd_same] at q
      cases q
      exact k
    · rw [upd_ne z] at q
      exact (I.hok b u q).stay (fun c v _ g => g) (fun c g => by rw [upd_ne (ne g)]; exact g) fun c xs g => by rw [upd_ne (ne g)]; exact g
theorem dropH_upd {T : Addr} {o : HO} (n : H T = none) : dropH (upd H T o) T = H := by
  funext b
  unfold dropH
  split
  · rename_i e; rw [e, n]
  · rename_i e; rw [upd_ne e]
/-- the frame is left as far as the trace goes, and the exception is held -/
theorem Inv.left (I : Inv X pins σ H s) {T : Option Addr} (hT : ∀ t, T = some t → H t = some (.ext (exT t))) (he : H ea = some (.ext (exT ea))) (hk : Lft (frs X.stack) ea T s.heap h') (hx : exF ea cls dx h') :
    Inv X pins σ (upd H ea (.ext (exF ea cls dx))) { s with heap := h' } := by
  have ne : ∀ {b : Addr} {o : HO}, H b = some o → (∀ ψ, o ≠ .ext ψ) → b ≠ ea ∧ ∀ t, T = some t → b ≠ t := fun {b o} q n => ⟨fun z => by
    subst z
    rw [he] at q
    injection q with q
    exact n _ q.symm, fun t ht z => by
    subst z
    rw [hT b ht] at q
    injection q with q
    exact n _ q.symm⟩
  have fr : ∀ b, H b = none → b ≠ ea ∧ ∀ t, T = some t → b ≠ t := fun b q => ⟨(fun z => by rw [z, he] at q; cases q), fun t ht z => by rw [z, hT t ht] at q; cases q⟩
  refine I.call' (s' := { s with heap := h' }) (ch := []) rfl ⟨fun b o q n hb _ => ?_, fun b o q n hb _ => hk.slot b o hb q, fun b o q n _ => ?_, fun b o q _ => hk.there b o q, fun b xs q => ?_, fun b o u q => ?_, fun b ps q => ⟨#[], ?_⟩⟩ (fun b o q => ?_) I.bare (fun b z => absurd z (by simp))
  · exact hk.keep b o hb (fr b n).1 (fr b n).2 q
  · rw [upd_ne (fr b n).1]; exact n
  · rw [upd_ne (ne q (by simp)).1]; exact q
  · rw [upd_ne (ne q (by simp)).1]; exact q
  · rw [upd_ne (ne q (by simp)).1, q]; simp
  · by_cases z : b = ea
    · subst z
      rw [upd_same] at q
      cases q
      exact exF_ok hx
    · rw [upd_ne z] at q
      by_cases zT : T = some b
      · have q' := hT b zT
        rw [q] at q'
        injection q' with q'
        subst q'
        obtain ⟨⟨o, e1⟩, _⟩ := (show ObjOk X.prog X.w H s.heap b (.ext (exT b)) from I.hok b _ q)
        obtain ⟨o', e2⟩ := hk.there b o e1
        exact exT_ok ⟨o', e2⟩
      · have nS : ∀ {c : Addr} {u : HO}, H c = some u → c ∉ frs X.stack := fun {c u} g m => by rw [I.stkFree c m] at g; cases g
        refine (I.hok b o q).stay (fun c u hc g => ?_) (fun c g => by rw [upd_ne (ne g (by simp)).1]; exact g) fun c xs g => by rw [upd_ne (ne g (by simp)).1]; exact g
        rcases hc with r | r
        · rw [r] at g ⊢
          exact hk.keep b u (nS q) z (fun t ht e => zT (e ▸ ht)) g
        · exact hk.keep c u (nS r) (ne r (by simp)).1 (ne r (by simp)).2 g
theorem Fly.land {T' : Addr} (F : Fly X pins σ H s ea cls dx tb) (hk : Lft (frs X.stack) ea tb s.heap h') (hx : ExO h' ea cls dx (some T')) : Inv X pins σ (upd H ea (.ext (exF ea cls dx))) { s with heap := h' } := by
  obtain ⟨oe, vs, he, hc, hd, hdata, hsz, hT⟩ := F.ex
  have hx' : exF ea cls dx h' := by obtain ⟨o, ws, e1, e2, e3, e4, _⟩ := hx; exact ⟨o, ws, e1, e2, e3, e4⟩
  have I1 := F.inv.track (φ := exT ea) F.nH F.n0 (fun p hp => (F.apart p hp).1) ⟨oe, vs, he, hdata⟩ (exT_ok ⟨oe, he⟩)
  cases tb with
  | none =>
    have I2 := I1.left (T := none) (fun t z => by cases z) upd_same hk hx'
    have e : upd (upd H ea (.ext (exT ea))) ea (.ext (exF ea cls dx)) = upd H ea (.ext (exF ea cls dx)) := by
      funext b; unfold upd; split <;> rfl
    rw [e] at I2
    exact I2
  | some T =>
    obtain ⟨h1, ne, oT, ts, hT, dT, h3⟩ := hT
    obtain ⟨t0, tH⟩ := F.tbs T rfl
    have I2 := I1.track (φ := exT T) (by rw [upd_ne ne]; exact tH) t0 (fun p hp => (F.apart p hp).2 T rfl) ⟨oT, ts, hT, dT⟩ (exT_ok ⟨oT, hT⟩)
    have I3 := I2.left (T := some T) (fun t z => by cases z; exact upd_same) (by rw [upd_ne (Ne.symm ne)]; exact upd_same) hk hx'
    have I4 := I3.drop (e := T) (φ := exT T) (by rw [upd_ne ne]; exact upd_same)
    have e : dropH (upd (upd (upd H ea (.ext (exT ea))) T (.ext (exT T))) ea (.ext (exF ea cls dx))) T = upd H ea (.ext (exF ea cls dx)) := by
      funext b
      unfold dropH upd
      by_cases z : b = T
      · subst z; simp [ne, tH]
      · by_cases z2 : b = ea <;> simp [z, z2, Ne.symm ne]
    rw [e] at I4
    exact I4
theorem heap_at {h : Heap} {a : Addr} {o : Obj} (e : h.get? a = some o) : h.objs[a]? = some o := by
  unfold Heap.get? at e
  split at e
  · cases e
  · exact e
theorem heap_update_id {h : Heap} {a : Addr} {o : Obj} {f : Obj → Obj} (e : h.get? a = some o) (i : f o = o) : h.update a f = h := by
  have e' := heap_at e
  obtain ⟨objs, l⟩ := h
  have : objs.modify a f = objs := by
    apply Array.ext (by simp)
    intro j h1 h2
    rw [Array.getElem_modify]
    split
    · rename_i z
      subst z
      have q : objs[a]? = some o := e'
      rw [Array.getElem?_eq_getElem h2] at q
      rw [Option.some.inj q, i]
    · rfl
  show (⟨objs.modify a f, l⟩ : Heap) = _
  rw [this]
/-- the trace's newest row is told once more that it is none's flight -/
theorem flight_x {M : Model} {A : Around} {E : Value → Shared → Prop} {T : Addr} {Q : Unit → Shared → Prop} (hx : ExO s.heap ea cls dx (some T)) (h : Q () s) : wpAny M A (setFlight (.ref ea) none) Q E s := by
  obtain ⟨oe, vs, he, _, _, hd, hsz, h1, ne, oT, ts, hT, dT, h3⟩ := hx
  unfold setFlight
  refine wpAny_bind (wpAny_field he hd h1 ?_)
  rw [if_pos (by simp)]
  refine wpAny_setField hT dT (Array.getElem?_eq_some_iff.mp h3).1 ?_
  rw [heap_update_id hT]
  · exact h
  · obtain ⟨c, d, dt, sl⟩ := oT
    obtain rfl : dt = .fields ts := dT
    show Obj.mk c d (.fields (ts.setIfInBounds 3 Value.none)) sl = _
    congr 1
    congr 1
    obtain ⟨l3, e3⟩ := Array.getElem?_eq_some_iff.mp h3
    apply Array.ext (by simp)
    intro j h1 h2
    rw [Array.getElem_setIfInBounds]
    split
    · rename_i z; subst z; exact e3.symm
    · rfl
end
noncomputable abbrev Cx.tryC (X : Cx) (pn : List (Addr × Obj)) (σ : St) (E : XK) : Cx := { X with pn := X.pn ++ pn, xe := fun e s => ∃ ea cls dx tb H', e = .ref ea ∧ Fly X pn σ H' s ea cls dx tb ∧ E cls dx H' }
noncomputable abbrev Cx.hand (X : Cx) (e : Value) : Cx := { X with A := X.A.mark (some e), calm := false, xe := fun _ _ => False }
section
variable {X : Cx} {pins pn : List (Addr × Obj)} {σ σ0 : St} {H : Hp} {s : Shared} {E : XK}
theorem Cx.Ok.tryC (ok : X.Ok) : (X.tryC pn σ E).Ok :=
  ⟨ok.mod, ok.kind, ok.glob, ok.blt, ok.above, ok.inj, ok.has, ok.cab, ok.hd, ok.frames, ok.stk, ok.exf, ok.bs, ok.bsz, ok.noex, ok.exfs, ok.funs, ok.frf⟩
theorem Cx.Ok.untry (ok : (X.tryC pn σ E).Ok) : X.Ok :=
  ⟨ok.mod, ok.kind, ok.glob, ok.blt, ok.above, ok.inj, ok.has, ok.cab, ok.hd, ok.frames, ok.stk, ok.exf, ok.bs, ok.bsz, ok.noex, ok.exfs, ok.funs, ok.frf⟩
theorem Cx.Ok.hand {e : Value} (ok : X.Ok) : (X.hand e).Ok :=
  ⟨ok.mod, ok.kind, ok.glob, ok.blt, ok.above, ok.inj, ok.has, ok.cab, (fun z => by cases z), ok.frames, ok.stk, ok.exf, ok.bs, ok.bsz, ok.noex, ok.exfs, ok.funs, ok.frf⟩
theorem Inv.tryC (I : Inv X pn σ H s) : Inv (X.tryC pn σ0 E) [] σ H s := ⟨I.ok.tryC, I.os, I.bare, I.base, I.loc, I.cell, I.free, I.freeC, fun p hp => I.pin p (by rw [List.append_nil] at hp; exact hp), I.hok, I.len⟩
theorem Inv.untry (I : Inv (X.tryC pn σ0 E) pins σ H s) : Inv X pn σ H s := ⟨I.ok.untry, I.os, I.bare, I.base, I.loc, I.cell, I.free, I.freeC, fun p hp => I.pin p (List.mem_append_left _ hp), I.hok, I.len⟩
theorem Inv.hand {e : Value} (I : Inv X pins σ H s) : Inv (X.hand e) pins σ H s := ⟨I.ok.hand, I.os, I.bare, I.base, I.loc, I.cell, I.free, I.freeC, I.pin, I.hok, I.len⟩
theorem Inv.unhand {e : Value} (ok : X.Ok) (I : Inv (X.hand e) pins σ H s) : Inv X pins σ H s := ⟨ok, I.os, I.bare, I.base, I.loc, I.cell, I.free, I.freeC, I.pin, I.hok, I.len⟩
theorem Fly.untry {ea : Addr} {cls : Value} {dx tb : Option Addr} (F : Fly (X.tryC pn σ0 E) pins σ H s ea cls dx tb) : Fly X pn σ H s ea cls dx tb := ⟨F.inv.untry, F.ex, F.n0, F.nH, F.tbs, fun p hp => F.apart p (List.mem_append_left _ hp)⟩
theorem SP.untry {D : Ends} {f : Flow} {s' : Shared} (h : SP (X.tryC pn σ0 E) pins D f s') : SP X pn D f s' := by
  cases f with
  | next => obtain ⟨σ', H', I, q⟩ := h; exact ⟨σ', H', I.untry, q⟩
  | brk => obtain ⟨σ', H', I, q⟩ := h; exact ⟨σ', H', I.untry, q⟩
  | cont => obtain ⟨σ', H', I, q⟩ := h; exact ⟨σ', H', I.untry, q⟩
  | ret u => obtain ⟨v, σ', H', I, r, q⟩ := h; exact ⟨v, σ', H', I.untry, r, q⟩
/-- what is asked of a call in a body: its exception goes to the wish, at these values of the names -/
noncomputable def PassS (CX : CXT) (X : Cx) (σ : St) (E : XK) : Prop := ∀ (pins : List (Addr × Obj)) (H : Hp) (s : Shared) (e : Value) (s' : Shared), Inv X pins σ H s → CX X.stack H s E e s' → X.xe e s'
theorem pass_try (hex : X.ex = []) : PassS (CX1 X.prog X.w) (X.tryC pn σ E) σ E := fun pins H s e s' I h => by
  obtain ⟨ea, cls, dx, T, H', rfl, F, hE⟩ := fly_of (X := X.tryC pn σ E) hex I h
  exact ⟨ea, cls, dx, some T, H', rfl, F.untry, hE⟩
end
end L2


set_option maxRecDepth 100000
set_option maxHeartbeats 1000000
namespace L2
open PySem PySem.Spec PyProof.Rows
noncomputable def tCallS (σ0 : St) (sp : Sp) (E : XK) (t : TA) : TE := fun σ H Q => σ = σ0 ∧ t σ H fun vs H1 => sp vs H1 Q E
noncomputable def tMakeS (σ0 : St) (C : Addr) (sp : Sp) (E : XK) (t : TA) : TE := fun σ H Q => σ = σ0 ∧ t σ H fun vs H1 => ∀ x dx, H1 x = none → H1 dx = none → dx ≠ x →
  sp (.ref x :: vs) (upd (upd H1 dx (.own x)) x (.ins C dx [])) (fun v H2 => v = .non ∧ Q (.ref x) H2) E
noncomputable def tMtS (σ0 : St) (C : Addr) (m : Str) (sp : Sp) (E : XK) (ta : TE) (t : TA) : TE := fun σ H Q => σ = σ0 ∧ ta σ H fun x H1 => rMt C m x H1 (t σ H1 fun vs H2 => sp (x :: vs) H2 Q E)
section
variable {X : Cx} {CX : CXT} {k n : Nat} {f C : Addr} {fd : FuncData} {ps : List Str} {sp : Sp} {E : XK} {x m : Str} {p pos apos : Pos} {e o : Expr} {es : List Expr} {ta : TE} {t : TA} {σ0 : St}
theorem pe_mkS (c : KlsAt X.K X.mg x C) (G : MtAt X.prog X.w X.K X.mg X.base CX C "__init__" k ps sp) (hr : Room n X.A) (hk : k + 1 ≤ n) (hg : Gl X x) (hx : PassS CX X σ0 E) (ha : PA X (e :: es) t)
    (hdb : (x == ("__debug__" : Str)) = false := by decide) (hst : (e :: es).any isStar = false := by rfl) : PE X (.Call (.Name x p) (e :: es) [] pos) (tMakeS σ0 C sp E t) := by
  obtain ⟨f, fd, F, hm, hb⟩ := G
  rw [List.any_cons, Bool.or_eq_false_iff] at hst
  intro pins s σ H Q I ⟨hσ, h⟩
  subst hσ
  refine wpAny_Call_Name_kw (ld_glob I hg c.mgC ?_ hdb)
  refine PySem.W.callWith_K (h₀ := X.base) I.ok.mod.kin c.kp (thn (ha pos pins s σ H _ I h) fun us s1 ⟨vs, H1, I1, r, q⟩ => ⟨I1.kIn, ?_⟩) (starEach_of hst.1) (noStars hst.2)
  have hq := q (s1.heap.objs.size + 1) s1.heap.objs.size (I1.hok.fresh (Nat.le_succ _)) (I1.hok.fresh (Nat.le_refl _)) (Nat.ne_of_lt (Nat.lt_succ_self _))
  have I2 := Inv.made (C := C) I1
  have r2 : Vals (V.ref (s1.heap.objs.size + 1) :: vs) (Value.ref (s1.heap.objs.size + 1) :: us) := .cons rfl r
  have hl : (Value.ref (s1.heap.objs.size + 1) :: us ++ []).length = ps.length := by
    have z := r2.length
    rw [F.len _ _ _ _ hq] at z
    rw [List.append_nil]
    exact z.symm
  refine wpAny_call (make_map (f := f) I1.kIn c.mks hm.at_ (beq_iff_eq.mp hm.fn) (codeAny_mono (F.run _ X.stack _ _ ⟨Value.ref (s1.heap.objs.size + 1) :: us, []⟩ (Value.ref (s1.heap.objs.size + 1) :: us) _ _ E ((hr.mono hk).make C us [])
    (I2.env0.make C us []) (by have z := hb _ (Value.ref (s1.heap.objs.size + 1) :: us) I2.kIn hl; rw [List.append_nil] at z; exact z) r2 hq) fun r s' hq' => ?_))
  cases r with
  | error e => exact hx pins _ _ e s' I2 hq'
  | ok fl =>
    cases fl with
    | ret u =>
      obtain ⟨v, H', I3, rv, ev, q3⟩ := I2.after hq'
      subst ev
      exact ⟨rv, ⟨V.ref (s1.heap.objs.size + 1), H', I3, rfl, q3⟩⟩
    | next => exact False.elim hq'
    | brk => exact False.elim hq'
    | cont => exact False.elim hq'
end
structure XmAt (K : PySem.W.Frag) (mg : Str → Option Value) (x : Str) (C : Addr) : Prop where
  mgC : mg x = some (.ref C)
  ty : PySem.W.typeIn K (.ref C) = some (.type "type")
  ex : PySem.W.mroIn K C (.type "BaseException") = some true
/-- whether an exception of the class cls is one of the class at C -/
noncomputable def isx (K : PySem.W.Frag) (cls : Value) (C : Addr) : Option Bool := match cls with
  | .ref D => PySem.W.mroIn K D (.ref C)
  | _ => none
noncomputable def hx2 (o : Option Bool) (p q : Prop) : Prop := match o with
  | some true => p
  | some false => q
  | none => False
theorem hx2_t {p q : Prop} : hx2 (some true) p q = p := rfl
theorem hx2_f {p q : Prop} : hx2 (some false) p q = q := rfl
section
variable {prog : Program} {w : World} {A : Around} {E : Value → Shared → Prop} {s : Shared} {K : PySem.W.Frag}
theorem xmatch {mg : Str → Option Value} {x : Str} {C e : Addr} {oe : Obj} {b : Bool} {Q : Bool → Shared → Prop} (X : K.In s.heap) (he : s.heap.get? e = some oe) (m : XmAt K mg x C) (hb : isx K oe.cls C = some b) (h : Q b s) :
    wpAny (model prog w) A (excMatches (.ref e) (.ref C)) Q E s := by
  have L1 : PySem.W.Looks (model prog w) s.heap (isInstance (.ref C) (.type "tuple")) false := (PySem.W.looks_typeIn X m.ty).andThen (PySem.W.Looks.of_pure tc_notTuple)
  have L3 : PySem.W.Looks (model prog w) s.heap (isSubtype (.ref C) (.type "BaseException")) true := PySem.W.looks_mroIn X m.ex
  have L2 : PySem.W.Looks (model prog w) s.heap (isType (.ref C)) true := by
    have z := m.ex
    unfold PySem.W.mroIn at z
    obtain ⟨cd, hc, _⟩ := Option.bind_eq_some_iff.mp z
    unfold PySem.W.clsIn at hc
    split at hc
    · rename_i ho
      intro A' Q' E' s' k q
      unfold isType loadHead
      exact wpAny_bind (wpAny_loadPart (k _ _ (X _ _ ho)) (wpAny_pure q))
    · cases hc
  have L4 : PySem.W.Looks (model prog w) s.heap (typeOf (.ref e)) oe.cls := (PySem.W.Looks.ld he).andThen .now
  have L5 : PySem.W.Looks (model prog w) s.heap (isSubtype oe.cls (.ref C)) b := by
    unfold isx at hb
    split at hb
    · rename_i D hD
      rw [hD]
      exact PySem.W.looks_mroIn X hb
    · cases hb
  unfold excMatches
  refine wpAny_bind (L1.here ?_)
  dsimp only
  rw [if_neg (by decide)]
  refine wpAny_bind (wpAny_pure ?_)
  rw [List.forIn_cons]
  refine wpAny_bind (wpAny_bind (wpAny_bind ?_))
  unfold isExcClass
  refine wpAny_bind (L2.here ?_)
  rw [if_pos rfl]
  refine L3.here ?_
  simp only [Bool.not_true, Bool.false_eq_true, if_false]
  refine wpAny_pure ?_
  dsimp only
  rw [List.forIn_nil]
  refine wpAny_pure ?_
  refine wpAny_bind (L4.here ?_)
  rw [List.forIn_cons]
  refine wpAny_bind (wpAny_bind (wpAny_bind (L5.here ?_)))
  cases b with
  | true => exact wpAny_pure (wpAny_pure (wpAny_pure h))
  | false =>
    refine wpAny_pure ?_
    dsimp only
    rw [List.forIn_nil]
    exact wpAny_pure (wpAny_pure h)
end
section
variable {X : Cx} {pins : List (Addr × Obj)} {σ : St} {H : Hp} {s : Shared} {M : Model} {A : Around} {E : Value → Shared → Prop}
theorem unbind_ok {i : Nat} {x : Str} {pos : Pos} {Q : Unit → Shared → Prop} (I : Inv X pins σ H s) (hN : X.N.Nodup) (hi : X.N[i]? = some x) (hk : X.env.scope.names.lookup x = some .local)
    (h : ∀ s', Inv X pins (σ.set i none) H s' → Q () s') : wpAny M A (do bindName X.env x .none; unbindBehindTheSuite X.env x pos) Q E s := by
  refine wpAny_bind (wpAny_bindName (store_ok (v := .non) I hN hi (.inl hk) rfl (fun s1 I1 => ?_) (.inr hk)))
  have hiσ : i < σ.length := by rw [I.len]; exact (List.getElem?_eq_some_iff.mp hi).1
  obtain ⟨m, hn, hl⟩ := id I1.loc
  have hcls : (X.env.scope.kind == .class || (X.env.scope.kind == .module && X.env.locals != X.env.globals)) = false := by rw [I.ok.kind]; rfl
  have hkk : X.env.kindOf x = some .local := hk
  have hv : ∃ u, m x = some u := by
    obtain ⟨u, _, q⟩ := hl i x .non hi (by rw [List.getElem?_set_self hiσ]) (.inl hk)
    rcases q with ⟨_, q⟩ | ⟨q, _⟩
    · exact ⟨u, q⟩
    · rcases q with q | q <;> rw [hkk] at q <;> cases q
  obtain ⟨u, hv⟩ := hv
  unfold unbindBehindTheSuite
  refine wpAny_onRaise (wpAny_unbindName_local hkk hn hv hcls fun h' u' hn' hs => h _ ?_)
  obtain ⟨oL, _, _, hoL, _⟩ := id hn
  have cne := I1.cne
  refine ⟨I1.ok, I1.os, I1.bare, ⟨fun b o e n hb hx => ?_, fun b o e n hb hx => ?_, I1.base.free, fun b o e hx => ?_, I1.base.tups, I1.base.frzs, I1.base.tbls⟩, ⟨_, hn', fun j y v' e1 e2 e3 => ?_⟩, fun y c e => ?_, I1.free, I1.freeC, fun p hp => ?_, fun b ob e => ?_, by simpa using I.len⟩
  · exact (hs.2 b (Nat.ne_of_lt (Nat.lt_of_lt_of_le (Heap.lt_size e) I1.ok.above))).trans (I1.base.keep b o e n hb hx)
  · obtain ⟨sl, e1⟩ := I1.base.slot b o e n hb hx
    exact ⟨sl, (hs.2 b (Nat.ne_of_lt (Nat.lt_of_lt_of_le (Heap.lt_size e) I1.ok.above))).trans e1⟩
  · obtain ⟨o', e1⟩ := I1.base.there b o e hx
    exact ⟨o', (hs.2 b (Nat.ne_of_lt (Nat.lt_of_lt_of_le (Heap.lt_size e) I1.ok.above))).trans e1⟩
  · by_cases hj : j = i
    · subst hj
      rw [List.getElem?_set_self hiσ] at e2
      cases e2
    · rw [List.getElem?_set_ne (Ne.symm hj)] at e2
      obtain ⟨u3, r3, q⟩ := hl j y v' e1 (by rw [List.getElem?_set_ne (Ne.symm hj)]; exact e2) e3
      refine ⟨u3, r3, ?_⟩
      rcases q with ⟨k, e⟩ | ⟨k, c, e, z⟩
      · refine .inl ⟨k, ?_⟩
        have : y ≠ x := fun e => hj (nodup_ix hN e1 (e ▸ hi))
        simp [this, e]
      · exact .inr ⟨k, c, e, z.sameBut hs (cne y c e)⟩
  · obtain ⟨w', z⟩ := I1.cell y c e
    exact ⟨w', z.sameBut hs (cne y c e)⟩
  · obtain ⟨e, n, ne, nf, d⟩ := I1.pin p hp
    exact ⟨(hs.2 p.1 ne).trans e, n, ne, nf, d⟩
  · refine (I1.hok b ob e).stay (fun c w' hc q => (hs.2 c ?_).trans q) (fun _ q => q) fun _ _ q => q
    rintro rfl
    rcases hc with z | z
    · subst z; rw [I1.free] at e; cases e
    · rw [I1.free] at z; cases z
end
noncomputable abbrev TH := Ends → St → Value → Option Addr → Hp → Prop
noncomputable def PH (X : Cx) (hs : List ExceptHandler) (t : TH) : Prop := ∀ (pins : List (Addr × Obj)) (s : Shared) (σ : St) (H : Hp) (D : Ends) (ea : Addr) (cls : Value) (dx : Option Addr) (T : Addr),
  Inv X pins σ (upd H ea (.ext (exF ea cls dx))) s → ExO s.heap ea cls dx (some T) → H ea = none → t D σ cls dx H → wpAny (model X.prog X.w) X.A (handleBy (.ref ea) X.env hs) (SP X pins D) X.xe s
noncomputable def Ends.un (D : Ends) (i : Nat) : Ends := { nx := fun σ H => D.nx (σ.set i none) H, rt := D.rt, bk := fun σ H => D.bk (σ.set i none) H, ct := fun σ H => D.ct (σ.set i none) H }
noncomputable def tH0 : TH := fun _ _ _ _ _ => False
noncomputable def tHc (K : PySem.W.Frag) (C : Addr) (i : Nat) (th : TS) (tr : TH) : TH := fun D σ cls dx H => hx2 (isx K cls C) (∀ ea, H ea = none → th (D.un i) (σ.set i (some (.ref ea))) (upd H ea (.ext (exF ea cls dx)))) (tr D σ cls dx H)
noncomputable def tTry (tb : St → XK → TS) (th : TH) : TS := fun D σ H => tb σ (fun cls dx H' => th D σ cls dx H') D σ H
section
variable {X : Cx}
theorem ph_nil : PH X [] tH0 := fun _ _ _ _ _ _ _ _ _ _ _ _ h => h.elim
theorem ph_cons {K : PySem.W.Frag} {x n : Str} {C : Addr} {i : Nat} {np pos : Pos} {b₀ : Stmt} {body : List Stmt} {rest : List ExceptHandler} {th : TS} {tr : TH} (hK : X.K = K) (m : XmAt X.K X.mg x C) (hg : Gl X x) (hN : X.N.Nodup) (hi : X.N[i]? = some n) (hk : X.env.scope.names.lookup n = some .local)
    (hs : ∀ e, PSs (X.hand e) (b₀ :: body) th) (hr : PH X rest tr) (hdb : (x == ("__debug__" : Str)) = false := by decide) : PH X (.ExceptHandler (some (.Name x np)) (some n) (b₀ :: body) pos :: rest) (tHc K C i th tr) := by
  subst hK
  intro pins s σ H D ea cls dx T I hx hH h
  have ok := I.ok
  have Ih : Inv (X.hand (.ref ea)) pins σ (upd H ea (.ext (exF ea cls dx))) s := I.hand
  obtain ⟨oe, vs, he, hc, _⟩ := id hx
  refine wpAny_handleBy_cons (codeAny_handlers_test (ld_glob (X := X.hand (.ref ea)) Ih hg m.mgC ?_ hdb)) (by intro q; cases q)
  unfold tHc at h
  cases hb : isx X.K cls C with
  | none => rw [hb] at h; exact h.elim
  | some b =>
    rw [hb] at h
    refine xmatch I.kIn he m (by rw [hc]; exact hb) ?_
    cases b with
    | false => exact hr pins s σ H D ea cls dx T I hx hH h
    | true =>
      refine codeAny_handlers_suite_as (flight_x hx (store_ok (X := X.hand (.ref ea)) (v := .ref ea) Ih hN hi (.inl hk) rfl (fun s1 I1 => ?_) (.inr hk)))
      refine wpAny_mono (hs (.ref ea) pins s1 _ _ _ I1 (h ea hH)) (fun f s2 q => ?_) fun _ _ z => z.elim
      cases f with
      | next => obtain ⟨σ', H', I', q⟩ := q; exact unbind_ok (I'.unhand ok) hN hi hk fun s' I2 => ⟨_, H', I2, q⟩
      | brk => obtain ⟨σ', H', I', q⟩ := q; exact unbind_ok (I'.unhand ok) hN hi hk fun s' I2 => ⟨_, H', I2, q⟩
      | cont => obtain ⟨σ', H', I', q⟩ := q; exact unbind_ok (I'.unhand ok) hN hi hk fun s' I2 => ⟨_, H', I2, q⟩
      | ret u => obtain ⟨v, σ', H', I', r, q⟩ := q; exact unbind_ok (I'.unhand ok) hN hi hk fun s' I2 => ⟨v, _, H', I2, r, q⟩
theorem ps_try {body : List Stmt} {h₀ : ExceptHandler} {hs : List ExceptHandler} {pos : Pos} {tb : St → XK → TS} {th : TH} (hb : ∀ pn σ E, PSs (X.tryC pn σ E) body (tb σ E)) (hh : PH X (h₀ :: hs) th)
    (hst : X.stack = X.env :: X.outer := by rfl) (hf : X.env.frame = some X.env.locals := by rfl) : PS X (.Try body (h₀ :: hs) [] [] pos) (tTry tb th) := by
  intro pins s σ H D I h
  refine wpAny_Try_except (wpAny_mono (hb pins σ _ [] s σ H D I.tryC h) (fun f s1 q => ?_) fun e s1 q => ?_)
  · have q' := q.untry
    cases f with
    | next => exact wpAny_execs_nil q'
    | brk => exact q'
    | cont => exact q'
    | ret u => exact q'
  · obtain ⟨ea, cls, dx, tb, H', rfl, F, hE⟩ := q
    have Ok := F.inv.ok
    have fr : X.A.frames = some (X.env :: X.outer) := by rw [← hst]; exact Ok.frames
    have fl : s1.heap.FunFrames X.base (X.env :: X.outer) := by rw [← hst]; exact F.inv.stack
    refine note_x fr fl hf F.ex fun h' hx hk => ?_
    rw [← hst] at hk
    exact hh pins _ σ H' D ea cls dx _ (F.land hk hx) hx F.nH hE
end
end L2


set_option maxRecDepth 100000
set_option maxHeartbeats 1000000
namespace L2
open PySem PySem.Spec PyProof.Rows
/-- what must be seen of the class of an exception that is caught -/
structure XgAt (K : PySem.W.Frag) (C : Addr) : Prop where
  ga : PySem.W.findIn K (.ref C) "__getattribute__" = some (some (.builtin "BaseException.__getattribute__"))
  gh : PySem.W.findIn K (.ref C) "__getattr__" = some none
  bx : PySem.W.mroIn K C (.type "BaseException") = some true
  ob : PySem.W.mroIn K C (.type "object") = some true
  hd : PySem.W.hasDictIn K C = true
  kc : PySem.W.findIn K (.ref C) "__class__" = some (some (.builtin "object.__class__"))
  kg : PySem.W.specialIn K (.builtin "object.__class__") "__get__" = some (some (.builtin "getset_descriptor.__get__"))
  kt : PySem.W.takesIn K (.builtin "object.__class__") = some true
section
variable {prog : Program} {w : World} {A : Around} {s : Shared} {K : PySem.W.Frag} {x C : Addr} {ox : Obj} {od : Option Obj} {name : Str}
theorem getx_by {E : Value → Shared → Prop} {tk : Tok} {fill expr : Bool} {Q : Value → Shared → Prop} (X : K.In s.heap) (I : PySem.W.InstAt s.heap x ox C od) (g : XgAt K C)
    (h : ∀ A', wpAny (model prog w) A' (Builtin.«object.__getattribute__» ⟨[.ref x, .str name tk], []⟩) (fun fin s' => match fin with | .done (.ret v) => wpAny (model prog w) A (handedOut v) Q E s' | _ => False) (fun _ _ => False) s) :
    wpAny (model prog w) A (getAttrBy (.ref x) (.str name tk) fill expr) Q E s := by
  have L0 := I.type (M := model prog w)
  have L1 := PySem.W.looks_findIn (M := model prog w) X g.ga
  have L2 := PySem.W.looks_findIn (M := model prog w) X g.gh
  have FX := PySem.F.excAttr_ValueError
  have sub : PySem.W.Looks (model prog w) s.heap (isInstance (.ref x) (.type "BaseException")) true := I.type.andThen (PySem.W.looks_mroIn X g.bx)
  have hx0 : (expr && onTheHeap (Value.builtin "BaseException.__getattribute__")) = false := by cases expr <;> rfl
  have hx2 : (Value.builtin "BaseException.__getattribute__" == Value.builtin "object.__getattribute__") = false := by decide +kernel
  unfold getAttrBy
  refine wpAny_holding (wpAny_bind (L0.here (wpAny_bind (L1.here ?_))))
  dsimp only
  rw [if_neg (by rw [hx2]; simp)]
  unfold getAttrByItsOwn hookBefore
  rw [if_pos (show onTheHeap (Value.ref C) = true from rfl)]
  refine wpAny_bind (L2.here ?_)
  refine wpAny_bind (wpAny_attempt (wpAny_holding ?_))
  unfold callGetattribute
  rw [hx0, if_neg (by decide)]
  unfold boundAndCalled
  rw [FX.ga.bind (.ref x)]
  refine wpAny_bind (wpAny_pure ?_)
  refine wpAny_call (codeAny_call_builtin FX.ga.plain PySem.F.entry_bexc_ga ?_)
  refine @PySem.W.check_slot (model prog w) _ _ s "BaseException.__getattribute__" "BaseException" "__getattribute__" (.ref x) [.str name tk] [] _ (by decide +kernel) (by decide +kernel) sub (PySem.F.args_bexc_ga (.ref x) (.str name tk)) ?_
  refine wpAny_mono (h _) (fun fin s' z => ?_) fun _ _ z => z.elim
  rcases fin with (_ | _ | _ | _) | _ <;> first | exact z | exact z.elim
/-- e.f, f in its own dict -/
theorem getx_value {E : Value → Shared → Prop} {expr : Bool} {v : Value} {Q : Value → Shared → Prop} (X : K.In s.heap) (I : PySem.W.InstAt s.heap x ox C od) (g : XgAt K C)
    (hf : PySem.W.findObj K C od name = some (.value v)) (hh : PySem.W.handedIn v = true) (h : Q v { s with toks := s.toks + 1 }) : wpAny (model prog w) A (getAttr (.ref x) name expr) Q E s := by
  obtain ⟨hp, gs, d, t, os⟩ := s
  unfold getAttr
  refine wpAny_bind (wpAny_mkText (getx_by (s := ⟨hp, gs, d, t + 1, os⟩) X I g fun A' => ?_))
  have L0 := I.type (M := model prog w)
  have L1 := PySem.W.looks_find (M := model prog w) X I hf
  unfold Builtin.«object.__getattribute__»
  refine wpAny_bind (wpAny_pure (wpAny_bind (wpAny_pure (wpAny_bind (L0.at (wpAny_bind (L1.at ?_)))))))
  refine wpAny_pure ?_
  show wpAny _ _ (handedOut v) _ _ _
  rw [PySem.W.handedOut_of hh]; exact wpAny_pure h
/-- e.__class__ -/
theorem getx_class {E : Value → Shared → Prop} {Q : Option Value → Shared → Prop} (X : K.In s.heap) (I : PySem.W.InstAt s.heap x ox C od) (g : XgAt K C) (h : Q (some (.ref C)) { s with toks := s.toks + 1 }) :
    wpAny (model prog w) A (getAttr? (.ref x) "__class__") Q E s := by
  have hf : PySem.W.findObj K C od "__class__" = some (.bind (.builtin "getset_descriptor.__get__") (.builtin "object.__class__")) := by
    obtain ⟨cd, hc, _⟩ := PySem.W.any_some g.hd
    unfold PySem.W.findObj
    rw [hc, Option.bind_some, g.kc, Option.bind_some]
    simp [g.kg, g.kt]
  obtain ⟨hp, gs, d, t, os⟩ := s
  unfold getAttr? getAttrBy?
  refine wpAny_bind (wpAny_mkText (wpAny_bind (wpAny_attempt (getx_by (s := ⟨hp, gs, d, t + 1, os⟩) X I g fun A' => ?_))))
  have L0 := I.type (M := model prog w)
  have L1 := PySem.W.looks_find (M := model prog w) X I hf
  unfold Builtin.«object.__getattribute__»
  refine wpAny_bind (wpAny_pure (wpAny_bind (wpAny_pure (wpAny_bind (L0.at (wpAny_bind (L1.at ?_)))))))
  refine wpAny_bind (wpAny_holding (wpAny_call (PySem.W.class_get (s := ⟨hp, gs, d, t + 1, os⟩) (ox := ox) (od := od) X I g.ob ?_)))
  exact wpAny_pure (PySem.W.handed_on rfl (wpAny_pure h))
end
theorem kitx_x {K : PySem.W.Frag} {x D : Addr} (g : XgAt K D) : PySem.W.KitX K (.ref x) (.ref D) (fun h => ∃ ox od, PySem.W.InstAt h x ox D od) where
  ty := fun _ _ _ ⟨_, _, I⟩ => I.type
  it := fun _ _ X _ => by
    obtain ⟨cdD, hcD, _⟩ := PySem.W.any_some g.hd
    unfold PySem.W.clsIn at hcD
    split at hcD
    · rename_i c' d' cd' sl' ho
      intro A' Q' E' s' k q
      unfold isType loadHead
      exact wpAny_bind (wpAny_loadPart (k _ _ (X _ _ ho)) (wpAny_pure q))
    · cases hcD
  ne := fun h tp dd its n sl X htp => by
    obtain ⟨cdD, hcD, _⟩ := PySem.W.any_some g.hd
    refine Bool.eq_false_iff.mpr fun q => ?_
    have e : D = tp := Value.ref.inj (beq_iff_eq.mp q)
    subst e
    unfold PySem.W.clsIn at hcD
    split at hcD
    · rename_i c' d' cd' sl' ho
      have z := (X _ _ ho).symm.trans htp
      cases z
    · cases hcD
  ca := fun X I k => by obtain ⟨ox, od, I⟩ := I; exact getx_class X I g k
theorem exF_inj {a : Addr} {c c' : Value} {d d' : Option Addr} (e : exF a c d = exF a c' d') : c = c' ∧ d = d' := by
  have h1 : exF a c d { objs := Array.replicate (a + 1) ⟨c, d, .fields #[], #[]⟩ } := ⟨⟨c, d, .fields #[], #[]⟩, #[], by unfold Heap.get?; simp, rfl, rfl, rfl⟩
  rw [e] at h1
  obtain ⟨oe, vs, e1, e2, e3, _⟩ := h1
  have e0 : Heap.get? { objs := Array.replicate (a + 1) ⟨c, d, .fields #[], #[]⟩ } a = some ⟨c, d, .fields #[], #[]⟩ := by unfold Heap.get?; simp
  rw [e0] at e1
  cases e1
  exact ⟨e2, e3⟩
theorem ex_exf {a : Addr} {c : Value} {d : Addr} {N : Addr → Prop} : (∃ dx, some (HO.ext (exF a c (some d))) = some (HO.ext (exF a c (some dx))) ∧ N dx) = N d := by
  apply propext; constructor
  · rintro ⟨dx, e, h⟩
    have e1 := Option.some.inj e
    injection e1 with e2
    obtain ⟨_, e3⟩ := exF_inj e2
    cases e3
    exact h
  · exact fun h => ⟨d, rfl, h⟩
theorem ex_exc {a : Addr} {C : Addr} {d : Option Addr} {N : Addr → Option Addr → Prop} : (∃ D dx, some (HO.ext (exF a (.ref C) d)) = some (HO.ext (exF a (.ref D) dx)) ∧ N D dx) = N C d := by
  apply propext; constructor
  · rintro ⟨D, dx, e, h⟩
    have e1 := Option.some.inj e
    injection e1 with e2
    obtain ⟨e3, e4⟩ := exF_inj e2
    cases e3; cases e4
    exact h
  · exact fun h => ⟨C, d, rfl, h⟩
theorem ex_xd {l : List (Str × V)} {N : List (Str × V) → Prop} : (∃ fs, some (HO.xd l) = some (HO.xd fs) ∧ N fs) = N l := by
  apply propext; constructor
  · rintro ⟨fs, e, h⟩; cases e; exact h
  · exact fun h => ⟨l, rfl, h⟩
noncomputable def rFldX (C : Addr) (f : Str) (x : V) (H : Hp) (Q : VK) : Prop := ∃ a, x = .ref a ∧ ∃ dx, H a = some (.ext (exF a (.ref C) (some dx))) ∧ ∃ fs, H dx = some (.xd fs) ∧ ∃ v, fs.lookup f = some v ∧ Q v H
noncomputable def tFldX (C : Addr) (f : Str) (ta : TE) : TE := fun σ H Q => ta σ H fun x H1 => rFldX C f x H1 Q
theorem rFldX_ref {C a : Addr} {f : Str} {H : Hp} {Q : VK} : rFldX C f (.ref a) H Q = ∃ dx, H a = some (.ext (exF a (.ref C) (some dx))) ∧ ∃ fs, H dx = some (.xd fs) ∧ ∃ v, fs.lookup f = some v ∧ Q v H := by
  apply propext; unfold rFldX; constructor
  · rintro ⟨b, e, h⟩; cases e; exact h
  · exact fun h => ⟨a, rfl, h⟩
noncomputable def isbO (o : Option Bool) (N : Bool → Prop) : Prop := match o with
  | some b => N b
  | none => False
theorem isbO_some {b : Bool} {N : Bool → Prop} : isbO (some b) N = N b := rfl
/-- its dict is there, where it has one -/
noncomputable def xdOk (H : Hp) : Option Addr → Prop
  | none => True
  | some d => ∃ fs, H d = some (.xd fs)
theorem xdOk_n {H : Hp} : xdOk H none = True := rfl
theorem xdOk_s {H : Hp} {d : Addr} : xdOk H (some d) = ∃ fs, H d = some (.xd fs) := rfl
theorem ex_xd1 {l : List (Str × V)} : (∃ fs, some (HO.xd l) = some (HO.xd fs)) = True := eq_true ⟨l, rfl⟩
noncomputable def rIsiX (K : PySem.W.Frag) : List V → Hp → VK → Prop := fun xs H Q => match xs with
  | [.ref p, .ref C] => ∃ D dx, H p = some (.ext (exF p (.ref D) dx)) ∧ XgAt K D ∧ xdOk H dx ∧ isbO (PySem.W.kitOne K (.ref D) (.ref C)) fun b => Q (.bl b) H
  | [.ref p, .ty n] => ∃ D dx, H p = some (.ext (exF p (.ref D) dx)) ∧ XgAt K D ∧ xdOk H dx ∧ isbO (PySem.W.kitOne K (.ref D) (.type n)) fun b => Q (.bl b) H
  | _ => False
theorem rIsiX_ref {K : PySem.W.Frag} {p C : Addr} {H : Hp} {Q : VK} : rIsiX K [.ref p, .ref C] H Q = ∃ D dx, H p = some (.ext (exF p (.ref D) dx)) ∧ XgAt K D ∧ xdOk H dx ∧ isbO (PySem.W.kitOne K (.ref D) (.ref C)) fun b => Q (.bl b) H := rfl
theorem rIsiX_ty {K : PySem.W.Frag} {p : Addr} {n : String} {H : Hp} {Q : VK} : rIsiX K [.ref p, .ty n] H Q = ∃ D dx, H p = some (.ext (exF p (.ref D) dx)) ∧ XgAt K D ∧ xdOk H dx ∧ isbO (PySem.W.kitOne K (.ref D) (.type n)) fun b => Q (.bl b) H := rfl
section
variable {X : Cx} {e : Expr} {f x : Str} {C : Addr} {ta : TE} {pos : Pos}
theorem Inv.inst {pins : List (Addr × Obj)} {σ : St} {H : Hp} {s : Shared} {p D : Addr} {dx : Option Addr} (I : Inv X pins σ H s) (h : H p = some (.ext (exF p (.ref D) dx))) (hd : ∀ d, dx = some d → ∃ o, s.heap.get? d = some o) :
    ∃ ox od, PySem.W.InstAt s.heap p ox D od ∧ ∀ d, dx = some d → s.heap.get? d = od := by
  obtain ⟨⟨oe, vs, he, hc, hdx, hdt⟩, _⟩ := (show ObjOk X.prog X.w H s.heap p (.ext (exF p (.ref D) dx)) from I.hok p _ h)
  cases dx with
  | none => exact ⟨oe, none, ⟨he, hc, by unfold PySem.W.notCls; rw [hdt], by rw [hdx]; trivial⟩, fun d z => by cases z⟩
  | some d =>
    obtain ⟨o, ho⟩ := hd d rfl
    exact ⟨oe, some o, ⟨he, hc, by unfold PySem.W.notCls; rw [hdt], by rw [hdx]; exact ho⟩, fun d' z => by cases z; exact ho⟩
/-- e.f of a caught exception -/
theorem pe_getX (he : PE X e ta) (g : XgAt X.K C) (m : XfAt X.K C f) (hb : attributeBase e f X.env (eval e X.env) = eval e X.env) : PE X (.Attribute e f pos) (tFldX C f ta) := by
  intro pins s σ H Q I h
  refine attr_of hb (thn (he pins s σ H _ I h) fun u s1 ⟨x, H1, I1, rx, a, ex, dx, ea, fs, ed, v, l, q⟩ => ?_)
  subst ex
  obtain rfl : u = Value.ref a := rx
  obtain ⟨mA, hn, hr⟩ := (show ObjOk X.prog X.w H1 s1.heap dx (.xd fs) from I1.hok dx _ ed)
  obtain ⟨o, ho, hl⟩ := lookIn_ns hn
  obtain ⟨ox, od, J, hj⟩ := I1.inst ea (fun d z => by cases z; exact ⟨o, ho⟩)
  have ej := hj dx rfl
  rw [ho] at ej
  subst ej
  obtain ⟨u, hu, ru⟩ := RelO.some_of (v := v) (o := mA f) (by rw [← l]; exact hr f)
  exact getx_value I1.kIn J g (PySem.W.findObj_own g.hd m.no rfl (by rw [hl, hu])) (handed_of ru) ⟨v, H1, I1.tok _, ru, q⟩
theorem call_isiX (K : PySem.W.Frag) (hK : X.K = K) : CallR X (.builtin "isinstance") (rIsiX K) := by
  subst hK
  intro pins s σ H xs us Q I rs q
  unfold rIsiX at q
  have key : ∀ {p D : Addr} {dx : Option Addr} {c : Value} {b : Bool}, H p = some (.ext (exF p (.ref D) dx)) → XgAt X.K D → xdOk H dx → PySem.W.kitOne X.K (.ref D) c = some b → Q (.bl b) H → wpAny (model X.prog X.w) X.A (call (.builtin "isinstance") [.ref p, c]) (EP X pins σ Q) X.xe s := fun {p D dx c b} hp g ok e h => by
    obtain ⟨ox, od, J, _⟩ := I.inst hp (fun d z => by
      subst z
      obtain ⟨fs, ed⟩ := ok
      exact (I.hok d _ ed).there)
    exact PySem.W.kia_one (kitx_x g) I.kIn ⟨ox, od, J⟩ e (fun z => nomatch z) fun tk => ⟨.bl b, H, I.tok tk, rfl, h⟩
  split at q
  · rename_i p C
    obtain ⟨u, c, rfl, ru, rc⟩ := vals2 rs
    obtain rfl : u = Value.ref p := ru
    obtain rfl : c = Value.ref C := rc
    obtain ⟨D, dx, hp, g, ok, q⟩ := q
    cases e : PySem.W.kitOne X.K (.ref D) (.ref C) with
    | none => rw [e] at q; exact q.elim
    | some b => rw [e] at q; exact key hp g ok e q
  · rename_i p n
    obtain ⟨u, c, rfl, ru, rc⟩ := vals2 rs
    obtain rfl : u = Value.ref p := ru
    obtain rfl : c = Value.type n := rc
    obtain ⟨D, dx, hp, g, ok, q⟩ := q
    cases e : PySem.W.kitOne X.K (.ref D) (.type n) with
    | none => rw [e] at q; exact q.elim
    | some b => rw [e] at q; exact key hp g ok e q
  · exact q.elim
theorem pe_cls (m : XmAt X.K X.mg x C) (hg : Gl X x) (hd : (x == ("__debug__" : Str)) = false := by decide) : PE X (.Name x pos) (tC (.ref C)) := pe_glob hg m.mgC rfl hd
end
section
variable {X : Cx} {CX : CXT} {k n : Nat} {C R : Addr} {ps : List Str} {sp : Sp} {E : XK} {x m : Str} {p pos apos : Pos} {e o : Expr} {es : List Expr} {ta : TE} {t : TA} {st : Stmt} {ts : TS}
theorem PS.nox (h : PS X.nox st ts) : PS X st ts := fun pins s σ H D I hw =>
  wpAny_mono (h pins s σ H D (I.wish _) hw) (fun _ _ q => q.unwish) fun _ _ z => False.elim z
/-- f(..) in a def that may raise: the exception goes on -/
theorem pe_fnE (G : FnAt X.prog X.w X.K X.mg X.base (CX1 X.prog X.w) x k ps sp) (hr : Room n X.A) (hk : k ≤ n) (hg : Gl X x) (hz : Rz X E) (hex : X.ex = []) (ha : PA X (e :: es) t)
    (hdb : (x == ("__debug__" : Str)) = false := by decide) (h : (e :: es).any isStar = false := by rfl) : PE X (.Call (.Name x p) (e :: es) [] pos) (tCall sp [] E t) := by
  obtain ⟨f, fd, F, hm, kp, b, _⟩ := G
  rw [List.any_cons, Bool.or_eq_false_iff] at h
  exact pe_call F (hr.mono hk) hg hm kp b .nil (hz.passes hex) ha hdb (starEach_of h.1) (noStars h.2)
/-- a class with an own __init__ -/
noncomputable def XcI (K : PySem.W.Frag) (mg : Str → Option Value) (x : Str) (C R : Addr) : Prop := ∃ ini, XcAt K mg x C R ini
theorem ps_raiseIQ {CX : CXT} [Quiet CX] (c : XcI X.K X.mg x C R) (G : MtAt X.prog X.w X.K X.mg X.base CX C "__init__" k ps sp) (kp : PySem.W.keepIn X.K (.ref C) = true) (hr : Room n X.A) (hk : k + 1 ≤ n) (hz : Rz X E) (hc : X.calm = true) (hex : X.ex = []) (hg : Gl X x) (ha : PA X (e :: es) t)
    (hdb : (x == ("__debug__" : Str)) = false := by decide) (h : (e :: es).any isStar = false := by rfl) (hlen : ∀ us : List Value, us.length + 1 = ps.length → us.length ≤ sizeLine := by intro us h; simp at h; rw [sizeLine_eq]; omega) :
    PS X (.Raise (some (.Call (.Name x p) (e :: es) [] apos)) none pos) (tRaiseI C sp E t) := by
  obtain ⟨ini, c⟩ := c
  rw [List.any_cons, Bool.or_eq_false_iff] at h
  exact ps_raiseI c G kp (hr.mono hk) hz hc hex hg ha hdb (starEach_of h.1) (noStars h.2) hlen
theorem ps_fldXQ {value : Expr} {f : Str} {pos' : Pos} {tv : TE} (c : XcI X.K X.mg x C R) (m : XfAt X.K C f) (ha : PE X o ta) (hv : PE X value tv) (hs : isComp value = false := by rfl) : PS X (.Assign [.Attribute o f pos'] value pos) (sFldX C ta tv f) := by
  obtain ⟨ini, c⟩ := c
  exact ps_fldX c m ha hv hs
end
/-- the rule of a method that may raise -/
theorem MethAt.fnX {P : Program} {w : World} {K : PySem.W.Frag} {mg : Str → Option Value} {base : Heap} {CX : CXT} {C : Addr} {m q : Str} {st : Stmt} {N ps : List Str} {k : Nat} {sp : Sp} (F : MethAt K C m q st) (S : FnScope N ps (defScope st))
    (hb : ∀ (kV doc pm : Value) (an : Option Addr) (cdv ct : Value) (us : List Value), us.length = ps.length → bindArgs (PySem.W.fnOf m q (defArgs st) (defBody st) (defScope st) .none kV doc pm an cdv ct) ⟨us, []⟩ = pure (ps.zip us))
    (len : ∀ vs H Q E, sp vs H Q E → vs.length = ps.length)
    (hbody : ∀ (f : Addr) (cdv : Value) (A : Around) (outer : List Env) (s : Shared) (H : Hp) (vs : List V) (Q : VK) (E : XK), Room k (A.deeper (envOfC q (defScope st) s.heap.objs.size f cdv)) → sp vs H Q E →
      ∃ t, PSs (cxOf CX P w K mg base N q (defScope st) f cdv A outer s H E) (defBody st) t ∧ t { nx := fun _ H' => Q .non H', rt := Q } (start N vs) H) : MtAt P w K mg base CX C m (k + 1) ps sp := by
  obtain ⟨f, fd, F, hm⟩ := F
  have bd := F.binds hb
  obtain ⟨oc, od, kV, doc, pm, an, cdv, ct, osl, rfl, lk, hcd⟩ := F.ex
  exact ⟨f, _, fn_of lk hcd S len fun A outer s H vs Q E hr hsp => hbody f cdv A outer s H vs Q E hr hsp, hm, bd⟩
theorem xgat_mk {K : PySem.W.Frag} {C : Addr} (ga : PySem.W.findIn K (.ref C) "__getattribute__" = some (some (.builtin "BaseException.__getattribute__"))) (gh : PySem.W.findIn K (.ref C) "__getattr__" = some none) (bx : PySem.W.mroIn K C (.type "BaseException") = some true)
    (ob : PySem.W.mroIn K C (.type "object") = some true) (hd : PySem.W.hasDictIn K C = true) (kc : PySem.W.findIn K (.ref C) "__class__" = some (some (.builtin "object.__class__"))) (kg : PySem.W.specialIn K (.builtin "object.__class__") "__get__" = some (some (.builtin "getset_descriptor.__get__")))
    (kt : PySem.W.takesIn K (.builtin "object.__class__") = some true) : XgAt K C := ⟨ga, gh, bx, ob, hd, kc, kg, kt⟩
theorem xmat_mk {K : PySem.W.Frag} {h : Heap} {mg : Str → Option Value} {x : Str} {C : Addr} (X : K.In h) (G : h.Ns mainGlobals mg) (a : PySem.W.nsIn K mainGlobals x = some (some (.ref C))) (t : PySem.W.typeIn K (.ref C) = some (.type "type")) (b : PySem.W.mroIn K C (.type "BaseException") = some true) : XmAt K mg x C :=
  ⟨PySem.W.mg_of X G a, t, b⟩
end L2


set_option maxRecDepth 100000
set_option maxHeartbeats 1000000
namespace L2
open PySem PySem.Spec PyProof.Rows
/-- the value stands for the datum; n bounds the depth -/
noncomputable def Dn (K : PySem.W.Frag) (H : Hp) : Nat → V → Dt → Prop
  | 0, x, d => (x = .non ∧ d = .non) ∨ (∃ i, x = .int i ∧ d = .int i) ∨ (∃ z, x = .str z ∧ d = .str z) ∨ (∃ b, x = .bl b ∧ d = .int (if b then 1 else 0))
  | n + 1, x, d => Dn K H n x d ∨ (∃ a xs ds, x = .ref a ∧ d = .l ds ∧ SqL K H a xs ∧ Paired (Dn K H n) xs ds) ∨ (∃ a xs ds, x = .ref a ∧ d = .t ds ∧ SqT K H a xs ∧ Paired (Dn K H n) xs ds)
section
variable {X : Cx} {pins : List (Addr × Obj)} {σ : St} {H : Hp} {s : Shared}
open Classical in
theorem decD_int {i j : Int} : decide (Dt.int i = Dt.int j) = (i == j) := by
  rw [Bool.eq_iff_iff, decide_eq_true_eq, beq_iff_eq]
  exact ⟨fun q => Dt.int.inj q, fun q => by rw [q]⟩
theorem bl_eq (a b : Bool) : ((if a then (1 : Int) else 0) == (if b then 1 else 0)) = (a == b) := by cases a <;> cases b <;> rfl
open Classical in
theorem dn_scal {A : Around} {x y : V} {u v : Value} {d e : Dt} (rx : RelV x u) (ry : RelV y v) (hx : Dn X.K H 0 x d) (hy : Dn X.K H 0 y e) : SeqAt.EqAt A s u v (decide (d = e)) := by
  rcases hx with ⟨rfl, rfl⟩ | ⟨i, rfl, rfl⟩ | ⟨i, rfl, rfl⟩ | ⟨i, rfl, rfl⟩ <;> rcases hy with ⟨rfl, rfl⟩ | ⟨j, rfl, rfl⟩ | ⟨j, rfl, rfl⟩ | ⟨j, rfl, rfl⟩
  · cases rx; cases ry; rw [decide_eq_true rfl]; exact SeqAt.EqAt.same _
  · cases rx; obtain ⟨t, rfl⟩ := ry; rw [decide_eq_false (fun z => nomatch z)]; exact SeqAt.EqAt.none_int _ _
  · cases rx; obtain ⟨t, rfl⟩ := ry; rw [decide_eq_false (fun z => nomatch z)]; exact SeqAt.EqAt.none_str _ _
  · cases rx; cases ry; rw [decide_eq_false (fun z => nomatch z)]; exact SeqAt.EqAt.none_bool _
  · obtain ⟨t, rfl⟩ := rx; cases ry; rw [decide_eq_false (fun z => nomatch z)]; exact SeqAt.EqAt.int_none _ _
  · obtain ⟨t, rfl⟩ := rx; obtain ⟨t', rfl⟩ := ry; rw [decD_int]; exact SeqAt.EqAt.int_int _ _ _ _
  · obtain ⟨t, rfl⟩ := rx; obtain ⟨t', rfl⟩ := ry; rw [decide_eq_false (fun z => nomatch z)]; exact SeqAt.EqAt.int_str _ _ _ _
  · obtain ⟨t, rfl⟩ := rx; cases ry; rw [decD_int]; exact SeqAt.EqAt.int_bool _ _ _
  · obtain ⟨t, rfl⟩ := rx; cases ry; rw [decide_eq_false (fun z => nomatch z)]; exact SeqAt.EqAt.str_none _ _
  · obtain ⟨t, rfl⟩ := rx; obtain ⟨t', rfl⟩ := ry; rw [decide_eq_false (fun z => nomatch z)]; exact SeqAt.EqAt.str_int _ _ _ _
  · obtain ⟨t, rfl⟩ := rx; obtain ⟨t', rfl⟩ := ry
    have e : decide (Dt.str i = Dt.str j) = (i == j) := by
      rw [Bool.eq_iff_iff, decide_eq_true_eq, beq_iff_eq]
      exact ⟨fun q => Dt.str.inj q, fun q => by rw [q]⟩
    rw [e]; exact SeqAt.EqAt.str_str _ _ _ _
  · obtain ⟨t, rfl⟩ := rx; cases ry; rw [decide_eq_false (fun z => nomatch z)]; exact SeqAt.EqAt.str_bool _ _ _
  · cases rx; cases ry; rw [decide_eq_false (fun z => nomatch z)]; exact SeqAt.EqAt.bool_none _
  · cases rx; obtain ⟨t, rfl⟩ := ry; rw [decD_int]; exact SeqAt.EqAt.bool_int _ _ _
  · cases rx; obtain ⟨t, rfl⟩ := ry; rw [decide_eq_false (fun z => nomatch z)]; exact SeqAt.EqAt.bool_str _ _ _
  · cases rx; cases ry; rw [decD_int, bl_eq]; exact SeqAt.EqAt.bool_bool _ _
/-- the depth's parts -/
theorem Dn.cases {K : PySem.W.Frag} {H : Hp} : ∀ {n : Nat} {x : V} {d : Dt}, Dn K H n x d → Dn K H 0 x d ∨ (∃ m, m < n ∧ ∃ a xs ds, x = .ref a ∧ d = .l ds ∧ SqL K H a xs ∧ Paired (Dn K H m) xs ds) ∨ (∃ m, m < n ∧ ∃ a xs ds, x = .ref a ∧ d = .t ds ∧ SqT K H a xs ∧ Paired (Dn K H m) xs ds)
  | 0, _, _, h => .inl h
  | n + 1, _, _, h => by
    rcases h with h | h | h
    · rcases Dn.cases h with q | ⟨m, hm, q⟩ | ⟨m, hm, q⟩
      · exact .inl q
      · exact .inr (.inl ⟨m, by omega, q⟩)
      · exact .inr (.inr ⟨m, by omega, q⟩)
    · exact .inr (.inl ⟨n, by omega, h⟩)
    · exact .inr (.inr ⟨n, by omega, h⟩)
theorem Dn.up {K : PySem.W.Frag} {H : Hp} {n m : Nat} {x : V} {d : Dt} (h : Dn K H n x d) (hm : n ≤ m) : Dn K H m x d := by
  induction m with
  | zero => have : n = 0 := by omega
            subst this; exact h
  | succ m ih =>
    by_cases e : n = m + 1
    · subst e; exact h
    · exact .inl (ih (by omega))
theorem dn_det (n : Nat) : ∀ {m : Nat} {x : V} {d e : Dt}, Inv X pins σ H s → Dn X.K H n x d → Dn X.K H m x e → d = e := by
  induction n using Nat.strongRecOn with
  | _ n ih =>
  intro m x d e I hx hy
  rcases hx.cases with hx | ⟨m1, hm, a, xs, ds, rfl, rfl, ha, pa⟩ | ⟨m1, hm, a, xs, ds, rfl, rfl, ha, pa⟩
  · rcases hy.cases with hy | ⟨k, hk, b, ys, es, rfl, rfl, hb, pb⟩ | ⟨k, hk, b, ys, es, rfl, rfl, hb, pb⟩
    · rcases hx with ⟨rfl, rfl⟩ | ⟨i, rfl, rfl⟩ | ⟨i, rfl, rfl⟩ | ⟨i, rfl, rfl⟩ <;> rcases hy with ⟨z, rfl⟩ | ⟨j, z, rfl⟩ | ⟨j, z, rfl⟩ | ⟨j, z, rfl⟩ <;> first | rfl | (cases z; rfl) | cases z
    · rcases hx with ⟨z, _⟩ | ⟨i, z, _⟩ | ⟨i, z, _⟩ | ⟨i, z, _⟩ <;> cases z
    · rcases hx with ⟨z, _⟩ | ⟨i, z, _⟩ | ⟨i, z, _⟩ | ⟨i, z, _⟩ <;> cases z
  · rcases hy.cases with hy | ⟨k, hk, b, ys, es, e1, rfl, hb, pb⟩ | ⟨k, hk, b, ys, es, e1, rfl, hb, pb⟩
    · rcases hy with ⟨z, _⟩ | ⟨i, z, _⟩ | ⟨i, z, _⟩ | ⟨i, z, _⟩ <;> cases z
    · cases e1
      have := I.list_inj ha hb
      subst this
      rw [paired_det pa pb fun x d e h1 h2 => ih m1 hm I h1 h2]
    · cases e1
      exact (list_not_tuple I ha hb).elim
  · rcases hy.cases with hy | ⟨k, hk, b, ys, es, e1, rfl, hb, pb⟩ | ⟨k, hk, b, ys, es, e1, rfl, hb, pb⟩
    · rcases hy with ⟨z, _⟩ | ⟨i, z, _⟩ | ⟨i, z, _⟩ | ⟨i, z, _⟩ <;> cases z
    · cases e1
      exact (list_not_tuple I hb ha).elim
    · cases e1
      have := I.tuple_inj ha hb
      subst this
      rw [paired_det pa pb fun x d e h1 h2 => ih m1 hm I h1 h2]
open Classical in
/-- the items' answers -/
theorem dn_items {n : Nat} {A : Around} {xs ys : List V} {its its2 : List Value} {ds es : List Dt} {m k : Nat} (r1 : Vals xs its) (r2 : Vals ys its2) (pa : Paired (Dn X.K H m) xs ds) (pb : Paired (Dn X.K H k) ys es)
    (ih : ∀ x y u v d e, RelV x u → RelV y v → Dn X.K H m x d → Dn X.K H k y e → SeqAt.EqAt A s u v (decide (d = e))) :
    ∀ j (h1 : j < its.toArray.size) (h2 : j < its2.toArray.size), SeqAt.EqAt A s its.toArray[j] its2.toArray[j] (decide (ds[j]? = es[j]?)) := by
  intro j h1 h2
  have h1' : j < its.length := by simpa using h1
  have h2' : j < its2.length := by simpa using h2
  have l1 := r1.length
  have l2 := r2.length
  have x1 : xs[j]? = some xs[j] := by simp
  have y1 : ys[j]? = some ys[j] := by simp
  obtain ⟨d', hd', pd⟩ := Paired.get pa x1
  obtain ⟨e', he', pe⟩ := Paired.get pb y1
  obtain ⟨u', hu1, ru⟩ := r1.get x1
  obtain ⟨v', hv1, rv⟩ := r2.get y1
  have e1 : its.toArray[j] = u' := by
    have : its[j]? = some its[j] := by simp
    rw [hu1] at this
    simpa using (Option.some.inj this).symm
  have e2 : its2.toArray[j] = v' := by
    have : its2[j]? = some its2[j] := by simp
    rw [hv1] at this
    simpa using (Option.some.inj this).symm
  have e3 : decide (ds[j]? = es[j]?) = decide (d' = e') := by
    rw [hd', he', Bool.eq_iff_iff, decide_eq_true_eq, decide_eq_true_eq]
    exact ⟨fun q => Option.some.inj q, fun q => by rw [q]⟩
  rw [e1, e2, e3]
  exact ih _ _ _ _ _ _ ru rv pd pe
open Classical in
theorem dn_rc (n : Nat) : ∀ {A : Around} {x y : V} {u v : Value} {d e : Dt}, Inv X pins σ H s → A.units + n < cLine → RelV x u → RelV y v → Dn X.K H n x d → Dn X.K H n y e → SeqAt.EqAt A s u v (decide (d = e)) ∧ ∀ a b, x = .ref a → y = .ref b → SeqAt.RcAt A s (.ref a) (.ref b) (decide (d = e)) := by
  induction n using Nat.strongRecOn with
  | _ n ih =>
  intro A x y u v d e I hu rx ry hx hy
  have lift : ∀ {a b : Addr}, x = .ref a → y = .ref b → SeqAt.RcAt A s (.ref a) (.ref b) (decide (d = e)) → SeqAt.EqAt A s (.ref a) (.ref b) (decide (d = e)) := fun {a b} ea eb q => by
    by_cases hab : a = b
    · subst hab
      subst ea
      subst eb
      rw [decide_eq_true (dn_det n I hx hy)]
      exact SeqAt.EqAt.same _
    · exact SeqAt.EqAt.of_refs hab q
  have hu' : A.units < cLine := by omega
  rcases hx.cases with hx' | ⟨m, hm, a, xs, ds, rfl, rfl, ha, pa⟩ | ⟨m, hm, a, xs, ds, rfl, rfl, ha, pa⟩
  · rcases hy.cases with hy' | ⟨k, hk, b, ys, es, rfl, rfl, hb, pb⟩ | ⟨k, hk, b, ys, es, rfl, rfl, hb, pb⟩
    · refine ⟨dn_scal rx ry hx' hy', fun a b e1 e2 => ?_⟩
      subst e1
      rcases hx' with ⟨z, _⟩ | ⟨i, z, _⟩ | ⟨i, z, _⟩ | ⟨i, z, _⟩ <;> cases z
    · cases ry
      obtain ⟨its, _, p, _⟩ := I.list hb
      rcases hx' with ⟨rfl, rfl⟩ | ⟨i, rfl, rfl⟩ | ⟨i, rfl, rfl⟩ | ⟨i, rfl, rfl⟩
      · cases rx; rw [decide_eq_false (fun z => nomatch z)]; exact ⟨SeqAt.EqAt.none_list p.isList hu', fun a b z => nomatch z⟩
      · obtain ⟨t, rfl⟩ := rx; rw [decide_eq_false (fun z => nomatch z)]; exact ⟨SeqAt.EqAt.int_list _ _ p.isList hu', fun a b z => nomatch z⟩
      · obtain ⟨t, rfl⟩ := rx; rw [decide_eq_false (fun z => nomatch z)]; exact ⟨SeqAt.EqAt.str_list _ _ p.isList hu', fun a b z => nomatch z⟩
      · cases rx; rw [decide_eq_false (fun z => nomatch z)]; exact ⟨SeqAt.EqAt.bool_list _ p.isList hu', fun a b z => nomatch z⟩
    · cases ry
      obtain ⟨its, _, p, _⟩ := I.tuple hb
      rcases hx' with ⟨rfl, rfl⟩ | ⟨i, rfl, rfl⟩ | ⟨i, rfl, rfl⟩ | ⟨i, rfl, rfl⟩
      · cases rx; rw [decide_eq_false (fun z => nomatch z)]; exact ⟨SeqAt.EqAt.none_tuple p hu', fun a b z => nomatch z⟩
      · obtain ⟨t, rfl⟩ := rx; rw [decide_eq_false (fun z => nomatch z)]; exact ⟨SeqAt.EqAt.int_tuple _ _ p hu', fun a b z => nomatch z⟩
      · obtain ⟨t, rfl⟩ := rx; rw [decide_eq_false (fun z => nomatch z)]; exact ⟨SeqAt.EqAt.str_tuple _ _ p hu', fun a b z => nomatch z⟩
      · cases rx; rw [decide_eq_false (fun z => nomatch z)]; exact ⟨SeqAt.EqAt.bool_tuple _ p hu', fun a b z => nomatch z⟩
  · cases rx
    obtain ⟨its, r1, p, hz⟩ := I.list ha
    rcases hy.cases with hy' | ⟨k, hk, b, ys, es, rfl, rfl, hb, pb⟩ | ⟨k, hk, b, ys, es, rfl, rfl, hb, pb⟩
    · rcases hy' with ⟨rfl, rfl⟩ | ⟨i, rfl, rfl⟩ | ⟨i, rfl, rfl⟩ | ⟨i, rfl, rfl⟩
      · cases ry; rw [decide_eq_false (fun z => nomatch z)]; exact ⟨SeqAt.EqAt.list_none p.isList hu', fun a b _ z => nomatch z⟩
      · obtain ⟨t, rfl⟩ := ry; rw [decide_eq_false (fun z => nomatch z)]; exact ⟨SeqAt.EqAt.list_int _ _ p.isList hu', fun a b _ z => nomatch z⟩
      · obtain ⟨t, rfl⟩ := ry; rw [decide_eq_false (fun z => nomatch z)]; exact ⟨SeqAt.EqAt.list_str _ _ p.isList hu', fun a b _ z => nomatch z⟩
      · cases ry; rw [decide_eq_false (fun z => nomatch z)]; exact ⟨SeqAt.EqAt.list_bool _ p.isList hu', fun a b _ z => nomatch z⟩
    · cases ry
      obtain ⟨its2, r2, p2, hz2⟩ := I.list hb
      have l1 := r1.length
      have l2 := r2.length
      have l3 := Paired.length pa
      have l4 := Paired.length pb
      have eqd : decide (Dt.l ds = Dt.l es) = decide (ds = es) := by
        rw [Bool.eq_iff_iff, decide_eq_true_eq, decide_eq_true_eq]
        exact ⟨fun q => Dt.l.inj q, fun q => by rw [q]⟩
      have rc : SeqAt.RcAt A s (.ref a) (.ref b) (decide (Dt.l ds = Dt.l es)) := by
        rw [eqd]
        by_cases hl : its.length = its2.length
        · have key := SeqAt.RcAt.lists (e := fun j => decide (ds[j]? = es[j]?)) p.isList p2.isList (by simpa using hl) hu' (dn_items (n := n) r1 r2 pa pb fun x y u v d e rx ry h1 h2 =>
            (ih (max m k) (by omega) (A := A.in1) I (by show A.units + 1 + max m k < cLine; omega) rx ry (h1.up (Nat.le_max_left _ _)) (h2.up (Nat.le_max_right _ _))).1)
          rw [all_items (by rw [List.size_toArray]; omega) (by omega)] at key
          exact key
        · have hne : ds ≠ es := fun q => hl (by rw [q] at l3; omega)
          rw [decide_eq_false hne]
          exact SeqAt.RcAt.lists_lengths p.isList p2.isList (size_ne hl) hu'
      exact ⟨lift rfl rfl rc, fun a' b' e1 e2 => by cases e1; cases e2; exact rc⟩
    · cases ry
      obtain ⟨its2, r2, p2, _⟩ := I.tuple hb
      rw [decide_eq_false (fun z => nomatch z)]
      exact ⟨SeqAt.EqAt.list_tuple p.isList p2 hu', fun a' b' e1 e2 => by cases e1; cases e2; exact SeqAt.RcAt.list_tuple p.isList p2 hu'⟩
  · cases rx
    obtain ⟨its, r1, p, hz⟩ := I.tuple ha
    rcases hy.cases with hy' | ⟨k, hk, b, ys, es, rfl, rfl, hb, pb⟩ | ⟨k, hk, b, ys, es, rfl, rfl, hb, pb⟩
    · rcases hy' with ⟨rfl, rfl⟩ | ⟨i, rfl, rfl⟩ | ⟨i, rfl, rfl⟩ | ⟨i, rfl, rfl⟩
      · cases ry; rw [decide_eq_false (fun z => nomatch z)]; exact ⟨SeqAt.EqAt.tuple_none p hu', fun a b _ z => nomatch z⟩
      · obtain ⟨t, rfl⟩ := ry; rw [decide_eq_false (fun z => nomatch z)]; exact ⟨SeqAt.EqAt.tuple_int _ _ p hu', fun a b _ z => nomatch z⟩
      · obtain ⟨t, rfl⟩ := ry; rw [decide_eq_false (fun z => nomatch z)]; exact ⟨SeqAt.EqAt.tuple_str _ _ p hu', fun a b _ z => nomatch z⟩
      · cases ry; rw [decide_eq_false (fun z => nomatch z)]; exact ⟨SeqAt.EqAt.tuple_bool _ p hu', fun a b _ z => nomatch z⟩
    · cases ry
      obtain ⟨its2, r2, p2, _⟩ := I.list hb
      rw [decide_eq_false (fun z => nomatch z)]
      exact ⟨SeqAt.EqAt.tuple_list p p2.isList hu', fun a' b' e1 e2 => by cases e1; cases e2; exact SeqAt.RcAt.tuple_list p p2.isList hu'⟩
    · cases ry
      obtain ⟨its2, r2, p2, hz2⟩ := I.tuple hb
      have l1 := r1.length
      have l2 := r2.length
      have l3 := Paired.length pa
      have l4 := Paired.length pb
      have eqd : decide (Dt.t ds = Dt.t es) = decide (ds = es) := by
        rw [Bool.eq_iff_iff, decide_eq_true_eq, decide_eq_true_eq]
        exact ⟨fun q => Dt.t.inj q, fun q => by rw [q]⟩
      have rc : SeqAt.RcAt A s (.ref a) (.ref b) (decide (Dt.t ds = Dt.t es)) := by
        rw [eqd]
        have key := SeqAt.RcAt.tuples (e := fun j => decide (ds[j]? = es[j]?)) p p2 hu' (dn_items (n := n) r1 r2 pa pb fun x y u v d e rx ry h1 h2 =>
            (ih (max m k) (by omega) (A := A.in1) I (by show A.units + 1 + max m k < cLine; omega) rx ry (h1.up (Nat.le_max_left _ _)) (h2.up (Nat.le_max_right _ _))).1)
        by_cases hl : its.length = its2.length
        · rw [show min its.toArray.size its2.toArray.size = ds.length by rw [List.size_toArray, List.size_toArray]; omega, all_items rfl (by omega), show (its.toArray.size == its2.toArray.size) = true by rw [List.size_toArray, List.size_toArray, beq_iff_eq]; exact hl, Bool.and_true] at key
          exact key
        · have hne : ds ≠ es := fun q => hl (by rw [q] at l3; omega)
          rw [decide_eq_false hne]
          rw [show (its.toArray.size == its2.toArray.size) = false by rw [List.size_toArray, List.size_toArray, beq_eq_false_iff_ne]; exact hl, Bool.and_false] at key
          exact key
      exact ⟨lift rfl rfl rc, fun a' b' e1 e2 => by cases e1; cases e2; exact rc⟩
end

noncomputable def rEqX (K : PySem.W.Frag) (neg : Bool) : R2 := fun x y H Q => match x, y with
  | .ref a, .ref b => ∃ n d e, n ≤ 60 ∧ Dn K H n (.ref a) d ∧ Dn K H n (.ref b) e ∧ ((d = e ∧ Q (.bl (!neg)) H) ∨ (d ≠ e ∧ Q (.bl neg) H))
  | x, y => scal x y = true ∧ Q (.bl (if neg then !decide (x = y) else decide (x = y))) H
section
variable {X : Cx}
open Classical in
theorem op_eqX (hu : X.A.units + 64 < cLine) : OpR X (compareOp .Eq) (rEqX X.K false) := by
  intro pins s σ H x y v u Q I rx ry h
  unfold rEqX at h
  split at h
  · obtain ⟨n, d, e, hn, hd, he, q⟩ := h
    obtain ⟨_, rc⟩ := dn_rc n (A := X.A) I (by omega) rx ry hd he
    cases rx
    cases ry
    have := rc _ _ rfl rfl
    refine (this X.prog X.w _ _ ?_ : wpAny (model X.prog X.w) X.A (richCompare .Eq _ _) (EP X pins σ Q) X.xe s)
    rcases q with ⟨c, q⟩ | ⟨c, q⟩
    · rw [decide_eq_true c]; exact ⟨.bl true, H, I, rfl, q⟩
    · rw [decide_eq_false c]; exact ⟨.bl false, H, I, rfl, q⟩
  · exact op_eq pins s σ H _ _ v u Q I rx ry ⟨h.1, by simpa using h.2⟩
open Classical in
theorem op_neX (hu : X.A.units + 64 < cLine) : OpR X (compareOp .NotEq) (rEqX X.K true) := by
  intro pins s σ H x y v u Q I rx ry h
  unfold rEqX at h
  split at h
  · rename_i a b
    obtain ⟨n, d, e, hn, hd, he, q⟩ := h
    cases rx
    cases ry
    have hu' : X.A.units < cLine := by omega
    have fin : SeqAt.RcNeAt X.A s (.ref a) (.ref b) (!decide (d = e)) → wpAny (model X.prog X.w) X.A (compareOp .NotEq (.ref a) (.ref b)) (EP X pins σ Q) X.xe s := fun rc => by
      refine (rc X.prog X.w _ _ ?_ : wpAny (model X.prog X.w) X.A (richCompare .NotEq _ _) (EP X pins σ Q) X.xe s)
      rcases q with ⟨c, q⟩ | ⟨c, q⟩
      · rw [decide_eq_true c]; exact ⟨.bl false, H, I, rfl, q⟩
      · rw [decide_eq_false c]; exact ⟨.bl true, H, I, rfl, q⟩
    apply fin
    clear fin q
    rcases hd.cases with hx' | ⟨m, hm, a', xs, ds, e1, rfl, ha, pa⟩ | ⟨m, hm, a', xs, ds, e1, rfl, ha, pa⟩
    · rcases hx' with ⟨z, _⟩ | ⟨i, z, _⟩ | ⟨i, z, _⟩ | ⟨i, z, _⟩ <;> cases z
    · cases e1
      obtain ⟨its, r1, p, hz⟩ := I.list ha
      rcases he.cases with hy' | ⟨k, hk, b', ys, es, e2, rfl, hb, pb⟩ | ⟨k, hk, b', ys, es, e2, rfl, hb, pb⟩
      · rcases hy' with ⟨z, _⟩ | ⟨i, z, _⟩ | ⟨i, z, _⟩ | ⟨i, z, _⟩ <;> cases z
      · cases e2
        obtain ⟨its2, r2, p2, hz2⟩ := I.list hb
        have l1 := r1.length
        have l2 := r2.length
        have l3 := Paired.length pa
        have l4 := Paired.length pb
        have eqd : decide (Dt.l ds = Dt.l es) = decide (ds = es) := by
          rw [Bool.eq_iff_iff, decide_eq_true_eq, decide_eq_true_eq]
          exact ⟨fun q => Dt.l.inj q, fun q => by rw [q]⟩
        rw [eqd]
        by_cases hl : its.length = its2.length
        · have key := SeqAt.RcNeAt.lists (e := fun j => decide (ds[j]? = es[j]?)) p.isList p2.isList (by simpa using hl) hu' (dn_items (n := n) r1 r2 pa pb fun x y u v d e rx ry h1 h2 =>
            (dn_rc (max m k) (A := X.A.in1) I (by show X.A.units + 1 + max m k < cLine; omega) rx ry (h1.up (Nat.le_max_left _ _)) (h2.up (Nat.le_max_right _ _))).1)
          rw [all_items (by rw [List.size_toArray]; omega) (by omega)] at key
          exact key
        · have hne : ds ≠ es := fun q => hl (by rw [q] at l3; omega)
          rw [decide_eq_false hne]
          exact SeqAt.RcNeAt.lists_lengths p.isList p2.isList (size_ne hl) hu'
      · cases e2
        obtain ⟨its2, r2, p2, _⟩ := I.tuple hb
        rw [decide_eq_false (fun z => nomatch z)]
        exact SeqAt.RcNeAt.list_tuple p.isList p2 hu'
    · cases e1
      obtain ⟨its, r1, p, hz⟩ := I.tuple ha
      rcases he.cases with hy' | ⟨k, hk, b', ys, es, e2, rfl, hb, pb⟩ | ⟨k, hk, b', ys, es, e2, rfl, hb, pb⟩
      · rcases hy' with ⟨z, _⟩ | ⟨i, z, _⟩ | ⟨i, z, _⟩ | ⟨i, z, _⟩ <;> cases z
      · cases e2
        obtain ⟨its2, r2, p2, _⟩ := I.list hb
        rw [decide_eq_false (fun z => nomatch z)]
        exact SeqAt.RcNeAt.tuple_list p p2.isList hu'
      · cases e2
        obtain ⟨its2, r2, p2, hz2⟩ := I.tuple hb
        have l1 := r1.length
        have l2 := r2.length
        have l3 := Paired.length pa
        have l4 := Paired.length pb
        have eqd : decide (Dt.t ds = Dt.t es) = decide (ds = es) := by
          rw [Bool.eq_iff_iff, decide_eq_true_eq, decide_eq_true_eq]
          exact ⟨fun q => Dt.t.inj q, fun q => by rw [q]⟩
        rw [eqd]
        have key := SeqAt.RcNeAt.tuples (e := fun j => decide (ds[j]? = es[j]?)) p p2 hu' (dn_items (n := n) r1 r2 pa pb fun x y u v d e rx ry h1 h2 =>
            (dn_rc (max m k) (A := X.A.in1) I (by show X.A.units + 1 + max m k < cLine; omega) rx ry (h1.up (Nat.le_max_left _ _)) (h2.up (Nat.le_max_right _ _))).1)
        by_cases hl : its.length = its2.length
        · rw [show min its.toArray.size its2.toArray.size = ds.length by rw [List.size_toArray, List.size_toArray]; omega, all_items rfl (by omega), show (its.toArray.size == its2.toArray.size) = true by rw [List.size_toArray, List.size_toArray, beq_iff_eq]; exact hl, Bool.and_true] at key
          exact key
        · have hne : ds ≠ es := fun q => hl (by rw [q] at l3; omega)
          rw [decide_eq_false hne]
          rw [show (its.toArray.size == its2.toArray.size) = false by rw [List.size_toArray, List.size_toArray, beq_eq_false_iff_ne]; exact hl, Bool.and_false] at key
          exact key
  · exact op_ne pins s σ H _ _ v u Q I rx ry ⟨h.1, by simpa using h.2⟩
end
section
variable {K : PySem.W.Frag} {H : Hp} {Q : VK}
theorem op_eqXK {X : Cx} (K : PySem.W.Frag) (h : X.K = K) (hu : X.A.units + 64 < cLine) : OpR X (compareOp .Eq) (rEqX K false) := h ▸ op_eqX hu
theorem op_neXK {X : Cx} (K : PySem.W.Frag) (h : X.K = K) (hu : X.A.units + 64 < cLine) : OpR X (compareOp .NotEq) (rEqX K true) := h ▸ op_neX hu
theorem rEqX_int {i j : Int} : rEqX K false (.int i) (.int j) H Q = Q (.bl (decide (i = j))) H := by
  show (scal (.int i) (.int j) = true ∧ Q (.bl (if false = true then _ else decide (V.int i = V.int j))) H) = _
  rw [if_neg Bool.false_ne_true]
  exact rEq_int
theorem rNeX_int {i j : Int} : rEqX K true (.int i) (.int j) H Q = Q (.bl (!decide (i = j))) H := by
  show (scal (.int i) (.int j) = true ∧ Q (.bl (if true = true then !decide (V.int i = V.int j) else _)) H) = _
  rw [if_pos rfl]
  exact rNe_int
theorem rEqX_str {i j : Str} : rEqX K false (.str i) (.str j) H Q = Q (.bl (decide (i = j))) H := by
  show (scal (.str i) (.str j) = true ∧ Q (.bl (if false = true then _ else decide (V.str i = V.str j))) H) = _
  rw [if_neg Bool.false_ne_true]
  exact rEq_str
theorem rNeX_str {i j : Str} : rEqX K true (.str i) (.str j) H Q = Q (.bl (!decide (i = j))) H := by
  show (scal (.str i) (.str j) = true ∧ Q (.bl (if true = true then !decide (V.str i = V.str j) else _)) H) = _
  rw [if_pos rfl]
  exact rNe_str
theorem rEqX_bl {i j : Bool} : rEqX K false (.bl i) (.bl j) H Q = Q (.bl (decide (i = j))) H := by
  show (scal (.bl i) (.bl j) = true ∧ Q (.bl (if false = true then _ else decide (V.bl i = V.bl j))) H) = _
  rw [if_neg Bool.false_ne_true]
  exact rEq_bl
theorem rNeX_bl {i j : Bool} : rEqX K true (.bl i) (.bl j) H Q = Q (.bl (!decide (i = j))) H := by
  show (scal (.bl i) (.bl j) = true ∧ Q (.bl (if true = true then !decide (V.bl i = V.bl j) else _)) H) = _
  rw [if_pos rfl]
  exact rNe_bl
theorem bt_ValueError : bootBuiltins "ValueError" = some (.type "ValueError") := by decide +kernel
theorem dn_int {n : Nat} {i : Int} : Dn K H n (.int i) (.int i) := Dn.up (n := 0) (.inr (.inl ⟨i, rfl, rfl⟩)) (Nat.zero_le _)
theorem dn_lst {n : Nat} {a : Addr} {xs : List V} {ds : List Dt} (h : H a = some (.lst xs)) (p : Paired (Dn K H n) xs ds) : Dn K H (n + 1) (.ref a) (.l ds) := .inr (.inl ⟨a, xs, ds, rfl, rfl, SqL.of h, p⟩)
theorem dn_tup {n : Nat} {a : Addr} {xs : List V} {ds : List Dt} (h : H a = some (.tup xs)) (p : Paired (Dn K H n) xs ds) : Dn K H (n + 1) (.ref a) (.t ds) := .inr (.inr ⟨a, xs, ds, rfl, rfl, SqT.of h, p⟩)
end
end L2


set_option maxRecDepth 100000
set_option maxHeartbeats 1000000
namespace L2
open PySem PySem.Spec PyProof.Rows
theorem pg_lst {X : Cx} {es : List Expr} {pos : Pos} {k : Nat} {t : TGs} {n : Nat} {a : Addr} {xs : List V} (hc : X.calm = true) (h : PGs X es t) (hn : es.length = n) (hst : es.any isStar = false)
    {pins : List (Addr × Obj)} {s : Shared} {σ : St} {H : Hp} {Q : St → Hp → Prop} (I : Inv X pins σ H s) (hq : SqL X.K H a xs) (hl : xs.length = n) (hw : t xs σ H Q) :
    wpAny (model X.prog X.w) X.A (assign (.Tuple es k pos) X.env (.ref a)) (fun _ s' => ∃ σ' H', Inv X pins σ' H' s' ∧ Q σ' H') X.xe s := by
  obtain ⟨its, rv, hp, hz⟩ := I.list hq
  rw [arm_assign_Tuple]
  refine wpAny_bind (wpAny_standAt ?_)
  unfold unpack
  rw [show (assignEach es X.env).length = its.toArray.size by rw [assignEach_len, hn, ← hl, List.size_toArray, rv.length], assignEach_nostar hst]
  refine wpAny_bind (wpAny_holding (PySem.W.kun_itemsOf (I.ok.hd hc) hp.isList fun h' hx => ?_))
  have I1 : Inv X pins σ H { s with heap := h' } := I.kept (t' := s.toks) fun b o e => hx b o (Nat.ne_of_lt (Heap.lt_size e)) e
  exact h pins _ σ H xs _ Q I1 (by simpa using rv) hw
noncomputable def gOx (K : PySem.W.Frag) (n : Nat) (t : TGs) (a : Addr) (σ : St) (H : Hp) (Q : St → Hp → Prop) : Option HO → Prop
  | some (.tup xs) => xs.length = n ∧ t xs σ H Q
  | some (.lst xs) => xs.length = n ∧ t xs σ H Q
  | _ => ∃ xs, SqT K H a xs ∧ xs.length = n ∧ t xs σ H Q
noncomputable def gTupX (K : PySem.W.Frag) (n : Nat) (t : TGs) : TG := fun v σ H Q => match v with
  | .ref a => gOx K n t a σ H Q (H a)
  | _ => False
theorem gTupX_ref {K : PySem.W.Frag} {n : Nat} {t : TGs} {a : Addr} {σ : St} {H : Hp} {Q : St → Hp → Prop} : gTupX K n t (.ref a) σ H Q = gOx K n t a σ H Q (H a) := rfl
theorem gOx_tup {K : PySem.W.Frag} {n : Nat} {t : TGs} {a : Addr} {σ : St} {H : Hp} {Q : St → Hp → Prop} {xs : List V} : gOx K n t a σ H Q (some (.tup xs)) = (xs.length = n ∧ t xs σ H Q) := rfl
theorem gOx_lst {K : PySem.W.Frag} {n : Nat} {t : TGs} {a : Addr} {σ : St} {H : Hp} {Q : St → Hp → Prop} {xs : List V} : gOx K n t a σ H Q (some (.lst xs)) = (xs.length = n ∧ t xs σ H Q) := rfl
theorem pg_tupX {X : Cx} {es : List Expr} {pos : Pos} (K : PySem.W.Frag) {j n : Nat} {u : TGs} (hK : X.K = K) (hc : X.calm = true) (hh : PGs X es u) (hn : es.length = n := by rfl) (h : es.any isStar = false := by rfl) : PG X (.Tuple es j pos) (gTupX K n u) := by
  intro pins s σ H v w Q I r q
  unfold gTupX at q
  split at q
  · rename_i a
    unfold gOx at q
    split at q
    · rename_i xs e; exact pg_tupQ K (j := j) hK hc hh hn h pins s σ H _ w Q I r ⟨a, xs, rfl, SqT.of e, q⟩
    · rename_i xs e
      obtain rfl : w = Value.ref a := r
      exact pg_lst hc hh hn h I (SqL.of e) q.1 q.2
    · obtain ⟨xs, h1, h2⟩ := q; exact pg_tupQ K (j := j) hK hc hh hn h pins s σ H _ w Q I r ⟨a, xs, rfl, h1, h2⟩
  · exact q.elim
end L2


set_option maxRecDepth 100000
set_option maxHeartbeats 1000000
namespace L2
open PySem PySem.Spec PyProof.Rows
structure QA (X : Cx) (es : List Expr) (t : TA) : Prop where
  h : PA X es t
section
variable {X : Cx}
theorem qa_nil : QA X [] tNil := ⟨pa_nil⟩
theorem qa_q {e : Expr} {es : List Expr} {te : TE} {t : TA} (ha : QE X e te) (hr : QA X es t) (h : isStar e = false := by rfl) : QA X (e :: es) (tCons te t) := ⟨pa_q ha.h hr.h h⟩
theorem qe_tup {es : List Expr} {t : TA} {k : Nat} {pos : Pos} (h : QA X es t) : QE X (.Tuple es k pos) (tTup t) := ⟨pe_tup h.h⟩
theorem qe_lst {es : List Expr} {t : TA} {pos : Pos} (h : QA X es t) : QE X (.List es pos) (tLst t) := ⟨pe_lst h.h⟩
theorem qs_ret {e : Expr} {te : TE} {pos : Pos} (h : QE X e te) : QS X (.Return (some e) pos) (tRet te) := ⟨ps_ret h.h⟩
end
end L2


set_option maxRecDepth 100000
set_option maxHeartbeats 1000000
namespace L2
open PySem PySem.Spec PyProof.Rows
section
variable {X : Cx}
end
section
variable {X : Cx}
end
section
variable {X : Cx} {e : Expr} {f : Str} {ta : TE} {pos : Pos}
end
section
variable {K : PySem.W.Frag} {H : Hp} {Q : VK} {z y : Str} {p : Addr} {i : Int}
end
section
variable {X : Cx} (K : PySem.W.Frag)
end
end L2


set_option maxRecDepth 100000
set_option maxHeartbeats 1000000
namespace L2
open PySem PySem.Spec PyProof.Rows
section
variable {K : PySem.W.Frag} {g : TG} {tb : TS} {D : Ends} {σ : St} {H : Hp}
end
end L2


set_option maxRecDepth 100000
set_option maxHeartbeats 1000000
namespace L2
open PySem PySem.Spec PyProof.Rows
section
variable {K : PySem.W.Frag} {g : TG} {tb : TS} {D : Ends} {σ : St} {H : Hp} {ta : TA}
end
section
variable {X : Cx} {K : PySem.W.Frag}
end
end L2


set_option maxRecDepth 100000
set_option maxHeartbeats 1000000
namespace L2
open PySem PySem.Spec PyProof.Rows
/-- the newest row T of the trace is marked with the frame L -/
noncomputable def ExM (h : Heap) (e : Addr) (cls : Value) (dx : Option Addr) (T L : Addr) : Prop :=
  ∃ oe vs, h.get? e = some oe ∧ oe.cls = cls ∧ oe.dict = dx ∧ oe.data = .fields vs ∧ 1 < vs.size ∧ vs[1]? = some (.ref T) ∧ T ≠ e ∧ ∃ oT ts, h.get? T = some oT ∧ oT.data = .fields ts ∧ ts[3]? = some (rawInt L)
theorem ExM.exF {h : Heap} {e : Addr} {cls : Value} {dx : Option Addr} {T L : Addr} (x : ExM h e cls dx T L) : exF e cls dx h := by
  obtain ⟨o, ws, e1, e2, e3, e4, _⟩ := x
  exact ⟨o, ws, e1, e2, e3, e4⟩
section
variable {M : Model} {A : Around} {E : Value → Shared → Prop} {s : Shared}
theorem entry_m {base : Heap} {env : Env} {outer : List Env} {L e : Addr} {oe : Obj} {vs : Array Value} {top : Value} {had : Bool} {Q : Unit → Shared → Prop}
    (hfr : A.frames = some (env :: outer)) (hl : s.heap.FunFrames base (env :: outer)) (hf : env.frame = some L)
    (he : s.heap.get? e = some oe) (hd : oe.data = .fields vs) (hsz : 1 < vs.size)
    (h : ∀ h', ExM h' e oe.cls oe.dict s.heap.objs.size L → Lft ((env :: outer).filterMap (·.frame)) e none s.heap h' → Q () { s with heap := h' }) :
    wpAny M A (do let a ← frameOf env; let pl ← entryPlaceOf L had; let b ← EntryCells.newEntry top a .none (rawInt L) .none pl; setField (.ref e) 1 b) Q E s := by
  have out : e ∉ (env :: outer).filterMap (·.frame) := fun hm => by
    obtain ⟨_, o', ho', no⟩ := hl.mem hm
    cases he.symm.trans ho'
    exact no vs hd
  refine wpAny_bind (wpAny_frameOf_fun hfr hl hf fun k ks => wpAny_bind (wpAny_entryPlaceOf fun ps hps => ?_))
  unfold EntryCells.newEntry newFields
  refine wpAny_bind (wpAny_newObj_type ?_ (hps.sizeOk5 _ _ _ _ _))
  have ke : k.get? e = some oe := (ks.2.1 e out).trans he
  have far : k.objs.size ≠ e := Nat.ne_of_gt (Heap.lt_size ke)
  have esz : k.objs.size = s.heap.objs.size := ks.1
  have de := Obj.data_mapFields hd (·.setIfInBounds 1 (Value.ref k.objs.size))
  have e1 := Heap.get?_push_of_some (h := k) (rowO top L ps) ke
  have e2 := Heap.get?_update_self (Obj.mapFields (·.setIfInBounds 1 (Value.ref k.objs.size))) e1 (Obj.isFreed_of_fields de)
  have r2 := (Heap.get?_update_other (k.push (rowO top L ps)) (Obj.mapFields (·.setIfInBounds 1 (Value.ref k.objs.size))) (Ne.symm far)).trans (Heap.get?_push_size k rfl)
  refine wpAny_setField e1 hd hsz (h _ ?_ ?_)
  · rw [← esz]
    exact ⟨_, _, e2, Obj.cls_mapFields _ _, dict_mapFields _ _, de, by simp [hsz], by simp [hsz], far, _, _, r2, rfl, by simp⟩
  · have keep : ∀ b o, b ≠ e → k.get? b = some o → ((k.push (rowO top L ps)).update e (Obj.mapFields (·.setIfInBounds 1 (Value.ref k.objs.size)))).get? b = some o := fun b o ne hb => by
      rw [Heap.get?_update_other _ _ (Ne.symm ne)]
      exact Heap.get?_push_of_some _ hb
    refine ⟨fun b o hS ne _ hb => keep b o ne ((ks.2.1 b hS).trans hb), fun b o hS hb => ?_, fun b o hb => ?_⟩
    · obtain ⟨sl, q⟩ := ks.2.2 b o hb
      exact ⟨sl, keep b _ (fun z => out (z ▸ hS)) q⟩
    · by_cases z : b = e
      · subst z
        exact ⟨_, e2⟩
      · obtain ⟨sl, q⟩ := ks.2.2 b o hb
        exact ⟨_, keep b _ z q⟩
theorem note_m {base : Heap} {env : Env} {outer : List Env} {L e : Addr} {cls : Value} {dx tb : Option Addr} {Q : Unit → Shared → Prop}
    (hfr : A.frames = some (env :: outer)) (hl : s.heap.FunFrames base (env :: outer)) (hf : env.frame = some L) (hx : ExO s.heap e cls dx tb)
    (h : ∀ h', ExM h' e cls dx s.heap.objs.size L → Lft ((env :: outer).filterMap (·.frame)) e tb s.heap h' → Q () { s with heap := h' }) : wpAny M A (noteFrame (.ref e) env) Q E s := by
  obtain ⟨oe, vs, he, rfl, rfl, hd, hsz, ht⟩ := hx
  unfold noteFrame
  simp only [hf]
  cases tb with
  | none =>
    refine wpAny_bind (wpAny_field he hd ht ?_)
    rw [if_neg (by decide)]
    exact entry_m hfr hl hf he hd hsz h
  | some T =>
    obtain ⟨h1, ne, oT, ts, hT, dT, h3⟩ := ht
    have apart : ∀ b o, s.heap.get? b = some o → (∀ ws, o.data ≠ .fields ws) → b ≠ T := fun b o hb no z => by
      subst z
      cases hb.symm.trans hT
      exact no ts dT
    have out : T ∉ (env :: outer).filterMap (·.frame) := fun hm => by
      obtain ⟨_, o', ho', no⟩ := hl.mem hm
      exact apart T o' ho' no rfl
    refine wpAny_bind (wpAny_field he hd h1 ?_)
    rw [if_pos (by simp)]
    refine wpAny_bind (wpAny_field hT dT h3 ?_)
    rw [if_neg (by simp [rawInt])]
    refine wpAny_bind (wpAny_setField hT dT (Array.getElem?_eq_some_iff.mp h3).1 ?_)
    have oth : ∀ b, b ≠ T → (s.heap.update T (Obj.mapFields (·.setIfInBounds 3 Value.none))).get? b = s.heap.get? b := fun b z => Heap.get?_update_other _ _ (Ne.symm z)
    have self := Heap.get?_update_self (Obj.mapFields (·.setIfInBounds 3 Value.none)) hT (Obj.isFreed_of_fields (Obj.data_mapFields dT _))
    have fr := hl.of_keeps (h' := s.heap.update T (Obj.mapFields (·.setIfInBounds 3 Value.none))) fun b o hb no => ⟨o, (oth b (apart b o hb no)).trans hb, rfl⟩
    refine entry_m (oe := oe) (vs := vs) hfr fr hf ((oth e (Ne.symm ne)).trans he) hd hsz fun h' x k => ?_
    have sz : (s.heap.update T (Obj.mapFields (·.setIfInBounds 3 Value.none))).objs.size = s.heap.objs.size := Heap.size_update ..
    change ExM h' e oe.cls oe.dict (s.heap.update T (Obj.mapFields (·.setIfInBounds 3 Value.none))).objs.size L at x
    rw [sz] at x
    refine h h' x ⟨fun b o hS z zT hb => k.keep b o hS z (fun _ q => by cases q) ((oth b (zT T rfl)).trans hb), fun b o hS hb => k.slot b o hS ((oth b (fun q => out (q ▸ hS))).trans hb), fun b o hb => ?_⟩
    by_cases q : b = T
    · exact q ▸ k.there _ _ self
    · exact k.there b o ((oth b q).trans hb)
/-- a frame that has noted it notes it no second time -/
theorem note_again {env : Env} {L e T : Addr} {cls : Value} {dx : Option Addr} {Q : Unit → Shared → Prop} (hf : env.frame = some L) (hx : ExM s.heap e cls dx T L) (h : Q () s) : wpAny M A (noteFrame (.ref e) env) Q E s := by
  obtain ⟨oe, vs, he, _, _, hd, hsz, h1, ne, oT, ts, hT, dT, h3⟩ := hx
  unfold noteFrame
  simp only [hf]
  refine wpAny_bind (wpAny_field he hd h1 ?_)
  rw [if_pos (by simp)]
  refine wpAny_bind (wpAny_field hT dT h3 ?_)
  rw [if_pos (by simp)]
  exact wpAny_pure h
theorem came_m {env : Env} {L e T : Addr} {cls : Value} {dx : Option Addr} (hf : env.frame = some L) (hx : ExM s.heap e cls dx T L) (h : E (.ref e) s) : cameBackBy M A env E (.ref e) s := by
  obtain ⟨oe, vs, he, _, _, hd, hsz, h1, ne, oT, ts, hT, dT, h3⟩ := hx
  unfold cameBackBy
  refine wpAny_bind (wpAny_field he hd h1 ?_)
  rw [if_neg (by simp)]
  unfold setFlight
  refine wpAny_bind (wpAny_field he hd h1 ?_)
  rw [if_pos (by simp), hf]
  refine wpAny_setField hT dT (Array.getElem?_eq_some_iff.mp h3).1 ?_
  rw [heap_update_id hT]
  · exact h
  · obtain ⟨c, d, dt, sl⟩ := oT
    obtain rfl : dt = .fields ts := dT
    show Obj.mk c d (.fields (ts.setIfInBounds 3 (rawInt L))) sl = _
    congr 1
    congr 1
    obtain ⟨l3, e3⟩ := Array.getElem?_eq_some_iff.mp h3
    apply Array.ext (by simp)
    intro j h1 h2
    rw [Array.getElem_setIfInBounds]
    split
    · rename_i z; subst z; exact e3.symm
    · rfl
end
section
variable {X : Cx} {pins : List (Addr × Obj)} {σ : St} {H : Hp} {s : Shared} {h' : Heap} {ea : Addr} {cls : Value} {dx tb : Option Addr} {E : XK}
/-- what leaves the frame's trace keeps the state (Fly.land, with the exception dropped again) -/
theorem Fly.stay (F : Fly X pins σ H s ea cls dx tb) (hk : Lft (frs X.stack) ea tb s.heap h') (hx' : exF ea cls dx h') : Inv X pins σ H { s with heap := h' } := by
  obtain ⟨oe, vs, he, hc, hd, hdata, hsz, hT⟩ := F.ex
  have I1 := F.inv.track (φ := exT ea) F.nH F.n0 (fun p hp => (F.apart p hp).1) ⟨oe, vs, he, hdata⟩ (exT_ok ⟨oe, he⟩)
  have key : Inv X pins σ (upd H ea (.ext (exF ea cls dx))) { s with heap := h' } := by
    cases tb with
    | none =>
      have I2 := I1.left (T := none) (fun t z => by cases z) upd_same hk hx'
      have e : upd (upd H ea (.ext (exT ea))) ea (.ext (exF ea cls dx)) = upd H ea (.ext (exF ea cls dx)) := by
        funext b; unfold upd; split <;> rfl
      rw [e] at I2
      exact I2
    | some T =>
      obtain ⟨h1, ne, oT, ts, hT, dT, h3⟩ := hT
      obtain ⟨t0, tH⟩ := F.tbs T rfl
      have I2 := I1.track (φ := exT T) (by rw [upd_ne ne]; exact tH) t0 (fun p hp => (F.apart p hp).2 T rfl) ⟨oT, ts, hT, dT⟩ (exT_ok ⟨oT, hT⟩)
      have I3 := I2.left (T := some T) (fun t z => by cases z; exact upd_same) (by rw [upd_ne (Ne.symm ne)]; exact upd_same) hk hx'
      have I4 := I3.drop (e := T) (φ := exT T) (by rw [upd_ne ne]; exact upd_same)
      have e : dropH (upd (upd (upd H ea (.ext (exT ea))) T (.ext (exT T))) ea (.ext (exF ea cls dx))) T = upd H ea (.ext (exF ea cls dx)) := by
        funext b
        unfold dropH upd
        by_cases z : b = T
        · subst z; simp [ne, tH]
        · by_cases z2 : b = ea <;> simp [z, z2, Ne.symm ne]
      rw [e] at I4
      exact I4
  have k2 := key.drop (e := ea) (φ := exF ea cls dx) upd_same
  rw [dropH_upd F.nH] at k2
  exact k2
/-- an exception in a body that this frame's trace has already -/
structure FlyM (X : Cx) (pins : List (Addr × Obj)) (σ : St) (H : Hp) (s : Shared) (ea : Addr) (cls : Value) (dx : Option Addr) (T L : Addr) : Prop where
  inv : Inv X pins σ H s
  ex : ExM s.heap ea cls dx T L
  n0 : X.s₀.heap.get? ea = none
  nH : H ea = none
  t0 : X.s₀.heap.get? T = none
  tH : H T = none
  apart : ∀ p ∈ X.pn ++ pins, p.1 ≠ ea ∧ p.1 ≠ T
/-- the wish of a loop's body that may raise -/
noncomputable def fxe (X : Cx) (E : XK) : Value → Shared → Prop := fun e s => ∃ ea cls dx H, e = .ref ea ∧ ((∃ pins σ tb, Fly X pins σ H s ea cls dx tb) ∨ ∃ pins σ T L, X.env.frame = some L ∧ FlyM X pins σ H s ea cls dx T L) ∧ E cls dx H
noncomputable abbrev Cx.fly (X : Cx) (E : XK) : Cx := X.wish (fxe X E)
theorem Fly.unwish {E' : Value → Shared → Prop} (F : Fly (X.wish E') pins σ H s ea cls dx tb) : Fly X pins σ H s ea cls dx tb := ⟨F.inv.unwish, F.ex, F.n0, F.nH, F.tbs, F.apart⟩
theorem rz_fly : Rz (X.fly E) E := fun pins σ H s ea cls dx tb F hE => ⟨ea, cls, dx, H, rfl, .inl ⟨pins, σ, tb, F.unwish⟩, hE⟩
theorem passes_fly {outer : List Env} {L : Addr} (hst : X.stack = X.env :: outer) (hf : X.env.frame = some L) : PassesOwn (model X.prog X.w) X.A X.env (fxe X E) := by
  rintro e s ⟨ea, cls, dx, H, rfl, F | F, hE⟩
  · obtain ⟨pins, σ, tb, F⟩ := F
    have I := F.inv
    have fr := I.ok.frames
    have st := I.stack
    rw [hst] at fr st
    refine note_m (base := X.base) fr st hf F.ex fun h' hx hk => came_m hf hx ?_
    refine ⟨ea, cls, dx, H, rfl, .inr ⟨pins, σ, _, L, hf, ⟨F.stay (by rw [hst]; exact hk) hx.exF, hx, F.n0, F.nH, Heap.get?_none_of_le I.sz, I.hok.fresh (Nat.le_refl _), fun p hp => ⟨(F.apart p hp).1, ?_⟩⟩⟩, hE⟩
    exact Nat.ne_of_lt (Heap.lt_size (I.pin p hp).1)
  · obtain ⟨pins, σ, T, L', hf', F⟩ := F
    rw [hf] at hf'
    cases hf'
    exact note_again hf F.ex (came_m hf F.ex ⟨ea, cls, dx, H, rfl, .inr ⟨pins, σ, T, L, hf, F⟩, hE⟩)
/-- what a body does with an exception that a loop in it has let through -/
noncomputable def RzM (X : Cx) (E : XK) : Prop := ∀ pins σ H s ea cls dx T L, X.env.frame = some L → FlyM X pins σ H s ea cls dx T L → E cls dx H → X.xe (.ref ea) s
theorem PS.fly {st : Stmt} {ts : TS} (hz : Rz X E) (hm : RzM X E) (h : PS (X.fly E) st ts) : PS X st ts := fun pins s σ H D I hw =>
  wpAny_mono (h pins s σ H D (I.wish _) hw) (fun _ _ q => q.unwish) fun e s' z => by
    obtain ⟨ea, cls, dx, H', rfl, F | F, hE⟩ := z
    · obtain ⟨pins, σ, tb, F⟩ := F
      exact hz _ _ _ _ _ _ _ _ F hE
    · obtain ⟨pins, σ, T, L, hf, F⟩ := F
      exact hm _ _ _ _ _ _ _ _ _ hf F hE
end
section
variable {P : Program} {w : World} {K : PySem.W.Frag} {mg : Str → Option Value} {base : Heap} {N : List Str} {qual : Str} {scope : Scope} {f : Addr} {cd : Value} {A : Around} {outer : List Env} {s : Shared} {H : Hp} {E : XK}
theorem rzM_fn : RzM (cxOf (CX1 P w) P w K mg base N qual scope f cd A outer s H E) E := by
  intro pins σ H1 s1 ea cls dx T L hfL F hE
  have I := F.inv
  obtain rfl : s.heap.objs.size = L := Option.some.inj hfL
  show wpAny (model P w) (A.deeper (envOfC qual scope s.heap.objs.size f cd)) (leaving (envOfC qual scope s.heap.objs.size f cd) (.ref ea)) _ _ s1
  have st := I.stack
  have hfree : ∀ b ∈ frs (envOfC qual scope s.heap.objs.size f cd :: outer), H1 b = none := I.stkFree
  refine wpAny_bind (note_again (L := s.heap.objs.size) rfl F.ex ?_)
  obtain ⟨oe, vs, he, hc, hdx, hd, hsz, h1, ne, oT, ts, hT, dT, h3⟩ := F.ex
  have l3 := (Array.getElem?_eq_some_iff.mp h3).1
  have apart : ∀ b o, s1.heap.get? b = some o → (∀ ws, o.data ≠ .fields ws) → b ≠ T := fun b o hb no z => by
    subst z
    cases hb.symm.trans hT
    exact no ts dT
  unfold setFlight
  refine wpAny_bind (wpAny_field he hd h1 ?_)
  rw [if_pos (by simp)]
  refine wpAny_setField hT dT l3 ?_
  have oth : ∀ b, b ≠ T → (s1.heap.update T (Obj.mapFields (·.setIfInBounds 3 Value.none))).get? b = s1.heap.get? b := fun b z => Heap.get?_update_other _ _ (Ne.symm z)
  have self := Heap.get?_update_self (Obj.mapFields (·.setIfInBounds 3 Value.none)) hT (Obj.isFreed_of_fields (Obj.data_mapFields dT _))
  change CX1 P w outer H s E (.ref ea) { s1 with heap := s1.heap.update T (Obj.mapFields (·.setIfInBounds 3 Value.none)) }
  generalize s1.heap.update T (Obj.mapFields (·.setIfInBounds 3 Value.none)) = h' at *
  have hx : ExO h' ea cls dx (some T) := ⟨oe, vs, (oth ea (Ne.symm ne)).trans he, hc, hdx, hd, hsz, h1, ne, _, _, self, Obj.data_mapFields dT _, by simp [l3]⟩
  have hne : ∀ b o, s.heap.get? b = some o → b ≠ T := fun b o e z => by
    have h1 : s.heap.get? T = none := F.t0
    rw [z, h1] at e; cases e
  have B : Un (frs outer) [] H H1 s.heap s1.heap := I.base
  refine ⟨ea, cls, dx, T, H1, rfl, I.os, I.bare, ⟨fun b o q n hb hx => ?_, fun b o q n hb hx => ?_, B.free, fun b o q hx => ?_, B.tups, B.frzs, B.tbls⟩, fun b o q => ?_, hx, ⟨F.n0, F.t0, F.nH, F.tH⟩, hE⟩
  · exact (oth b (hne b o q)).trans (B.keep b o q n hb hx)
  · obtain ⟨sl, e⟩ := B.slot b o q n hb hx
    exact ⟨sl, (oth b (hne b o q)).trans e⟩
  · obtain ⟨o', e⟩ := B.there b o q hx
    exact ⟨o', (oth b (hne b o q)).trans e⟩
  · have some_ne : ∀ c u, H1 c = some u → c ≠ T := fun c u e z => by rw [z, F.tH] at e; cases e
    refine (I.hok b o q).stay (fun c u hc e => ?_) (fun c e => e) (fun c xs e => e)
    rcases hc with z | z
    · subst z
      exact (oth _ (some_ne _ _ q)).trans e
    · exact (oth _ (some_ne _ _ z)).trans e
end
end L2


set_option maxRecDepth 100000
namespace L2
open PySem PySem.Spec PyProof.Rows PySem.W
/-- what a tree of questions answers where the answers are known -/
noncomputable def evT {α : Type} (c : Nat → Nat → Bool) : KasT α → α
  | .ret a => a
  | .ask i j k => evT c (k (c i j))
/-- every question lies below n, every end is in P -/
noncomputable def OkT {α : Type} (n : Nat) (P : α → Prop) : KasT α → Prop
  | .ret a => P a
  | .ask i j k => i < n ∧ j < n ∧ ∀ b, OkT n P (k b)
theorem OkT.bind {α β : Type} {n : Nat} {P : α → Prop} {R : β → Prop} {f : α → KasT β} : ∀ {t : KasT α}, OkT n P t → (∀ a, P a → OkT n R (f a)) → OkT n R (t.bind f)
  | .ret a, h, k => k a h
  | .ask i j g, h, k => ⟨h.1, h.2.1, fun b => OkT.bind (h.2.2 b) k⟩
theorem OkT.ev {α : Type} {n : Nat} {P : α → Prop} (c : Nat → Nat → Bool) {t : KasT α} (h : OkT n P t) : P (evT c t) := by
  induction t with
  | ret a => exact h
  | ask i j k ih => exact ih (c i j) (h.2.2 (c i j))
theorem ev_bind {α β : Type} (c : Nat → Nat → Bool) (f : α → KasT β) : ∀ t : KasT α, evT c (t.bind f) = evT c (f (evT c t))
  | .ret _ => rfl
  | .ask i j k => ev_bind c f (k (c i j))
theorem OkT.wp {α : Type} {n : Nat} {P : α → Prop} {c : Nat → Nat → Bool} {cmp : Nat → Nat → (Bool → Shared → Prop) → Shared → Prop} {Q : α → Shared → Prop} {s : Shared}
    (hc : ∀ i j C, i < n → j < n → C (c i j) s → cmp i j C s) : ∀ {t : KasT α}, OkT n P t → Q (evT c t) s → t.kasWp cmp Q s
  | .ret _, _, q => q
  | .ask i j k, h, q => hc i j _ h.1 h.2.1 (OkT.wp hc (h.2.2 (c i j)) q)
/-- the numbers below n, in some order -/
noncomputable def Pm (n : Nat) (p : Array Nat) : Prop := p.toList.Perm (List.range n)
theorem Pm.rev {n : Nat} {p : Array Nat} (h : Pm n p) (i j : Nat) : Pm n (kas_rev p i j) := (Array.perm_iff_toList_perm.mp (mirror_perm p i j _)).trans h
theorem Pm.bub {n : Nat} {p : Array Nat} (h : Pm n p) (i j : Nat) : Pm n (bubble p i j) := (Array.perm_iff_toList_perm.mp (bubble_perm p i j)).trans h
theorem Pm.lt {n : Nat} {p : Array Nat} (h : Pm n p) (h0 : 0 < n) (i : Nat) : p.getD i 0 < n := by
  by_cases hi : i < p.size
  · have e : p.getD i 0 = p[i] := by simp [Array.getD, hi]
    rw [e]
    have : p[i] ∈ p.toList := by simp
    exact List.mem_range.mp (h.mem_iff.mp this)
  · have e : p.getD i 0 = 0 := by simp [Array.getD, hi]
    omega
section
variable {n : Nat}
theorem ok_asc {p : Array Nat} (h0 : 0 < n) (hp : Pm n p) : ∀ f m, OkT n (fun _ => True) (kas_asc p f m)
  | 0, _ => trivial
  | f + 1, m => ⟨hp.lt h0 _, hp.lt h0 _, fun b => by
    cases b with
    | true => exact trivial
    | false => exact ok_asc h0 hp f (m + 1)⟩
theorem ok_desc (h0 : 0 < n) : ∀ f p m q, Pm n p → OkT n (fun r => Pm n r.1) (kas_desc f p m q)
  | 0, _, _, _, hp => hp
  | f + 1, p, m, q, hp => ⟨hp.lt h0 _, hp.lt h0 _, fun b => by
    cases b with
    | true =>
      show OkT n _ (if q > 0 then _ else _)
      split
      · exact ok_desc h0 f _ _ _ (hp.rev _ _)
      · exact ok_desc h0 f _ _ _ hp
    | false =>
      refine ⟨hp.lt h0 _, hp.lt h0 _, fun b => ?_⟩
      cases b with
      | true => exact hp
      | false => exact ok_desc h0 f _ _ _ hp⟩
theorem ok_tail3 (h0 : 0 < n) {p : Array Nat} (m r : Nat) (hp : Pm n p) : OkT n (fun r => Pm n r.2) (kas_tail3 m r p) :=
  (ok_asc h0 (hp.rev _ _) _ _).bind fun _ _ => hp.rev _ _
theorem ok_descPart (h0 : 0 < n) {p : Array Nat} (m r : Nat) (hp : Pm n p) : OkT n (fun r => Pm n r.2) (kas_descPart m r p) := by
  refine (ok_desc h0 _ _ _ _ hp).bind fun a ha => ?_
  split
  · exact ok_tail3 h0 _ _ (Pm.rev ha _ _)
  · exact ok_tail3 h0 _ _ ha
theorem ok_count (h0 : 0 < n) {p : Array Nat} (r : Nat) (hp : Pm n p) : OkT n (fun r => Pm n r.2) (kas_count r p) := by
  refine (ok_asc h0 hp _ _).bind fun a _ => ?_
  split
  · exact hp
  split
  · refine ⟨hp.lt h0 _, hp.lt h0 _, fun b => ?_⟩
    cases b with
    | true => exact hp
    | false => exact ok_descPart h0 _ _ (hp.rev _ _)
  · exact ok_descPart h0 _ _ hp
theorem ok_place (h0 : 0 < n) {p : Array Nat} (k : Nat) (hp : Pm n p) : ∀ f l r, OkT n (fun _ => True) (kas_place p k f l r)
  | 0, _, _ => trivial
  | f + 1, l, r => by
    unfold kas_place
    split
    · exact trivial
    refine ⟨hp.lt h0 _, hp.lt h0 _, fun b => ?_⟩
    cases b with
    | true => exact ok_place h0 k hp f _ _
    | false => exact ok_place h0 k hp f _ _
theorem ok_bin (h0 : 0 < n) : ∀ f p k, Pm n p → OkT n (Pm n) (kas_bin f p k)
  | 0, _, _, hp => hp
  | f + 1, p, k, hp => (ok_place h0 k hp _ _ _).bind fun l _ => ok_bin h0 f _ _ (hp.bub _ _)
theorem ok_sort (h0 : 0 < n) : OkT n (Pm n) (kas_sort n) := by
  have hp : Pm n (List.toArray (List.range n)) := List.Perm.refl _
  refine (ok_count h0 n hp).bind fun r hr => ?_
  split
  · exact ok_bin h0 _ _ _ hr
  · exact hr
end
theorem ev_asc {c : Nat → Nat → Bool} {n : Nat} (hc : ∀ i, i + 1 < n → c (i + 1) i = false) : ∀ f m, 1 ≤ m → m + f ≤ n → evT c (kas_asc (List.toArray (List.range n)) f m) = m + f
  | 0, _, _, _ => rfl
  | f + 1, m, h1, h2 => by
    have e : ∀ i, i < n → (List.toArray (List.range n)).getD i 0 = i := fun i hi => by simp [Array.getD, hi]
    unfold kas_asc
    show evT c (if c _ _ = true then _ else _) = _
    rw [e m (by omega), e (m - 1) (by omega)]
    have := hc (m - 1) (by omega)
    rw [show m - 1 + 1 = m by omega] at this
    rw [this, if_neg (by simp), ev_asc hc f (m + 1) (by omega) (by omega)]
    omega
theorem ev_sort_asc {c : Nat → Nat → Bool} {n : Nat} (h0 : 0 < n) (hc : ∀ i, i + 1 < n → c (i + 1) i = false) : evT c (kas_sort n) = List.toArray (List.range n) := by
  unfold kas_sort
  rw [ev_bind]
  have e : evT c (kas_count n (List.toArray (List.range n))) = (n, List.toArray (List.range n)) := by
    unfold kas_count
    rw [ev_bind, ev_asc hc _ _ (Nat.le_refl _) (by omega), if_pos (by rw [beq_iff_eq]; omega)]
    show (1 + (n - 1), _) = _
    rw [show 1 + (n - 1) = n by omega]
  rw [e]
  show evT c (if n < n then _ else _) = _
  rw [if_neg (Nat.lt_irrefl n)]
  rfl

section
variable {prog : Program} {w : World} {A : Around} {E : Value → Shared → Prop} {s : Shared}
/-- everything that lay there lies there as before -/
noncomputable def Kept (h h' : Heap) : Prop := ∀ b o, h.get? b = some o → h'.get? b = some o
theorem sort_shell {a : Addr} {vs : List Value} {n : Nat} {P : PySem.Fin → Shared → Prop} (G : List Value → Prop) (ho : s.heap.get? a = some (seqObj "list" vs.toArray n)) (hz : vs.length ≤ sizeLine)
    (few : vs.length < 2 → G vs)
    (run : 2 ≤ vs.length → ∀ h', (∀ b o, b ≠ a → s.heap.get? b = some o → h'.get? b = some o) → wpAny (model prog w) A (keyKind' vs.toArray) (fun κ s' => s' = { s with heap := h' } ∧ wpAny (model prog w) A ((sortRuns').run (SortSt.mk' κ (vs.toArray.zip vs.toArray) #[] 7 none)) (fun r s' => s' = { s with heap := h' } ∧ failedOf r.2 = none ∧ ((arrOf r.2).map (·.2)).size = vs.length ∧ G ((arrOf r.2).map (·.2)).toList) (fun _ _ => False) { s with heap := h' }) (fun _ _ => False) { s with heap := h' })
    (h : ∀ out h' c, G out.toList → out.size = vs.length → (∀ b o, b ≠ a → s.heap.get? b = some o → h'.get? b = some o) → h'.get? a = some (seqObj "list" out c) → P (.done (.ret .none)) { s with heap := h' }) :
    wpAny (model prog w) A (Builtin.«list.sort» ⟨[.ref a], []⟩) P E s := by
  have ha : a < s.heap.objs.size := Heap.lt_size ho
  rw [list_sort_plain]
  refine wpAny_bind (listItems_at ho rfl ?_)
  refine wpAny_bind (listUpdate_at ho rfl ?_ (by rw [List.size_toArray]; exact hz) (Nat.zero_le _))
  obtain ⟨e1, ho1⟩ : ∃ e1, (s.heap.update a (Obj.mapSeq fun _ => (#[] : Array Value))).get? a = some (seqObj "list" #[] e1) := ⟨_, get?_update_seq ho fun _ => #[]⟩
  refine wpAny_bind (seqEpoch_at ho1 rfl ?_)
  refine wpAny_bind (wpAny_newTuple ?_ (by show vs.length ≤ _; exact hz))
  refine wpAny_bind (wpAny_newList ?_ (Nat.zero_le _))
  refine wpAny_holding ?_
  have ho3 : (((s.heap.update a (Obj.mapSeq fun _ => (#[] : Array Value))).push (seqObj "tuple" vs.toArray 0)).push (seqObj "list" #[] 0)).get? a = some (seqObj "list" #[] e1) := Heap.get?_push_of_some _ (Heap.get?_push_of_some _ ho1)
  have k3 : ∀ b o, b ≠ a → s.heap.get? b = some o → (((s.heap.update a (Obj.mapSeq fun _ => (#[] : Array Value))).push (seqObj "tuple" vs.toArray 0)).push (seqObj "list" #[] 0)).get? b = some o := fun b o ne e =>
    Heap.get?_push_of_some _ (Heap.get?_push_of_some _ ((Heap.get?_update_ne _ _ _ _ ne).trans e))
  show wpAny (model prog w) A _ P E { s with heap := ((s.heap.update a (Obj.mapSeq fun _ => (#[] : Array Value))).push (seqObj "tuple" vs.toArray 0)).push (seqObj "list" #[] 0) }
  generalize ((s.heap.update a (Obj.mapSeq fun _ => (#[] : Array Value))).push (seqObj "tuple" vs.toArray 0)).push (seqObj "list" #[] 0) = h3 at ho3 k3 ⊢
  have fin : ∀ (st : SortSt), failedOf st = none → ((arrOf st).map (·.2)).size = vs.length → G ((arrOf st).map (·.2)).toList → wpAny (model prog w) A (do
      let touched := (← seqEpoch a) != e1
      Builtin.List.listUpdate (.ref a) fun _ => (arrOf st).map (·.2)
      if let some e := failedOf st then rule "list.sort.comparison-raised"; throw e
      if touched then rule "list.sort.modified"; raiseError "ValueError" "list modified during sort"
      ret .none) P E { s with heap := h3 } := fun st hf hsz hg => by
    refine wpAny_bind (seqEpoch_at ho3 rfl ?_)
    refine wpAny_bind (listUpdate_at ho3 rfl ?_ (Nat.zero_le _) (Nat.le_trans (Nat.le_of_eq hsz) (by omega)))
    rw [hf]
    simp only [bne_self_eq_false, Bool.false_eq_true, if_false]
    obtain ⟨c2, hc2⟩ : ∃ c2, (h3.update a (Obj.mapSeq fun _ => (arrOf st).map (·.2))).get? a = some (seqObj "list" ((arrOf st).map (·.2)) c2) := ⟨_, get?_update_seq ho3 fun _ => (arrOf st).map (·.2)⟩
    exact wpAny_pure (h _ _ c2 hg hsz (fun b o ne e => (Heap.get?_update_ne _ _ _ _ ne).trans (k3 b o ne e)) hc2)
  dsimp only
  by_cases h2 : vs.length < 2
  · have h2' : vs.toArray.size < 2 := by rw [List.size_toArray]; exact h2
    rw [if_pos h2', if_pos h2']
    refine wpAny_bind (wpAny_pure ?_)
    rw [StateT.run_pure]
    refine wpAny_bind (wpAny_pure ?_)
    have eo : ((arrOf (SortSt.mk' general' (vs.toArray.zip vs.toArray) #[] 7 none)).map (·.2)) = vs.toArray := by
      show (vs.toArray.zip vs.toArray).map (·.2) = vs.toArray
      apply Array.toList_inj.mp
      rw [Array.toList_map, Array.toList_zip]
      exact List.map_snd_zip (Nat.le_refl _)
    exact fin (SortSt.mk' general' (vs.toArray.zip vs.toArray) #[] 7 none) rfl (by rw [eo]; simp) (by rw [eo]; exact few h2)
  · have h2' : ¬ vs.toArray.size < 2 := by rw [List.size_toArray]; exact h2
    rw [if_neg h2', if_neg h2']
    refine wpAny_bind (wpAny_mono (run (by omega) h3 k3) (fun κ s' hk => ?_) fun _ _ x => x.elim)
    obtain ⟨rfl, hk⟩ := hk
    refine wpAny_bind (wpAny_mono hk (fun r s' hr => ?_) fun _ _ x => x.elim)
    obtain ⟨⟨⟩, st⟩ := r
    obtain ⟨rfl, hf, hsz, hg⟩ := hr
    exact fin st hf hsz hg
theorem sorted_shell {l : Addr} {vs : List Value} {Q : Value → Shared → Prop} (G : List Value → Prop) (hl : s.heap.IsList l vs.toArray) (hz : vs.length ≤ sizeLine)
    (few : vs.length < 2 → G vs)
    (run : 2 ≤ vs.length → ∀ h', Kept s.heap h' → wpAny (model prog w) A.in1.in1 (keyKind' vs.toArray) (fun κ s' => s' = { s with heap := h' } ∧ wpAny (model prog w) A.in1.in1 ((sortRuns').run (SortSt.mk' κ (vs.toArray.zip vs.toArray) #[] 7 none)) (fun r s' => s' = { s with heap := h' } ∧ failedOf r.2 = none ∧ ((arrOf r.2).map (·.2)).size = vs.length ∧ G ((arrOf r.2).map (·.2)).toList) (fun _ _ => False) { s with heap := h' }) (fun _ _ => False) { s with heap := h' })
    (h : ∀ out h' D c, G out.toList → out.size = vs.length → Kept s.heap h' → s.heap.objs.size ≤ D → h'.get? D = some (seqObj "list" out c) → Q (.ref D) { s with heap := h' }) :
    wpAny (model prog w) A (call (.builtin "sorted") [.ref l]) Q E s := by
  refine Calls.call_function_entry kind_sorted plain_sorted entry_sorted (args_sorted1 _) ?_
  unfold Builtin.«sorted»
  refine wpAny_bind (m := checkCount "sorted" 1 1 _) (wpAny_pure ?_)
  refine wpAny_bind (collect_list hl ?_ hz)
  refine wpAny_bind (wpAny_newList ?_ hz)
  have hsz : ((s.heap.push (seqObj "list" #[] 0)).update s.heap.objs.size (Obj.mapSeq (· ++ vs.toArray))).objs.size = s.heap.objs.size + 1 := by
    rw [Heap.size_update, size_push']
  have hoL : (((s.heap.push (seqObj "list" #[] 0)).update s.heap.objs.size (Obj.mapSeq (· ++ vs.toArray))).push (seqObj "list" vs.toArray 0)).get? (s.heap.objs.size + 1) = some (seqObj "list" vs.toArray 0) := by
    rw [← hsz]; exact Heap.get?_push_size _ rfl
  have keep : Kept s.heap (((s.heap.push (seqObj "list" #[] 0)).update s.heap.objs.size (Obj.mapSeq (· ++ vs.toArray))).push (seqObj "list" vs.toArray 0)) := fun b o q => by
    have hlt : b < s.heap.objs.size := Heap.lt_size q
    rw [Heap.get?_push_ne _ _ _ (by rw [hsz]; exact Nat.ne_of_lt (Nat.lt_succ_of_lt hlt)), Heap.get?_update_ne _ _ _ _ (Nat.ne_of_lt hlt), Heap.get?_push_ne _ _ _ (Nat.ne_of_lt hlt)]
    exact q
  show wpAny _ _ _ _ _ { s with heap := ((s.heap.push (seqObj "list" #[] 0)).update s.heap.objs.size (Obj.mapSeq (· ++ vs.toArray))).push (seqObj "list" vs.toArray 0) }
  rw [hsz]
  generalize ((s.heap.push (seqObj "list" #[] 0)).update s.heap.objs.size (Obj.mapSeq (· ++ vs.toArray))).push (seqObj "list" vs.toArray 0) = h1 at hoL keep ⊢
  have ne : ∀ b o, s.heap.get? b = some o → b ≠ s.heap.objs.size + 1 := fun b o e => Nat.ne_of_lt (Nat.lt_succ_of_lt (Heap.lt_size e))
  refine wpAny_bind (wpAny_holding (wpAny_call_entry slot_list_sort ⟨_, hoL, rfl⟩ entry_list_sort ?body (args_list_sort _)))
  exact sort_shell (s := { s with heap := h1 }) G hoL hz few (fun h2 h' k' => run h2 h' fun b o e => k' b o (ne b o e) (keep b o e))
    fun out h' c g1 g2 k' e => ⟨_, rfl, wpAny_pure ⟨_, rfl, h out h' _ c g1 g2 (fun b o e => k' b o (ne b o e) (keep b o e)) (Nat.le_succ _) e⟩⟩
end

noncomputable abbrev C4 := Int × Int × Int × Int
noncomputable def lt4 (a b : C4) : Bool := if a.1 = b.1 then if a.2.1 = b.2.1 then if a.2.2.1 = b.2.2.1 then decide (a.2.2.2 < b.2.2.2) else decide (a.2.2.1 < b.2.2.1) else decide (a.2.1 < b.2.1) else decide (a.1 < b.1)
noncomputable def T4 (h : Heap) (c : Addr) (m : C4) : Prop := ∃ o n t1 t2 t3 t4, h.get? c = some o ∧ o.cls = .type "tuple" ∧ o.data = .seq #[.int m.1 t1, .int m.2.1 t2, .int m.2.2.1 t3, .int m.2.2.2 t4] n
section
variable {prog : Program} {w : World} {A : Around} {E : Value → Shared → Prop} {s : Shared}
theorem lex_step {b fin : Bool} {Q : Bool → Shared → Prop} {x y : Int} {t u : Tok} {r : List (Value × Value)} {i : Nat} (hb : (b && i == 0) = true ∨ (b && i == 0) = false)
    (h : if x = y then KatLex prog w A b fin Q r (i + 1) s else Q (decide (x < y)) s) : KatLex prog w A b fin Q ((.int x t, .int y u) :: r) i s := by
  refine kat_cons (wpAny_eqBool_int ?_)
  by_cases e : x = y
  · rw [if_pos e] at h
    rw [show (x == y) = true from beq_iff_eq.mpr e]
    exact kat_yes h
  · rw [if_neg e] at h
    rw [show (x == y) = false from beq_eq_false_iff_ne.mpr e]
    refine kat_no ?_
    rcases hb with z | z
    · rw [z]; exact oneLt_int h
    · rw [z]; exact kat_one _ _ (wpAny_lt_int h)
theorem lt_tup4 {x y : Addr} {a b : C4} {Q : Bool → Shared → Prop} (hx : T4 s.heap x a) (hy : T4 s.heap y b) (h : Q (lt4 a b) s) : wpAny (model prog w) A (keyLt' (tuples' true) (.ref x) (.ref y)) Q E s := by
  obtain ⟨o, n, t1, t2, t3, t4, ho, hc, hd⟩ := hx
  obtain ⟨o', n', u1, u2, u3, u4, ho', hc', hd'⟩ := hy
  refine kat_lt ho hd ho' hd' ?_
  unfold lt4 at h
  refine lex_step (.inl rfl) ?_
  by_cases e1 : a.1 = b.1
  rotate_left
  · rw [if_neg e1] at h ⊢; exact h
  rw [if_pos e1] at h ⊢
  refine lex_step (.inr rfl) ?_
  by_cases e2 : a.2.1 = b.2.1
  rotate_left
  · rw [if_neg e2] at h ⊢; exact h
  rw [if_pos e2] at h ⊢
  refine lex_step (.inr rfl) ?_
  by_cases e3 : a.2.2.1 = b.2.2.1
  rotate_left
  · rw [if_neg e3] at h ⊢; exact h
  rw [if_pos e3] at h ⊢
  refine lex_step (.inr rfl) ?_
  by_cases e4 : a.2.2.2 = b.2.2.2
  · rw [if_pos e4]
    rw [e4, decide_eq_false (Int.lt_irrefl _)] at h
    exact kat_nil h
  · rw [if_neg e4]; exact h
theorem tups4 {h : Heap} : ∀ {qs : List (Addr × C4)}, (∀ q ∈ qs, T4 h q.1 q.2) → ∃ fs : List Value, KatTups h (qs.map fun q => Value.ref q.1) fs ∧ fs.length = qs.length ∧ ∀ v ∈ fs, ∃ i t, v = Value.int i t
  | [], _ => ⟨[], trivial, rfl, fun v hv => by cases hv⟩
  | q :: qs, hq => by
    obtain ⟨fs, h1, h2, h3⟩ := tups4 (qs := qs) fun r hr => hq r (.tail _ hr)
    obtain ⟨o, n, t1, t2, t3, t4, ho, hc, hd⟩ := hq q (.head _)
    refine ⟨.int q.2.1 t1 :: fs, KatTups.cons ho hc hd rfl h1, by simp [h2], fun v hv => ?_⟩
    rcases List.mem_cons.mp hv with rfl | hv
    · exact ⟨_, _, rfl⟩
    · exact h3 v hv
theorem kind_tup4 {qs : List (Addr × C4)} {Q : SortKind → Shared → Prop} (hq : ∀ q ∈ qs, T4 s.heap q.1 q.2) (hn : 0 < qs.length) (h : Q (tuples' true) s) : wpAny (model prog w) A (keyKind' (qs.map fun q => Value.ref q.1).toArray) Q E s := by
  obtain ⟨fs, h1, h2, h3⟩ := tups4 hq
  refine kat_kind (T := .type "int") h1 (by omega) (fun v hv => ?_) rfl h
  obtain ⟨i, t, rfl⟩ := h3 v hv
  exact Looks.of_pure rfl
end
/-- each row not ahead of the one before it -/
noncomputable def Asc4 (qs : List (Addr × C4)) : Prop := ∀ i a b, qs[i]? = some a → qs[i + 1]? = some b → lt4 b.2 a.2 = false
/-- what a sorted row is: the same, in some order; as it was, where it was in order -/
noncomputable def Out4 (qs qs' : List (Addr × C4)) : Prop := qs'.Perm qs ∧ (Asc4 qs → qs' = qs)
theorem perm_pick {α : Type} {qs : List α} {d : α} {p : List Nat} (h : p.Perm (List.range qs.length)) : (p.map fun i => qs.getD i d).Perm qs := by
  have e : (List.range qs.length).map (fun i => qs.getD i d) = qs := by
    apply List.ext_getElem (by simp)
    intro i h1 h2
    simp [h2]
  have := h.map (fun i => qs.getD i d)
  rw [e] at this
  exact this
section
variable {X : Cx}
noncomputable def rSorted4 (K : PySem.W.Frag) : List V → Hp → VK → Prop := fun xs H Q => match xs with
  | [.ref p] => ∃ qs : List (Addr × C4), SqL K H p (qs.map fun q => V.ref q.1) ∧ (∀ q ∈ qs, SqT K H q.1 [.int q.2.1, .int q.2.2.1, .int q.2.2.2.1, .int q.2.2.2.2]) ∧ qs.length < 64 ∧ ∀ l qs', H l = none → Out4 qs qs' → Q (.ref l) (upd H l (.lst (qs'.map fun q => V.ref q.1)))
  | _ => False
theorem vals_refs : ∀ {cs : List Addr} {its : List Value}, Vals (cs.map V.ref) its → its = cs.map Value.ref
  | [], _, .nil => rfl
  | c :: cs, _, .cons r rr => by
    cases r
    rw [vals_refs rr]
    rfl
theorem vals_of_refs : ∀ (cs : List Addr), Vals (cs.map V.ref) (cs.map Value.ref)
  | [] => .nil
  | c :: cs => .cons rfl (vals_of_refs cs)
theorem tups_kept {pins : List (Addr × Obj)} {s : Shared} {σ : St} {H : Hp} {qs : List (Addr × C4)} {h' : Heap} (I : Inv X pins σ H s) (hT : ∀ q ∈ qs, SqT X.K H q.1 [.int q.2.1, .int q.2.2.1, .int q.2.2.2.1, .int q.2.2.2.2]) (k : Kept s.heap h') : ∀ q ∈ qs, T4 h' q.1 q.2 := fun q hq => by
  obtain ⟨ts, rt, pt, _⟩ := I.tuple (hT q hq)
  obtain ⟨o, ho, hc, n, hd⟩ := pt
  cases rt with
  | cons r1 rt => cases rt with
    | cons r2 rt => cases rt with
      | cons r3 rt => cases rt with
        | cons r4 rt =>
          cases rt
          obtain ⟨t1, rfl⟩ := r1
          obtain ⟨t2, rfl⟩ := r2
          obtain ⟨t3, rfl⟩ := r3
          obtain ⟨t4, rfl⟩ := r4
          exact ⟨o, n, t1, t2, t3, t4, k _ _ ho, hc, hd⟩
theorem call_sorted4 : CallR X (.builtin "sorted") (rSorted4 X.K) := by
  intro pins s σ H xs us Q I rs q
  unfold rSorted4 at q
  split at q
  rotate_left
  · exact q.elim
  rename_i p
  obtain ⟨u, rfl, ru⟩ := vals1 rs
  cases ru
  obtain ⟨qs, hS, hT, h64, q⟩ := q
  obtain ⟨its, r, pl, hz⟩ := I.list hS
  have em : (qs.map fun q => V.ref q.1) = (qs.map (·.1)).map V.ref := by rw [List.map_map]; rfl
  rw [em] at r
  have ei := vals_refs r
  have ei' : its = qs.map fun q => Value.ref q.1 := by rw [ei, List.map_map]; rfl
  subst ei'
  have t4 := fun h' (k : Kept s.heap h') => tups_kept I hT k
  have hsl := sizeLine_eq
  refine sorted_shell (fun out => ∃ qs', Out4 qs qs' ∧ out = qs'.map fun q => Value.ref q.1) pl.isList (by rw [List.length_map]; omega) (fun _ => ⟨qs, ⟨List.Perm.refl _, fun _ => rfl⟩, rfl⟩) (fun h2 h' k => ?_) (fun out h' D c g _ k hD e => ?_)
  · rw [List.length_map] at h2
    have tt := t4 h' k
    refine kind_tup4 (s := { s with heap := h' }) tt (by omega) ⟨rfl, ?_⟩
    have d0 : Addr × C4 := (0, 0, 0, 0, 0)
    have gd : ∀ i, i < qs.length → (qs.map fun q => Value.ref q.1).getD i Value.none = Value.ref (qs.getD i (0, 0, 0, 0, 0)).1 := fun i hi => by simp [hi]
    have hc : ∀ i j C, i < qs.length → j < qs.length → C (lt4 (qs.getD i (0, 0, 0, 0, 0)).2 (qs.getD j (0, 0, 0, 0, 0)).2) { s with heap := h' } → kas_ask X.prog X.w X.A.in1.in1 (tuples' true) (qs.map fun q => Value.ref q.1) i j C { s with heap := h' } := fun i j C hi hj hC => by
      unfold kas_ask
      rw [gd i hi, gd j hj]
      have m : ∀ i, i < qs.length → qs.getD i (0, 0, 0, 0, 0) ∈ qs := fun i hi => by simp [hi]
      exact lt_tup4 (tt _ (m i hi)) (tt _ (m j hj)) hC
    have ok := ok_sort (n := qs.length) (by omega)
    have pm := ok.ev (fun i j => lt4 (qs.getD i (0, 0, 0, 0, 0)).2 (qs.getD j (0, 0, 0, 0, 0)).2)
    refine kat_run (ks := qs.map fun q => Value.ref q.1) (vs := qs.map fun q => Value.ref q.1) (Q := fun st s' => s' = { s with heap := h' } ∧ failedOf st = none ∧ ((arrOf st).map (·.2)).size = (qs.map fun q => Value.ref q.1).length ∧ ∃ qs', Out4 qs qs' ∧ ((arrOf st).map (·.2)).toList = qs'.map fun q => Value.ref q.1)
      (G := fun p s' => s' = { s with heap := h' } ∧ p = evT (fun i j => lt4 (qs.getD i (0, 0, 0, 0, 0)).2 (qs.getD j (0, 0, 0, 0, 0)).2) (kas_sort qs.length)) rfl (by rw [List.length_map]; exact h2) (by rw [List.length_map]; exact h64) (fun p st' s' a1 a2 a3 a4 => ?_) ?_
    · obtain ⟨rfl, rfl⟩ := a4
      have hout := kat_snds rfl a2
      refine ⟨rfl, a3, by rw [Array.size_map, a2, Array.size_map, a1], (evT (fun i j => lt4 (qs.getD i (0, 0, 0, 0, 0)).2 (qs.getD j (0, 0, 0, 0, 0)).2) (kas_sort qs.length)).toList.map (fun i => qs.getD i (0, 0, 0, 0, 0)), ⟨perm_pick pm, fun asc => ?_⟩, ?_⟩
      · rw [ev_sort_asc (by omega) (fun i hi => ?_)]
        · show (List.range qs.length).map _ = qs
          apply List.ext_getElem (by simp)
          intro i h1 h2
          simp [h2]
        · have g1 : qs.getD i (0, 0, 0, 0, 0) = qs[i] := by simp [show i < qs.length by omega]
          have g2 : qs.getD (i + 1) (0, 0, 0, 0, 0) = qs[i + 1] := by simp [hi]
          rw [g1, g2]
          exact asc i _ _ (List.getElem?_eq_getElem _) (List.getElem?_eq_getElem _)
      · rw [hout]
        rw [List.map_map]
        refine List.map_congr_left fun i hi => ?_
        have : i < qs.length := List.mem_range.mp (pm.mem_iff.mp hi)
        exact gd i this
    · rw [List.length_map]
      exact ok.wp hc ⟨rfl, rfl⟩
  · obtain ⟨qs', o4, eo⟩ := g
    have el : out = ((qs'.map (·.1)).map Value.ref).toArray := by
      apply Array.toList_inj.mp
      rw [eo, List.map_map]
      rfl
    subst el
    have ev : (qs'.map fun q => V.ref q.1) = (qs'.map (·.1)).map V.ref := by rw [List.map_map]; rfl
    refine ⟨.ref D, _, I.laid (a := D) (o := .lst (qs'.map fun q => V.ref q.1)) (t' := s.toks) k hD ⟨?_, (qs'.map (·.1)).map Value.ref, c, ?_, e⟩, rfl, q D qs' (I.hok.fresh hD) o4⟩
    · rw [List.length_map, o4.1.length_eq]; omega
    · rw [ev]; exact vals_of_refs _
theorem call_sorted4K (K : PySem.W.Frag) (h : X.K = K) : CallR X (.builtin "sorted") (rSorted4 K) := h ▸ call_sorted4
theorem bt_sorted : bootBuiltins "sorted" = some (.builtin "sorted") := by decide +kernel
/-- self.f = [.. for ..] -/
theorem ps_fldCC {o elt : Expr} {gs : List Comprehension} {sc : Scope} {cp pos pos' : Pos} {f x : Str} {C : Addr} {ta tv : TE} (ha : PE X o ta) (hv : PE X (.ListComp elt gs sc cp) tv) (c : KlsAt X.K X.mg x C) (nn : NoAttr X.K C f) : PS X (.Assign [.Attribute o f pos'] (.ListComp elt gs sc cp) pos) (sFldC C f ta tv) := by
  intro pins s σ H D I h
  refine plainObj_wpAny_Assign_Attribute (thn (hv pins s σ H _ I h) fun u s1 h1 => ?_) rfl
  obtain ⟨y, H1, I1, ry, q⟩ := h1
  refine thn (ha pins s1 σ H1 _ I1 q) fun ov s2 h2 => ?_
  obtain ⟨x, H2, I2, rx, a, ex, dx, fs, ea, l, q2⟩ := h2
  subst ex
  obtain rfl : ov = Value.ref a := rx
  exact setattr_ok I2 ea c.cl nn l ry fun s3 I3 => ⟨σ, _, I3, q2⟩
theorem rSorted4_ref {K : PySem.W.Frag} {p : Addr} {H : Hp} {Q : VK} : rSorted4 K [.ref p] H Q = ∃ qs : List (Addr × C4), SqL K H p (qs.map fun q => V.ref q.1) ∧ (∀ q ∈ qs, SqT K H q.1 [.int q.2.1, .int q.2.2.1, .int q.2.2.2.1, .int q.2.2.2.2]) ∧ qs.length < 64 ∧ ∀ l qs', H l = none → Out4 qs qs' → Q (.ref l) (upd H l (.lst (qs'.map fun q => V.ref q.1))) := rfl
end
end L2


set_option maxRecDepth 100000
namespace L2
open PySem PySem.Spec PyProof.Rows
noncomputable def rInX (K : PySem.W.Frag) : R2 := fun x y H Q => match x, y with
  | .ref b, .ref p => ∃ (n : Nat) (d : Dt) (as : List Addr) (ds : List Dt), n ≤ 60 ∧ Dn K H n (.ref b) d ∧ SqL K H p (as.map V.ref) ∧ Paired (Dn K H n) (as.map V.ref) ds ∧ ∀ c : Bool, (c = true ↔ d ∈ ds) → Q (.bl c) H
  | _, _ => False
section
variable {X : Cx}
open Classical in
theorem op_inX (hu : X.A.units + 64 < cLine) : OpR X (compareOp .In) (rInX X.K) := by
  intro pins s σ H x y v u Q I rx ry h
  unfold rInX at h
  split at h
  rotate_left
  · exact h.elim
  rename_i b p
  obtain ⟨n, d, as, ds, hn, hd, hS, hP, q⟩ := h
  cases rx
  cases ry
  obtain ⟨its, r, pl, hz⟩ := I.list hS
  have ei := vals_refs r
  subst ei
  have lp := Paired.length hP
  refine SeqAt.in_listAt (fun v => decide (∃ a, v = Value.ref a ∧ Dn X.K H n (.ref a) d)) pl.isList (fun w hw => ?_) ⟨.bl _, H, I, rfl, q _ ?_⟩
  · have hw' : w ∈ as.map Value.ref := by simpa using hw
    obtain ⟨a, ha, rfl⟩ := List.mem_map.mp hw'
    obtain ⟨i, hi⟩ := List.getElem?_of_mem ha
    obtain ⟨d', e', hd'⟩ := Paired.get hP (show (as.map V.ref)[i]? = some (.ref a) by rw [List.getElem?_map, hi]; rfl)
    have eq := (dn_rc n (A := X.A.in1) I (by show X.A.units + 1 + n < cLine; omega) (show RelV (.ref a) (Value.ref a) from rfl) (show RelV (.ref b) (Value.ref b) from rfl) hd' hd).1
    have e : decide (∃ a', Value.ref a = Value.ref a' ∧ Dn X.K H n (.ref a') d) = decide (d' = d) := by
      rw [Bool.eq_iff_iff, decide_eq_true_eq, decide_eq_true_eq]
      constructor
      · rintro ⟨a', z, hh⟩
        cases z
        exact dn_det n I hd' hh
      · rintro rfl
        exact ⟨a, rfl, hd'⟩
    show SeqAt.EqAt _ _ _ _ (decide _)
    rw [e]
    exact eq
  · rw [List.any_toArray, List.any_eq_true]
    constructor
    · rintro ⟨w, hw, e⟩
      rw [decide_eq_true_eq] at e
      obtain ⟨a, rfl, hh⟩ := e
      obtain ⟨a', ha, z⟩ := List.mem_map.mp hw
      cases z
      obtain ⟨i, hi⟩ := List.getElem?_of_mem ha
      obtain ⟨d', e', hd'⟩ := Paired.get hP (show (as.map V.ref)[i]? = some (.ref a) by rw [List.getElem?_map, hi]; rfl)
      rw [dn_det n I hh hd']
      exact List.mem_of_getElem? e'
    · intro hm
      obtain ⟨i, hi⟩ := List.getElem?_of_mem hm
      have hl : i < (as.map V.ref).length := by rw [lp]; exact (List.getElem?_eq_some_iff.mp hi).1
      have hx : (as.map V.ref)[i]? = some (as.map V.ref)[i] := List.getElem?_eq_getElem hl
      obtain ⟨d', e', hd'⟩ := Paired.get hP hx
      rw [hi] at e'
      cases e'
      have ha : as[i]? = some (as[i]'(by simpa using hl)) := List.getElem?_eq_getElem _
      rw [List.getElem_map] at hd'
      exact ⟨Value.ref (as[i]'(by simpa using hl)), List.mem_map.mpr ⟨_, List.mem_of_getElem? ha, rfl⟩, decide_eq_true ⟨_, rfl, hd'⟩⟩
theorem op_inXK (K : PySem.W.Frag) (h : X.K = K) (hu : X.A.units + 64 < cLine) : OpR X (compareOp .In) (rInX K) := h ▸ op_inX hu
theorem rInX_ref {K : PySem.W.Frag} {b p : Addr} {H : Hp} {Q : VK} : rInX K (.ref b) (.ref p) H Q = ∃ (n : Nat) (d : Dt) (as : List Addr) (ds : List Dt), n ≤ 60 ∧ Dn K H n (.ref b) d ∧ SqL K H p (as.map V.ref) ∧ Paired (Dn K H n) (as.map V.ref) ds ∧ ∀ c : Bool, (c = true ↔ d ∈ ds) → Q (.bl c) H := rfl
end
end L2


set_option maxRecDepth 100000
set_option maxHeartbeats 4000000
namespace K25
open PySem L2 Com
noncomputable def tHold (u : TS) : TS := u
theorem pss_hold {X : Cx} {l : List Stmt} {u : TS} (h : PSs X l u) : PSs X l (tHold u) := h
theorem qss_hold {X : Cx} {l : List Stmt} {u : TS} (h : QSs X l u) : QSs X l (tHold u) := ⟨h.h⟩
theorem gen_ends {u : TS} {D : Ends} {σ : St} {H : Hp} (h : ∀ D', D' = D → u D' σ H) : u D σ H := h D rfl
noncomputable def fromB (v l h : Int) : Bool := decide (l ≤ v) && decide (v ≤ h)
theorem dropx {H H1 : Hp} {e d C : Addr} {o : HO} {f : Str} {v : V} (S : Same H H1) (he : H1 e = none) (hd : upd H1 e o d = none) : Same H (dropH (upd (upd (upd H1 e o) d (.xd [(f, v)])) e (.ext (exN e C (some d)))) e) ∧ dropH (upd (upd (upd H1 e o) d (.xd [(f, v)])) e (.ext (exN e C (some d)))) e d = some (.xd [(f, v)]) := by
  have nd : d ≠ e := fun z => by rw [z, upd_same] at hd; cases hd
  refine ⟨fun b u hb => ?_, ?_⟩
  · have h1 := S b u hb
    have nb : b ≠ e := ne_of_none h1 he
    rw [dropH_ne nb, upd_ne nb, upd_ne (fun z => ?_), upd_ne nb]; exact h1
    rw [z] at h1
    rw [upd_ne nd] at hd
    rw [h1] at hd; cases hd
  · rw [dropH_ne nd, upd_ne nd, upd_same]
noncomputable def top (i : Nat) : Stmt := PySem.Challenge.pw_slowroad_k25_no_road.main.body.getD i (.Pass ⟨0, 0, 0, 0⟩)
theorem len_1 {α : Type} {us : List α} (h : us.length = 1) : ∃ a0, us = [a0] := List.length_eq_one_iff.mp h
theorem len_2 {α : Type} {us : List α} (h : us.length = 2) : ∃ a0 a1, us = [a0, a1] := by
  obtain ⟨a, t, rfl⟩ := List.exists_cons_of_length_eq_add_one h
  obtain ⟨b0, rfl⟩ := len_1 (Nat.succ.inj h)
  exact ⟨a, b0, rfl⟩
theorem len_3 {α : Type} {us : List α} (h : us.length = 3) : ∃ a0 a1 a2, us = [a0, a1, a2] := by
  obtain ⟨a, t, rfl⟩ := List.exists_cons_of_length_eq_add_one h
  obtain ⟨b0, b1, rfl⟩ := len_2 (Nat.succ.inj h)
  exact ⟨a, b0, b1, rfl⟩
noncomputable abbrev s_is_from : Stmt := top 1
theorem sc_is_from : FnScope ["value", "low", "high"] ["value", "low", "high"] (defScope s_is_from) := ⟨rfl, rfl, rfl, by decide +kernel, rfl, by decide +kernel, by decide +kernel⟩
theorem bd_is_from : ∀ (kV doc pm : Value) (an : Option Addr) (cdv ct : Value) (us : List Value), us.length = (["value", "low", "high"] : List Str).length → bindArgs (PySem.W.fnOf "is_from" "is_from" (defArgs s_is_from) (defBody s_is_from) (defScope s_is_from) .none kV doc pm an cdv ct) ⟨us, []⟩ = pure ((["value", "low", "high"] : List Str).zip us) := by
  intro _ _ _ _ _ _ us hl; obtain ⟨_, _, _, rfl⟩ := len_3 hl; rfl
noncomputable abbrev s_BadRoad___init__ : Stmt := inClass (top 4) 0
theorem sc_BadRoad___init__ : FnScope ["self", "at"] ["self", "at"] (defScope s_BadRoad___init__) := ⟨rfl, rfl, rfl, by decide +kernel, rfl, by decide +kernel, by decide +kernel⟩
theorem bd_BadRoad___init__ : ∀ (kV doc pm : Value) (an : Option Addr) (cdv ct : Value) (us : List Value), us.length = (["self", "at"] : List Str).length → bindArgs (PySem.W.fnOf "__init__" "BadRoad.__init__" (defArgs s_BadRoad___init__) (defBody s_BadRoad___init__) (defScope s_BadRoad___init__) .none kV doc pm an cdv ct) ⟨us, []⟩ = pure ((["self", "at"] : List Str).zip us) := by
  intro _ _ _ _ _ _ us hl; obtain ⟨_, _, rfl⟩ := len_2 hl; rfl
noncomputable abbrev s_copied : Stmt := top 12
theorem sc_copied : FnScope ["deeds"] ["deeds"] (defScope s_copied) := ⟨rfl, rfl, rfl, by decide +kernel, rfl, by decide +kernel, by decide +kernel⟩
theorem bd_copied : ∀ (kV doc pm : Value) (an : Option Addr) (cdv ct : Value) (us : List Value), us.length = (["deeds"] : List Str).length → bindArgs (PySem.W.fnOf "copied" "copied" (defArgs s_copied) (defBody s_copied) (defScope s_copied) .none kV doc pm an cdv ct) ⟨us, []⟩ = pure ((["deeds"] : List Str).zip us) := by
  intro _ _ _ _ _ _ us hl; obtain ⟨_, rfl⟩ := len_1 hl; rfl
noncomputable abbrev s_deed_at : Stmt := top 13
theorem sc_deed_at : FnScope ["deeds", "sending"] ["deeds", "sending"] (defScope s_deed_at) := ⟨rfl, rfl, rfl, by decide +kernel, rfl, by decide +kernel, by decide +kernel⟩
theorem bd_deed_at : ∀ (kV doc pm : Value) (an : Option Addr) (cdv ct : Value) (us : List Value), us.length = (["deeds", "sending"] : List Str).length → bindArgs (PySem.W.fnOf "deed_at" "deed_at" (defArgs s_deed_at) (defBody s_deed_at) (defScope s_deed_at) .none kV doc pm an cdv ct) ⟨us, []⟩ = pure ((["deeds", "sending"] : List Str).zip us) := by
  intro _ _ _ _ _ _ us hl; obtain ⟨_, _, rfl⟩ := len_2 hl; rfl
noncomputable abbrev s_is_copy : Stmt := top 14
theorem sc_is_copy : FnScope ["copy", "lag"] ["copy", "lag"] (defScope s_is_copy) := ⟨rfl, rfl, rfl, by decide +kernel, rfl, by decide +kernel, by decide +kernel⟩
theorem bd_is_copy : ∀ (kV doc pm : Value) (an : Option Addr) (cdv ct : Value) (us : List Value), us.length = (["copy", "lag"] : List Str).length → bindArgs (PySem.W.fnOf "is_copy" "is_copy" (defArgs s_is_copy) (defBody s_is_copy) (defScope s_is_copy) .none kV doc pm an cdv ct) ⟨us, []⟩ = pure ((["copy", "lag"] : List Str).zip us) := by
  intro _ _ _ _ _ _ us hl; obtain ⟨_, _, rfl⟩ := len_2 hl; rfl
noncomputable abbrev s_is_deed : Stmt := top 15
theorem sc_is_deed : FnScope ["deed", "lag"] ["deed", "lag"] (defScope s_is_deed) := ⟨rfl, rfl, rfl, by decide +kernel, rfl, by decide +kernel, by decide +kernel⟩
theorem bd_is_deed : ∀ (kV doc pm : Value) (an : Option Addr) (cdv ct : Value) (us : List Value), us.length = (["deed", "lag"] : List Str).length → bindArgs (PySem.W.fnOf "is_deed" "is_deed" (defArgs s_is_deed) (defBody s_is_deed) (defScope s_is_deed) .none kV doc pm an cdv ct) ⟨us, []⟩ = pure ((["deed", "lag"] : List Str).zip us) := by
  intro _ _ _ _ _ _ us hl; obtain ⟨_, _, rfl⟩ := len_2 hl; rfl
noncomputable abbrev s_check_road : Stmt := top 16
theorem sc_check_road : FnScope ["deeds", "lag", "at", "deed"] ["deeds", "lag"] (defScope s_check_road) := ⟨rfl, rfl, rfl, by decide +kernel, rfl, by decide +kernel, by decide +kernel⟩
theorem bd_check_road : ∀ (kV doc pm : Value) (an : Option Addr) (cdv ct : Value) (us : List Value), us.length = (["deeds", "lag"] : List Str).length → bindArgs (PySem.W.fnOf "check_road" "check_road" (defArgs s_check_road) (defBody s_check_road) (defScope s_check_road) .none kV doc pm an cdv ct) ⟨us, []⟩ = pure ((["deeds", "lag"] : List Str).zip us) := by
  intro _ _ _ _ _ _ us hl; obtain ⟨_, _, rfl⟩ := len_2 hl; rfl
noncomputable abbrev s_Road___init__ : Stmt := inClass (top 17) 0
theorem sc_Road___init__ : FnScope ["self", "deeds", "lag"] ["self", "deeds", "lag"] (defScope s_Road___init__) := ⟨rfl, rfl, rfl, by decide +kernel, rfl, by decide +kernel, by decide +kernel⟩
theorem bd_Road___init__ : ∀ (kV doc pm : Value) (an : Option Addr) (cdv ct : Value) (us : List Value), us.length = (["self", "deeds", "lag"] : List Str).length → bindArgs (PySem.W.fnOf "__init__" "Road.__init__" (defArgs s_Road___init__) (defBody s_Road___init__) (defScope s_Road___init__) .none kV doc pm an cdv ct) ⟨us, []⟩ = pure ((["self", "deeds", "lag"] : List Str).zip us) := by
  intro _ _ _ _ _ _ us hl; obtain ⟨_, _, _, rfl⟩ := len_3 hl; rfl
noncomputable abbrev s_Road_send : Stmt := inClass (top 17) 1
theorem sc_Road_send : FnScope ["self", "turn", "frame", "sending", "order", "copy"] ["self", "turn", "frame"] (defScope s_Road_send) := ⟨rfl, rfl, rfl, by decide +kernel, rfl, by decide +kernel, by decide +kernel⟩
theorem bd_Road_send : ∀ (kV doc pm : Value) (an : Option Addr) (cdv ct : Value) (us : List Value), us.length = (["self", "turn", "frame"] : List Str).length → bindArgs (PySem.W.fnOf "send" "Road.send" (defArgs s_Road_send) (defBody s_Road_send) (defScope s_Road_send) .none kV doc pm an cdv ct) ⟨us, []⟩ = pure ((["self", "turn", "frame"] : List Str).zip us) := by
  intro _ _ _ _ _ _ us hl; obtain ⟨_, _, _, rfl⟩ := len_3 hl; rfl
noncomputable abbrev s_Road_come : Stmt := inClass (top 17) 2
theorem sc_Road_come : FnScope ["self", "turn", "due"] ["self", "turn"] (defScope s_Road_come) := ⟨rfl, rfl, rfl, by decide +kernel, rfl, by decide +kernel, by decide +kernel⟩
theorem bd_Road_come : ∀ (kV doc pm : Value) (an : Option Addr) (cdv ct : Value) (us : List Value), us.length = (["self", "turn"] : List Str).length → bindArgs (PySem.W.fnOf "come" "Road.come" (defArgs s_Road_come) (defBody s_Road_come) (defScope s_Road_come) .none kV doc pm an cdv ct) ⟨us, []⟩ = pure ((["self", "turn"] : List Str).zip us) := by
  intro _ _ _ _ _ _ us hl; obtain ⟨_, _, rfl⟩ := len_2 hl; rfl
noncomputable abbrev s_Road_under_way : Stmt := inClass (top 17) 3
theorem sc_Road_under_way : FnScope ["self"] ["self"] (defScope s_Road_under_way) := ⟨rfl, rfl, rfl, by decide +kernel, rfl, by decide +kernel, by decide +kernel⟩
theorem bd_Road_under_way : ∀ (kV doc pm : Value) (an : Option Addr) (cdv ct : Value) (us : List Value), us.length = (["self"] : List Str).length → bindArgs (PySem.W.fnOf "under_way" "Road.under_way" (defArgs s_Road_under_way) (defBody s_Road_under_way) (defScope s_Road_under_way) .none kV doc pm an cdv ct) ⟨us, []⟩ = pure ((["self"] : List Str).zip us) := by
  intro _ _ _ _ _ _ us hl; obtain ⟨_, rfl⟩ := len_1 hl; rfl
noncomputable abbrev s__law_whole : Stmt := top 19
theorem sc__law_whole : FnScope ["_law_found"] ["_law_found"] (defScope s__law_whole) := ⟨rfl, rfl, rfl, by decide +kernel, rfl, by decide +kernel, by decide +kernel⟩
theorem bd__law_whole : ∀ (kV doc pm : Value) (an : Option Addr) (cdv ct : Value) (us : List Value), us.length = (["_law_found"] : List Str).length → bindArgs (PySem.W.fnOf "_law_whole" "_law_whole" (defArgs s__law_whole) (defBody s__law_whole) (defScope s__law_whole) .none kV doc pm an cdv ct) ⟨us, []⟩ = pure ((["_law_found"] : List Str).zip us) := by
  intro _ _ _ _ _ _ us hl; obtain ⟨_, rfl⟩ := len_1 hl; rfl
noncomputable abbrev s__law_cell_at : Stmt := top 20
theorem sc__law_cell_at : FnScope ["_law_script", "_law_k"] ["_law_script", "_law_k"] (defScope s__law_cell_at) := ⟨rfl, rfl, rfl, by decide +kernel, rfl, by decide +kernel, by decide +kernel⟩
theorem bd__law_cell_at : ∀ (kV doc pm : Value) (an : Option Addr) (cdv ct : Value) (us : List Value), us.length = (["_law_script", "_law_k"] : List Str).length → bindArgs (PySem.W.fnOf "_law_cell_at" "_law_cell_at" (defArgs s__law_cell_at) (defBody s__law_cell_at) (defScope s__law_cell_at) .none kV doc pm an cdv ct) ⟨us, []⟩ = pure ((["_law_script", "_law_k"] : List Str).zip us) := by
  intro _ _ _ _ _ _ us hl; obtain ⟨_, _, rfl⟩ := len_2 hl; rfl
noncomputable abbrev s__law_mixed : Stmt := top 21
theorem sc__law_mixed : FnScope ["_law_cell", "_law_k", "_law_number", "_law_turn"] ["_law_cell", "_law_k"] (defScope s__law_mixed) := ⟨rfl, rfl, rfl, by decide +kernel, rfl, by decide +kernel, by decide +kernel⟩
theorem bd__law_mixed : ∀ (kV doc pm : Value) (an : Option Addr) (cdv ct : Value) (us : List Value), us.length = (["_law_cell", "_law_k"] : List Str).length → bindArgs (PySem.W.fnOf "_law_mixed" "_law_mixed" (defArgs s__law_mixed) (defBody s__law_mixed) (defScope s__law_mixed) .none kV doc pm an cdv ct) ⟨us, []⟩ = pure ((["_law_cell", "_law_k"] : List Str).zip us) := by
  intro _ _ _ _ _ _ us hl; obtain ⟨_, _, rfl⟩ := len_2 hl; rfl
noncomputable abbrev s__law_copy : Stmt := top 22
theorem sc__law_copy : FnScope ["_law_number", "_law_lag", "_law_some"] ["_law_number", "_law_lag"] (defScope s__law_copy) := ⟨rfl, rfl, rfl, by decide +kernel, rfl, by decide +kernel, by decide +kernel⟩
theorem bd__law_copy : ∀ (kV doc pm : Value) (an : Option Addr) (cdv ct : Value) (us : List Value), us.length = (["_law_number", "_law_lag"] : List Str).length → bindArgs (PySem.W.fnOf "_law_copy" "_law_copy" (defArgs s__law_copy) (defBody s__law_copy) (defScope s__law_copy) .none kV doc pm an cdv ct) ⟨us, []⟩ = pure ((["_law_number", "_law_lag"] : List Str).zip us) := by
  intro _ _ _ _ _ _ us hl; obtain ⟨_, _, rfl⟩ := len_2 hl; rfl
noncomputable abbrev s__law_deed : Stmt := top 23
theorem sc__law_deed : FnScope ["_law_cell", "_law_k", "_law_lag", "_law_number"] ["_law_cell", "_law_k", "_law_lag"] (defScope s__law_deed) := ⟨rfl, rfl, rfl, by decide +kernel, rfl, by decide +kernel, by decide +kernel⟩
theorem bd__law_deed : ∀ (kV doc pm : Value) (an : Option Addr) (cdv ct : Value) (us : List Value), us.length = (["_law_cell", "_law_k", "_law_lag"] : List Str).length → bindArgs (PySem.W.fnOf "_law_deed" "_law_deed" (defArgs s__law_deed) (defBody s__law_deed) (defScope s__law_deed) .none kV doc pm an cdv ct) ⟨us, []⟩ = pure ((["_law_cell", "_law_k", "_law_lag"] : List Str).zip us) := by
  intro _ _ _ _ _ _ us hl; obtain ⟨_, _, _, rfl⟩ := len_3 hl; rfl
noncomputable abbrev s__law_bad_copy : Stmt := top 24
theorem sc__law_bad_copy : FnScope ["_law_cell", "_law_lag", "_law_far", "_law_some"] ["_law_cell", "_law_lag"] (defScope s__law_bad_copy) := ⟨rfl, rfl, rfl, by decide +kernel, rfl, by decide +kernel, by decide +kernel⟩
theorem bd__law_bad_copy : ∀ (kV doc pm : Value) (an : Option Addr) (cdv ct : Value) (us : List Value), us.length = (["_law_cell", "_law_lag"] : List Str).length → bindArgs (PySem.W.fnOf "_law_bad_copy" "_law_bad_copy" (defArgs s__law_bad_copy) (defBody s__law_bad_copy) (defScope s__law_bad_copy) .none kV doc pm an cdv ct) ⟨us, []⟩ = pure ((["_law_cell", "_law_lag"] : List Str).zip us) := by
  intro _ _ _ _ _ _ us hl; obtain ⟨_, _, rfl⟩ := len_2 hl; rfl
noncomputable abbrev s__law_bad_deed : Stmt := top 25
theorem sc__law_bad_deed : FnScope ["_law_cell", "_law_deed_here", "_law_lag", "_law_found"] ["_law_cell", "_law_deed_here", "_law_lag"] (defScope s__law_bad_deed) := ⟨rfl, rfl, rfl, by decide +kernel, rfl, by decide +kernel, by decide +kernel⟩
theorem bd__law_bad_deed : ∀ (kV doc pm : Value) (an : Option Addr) (cdv ct : Value) (us : List Value), us.length = (["_law_cell", "_law_deed_here", "_law_lag"] : List Str).length → bindArgs (PySem.W.fnOf "_law_bad_deed" "_law_bad_deed" (defArgs s__law_bad_deed) (defBody s__law_bad_deed) (defScope s__law_bad_deed) .none kV doc pm an cdv ct) ⟨us, []⟩ = pure ((["_law_cell", "_law_deed_here", "_law_lag"] : List Str).zip us) := by
  intro _ _ _ _ _ _ us hl; obtain ⟨_, _, _, rfl⟩ := len_3 hl; rfl
noncomputable abbrev s__law_bad_lag : Stmt := top 26
theorem sc__law_bad_lag : FnScope ["_law_cell"] ["_law_cell"] (defScope s__law_bad_lag) := ⟨rfl, rfl, rfl, by decide +kernel, rfl, by decide +kernel, by decide +kernel⟩
theorem bd__law_bad_lag : ∀ (kV doc pm : Value) (an : Option Addr) (cdv ct : Value) (us : List Value), us.length = (["_law_cell"] : List Str).length → bindArgs (PySem.W.fnOf "_law_bad_lag" "_law_bad_lag" (defArgs s__law_bad_lag) (defBody s__law_bad_lag) (defScope s__law_bad_lag) .none kV doc pm an cdv ct) ⟨us, []⟩ = pure ((["_law_cell"] : List Str).zip us) := by
  intro _ _ _ _ _ _ us hl; obtain ⟨_, rfl⟩ := len_1 hl; rfl
noncomputable abbrev s__law_refused : Stmt := top 27
theorem sc__law_refused : FnScope ["_law_deeds", "_law_lag", "_law_at", "_law_handed", "_law_fine", "_law_told", "e"] ["_law_deeds", "_law_lag", "_law_at"] (defScope s__law_refused) := ⟨rfl, rfl, rfl, by decide +kernel, rfl, by decide +kernel, by decide +kernel⟩
theorem bd__law_refused : ∀ (kV doc pm : Value) (an : Option Addr) (cdv ct : Value) (us : List Value), us.length = (["_law_deeds", "_law_lag", "_law_at"] : List Str).length → bindArgs (PySem.W.fnOf "_law_refused" "_law_refused" (defArgs s__law_refused) (defBody s__law_refused) (defScope s__law_refused) .none kV doc pm an cdv ct) ⟨us, []⟩ = pure ((["_law_deeds", "_law_lag", "_law_at"] : List Str).zip us) := by
  intro _ _ _ _ _ _ us hl; obtain ⟨_, _, _, rfl⟩ := len_3 hl; rfl
noncomputable abbrev s__law_goes : Stmt := top 28
theorem sc__law_goes : FnScope ["_law_deeds", "_law_lag", "_law_road", "_law_delay", "_law_place", "_law_run"] ["_law_deeds", "_law_lag"] (defScope s__law_goes) := ⟨rfl, rfl, rfl, by decide +kernel, rfl, by decide +kernel, by decide +kernel⟩
theorem bd__law_goes : ∀ (kV doc pm : Value) (an : Option Addr) (cdv ct : Value) (us : List Value), us.length = (["_law_deeds", "_law_lag"] : List Str).length → bindArgs (PySem.W.fnOf "_law_goes" "_law_goes" (defArgs s__law_goes) (defBody s__law_goes) (defScope s__law_goes) .none kV doc pm an cdv ct) ⟨us, []⟩ = pure ((["_law_deeds", "_law_lag"] : List Str).zip us) := by
  intro _ _ _ _ _ _ us hl; obtain ⟨_, _, rfl⟩ := len_2 hl; rfl
noncomputable abbrev s_law : Stmt := top 29
theorem sc_law : FnScope ["_law_script", "_law_lag", "_law_many", "_law_seed", "_law_deeds", "_law_way", "_law_cell", "_law_at", "_law_bad", "_law_later", "_law_fine", "_law_rest"] ["_law_script"] (defScope s_law) := ⟨rfl, rfl, rfl, by decide +kernel, rfl, by decide +kernel, by decide +kernel⟩
theorem bd_law : ∀ (kV doc pm : Value) (an : Option Addr) (cdv ct : Value) (us : List Value), us.length = (["_law_script"] : List Str).length → bindArgs (PySem.W.fnOf "law" "law" (defArgs s_law) (defBody s_law) (defScope s_law) .none kV doc pm an cdv ct) ⟨us, []⟩ = pure ((["_law_script"] : List Str).zip us) := by
  intro _ _ _ _ _ _ us hl; obtain ⟨_, rfl⟩ := len_1 hl; rfl
noncomputable def fl_Road_1 (v0 : V) : List (Str × V) := [("deeds", v0)]
theorem fl_Road_1_len {v0 : V} : (fl_Road_1 v0).length < 1000 := by show 1 < 1000; decide
theorem fl_Road_1_new {v0 : V} : putF "deeds" v0 [] = fl_Road_1 v0 := by kernel_rfl
noncomputable def fl_Road_2 (v0 v1 : V) : List (Str × V) := [("deeds", v0), ("sendings", v1)]
theorem fl_Road_2_len {v0 v1 : V} : (fl_Road_2 v0 v1).length < 1000 := by show 2 < 1000; decide
theorem fl_Road_2_new {v0 v1 : V} : putF "sendings" v1 (fl_Road_1 v0) = fl_Road_2 v0 v1 := by kernel_rfl
noncomputable def fl_Road (v0 v1 v2 : V) : List (Str × V) := [("deeds", v0), ("sendings", v1), ("coming", v2)]
theorem fl_Road_len {v0 v1 v2 : V} : (fl_Road v0 v1 v2).length < 1000 := by show 3 < 1000; decide
theorem fl_Road_new {v0 v1 v2 : V} : putF "coming" v2 (fl_Road_2 v0 v1) = fl_Road v0 v1 v2 := by kernel_rfl
theorem fl_Road_get_deeds {v0 v1 v2 : V} : (fl_Road v0 v1 v2).lookup ("deeds" : Str) = some v0 := by kernel_rfl
theorem fl_Road_get_sendings {v0 v1 v2 : V} : (fl_Road v0 v1 v2).lookup ("sendings" : Str) = some v1 := by kernel_rfl
theorem fl_Road_get_coming {v0 v1 v2 : V} : (fl_Road v0 v1 v2).lookup ("coming" : Str) = some v2 := by kernel_rfl
theorem fl_Road_put_sendings {x v0 v1 v2 : V} : putF "sendings" x (fl_Road v0 v1 v2) = fl_Road v0 x v2 := by kernel_rfl
theorem fl_Road_put_coming {x v0 v1 v2 : V} : putF "coming" x (fl_Road v0 v1 v2) = fl_Road v0 v1 x := by kernel_rfl
theorem fl_Road_no_send {v0 v1 v2 : V} : (fl_Road v0 v1 v2).lookup ("send" : Str) = none := by kernel_rfl
theorem fl_Road_no_come {v0 v1 v2 : V} : (fl_Road v0 v1 v2).lookup ("come" : Str) = none := by kernel_rfl
theorem fl_Road_no_under_way {v0 v1 v2 : V} : (fl_Road v0 v1 v2).lookup ("under_way" : Str) = none := by kernel_rfl
structure Txt (K : PySem.W.Frag) (mg : Str → Option Value) (C_Road C_RoadError C_BadRoad C_BadPair : Addr) : Prop where
  k_Road : KlsAt K mg "Road" C_Road
  n_Road_deeds : NoAttr K C_Road "deeds"
  n_Road_sendings : NoAttr K C_Road "sendings"
  n_Road_coming : NoAttr K C_Road "coming"
  xm_RoadError : XmAt K mg "RoadError" C_RoadError
  xm_BadRoad : XmAt K mg "BadRoad" C_BadRoad
  xm_BadPair : XmAt K mg "BadPair" C_BadPair
  x_BadRoad : XcI K mg "BadRoad" C_BadRoad C_RoadError
  g_BadRoad : XgAt K C_BadRoad
  kp_BadRoad : PySem.W.keepIn K (.ref C_BadRoad) = true
  xf_BadRoad_at : XfAt K C_BadRoad "at"
  qv_BadRoad : PySem.W.kitOne K (.ref C_BadRoad) (.type "ValueError") = some true
  q_BadRoad_RoadError : PySem.W.kitOne K (.ref C_BadRoad) (.ref C_RoadError) = some true
  m_BadRoad_RoadError : isx K (.ref C_BadRoad) C_RoadError = some true
  q_BadRoad_BadRoad : PySem.W.kitOne K (.ref C_BadRoad) (.ref C_BadRoad) = some true
  m_BadRoad_BadRoad : isx K (.ref C_BadRoad) C_BadRoad = some true
  q_BadRoad_BadPair : PySem.W.kitOne K (.ref C_BadRoad) (.ref C_BadPair) = some false
  m_BadRoad_BadPair : isx K (.ref C_BadRoad) C_BadPair = some false
  x_BadPair : XcAt K mg "BadPair" C_BadPair C_RoadError none
  g_BadPair : XgAt K C_BadPair
  qv_BadPair : PySem.W.kitOne K (.ref C_BadPair) (.type "ValueError") = some true
  q_BadPair_RoadError : PySem.W.kitOne K (.ref C_BadPair) (.ref C_RoadError) = some true
  m_BadPair_RoadError : isx K (.ref C_BadPair) C_RoadError = some true
  q_BadPair_BadRoad : PySem.W.kitOne K (.ref C_BadPair) (.ref C_BadRoad) = some false
  m_BadPair_BadRoad : isx K (.ref C_BadPair) C_BadRoad = some false
  q_BadPair_BadPair : PySem.W.kitOne K (.ref C_BadPair) (.ref C_BadPair) = some true
  m_BadPair_BadPair : isx K (.ref C_BadPair) C_BadPair = some true
  d_is_from : DefAt K mg "is_from" s_is_from
  d_BadRoad___init__ : MethAt K C_BadRoad "__init__" "BadRoad.__init__" s_BadRoad___init__
  d_copied : DefAt K mg "copied" s_copied
  d_deed_at : DefAt K mg "deed_at" s_deed_at
  d_is_copy : DefAt K mg "is_copy" s_is_copy
  d_is_deed : DefAt K mg "is_deed" s_is_deed
  d_check_road : DefAt K mg "check_road" s_check_road
  d_Road___init__ : MethAt K C_Road "__init__" "Road.__init__" s_Road___init__
  d_Road_send : MethAt K C_Road "send" "Road.send" s_Road_send
  d_Road_come : MethAt K C_Road "come" "Road.come" s_Road_come
  d_Road_under_way : MethAt K C_Road "under_way" "Road.under_way" s_Road_under_way
  d__law_whole : DefAt K mg "_law_whole" s__law_whole
  d__law_cell_at : DefAt K mg "_law_cell_at" s__law_cell_at
  d__law_mixed : DefAt K mg "_law_mixed" s__law_mixed
  d__law_copy : DefAt K mg "_law_copy" s__law_copy
  d__law_deed : DefAt K mg "_law_deed" s__law_deed
  d__law_bad_copy : DefAt K mg "_law_bad_copy" s__law_bad_copy
  d__law_bad_deed : DefAt K mg "_law_bad_deed" s__law_bad_deed
  d__law_bad_lag : DefAt K mg "_law_bad_lag" s__law_bad_lag
  d__law_refused : DefAt K mg "_law_refused" s__law_refused
  d__law_goes : DefAt K mg "_law_goes" s__law_goes
  d_law : DefAt K mg "law" s_law
  b_ValueError : mg "ValueError" = none
  b_all : mg "all" = none
  b_bool : mg "bool" = none
  b_enumerate : mg "enumerate" = none
  b_int : mg "int" = none
  b_isinstance : mg "isinstance" = none
  b_len : mg "len" = none
  b_list : mg "list" = none
  b_range : mg "range" = none
  b_sorted : mg "sorted" = none
  b_tuple : mg "tuple" = none
  c_LAG_MOST : CstAt mg "LAG_MOST" (.int 60)
  c_DEEDS_MOST : CstAt mg "DEEDS_MOST" (.int 60)
  c_COPIES_MOST : CstAt mg "COPIES_MOST" (.int 3)
  c_PLACE_MOST : CstAt mg "PLACE_MOST" (.int 66)
  c_RUN_MOST : CstAt mg "RUN_MOST" (.int 255)
noncomputable def sp_is_from  : Sp := fun vs H Q E => match vs with
  | [.int v, .int l, .int h] => Q (.bl (fromB v l h)) H
  | _ => False
noncomputable def sp_BadRoad___init__  (C_BadRoad : Addr) : Sp := fun vs H Q E => match vs with
  | [.ref e, v] => H e = some (.ext (exN e C_BadRoad none)) ∧ ∀ d, H d = none → Q .non (upd (upd H d (.xd [("at", v)])) e (.ext (exN e C_BadRoad (some d))))
  | _ => False
noncomputable def CopyT (H : Hp) (c : Addr) (d p r : Int) : Prop := H c = some (.tup [.int d, .int p, .int r])
noncomputable def copyB (d p r lag : Int) : Bool := fromB d 1 lag && fromB p 0 66 && fromB r 0 255
noncomputable def sp_is_copy  : Sp := fun vs H Q E => match vs with
  | [.ref c, .int lag] => ∃ d p r, CopyT H c d p r ∧ Q (.bl (copyB d p r lag)) H
  | _ => False
noncomputable abbrev Cp := Int × Int × Int
noncomputable def DeedT (H : Hp) (x : Addr) (ds : List Cp) : Prop := ∃ cs : List Addr, H x = some (.lst (cs.map V.ref)) ∧ Paired (fun c (d : Cp) => CopyT H c d.1 d.2.1 d.2.2) cs ds ∧ ds.length ≤ 1000
noncomputable def deedB (lag : Int) (ds : List Cp) : Bool := decide (ds.length ≤ 3) && ds.all fun d => copyB d.1 d.2.1 d.2.2 lag
noncomputable def RowT (H : Hp) (x : Addr) (dss : List (List Cp)) : Prop := ∃ xs : List Addr, H x = some (.lst (xs.map V.ref)) ∧ Paired (DeedT H) xs dss ∧ dss.length ≤ 1000
noncomputable def sp_is_deed  : Sp := fun vs H Q E => match vs with
  | [.ref x, .int lag] => ∃ ds, DeedT H x ds ∧ ∀ H', Same H H' → Q (.bl (deedB lag ds)) H'
  | _ => False
noncomputable def sp_check_road  (C_BadRoad : Addr) : Sp := fun vs H Q E => match vs with
  | [.ref x, .int lag] => ∃ dss, RowT H x dss ∧ (fromB lag 1 60 = true → dss.length ≤ 60 → (∀ ds ∈ dss, deedB lag ds = true) → ∀ H', Same H H' → Q .non H') ∧ ((fromB lag 1 60 = false ∨ 60 < dss.length) → ∀ H' d, Same H H' → H' d = some (.xd [("at", .non)]) → E (.ref C_BadRoad) (some d) H') ∧ (fromB lag 1 60 = true → dss.length ≤ 60 → ∀ (i : Nat) ds, dss[i]? = some ds → deedB lag ds = false → (∀ j < i, ∀ ds, dss[j]? = some ds → deedB lag ds = true) → ∀ H' d, Same H H' → H' d = some (.xd [("at", .int i)]) → E (.ref C_BadRoad) (some d) H')
  | _ => False
theorem paired_len {α β : Type} {R : α → β → Prop} {xs : List α} {ys : List β} (p : Paired R xs ys) : xs.length = ys.length := by
  induction p with
  | nil => rfl
  | cons _ _ ih => simp [ih]
theorem paired_get {α β : Type} {R : α → β → Prop} {xs : List α} {ys : List β} (p : Paired R xs ys) {i : Nat} {x : α} (h : xs[i]? = some x) : ∃ y, ys[i]? = some y ∧ R x y := by
  induction p generalizing i with
  | nil => simp at h
  | cons r _ ih =>
    cases i with
    | zero => simp at h; subst h; exact ⟨_, rfl, r⟩
    | succ i => simpa using ih (by simpa using h)
theorem paired_imp {α β : Type} {R R' : α → β → Prop} {xs : List α} {ys : List β} (p : Paired R xs ys) (h : ∀ x y, R x y → R' x y) : Paired R' xs ys := by
  induction p with
  | nil => exact .nil
  | cons r _ ih => exact .cons (h _ _ r) ih
theorem DeedT.same {H H' : Hp} {x : Addr} {ds : List Cp} (h : DeedT H x ds) (s : Same H H') : DeedT H' x ds := by
  obtain ⟨cs, h1, h2, h3⟩ := h
  exact ⟨cs, s _ _ h1, paired_imp h2 fun c d q => s _ _ q, h3⟩
theorem RowT.same {H H' : Hp} {x : Addr} {dss : List (List Cp)} (h : RowT H x dss) (s : Same H H') : RowT H' x dss := by
  obtain ⟨xs, h1, h2, h3⟩ := h
  exact ⟨xs, s _ _ h1, paired_imp h2 fun c d q => q.same s, h3⟩
noncomputable def RowN (H0 H : Hp) (p : Addr) (dss : List (List Cp)) : Prop := H0 p = none ∧ ∃ xs : List Addr, H p = some (.lst (xs.map V.ref)) ∧ Paired (fun x ds => H0 x = none ∧ DeedT H x ds) xs dss ∧ dss.length ≤ 1000
noncomputable def sp_copied  : Sp := fun vs H Q E => match vs with
  | [.ref x] => ∃ dss, RowT H x dss ∧ ∀ p H', Same H H' → RowN H H' p dss → Q (.ref p) H'
  | _ => False
noncomputable def sp_deed_at  : Sp := fun vs H Q E => match vs with
  | [.ref x, .int n] => ∃ dss, RowT H x dss ∧ ∀ p H', Same H H' → H p = none → DeedT H' p (if dss.length = 0 then [(1, 0, 0)] else dss.getD (n % dss.length).toNat []) → Q (.ref p) H'
  | _ => False
/-- a copy under way: when it comes, its sending, its order, what it bears -/
noncomputable abbrev Cm := Int × Int × Int × Int
noncomputable def CmT (H : Hp) (c : Addr) (m : Cm) : Prop := H c = some (.tup [.int m.1, .int m.2.1, .int m.2.2.1, .int m.2.2.2])
theorem paired_snoc {α β : Type} {R : α → β → Prop} {xs : List α} {ys : List β} {x : α} {y : β} (p : Paired R xs ys) (r : R x y) : Paired R (xs ++ [x]) (ys ++ [y]) := by
  induction p with
  | nil => exact .cons r .nil
  | cons q _ ih => exact .cons q ih
noncomputable def RowX (H : Hp) (pd pc : Addr) (dss : List (List Cp)) : Prop := ∃ xs : List Addr, H pd = some (.lst (xs.map V.ref)) ∧ Paired (fun x ds => x ≠ pc ∧ DeedT H x ds) xs dss ∧ dss.length ≤ 1000
/-- the Road at r: its rows at pd, its sendings, what comes at pc -/
structure RoadAt (C_Road : Addr) (H : Hp) (r : Addr) (dx pd pc : Addr) (dss : List (List Cp)) (sn : Int) (ms : List Cm) : Prop where
  hr : H r = some (.ins C_Road dx (fl_Road (.ref pd) (.int sn) (.ref pc)))
  hd : RowX H pd pc dss
  hc : ∃ cs : List Addr, H pc = some (.lst (cs.map V.ref)) ∧ Paired (CmT H) cs ms
  ne : pd ≠ pc
noncomputable def sp_Road___init__  (C_Road : Addr) (C_BadRoad : Addr) : Sp := fun vs H Q E => match vs with
  | [.ref r, .ref x, .int lag] => ∃ dss dx, RowT H x dss ∧ H r = some (.ins C_Road dx []) ∧ (fromB lag 1 60 = true → dss.length ≤ 60 → (∀ ds ∈ dss, deedB lag ds = true) → ∀ H' pd pc, But r H H' → RowN H H' pd dss → H pc = none → RoadAt C_Road H' r dx pd pc dss 0 [] → Q .non H') ∧ ((fromB lag 1 60 = false ∨ 60 < dss.length) → ∀ H' d, Same H H' → H' d = some (.xd [("at", .non)]) → E (.ref C_BadRoad) (some d) H') ∧ (fromB lag 1 60 = true → dss.length ≤ 60 → ∀ (i : Nat) ds, dss[i]? = some ds → deedB lag ds = false → (∀ j < i, ∀ ds, dss[j]? = some ds → deedB lag ds = true) → ∀ H' d, Same H H' → H' d = some (.xd [("at", .int i)]) → E (.ref C_BadRoad) (some d) H')
  | _ => False
noncomputable def sp_Road_under_way  (C_Road : Addr) : Sp := fun vs H Q E => match vs with
  | [.ref r] => ∃ dx pd pc dss sn ms, RoadAt C_Road H r dx pd pc dss sn ms ∧ Q (.int (ms.length : Nat)) H
  | _ => False
noncomputable def deedOf (dss : List (List Cp)) (n : Int) : List Cp := if dss.length = 0 then [(1, 0, 0)] else dss.getD (n % dss.length).toNat []
noncomputable def oneM (turn sn frame : Int) (i : Nat) (d : Cp) : Cm := (turn + d.1, sn, (i : Int), Builtin.bitXor frame (d.2.2 * 2 ^ d.2.1.toNat))
noncomputable def newM (turn sn frame : Int) (ds : List Cp) : List Cm := ds.mapIdx (oneM turn sn frame)
noncomputable def FrR (r pc : Addr) (H H' : Hp) : Prop := ∀ b o, H b = some o → b ≠ r → b ≠ pc → H' b = some o
noncomputable def sp_Road_send  (C_Road : Addr) : Sp := fun vs H Q E => match vs with
  | [.ref r, .int turn, .int frame] => ∃ dx pd pc dss sn ms, RoadAt C_Road H r dx pd pc dss sn ms ∧ (∀ d ∈ deedOf dss sn, copyB d.1 d.2.1 d.2.2 60 = true) ∧ (deedOf dss sn).length ≤ 3 ∧ ms.length ≤ 900 ∧ ∀ H', FrR r pc H H' → RoadAt C_Road H' r dx pd pc dss (sn + 1) (ms ++ newM turn sn frame (deedOf dss sn)) → Q (.int sn) H'
  | _ => False
/-- two numbers in a row; a list of such rows -/
noncomputable def PrT (H : Hp) (c : Addr) (m : Int × Int) : Prop := H c = some (.tup [.int m.1, .int m.2])
noncomputable def PrsT (H : Hp) (p : Addr) (ms : List (Int × Int)) : Prop := ∃ cs : List Addr, H p = some (.lst (cs.map V.ref)) ∧ Paired (PrT H) cs ms
noncomputable def dueM (turn : Int) (ms : List Cm) : List Cm := ms.filter fun m => decide (m.1 ≤ turn)
noncomputable def restM (turn : Int) (ms : List Cm) : List Cm := ms.filter fun m => decide (turn < m.1)
noncomputable def outP (ms : List Cm) : List (Int × Int) := ms.map fun m => (m.2.1, m.2.2.2)
noncomputable def AscM (ms : List Cm) : Prop := ∀ (i : Nat) a b, ms[i]? = some a → ms[i + 1]? = some b → lt4 b a = false
noncomputable def OutM (ms ms' : List Cm) : Prop := ms'.Perm ms ∧ (AscM ms → ms' = ms)
noncomputable def sp_Road_come  (C_Road : Addr) : Sp := fun vs H Q E => match vs with
  | [.ref r, .int turn] => ∃ dx pd pc dss sn ms, RoadAt C_Road H r dx pd pc dss sn ms ∧ ms.length ≤ 1000 ∧ (dueM turn ms).length < 64 ∧ ∀ H' pc' p ms', But r H H' → H pc' = none → RoadAt C_Road H' r dx pd pc' dss sn (restM turn ms) → OutM (dueM turn ms) ms' → H p = none → PrsT H' p (outP ms') → Q (.ref p) H'
  | _ => False
noncomputable def sp__law_cell_at  (K : PySem.W.Frag) (a₀ : Addr) (ns : List Int) : Sp := fun vs H Q E => match vs with
  | [.ref a, .int k] => a = a₀ ∧ SqL K H a₀ (ns.map V.int) ∧ 0 ≤ k ∧ ∀ n, Q (.int n) H
  | _ => False
noncomputable def sp__law_mixed  : Sp := fun vs H Q E => match vs with
  | [.int c, .int k] => 0 ≤ k ∧ ∀ v, 0 ≤ v → v < 2147483648 → Q (.int v) H
  | _ => False
noncomputable def sp__law_whole  : Sp := fun vs H Q E => match vs with
  | [.int i] => Q (.bl true) H
  | _ => False
noncomputable def sp__law_copy  : Sp := fun vs H Q E => match vs with
  | [.int n, .int lag] => (0 ≤ n ∧ 1 ≤ lag ∧ lag ≤ 60) ∧ ∀ p d pl rn H', Same H H' → H p = none → CopyT H' p d pl rn → copyB d pl rn lag = true → Q (.ref p) H'
  | _ => False
noncomputable def sp__law_deed  : Sp := fun vs H Q E => match vs with
  | [.int c, .int k, .int lag] => (0 ≤ k ∧ 1 ≤ lag ∧ lag ≤ 60) ∧ ∀ p ds H', Same H H' → H p = none → DeedT H' p ds → deedB lag ds = true → 1 ≤ ds.length → Q (.ref p) H'
  | _ => False
noncomputable def sp__law_bad_copy  : Sp := fun vs H Q E => match vs with
  | [.int c, .int lag] => (1 ≤ lag ∧ lag ≤ 60) ∧ ∀ p d pl rn H', Same H H' → CopyT H' p d pl rn → copyB d pl rn lag = false → Q (.ref p) H'
  | _ => False
noncomputable def sp__law_bad_deed  : Sp := fun vs H Q E => match vs with
  | [.int c, .ref x, .int lag] => ∃ ds, DeedT H x ds ∧ (1 ≤ ds.length ∧ ds.length ≤ 3) ∧ (1 ≤ lag ∧ lag ≤ 60) ∧ ∀ p ds' H', Same H H' → H p = none → DeedT H' p ds' → deedB lag ds' = false → Q (.ref p) H'
  | _ => False
noncomputable def sp__law_bad_lag  : Sp := fun vs H Q E => match vs with
  | [.int c] => ∀ v H', Same H H' → fromB v 1 60 = false → Q (.int v) H'
  | _ => False
noncomputable def BadAt (dss : List (List Cp)) (lag : Int) (v : V) : Prop := (v = .non ∧ (fromB lag 1 60 = false ∨ 60 < dss.length)) ∨ ∃ (i : Nat) (ds : List Cp), v = .int i ∧ fromB lag 1 60 = true ∧ dss.length ≤ 60 ∧ dss[i]? = some ds ∧ deedB lag ds = false ∧ ∀ j < i, ∀ ds, dss[j]? = some ds → deedB lag ds = true
noncomputable def sp__law_refused  : Sp := fun vs H Q E => match vs with
  | [.ref x, .int lag, v] => ∃ dss, RowT H x dss ∧ BadAt dss lag v ∧ ∀ H', Same H H' → Q (.bl true) H'
  | _ => False
noncomputable def sp__law_goes  : Sp := fun vs H Q E => match vs with
  | [.ref x, .int lag] => ∃ dss d0 dr, RowT H x dss ∧ fromB lag 1 60 = true ∧ dss.length ≤ 60 ∧ (∀ ds ∈ dss, deedB lag ds = true) ∧ dss[0]? = some (d0 :: dr) ∧ ∀ H', Same H H' → Q (.bl true) H'
  | _ => False
set_option compiler.extract_closed false in
local macro_rules | `(tactic| exists $es,*) => `(tactic| simp only [tRet, tRetN, tOp, tUn, tVar, tC, tAsg, gName, tSeq, tNext, tBreak, tCont, tIfS, tTest, tB, tNot, tAnd, tOr, tCall, tCons, tNil, tCB, tChain, tAndV, tOrV, tNotV, tIf, tDrop, tSl, tNoPart, tPart, rI0_int, rI_int, rU_int, ex_bl, ex_sv, rEq_int, rNe_int, rEq_str, rNe_str, rEq_bl, rNe_bl, rAddA_int, rAddA_str, rLenA_ref, rLenA_str, rIsi_ii, rIsi_ib, rIsi_is, rIsi_bi, rIsi_bb, rIsi_ss, rIsi_si, rMinA_int, rMaxA_int, rEqA_int, rNeA_int, rEqA_str, rNeA_str, rEqA_bl, rNeA_bl, rIsB_bl, rIsnotB_bl, rIsN_f, rIsN_t, tBM0, tBM, tyV_int, tyV_str, rBitlen_int, rSlA_str, rInA_str, rInA_ref, tFor_seq, tFor_rng1, tFor_rng2, tFor_rng3, tComp_seq, tComp_rng1, tComp_rng2, tComp_rng3, rngR1_int, rngR2_int, rngR3_int, compSt_one, rAll_ref, rAny_ref, rSum_ref, rListA_ref, rTupleA_ref, rDivmodA_int, rAppendA_ref, rSetA_ref, tTup, tLst, tCs, tTC, gTup_ref, gCons_cons, gNil_nil, gSub, tYes, tDrop, small_line, small_lt, Option.join_some, CDiv, CPowA, CMul, cxOf_K, ex_int,
  L2.start, List.map_cons, List.map_nil, List.length_cons, List.length_nil, List.replicate_zero, List.replicate_succ, List.append_nil, List.nil_append, List.cons_append, List.getElem?_cons_zero, List.getElem?_cons_succ, List.set_cons_zero, List.set_cons_succ, decide_eq_true_eq, Bool.not_eq_true', decide_eq_false_iff_not, if_true, if_false, ite_true, ite_false, Bool.false_eq_true, true_and, and_true, Bool.not_true, Bool.not_false, Int.reduceLT, Int.reduceLE, Int.reducePow, Int.reduceToNat, Int.reduceAdd, Int.reduceSub, Int.reduceMul, Int.reduceNeg, Nat.reducePow, Nat.reduceLT, Nat.reduceLeDiff, true_or, or_true, Int.reduceEq, and_self, Nat.reduceAdd, Nat.reduceSub, Int.neg_neg, reduceCtorEq, not_true_eq_false, not_false_eq_true,
  sp_is_from, sp_BadRoad___init__, sp_is_copy, sp_is_deed, sp_check_road, sp_copied, sp_deed_at, sp_Road___init__, sp_Road_under_way, sp_Road_send, sp_Road_come, sp__law_cell_at, sp__law_mixed, sp__law_whole, sp__law_copy, sp__law_deed, sp__law_bad_copy, sp__law_bad_deed, sp__law_bad_lag, sp__law_refused, sp__law_goes, tFldC, sFldC, sAugC, tMtC, tMake, rFld_ref, rSetF_ref, rAugF_ref, rMt_ref, ex_ins, upd_same, upd_upd, L2.ex_som, fl_Road_1_len, fl_Road_1_new, fl_Road_2_len, fl_Road_2_new, fl_Road_len, fl_Road_new, fl_Road_get_deeds, fl_Road_get_sendings, fl_Road_get_coming, fl_Road_put_sendings, fl_Road_put_coming, fl_Road_no_send, fl_Road_no_come, fl_Road_no_under_way, tFor_enum, rSorted4_ref, rInX_ref, tTry, tHc, tH0, hx2_t, hx2_f, tCallS, tMakeS, tMtS, Ends.un, tRaise0, tRaiseI, sFldX, tFldX, rFldX_ref, ex_exf, ex_exc, ex_xd, ex_xd1, rEqX_int, rNeX_int, rEqX_str, rNeX_str, rEqX_bl, rNeX_bl, isbO_some, xdOk_n, xdOk_s, rIsiX_ref, rIsiX_ty, gTupX_ref, gOx_tup, gOx_lst, $[$es:term],*])
local macro_rules | `(tactic| walk_at "wps") => `(tactic| exists true_and)
section
variable {C_Road C_RoadError C_BadRoad C_BadPair : Addr} {P : Program} {w : World} {K : PySem.W.Frag} {mg : Str → Option Value} {base : Heap}
--SPLIT
theorem ok_is_from (T : Txt K mg C_Road C_RoadError C_BadRoad C_BadPair)  : FnAt P w K mg base (CX1 P w) "is_from" 1 ["value", "low", "high"] sp_is_from := by
  refine T.d_is_from.fn sc_is_from bd_is_from (fun vs H Q E h => ?_) fun f cdv A outer s H vs Q E HR h => ?_
  · unfold sp_is_from at h; split at h <;> first | rfl | exact h.elim
  · unfold sp_is_from at h
    split at h
    · rename_i v l h'
      refine ⟨_, (pss_one (ps_ret (pe_and (pe_callBQ (call_isiK K rfl) (by rfl) T.b_isinstance bt_isinstance (pa_q (pv 0) (pa_q (pe_ty rfl T.b_int bt_int) pa_nil))) (pe_and (pe_not (pe_callBQ (call_isiK K rfl) (by rfl) T.b_isinstance bt_isinstance (pa_q (pv 0) (pa_q (pe_ty rfl T.b_bool bt_bool) pa_nil)))) (pe_one (pe_chain op_le op_le (pv 1) (pv 0) (pv 2))))))), ?_⟩
      walk_at "wps"
      unfold fromB at h
      by_cases c : l ≤ v
      · rw [if_pos c]
        simpa only [c, decide_true, Bool.true_and] using h
      · rw [if_neg c]
        simpa only [c, decide_false, Bool.false_and] using h
    · exact h.elim
theorem ok_BadRoad___init__ (T : Txt K mg C_Road C_RoadError C_BadRoad C_BadPair)  : MtAt P w K mg base (CX1 P w) C_BadRoad "__init__" 1 ["self", "at"] (sp_BadRoad___init__ C_BadRoad) := by
  refine T.d_BadRoad___init__.fn sc_BadRoad___init__ bd_BadRoad___init__ (fun vs H Q E h => ?_) fun f cdv A outer s H vs Q E HR h => ?_
  · unfold sp_BadRoad___init__ at h; split at h <;> first | rfl | exact h.elim
  · unfold sp_BadRoad___init__ at h
    split at h
    · rename_i e l
      refine ⟨_, (pss_one (ps_fldXQ T.x_BadRoad T.xf_BadRoad_at (pv 0) (pv 1))), ?_⟩
      obtain ⟨he, q⟩ := h
      exists he
      exact ⟨e, rfl, he, q⟩
    · exact h.elim
theorem ok_is_copy (T : Txt K mg C_Road C_RoadError C_BadRoad C_BadPair)  : FnAt P w K mg base (CX1 P w) "is_copy" 2 ["copy", "lag"] sp_is_copy := by
  refine T.d_is_copy.fn sc_is_copy bd_is_copy (fun vs H Q E h => ?_) fun f cdv A outer s H vs Q E HR h => ?_
  · unfold sp_is_copy at h; split at h <;> first | rfl | exact h.elim
  · unfold sp_is_copy at h
    split at h
    · rename_i c lag
      refine ⟨_, (pss_one (ps_ret (pe_and (pe_callBQ (call_isiK K rfl) (by rfl) T.b_isinstance bt_isinstance (pa_q (pv 0) (pa_q (pe_ty rfl T.b_tuple bt_tuple) pa_nil))) (pe_and (pe_cmpR (op_eqXK K rfl HR.units) (pe_callBQ (call_lenK K rfl) (by rfl) T.b_len bt_len (pa_q (pv 0) pa_nil)) pe_int (nomark _)) (pe_and (pe_fnQ (ok_is_from T) HR (by decide) rfl (pa_q (pe_ix (ix_K K rfl) (pv 0) pe_int (fun _ _ => rfl)) (pa_q pe_int (pa_q (pv 1) pa_nil)))) (pe_and (pe_fnQ (ok_is_from T) HR (by decide) rfl (pa_q (pe_ix (ix_K K rfl) (pv 0) pe_int (fun _ _ => rfl)) (pa_q pe_int (pa_q (pe_cst rfl T.c_PLACE_MOST) pa_nil)))) (pe_one (pe_fnQ (ok_is_from T) HR (by decide) rfl (pa_q (pe_ix (ix_K K rfl) (pv 0) pe_int (fun _ _ => rfl)) (pa_q pe_int (pa_q (pe_cst rfl T.c_RUN_MOST) pa_nil))))))))))), ?_⟩
      obtain ⟨d, p, r, hc, q⟩ := h
      exists hc
      refine isi_tup hc ⟨true, rfl, ?_⟩
      rw [if_pos rfl]
      refine ⟨_, .inr (SqT.of hc), ?_⟩
      rw [if_pos (by simp)]
      refine ixA_tup (SqT.of hc) rfl ?_
      unfold copyB at q
      walk_at "wps"
      by_cases c1 : fromB d 1 lag = true
      rotate_left
      · rw [if_neg c1]
        rw [Bool.not_eq_true] at c1
        rw [c1, Bool.false_and, Bool.false_and] at q
        exact q
      rw [if_pos c1]
      rw [c1, Bool.true_and] at q
      refine ixA_tup (SqT.of hc) rfl ?_
      walk_at "wps"
      by_cases c2 : fromB p 0 66 = true
      rotate_left
      · rw [if_neg c2]
        rw [Bool.not_eq_true] at c2
        rw [c2, Bool.false_and] at q
        exact q
      rw [if_pos c2]
      rw [c2, Bool.true_and] at q
      exact ixA_tup (SqT.of hc) rfl q
    · exact h.elim
noncomputable def cpV (H : Hp) (lag : Int) (v : V) : V := match v with
  | .ref c => match H c with
    | some (.tup [.int d, .int p, .int r]) => .bl (copyB d p r lag)
    | _ => .non
  | _ => .non
theorem cpV_at {H : Hp} {lag : Int} {c : Addr} {d p r : Int} (h : CopyT H c d p r) : cpV H lag (.ref c) = .bl (copyB d p r lag) := by
  have h' : H c = some (.tup [.int d, .int p, .int r]) := h
  simp only [cpV, h']
theorem cpV_all {H : Hp} {lag : Int} {cs : List Addr} {ds : List Cp} (h : Paired (fun c (d : Cp) => CopyT H c d.1 d.2.1 d.2.2) cs ds) : (cs.map V.ref).map (cpV H lag) = (ds.map fun d => copyB d.1 d.2.1 d.2.2 lag).map V.bl := by
  induction h with
  | nil => rfl
  | cons r _ ih =>
    rw [List.map_cons, List.map_cons, List.map_cons, List.map_cons, ih]
    have e := cpV_at (lag := lag) r
    rw [e]
theorem ok_is_deed (T : Txt K mg C_Road C_RoadError C_BadRoad C_BadPair)  : FnAt P w K mg base (CX1 P w) "is_deed" 3 ["deed", "lag"] sp_is_deed := by
  refine T.d_is_deed.fn sc_is_deed bd_is_deed (fun vs H Q E h => ?_) fun f cdv A outer s H vs Q E HR h => ?_
  · unfold sp_is_deed at h; split at h <;> first | rfl | exact h.elim
  · unfold sp_is_deed at h
    split at h
    · rename_i x lag
      refine ⟨_, (pss_one (ps_ret (pe_and (pe_cmpR op_le (pe_callBQ (call_lenK K rfl) (by rfl) T.b_len bt_len (pa_q (pv 0) pa_nil)) (pe_cst rfl T.c_COPIES_MOST) (nomark _)) (pe_one (pe_callBQ (call_allK K rfl rfl) (by rfl) T.b_all bt_all (pa_q (pe_comp (N := (["copy", "lag"] : List Str)) (nv := 1) (ix := [1]) rfl (cs_of (by kernel_rfl)) (pi_seqK K rfl (pv 0)) (fun _ _ _ _ _ => (pg_name (i := 0) (show ((["copy", "lag"] : List Str)).Nodup by decide) rfl (Or.inl rfl))) (fun _ _ _ _ _ => pts_nil) (fun _ _ _ _ _ => (pe_fnQ (ok_is_copy T) HR (by decide) rfl (pa_q (pv 0) (pa_q (pv 1) pa_nil))))) pa_nil)))))), ?_⟩
      obtain ⟨ds, ⟨cs, h1, h2, h3⟩, q⟩ := h
      have ln := paired_len h2
      walk_at "wps"
      refine ⟨_, .inl (SqL.of h1), ?_⟩
      rw [List.length_map, ln]
      unfold deedB at q
      by_cases c : ds.length ≤ 3
      rotate_left
      · rw [if_neg (by omega)]
        rw [decide_eq_false c, Bool.false_and] at q
        exact q _ (Same.refl _)
      rw [if_pos (by omega)]
      rw [decide_eq_true c, Bool.true_and] at q
      refine co_list (p := fun _ => true) (f := cpV H lag) (SqL.of h1) (small_ok (by rw [List.length_map, ln]; exact h3)) (fun x _ Q h => h) (fun y hy _ Q h => ?_) ?_
      · obtain ⟨cc, hcc, rfl⟩ := List.mem_map.mp hy
        obtain ⟨i, hi⟩ := List.getElem?_of_mem hcc
        obtain ⟨d, _, hd⟩ := paired_get h2 hi
        rw [cpV_at hd] at h
        walk_at "wps"
        exact ⟨_, _, _, hd, h⟩
      rw [List.filter_eq_self.mpr (by simp), cpV_all h2]
      refine ⟨small_ok (by rw [List.length_map, List.length_map]; exact h3), fun l hl => ⟨_, SqL.of upd_same, ?_⟩⟩
      have e : (ds.map fun d => copyB d.1 d.2.1 d.2.2 lag).all id = ds.all fun d => copyB d.1 d.2.1 d.2.2 lag := by rw [List.all_map]; rfl
      rw [e]
      exact q _ (same_upd hl)
    · exact h.elim
theorem ok_check_road (T : Txt K mg C_Road C_RoadError C_BadRoad C_BadPair)  : FnAt P w K mg base (CX1 P w) "check_road" 4 ["deeds", "lag"] (sp_check_road C_BadRoad) := by
  refine T.d_check_road.fnX sc_check_road bd_check_road (fun vs H Q E h => ?_) fun f cdv A outer s H vs Q E HR h => ?_
  · unfold sp_check_road at h; split at h <;> first | rfl | exact h.elim
  · unfold sp_check_road at h
    split at h
    · rename_i x lag
      refine ⟨_, (pss_cons (ps_if (PT.nox (PW.pt (pw_or (pt_not (pt_q (pe_fnQ (ok_is_from T) HR (by decide) rfl (pa_q (pv 1) (pa_q pe_int (pa_q (pe_cst rfl T.c_LAG_MOST) pa_nil)))))) (pw_or1 (pt_cmpR op_gt (pe_callBQ (call_lenK K rfl) (by rfl) T.b_len bt_len (pa_q (pv 0) pa_nil)) (pe_cst rfl T.c_DEEDS_MOST) (nomark _)))))) (pss_one (ps_raiseIQ T.x_BadRoad (ok_BadRoad___init__ T) T.kp_BadRoad HR (by decide) rz_fn rfl rfl rfl (pa_q pe_non pa_nil))) pss_nil)
  (pss_one (PS.fly rz_fn rzM_fn (ps_for (passes_fly rfl rfl) rfl (pj_enum rfl T.b_enumerate (pa_q (pv 0) pa_nil)) (pg_tupX K (n := 2) rfl rfl (pgs_q (pg_name (i := 2) sc_check_road.nd rfl (Or.inl rfl)) (pgs_q (pg_name (i := 3) sc_check_road.nd rfl (Or.inl rfl)) pgs_nil))) (pss_one (ps_if (PT.nox (pt_not (pt_q (pe_fnQ (ok_is_deed T) HR (by decide) rfl (pa_q (pv 3) (pa_q (pv 1) pa_nil)))))) (pss_one (ps_raiseIQ T.x_BadRoad (ok_BadRoad___init__ T) T.kp_BadRoad HR (by decide) rz_fly rfl rfl rfl (pa_q (pv 2) pa_nil))) pss_nil)))))), ?_⟩
      obtain ⟨dss, hR, q1, q2, q3⟩ := h
      have hR' := hR
      obtain ⟨xs, h1, h2, h3⟩ := hR'
      have ln := paired_len h2
      walk_at "wps"
      by_cases c1 : fromB lag 1 60 = false
      · rw [if_pos c1]
        intro e he d hd
        obtain ⟨s1, s2⟩ := dropx (C := C_BadRoad) (f := "at") (v := .non) (Same.refl H) he hd
        exact ⟨_, rfl, q2 (.inl c1) _ d s1 s2⟩
      rw [if_neg c1]
      rw [Bool.not_eq_false] at c1
      refine ⟨_, .inl (SqL.of h1), ?_⟩
      rw [List.length_map, ln]
      by_cases c2 : 60 < dss.length
      · rw [if_pos (by omega)]
        intro e he d hd
        obtain ⟨s1, s2⟩ := dropx (C := C_BadRoad) (f := "at") (v := .non) (Same.refl H) he hd
        exact ⟨_, rfl, q2 (.inr c2) _ d s1 s2⟩
      rw [if_neg (by omega)]
      refine fo_enum h1 (fun i σ H' => Same H H' ∧ (∀ j < i, ∀ ds, dss[j]? = some ds → deedB lag ds = true) ∧ ∃ v2 v3, σ = [some (V.ref x), some (V.int lag), v2, v3]) ⟨Same.refl _, (fun j hj => absurd hj (by omega)), none, none, rfl⟩ (fun i σ H' _ h => h.1 _ _ h1) (fun i y pt σ H' hy h hpt => ?_) (fun σ H' h => ?_)
      · obtain ⟨sm, ok, v2, v3, rfl⟩ := h
        rw [List.getElem?_map] at hy
        obtain ⟨y, ey, rfl⟩ := Option.map_eq_some_iff.mp hy
        obtain ⟨ds, eds, hD⟩ := paired_get h2 ey
        exists upd_same
        refine ⟨ds, (hD.same sm).same (same_upd hpt), fun H2 s2 => ?_⟩
        have sm2 := (sm.trans (same_upd hpt)).trans s2
        by_cases c3 : deedB lag ds = false
        · rw [if_pos c3]
          intro e he d hd
          obtain ⟨s3, s4⟩ := dropx (C := C_BadRoad) (f := "at") (v := .int i) sm2 he hd
          exact ⟨_, rfl, q3 c1 (by omega) i ds eds c3 ok _ d s3 s4⟩
        rw [if_neg c3]
        rw [Bool.not_eq_false] at c3
        refine ⟨sm2, fun j hj ds' hds' => ?_, _, _, rfl⟩
        by_cases z : j = i
        · subst z
          rw [eds] at hds'
          cases hds'
          exact c3
        · exact ok j (by omega) ds' hds'
      · obtain ⟨sm, ok, v2, v3, rfl⟩ := h
        rw [List.length_map, ln] at ok
        refine q1 c1 (by omega) (fun ds hd => ?_) _ sm
        obtain ⟨i, hi⟩ := List.getElem?_of_mem hd
        exact ok i (List.getElem?_eq_some_iff.mp hi).1 ds hi
    · exact h.elim
theorem none_of {H H' : Hp} {l : Addr} (sm : Same H H') (nl : H' l = none) : H l = none := by
  cases e : H l with
  | none => rfl
  | some o => rw [sm _ _ e] at nl; cases nl
theorem ok_copied (T : Txt K mg C_Road C_RoadError C_BadRoad C_BadPair)  : FnAt P w K mg base (CX1 P w) "copied" 1 ["deeds"] sp_copied := by
  refine T.d_copied.fn sc_copied bd_copied (fun vs H Q E h => ?_) fun f cdv A outer s H vs Q E HR h => ?_
  · unfold sp_copied at h; split at h <;> first | rfl | exact h.elim
  · unfold sp_copied at h
    split at h
    · rename_i x
      refine ⟨_, (pss_one (ps_ret (pe_comp (N := (["deed"] : List Str)) (nv := 1) (ix := []) rfl (cs_of (by kernel_rfl)) (pi_seqK K rfl (pv 0)) (fun _ _ _ _ _ => (pg_name (i := 0) (show ((["deed"] : List Str)).Nodup by decide) rfl (Or.inl rfl))) (fun _ _ _ _ _ => pts_nil) (fun _ _ _ _ _ => (pe_callTyQ (call_listK K rfl) (by rfl) T.b_list bt_list (pa_q (pv 0) pa_nil)))))), ?_⟩
      obtain ⟨dss, ⟨xs, h1, h2, h3⟩, q⟩ := h
      have ln := paired_len h2
      walk_at "wps"
      refine co_listH (SqL.of h1) (small_ok (by rw [List.length_map, ln]; exact h3)) (fun i ys σ H' => Same H H' ∧ ∃ zs : List Addr, ys = zs.map V.ref ∧ Paired (fun x ds => H x = none ∧ DeedT H' x ds) zs (dss.take i) ∧ ∃ v, σ = [v]) ⟨Same.refl _, [], rfl, .nil, none, rfl⟩ (fun i ys σ H' hh => ?_) (fun i ys σ H' hh => SqL.of (hh.1 _ _ h1)) (fun i y ys σ H' hy hh => ?_) (fun ys σ H' hh => ?_)
      · obtain ⟨_, zs, e, p, _⟩ := hh
        rw [e, List.length_map, paired_len p]
        exact List.length_take_le _ _
      · obtain ⟨sm, zs, e, p, v, eσ⟩ := hh
        subst eσ e
        rw [List.getElem?_map] at hy
        obtain ⟨y, ey, rfl⟩ := Option.map_eq_some_iff.mp hy
        obtain ⟨ds, eds, hD⟩ := paired_get h2 ey
        obtain ⟨cs, d1, d2, d3⟩ := hD.same sm
        walk_at "wps"
        refine ⟨_, .inl (SqL.of d1), fun l nl => ⟨sm.trans (same_upd nl), zs ++ [l], by simp, ?_⟩⟩
        rw [List.take_add_one, eds]
        refine ⟨?_, _, rfl⟩
        exact paired_snoc (R := fun x ds => H x = none ∧ DeedT (upd H' l (.lst (cs.map V.ref))) x ds) (y := ds) (paired_imp p fun a b q => ⟨q.1, q.2.same (same_upd nl)⟩) ⟨none_of sm nl, cs, upd_same, paired_imp d2 (fun c d q => upd_old q nl), d3⟩
      · obtain ⟨sm, zs, e, p, v, eσ⟩ := hh
        subst eσ e
        rw [List.length_map, ln, List.take_length] at p
        exact ⟨small_ok (by rw [List.length_map, paired_len p]; exact h3), fun l nl => q l _ (sm.trans (same_upd nl)) ⟨none_of sm nl, zs, upd_same, paired_imp p fun a b r => ⟨r.1, r.2.same (same_upd nl)⟩, h3⟩⟩
    · exact h.elim
theorem ok_deed_at (T : Txt K mg C_Road C_RoadError C_BadRoad C_BadPair)  : FnAt P w K mg base (CX1 P w) "deed_at" 1 ["deeds", "sending"] sp_deed_at := by
  refine T.d_deed_at.fn sc_deed_at bd_deed_at (fun vs H Q E h => ?_) fun f cdv A outer s H vs Q E HR h => ?_
  · unfold sp_deed_at at h; split at h <;> first | rfl | exact h.elim
  · unfold sp_deed_at at h
    split at h
    · rename_i x n
      refine ⟨_, (pss_cons (ps_if (pt_cmpR (op_eqXK K rfl HR.units) (pe_callBQ (call_lenK K rfl) (by rfl) T.b_len bt_len (pa_q (pv 0) pa_nil)) pe_int (nomark _)) (pss_one (ps_ret (pe_lst (pa_q (pe_tup (pa_q pe_int (pa_q pe_int (pa_q pe_int pa_nil)))) pa_nil)))) pss_nil)
  (pss_one (ps_ret (pe_callTyQ (call_listK K rfl) (by rfl) T.b_list bt_list (pa_q (pe_ix (ix_K K rfl) (pv 0) (pe_op op_mod (pv 1) (pe_callBQ (call_lenK K rfl) (by rfl) T.b_len bt_len (pa_q (pv 0) pa_nil))) (fun _ _ => rfl)) pa_nil))))), ?_⟩
      obtain ⟨dss, ⟨xs, h1, h2, h3⟩, q⟩ := h
      have ln := paired_len h2
      walk_at "wps"
      refine ⟨_, .inl (SqL.of h1), ?_⟩
      rw [List.length_map, ln]
      by_cases c : dss.length = 0
      · rw [if_pos (by omega)]
        rw [if_pos c] at q
        intro p1 n1 p2 n2
        exact q p2 _ ((same_upd n1).trans (same_upd n2)) (fresh_old n2) ⟨[p1], upd_same, .cons (upd_old upd_same n2) .nil, by simp⟩
      rw [if_neg (by omega)]
      rw [if_neg c] at q
      refine ⟨_, .inl (SqL.of h1), ?_⟩
      rw [List.length_map, ln]
      refine ⟨by omega, ?_⟩
      have m0 := Int.emod_nonneg n (show ((dss.length : Nat) : Int) ≠ 0 by omega)
      have m1 := Int.emod_lt_of_pos n (show (0 : Int) < ((dss.length : Nat) : Int) by omega)
      obtain ⟨j, hj⟩ : ∃ j : Nat, n % (dss.length : Int) = (j : Int) := ⟨(n % (dss.length : Int)).toNat, by omega⟩
      rw [hj] at m1 ⊢
      rw [hj, Int.toNat_natCast] at q
      have hx : xs[j]? = some (xs[j]'(by omega)) := List.getElem?_eq_getElem (by omega)
      generalize xs[j]'(by omega) = y at hx
      obtain ⟨ds, eds, cs, d1, d2, d3⟩ := paired_get h2 hx
      rw [List.getD_eq_getElem?_getD, eds] at q
      refine ixA_list (SqL.of h1) (v := .ref y) (atI_n (by rw [List.getElem?_map, hx]; rfl)) ?_
      exact ⟨_, .inl (SqL.of d1), fun l nl => q l _ (same_upd nl) nl ⟨cs, upd_same, paired_imp d2 (fun c d r => upd_old r nl), d3⟩⟩
    · exact h.elim
theorem DeedT.but {C : Addr} {H H' : Hp} {r x dx : Addr} {fs : List (Str × V)} {ds : List Cp} (h : DeedT H x ds) (b : But r H H') (hr : H r = some (.ins C dx fs)) : DeedT H' x ds := by
  obtain ⟨cs, h1, h2, h3⟩ := h
  refine ⟨cs, b _ _ h1 (fun z => by rw [z, hr] at h1; cases h1), paired_imp h2 fun c d q => b _ _ q (fun z => ?_), h3⟩
  unfold CopyT at q
  rw [z, hr] at q
  cases q
theorem ok_Road___init__ (T : Txt K mg C_Road C_RoadError C_BadRoad C_BadPair)   : MtAt P w K mg base (CX1 P w) C_Road "__init__" 5 ["self", "deeds", "lag"] (sp_Road___init__ C_Road C_BadRoad) := by
  refine T.d_Road___init__.fnX sc_Road___init__ bd_Road___init__ (fun vs H Q E h => ?_) fun f cdv A outer s H vs Q E HR h => ?_
  · unfold sp_Road___init__ at h; split at h <;> first | rfl | exact h.elim
  · unfold sp_Road___init__ at h
    split at h
    · rename_i r x lag
      refine ⟨_, (pss_cons (ps_exprQ (pe_fnE (ok_check_road T) HR (by decide) rfl rz_fn rfl (pa_q (pv 1) (pa_q (pv 2) pa_nil))))
  (pss_cons (PS.nox (ps_fldC (pv 0) (pe_fnQ (ok_copied T) HR (by decide) rfl (pa_q (pv 1) pa_nil)) T.k_Road T.n_Road_deeds))
  (pss_cons (PS.nox (ps_fldC (pv 0) pe_int T.k_Road T.n_Road_sendings))
  (pss_one (PS.nox (ps_fldC (pv 0) (pe_lst pa_nil) T.k_Road T.n_Road_coming)))))), ?_⟩
      obtain ⟨dss, dx, hR, hr, q1, q2, q3⟩ := h
      walk_at "wps"
      refine ⟨dss, hR, fun g1 g2 g3 H1 s1 => ⟨dss, hR.same s1, fun pd H2 s2 hN => ?_⟩, q2, q3⟩
      have hr2 := s2 _ _ (s1 _ _ hr)
      have s12 := s1.trans s2
      refine ⟨dx, _, hr2, by decide, ?_, fun pc npc => ?_⟩
      · rw [fl_Road_1_new]; exact fl_Road_1_len
      rw [fl_Road_1_new, fl_Road_2_new] at npc
      rw [fl_Road_1_new, fl_Road_2_new]
      have rne : r ≠ pc := fun z => by rw [← z, upd_same] at npc; cases npc
      refine ⟨dx, _, by rw [upd_ne rne, upd_same], fl_Road_2_len, ?_⟩
      rw [fl_Road_new]
      obtain ⟨n0, xs, e1, e2, e3⟩ := hN
      have b2 : But r H2 (upd (upd (upd H2 r (.ins C_Road dx (fl_Road_2 (.ref pd) (.int 0)))) pc (.lst [])) r (.ins C_Road dx (fl_Road (.ref pd) (.int 0) (.ref pc)))) := ((But.upd).new npc).write
      have ec : upd (upd (upd H2 r (.ins C_Road dx (fl_Road_2 (.ref pd) (.int 0)))) pc (.lst [])) r (.ins C_Road dx (fl_Road (.ref pd) (.int 0) (.ref pc))) pc = some (.lst []) := by rw [upd_ne (Ne.symm rne), upd_same]
      have er := upd_same (H := upd (upd H2 r (.ins C_Road dx (fl_Road_2 (.ref pd) (.int 0)))) pc (.lst [])) (a := r) (o := .ins C_Road dx (fl_Road (.ref pd) (.int 0) (.ref pc)))
      generalize upd (upd (upd H2 r (.ins C_Road dx (fl_Road_2 (.ref pd) (.int 0)))) pc (.lst [])) r (.ins C_Road dx (fl_Road (.ref pd) (.int 0) (.ref pc))) = HF at *
      have nc2 := fresh_old npc
      have e1' := b2 _ _ e1 (fun z => by rw [z, hr2] at e1; cases e1)
      refine q1 g1 g2 g3 HF pd pc (fun b o e ne => b2 b o (s12 b o e) ne) ⟨none_of s1 n0, xs, e1', paired_imp e2 fun y ds q => ⟨none_of s1 q.1, q.2.but b2 hr2⟩, e3⟩ (none_of s12 nc2) ⟨er, ⟨xs, e1', paired_imp e2 fun y ds q => ⟨(fun z => by obtain ⟨_, u, _⟩ := q.2; rw [z, nc2] at u; cases u), q.2.but b2 hr2⟩, e3⟩, ⟨[], ec, .nil⟩, ?_⟩
      intro z
      rw [z, nc2] at e1
      cases e1
    · exact h.elim
theorem ok_Road_under_way (T : Txt K mg C_Road C_RoadError C_BadRoad C_BadPair)  : MtAt P w K mg base (CX1 P w) C_Road "under_way" 1 ["self"] (sp_Road_under_way C_Road) := by
  refine T.d_Road_under_way.fn sc_Road_under_way bd_Road_under_way (fun vs H Q E h => ?_) fun f cdv A outer s H vs Q E HR h => ?_
  · unfold sp_Road_under_way at h; split at h <;> first | rfl | exact h.elim
  · unfold sp_Road_under_way at h
    split at h
    · rename_i r
      refine ⟨_, (pss_one (ps_ret (pe_callBQ (call_lenK K rfl) (by rfl) T.b_len bt_len (pa_q (pe_fldC (pv 0) T.k_Road T.n_Road_coming rfl) pa_nil)))), ?_⟩
      obtain ⟨dx, pd, pc, dss, sn, ms, RA, q⟩ := h
      obtain ⟨cs, hc, hp⟩ := RA.hc
      exists RA.hr
      exact ⟨_, .inl (SqL.of hc), by rw [List.length_map, paired_len hp]; exact q⟩
    · exact h.elim
theorem RowX.row {H : Hp} {pd pc : Addr} {dss : List (List Cp)} (h : RowX H pd pc dss) : RowT H pd dss := by
  obtain ⟨xs, h1, h2, h3⟩ := h
  exact ⟨xs, h1, paired_imp h2 fun _ _ q => q.2, h3⟩
theorem RowX.same {H H' : Hp} {pd pc : Addr} {dss : List (List Cp)} (h : RowX H pd pc dss) (s : Same H H') : RowX H' pd pc dss := by
  obtain ⟨xs, h1, h2, h3⟩ := h
  exact ⟨xs, s _ _ h1, paired_imp h2 fun _ _ q => ⟨q.1, q.2.same s⟩, h3⟩
theorem RowX.but {C : Addr} {H H' : Hp} {r x pc dx : Addr} {fs : List (Str × V)} {dss : List (List Cp)} (h : RowX H x pc dss) (b : But r H H') (hr : H r = some (.ins C dx fs)) : RowX H' x pc dss := by
  obtain ⟨xs, h1, h2, h3⟩ := h
  exact ⟨xs, b _ _ h1 (fun z => by rw [z, hr] at h1; cases h1), paired_imp h2 fun y ds q => ⟨q.1, q.2.but b hr⟩, h3⟩
theorem RowX.butL {H H' : Hp} {x pc : Addr} {l : List V} {dss : List (List Cp)} (h : RowX H x pc dss) (b : But pc H H') (hp : H pc = some (.lst l)) (ne : x ≠ pc) : RowX H' x pc dss := by
  obtain ⟨xs, h1, h2, h3⟩ := h
  refine ⟨xs, b _ _ h1 ne, paired_imp h2 fun y ds q => ⟨q.1, ?_⟩, h3⟩
  obtain ⟨cs, c1, c2, c3⟩ := q.2
  exact ⟨cs, b _ _ c1 q.1, paired_imp c2 fun c d u => b _ _ u (fun z => by unfold CopyT at u; rw [z, hp] at u; cases u), c3⟩
theorem newM_snoc {turn sn frame : Int} {ds : List Cp} {i : Nat} {d : Cp} (h : ds[i]? = some d) : newM turn sn frame (ds.take (i + 1)) = newM turn sn frame (ds.take i) ++ [oneM turn sn frame i d] := by
  have hl : i < ds.length := (List.getElem?_eq_some_iff.mp h).1
  unfold newM
  rw [List.take_add_one, h]
  show List.mapIdx _ (ds.take i ++ [d]) = _
  rw [List.mapIdx_concat, List.length_take, Nat.min_eq_left (by omega)]
theorem ok_Road_send (T : Txt K mg C_Road C_RoadError C_BadRoad C_BadPair)  : MtAt P w K mg base (CX1 P w) C_Road "send" 2 ["self", "turn", "frame"] (sp_Road_send C_Road) := by
  refine T.d_Road_send.fn sc_Road_send bd_Road_send (fun vs H Q E h => ?_) fun f cdv A outer s H vs Q E HR h => ?_
  · unfold sp_Road_send at h; split at h <;> first | rfl | exact h.elim
  · unfold sp_Road_send at h
    split at h
    · rename_i r turn frame
      refine ⟨_, (pss_cons (ps_setQ (i := 3) sc_Road_send.nd rfl (Or.inl rfl) (pe_fldC (pv 0) T.k_Road T.n_Road_sendings rfl))
  (pss_hold (pss_cons (ps_augC (pv 0) pe_int T.k_Road T.n_Road_sendings iop_add)
  (pss_hold (pss_cons (ps_for PassesOwn.never rfl (pj_enum rfl T.b_enumerate (pa_q (pe_fnQ (ok_deed_at T) HR (by decide) rfl (pa_q (pe_fldC (pv 0) T.k_Road T.n_Road_deeds rfl) (pa_q (pv 3) pa_nil))) pa_nil)) (pg_tupX K (n := 2) rfl rfl (pgs_q (pg_name (i := 4) sc_Road_send.nd rfl (Or.inl rfl)) (pgs_q (pg_name (i := 5) sc_Road_send.nd rfl (Or.inl rfl)) pgs_nil))) (pss_one (ps_exprQ (pe_appendK K rfl (pe_fldC (pv 0) T.k_Road T.n_Road_coming rfl) (pe_tup (pa_q (pe_op (op_addK K rfl) (pv 1) (pe_ix (ix_K K rfl) (pv 5) pe_int (fun _ _ => rfl))) (pa_q (pv 3) (pa_q (pv 4) (pa_q (pe_op op_xor (pv 2) (pe_op op_shlA (pe_ix (ix_K K rfl) (pv 5) pe_int (fun _ _ => rfl)) (pe_ix (ix_K K rfl) (pv 5) pe_int (fun _ _ => rfl)))) pa_nil)))))))))
  (pss_one (ps_ret (pv 3)))))))), ?_⟩
      obtain ⟨dx, pd, pc, dss, sn, ms, RA, hg, hl, hm, q⟩ := h
      generalize h_u1 : tHold _ = u1
      exists RA.hr
      rw [← h_u1, tHold]
      generalize h_u2 : tHold _ = u2
      exists RA.hr
      rw [← h_u2, tHold]
      walk_at "wps"
      obtain ⟨cs0, hc0, hp0⟩ := RA.hc
      have b1 : But r H (upd H r (.ins C_Road dx (fl_Road (.ref pd) (.int (sn + 1)) (.ref pc)))) := But.upd
      refine ⟨dss, (RA.hd.but b1 RA.hr).row, fun p H1 s1 np hD => ?_⟩
      replace hD : DeedT H1 p (deedOf dss sn) := hD
      have npc : r ≠ pc := fun z => by have := RA.hr; rw [z, hc0] at this; cases this
      have hpcR := b1 _ _ hc0 (Ne.symm npc)
      have ppc : p ≠ pc := fun z => by rw [z, hpcR] at np; cases np
      have hr1 := s1 _ _ (upd_same (H := H) (a := r) (o := .ins C_Road dx (fl_Road (.ref pd) (.int (sn + 1)) (.ref pc))))
      have hpc1 := s1 _ _ hpcR
      have hd1 := (RA.hd.but b1 RA.hr).same s1
      have hcm1 : Paired (CmT H1) cs0 ms := paired_imp hp0 fun c m h => s1 _ _ (b1 _ _ h (fun z => by unfold CmT at h; rw [z, RA.hr] at h; cases h))
      have fr1 : FrR r pc H H1 := fun b o e n1 _ => s1 _ _ (b1 _ _ e n1)
      have nepd := RA.ne
      generalize deedOf dss sn = ds at *
      obtain ⟨ps, e1, e2, e3⟩ := hD
      have ln := paired_len e2
      refine fo_enum e1 (fun i σ H' => But pc H1 H' ∧ (∃ cs : List Addr, H' pc = some (.lst (cs.map V.ref)) ∧ Paired (CmT H') cs (ms ++ newM turn sn frame (ds.take i))) ∧ ∃ v4 v5, σ = [some (V.ref r), some (V.int turn), some (V.int frame), some (V.int sn), v4, v5]) ⟨But.refl, ⟨cs0, hpc1, by rw [List.take_zero]; simpa [newM] using hcm1⟩, none, none, rfl⟩ (fun i σ H' _ h => h.1 _ _ e1 ppc) (fun i y pt σ H' hy h hpt => ?_) (fun σ H' h => ?_)
      · obtain ⟨bt, ⟨cs, k1, k2⟩, v4, v5, rfl⟩ := h
        rw [List.getElem?_map] at hy
        obtain ⟨c, ec, rfl⟩ := Option.map_eq_some_iff.mp hy
        obtain ⟨d, ed, hd⟩ := paired_get e2 ec
        have cne : c ≠ pc := fun z => by unfold CopyT at hd; rw [z, hpc1] at hd; cases hd
        have hdc := upd_old (o := .tup [.int i, .ref c]) (bt _ _ hd cne) hpt
        have hr2 := upd_old (o := .tup [.int i, .ref c]) (bt _ _ hr1 npc) hpt
        have kpc := upd_old (o := .tup [.int i, .ref c]) k1 hpt
        have hgd := hg d (List.mem_of_getElem? ed)
        have hnl : (newM turn sn frame (ds.take i)).length ≤ 3 := by
          unfold newM
          rw [List.length_mapIdx]
          exact Nat.le_trans (List.length_take_le' _ _) hl
        have kl := paired_len k2
        rw [List.length_append] at kl
        unfold copyB fromB at hgd
        simp only [Bool.and_eq_true, decide_eq_true_eq] at hgd
        exists upd_same, hr2
        refine ⟨tyV_list (SqL.of kpc), ixA_tup (SqT.of hdc) rfl ?_⟩
        walk_at "wps"
        refine ixA_tup (SqT.of hdc) rfl (ixA_tup (SqT.of hdc) rfl ?_)
        walk_at "wps"
        refine ⟨cshl (by omega) (by omega) (by omega) (by omega), fun pn npn => ?_⟩
        have pnc : pn ≠ pc := fun z => by rw [z, kpc] at npn; cases npn
        refine ⟨_, upd_old kpc npn, Nat.lt_of_lt_of_le (show (cs.map V.ref).length < 1000 by rw [List.length_map]; omega) (small_ok (Nat.le_refl _)), ((bt.new hpt).new npn).write, ⟨cs ++ [pn], by simp, ?_⟩, _, _, rfl⟩
        rw [newM_snoc ed, ← List.append_assoc]
        refine paired_snoc (paired_imp k2 fun a m u => ?_) ?_
        · have ane : a ≠ pc := fun z => by unfold CmT at u; rw [z, k1] at u; cases u
          unfold CmT at u ⊢
          rw [upd_ne ane]
          exact upd_old (upd_old u hpt) npn
        · unfold CmT
          rw [upd_ne pnc, upd_same]
          rfl
      · obtain ⟨bt, ⟨cs, k1, k2⟩, v4, v5, rfl⟩ := h
        rw [List.length_map, ln, List.take_length] at k2
        walk_at "wps"
        have mv : ∀ b o, H1 b = some o → (∀ xs, o ≠ .lst xs) → H' b = some o := fun b o e n => bt b o e (fun z => by rw [z, hpc1] at e; cases e; exact n _ rfl)
        refine q H' (fun b o e n1 n2 => bt _ _ (fr1 b o e n1 n2) n2) ⟨bt _ _ hr1 npc, hd1.butL bt hpc1 nepd, ⟨cs, k1, k2⟩, nepd⟩
    · exact h.elim
theorem paired_zip {α β : Type} {R : α → β → Prop} {xs : List α} {ys : List β} (p : Paired R xs ys) : ∃ qs : List (α × β), xs = qs.map (·.1) ∧ ys = qs.map (·.2) ∧ ∀ q ∈ qs, R q.1 q.2 := by
  induction p with
  | nil => exact ⟨[], rfl, rfl, fun q hq => by cases hq⟩
  | cons r _ ih =>
    obtain ⟨qs, rfl, rfl, h⟩ := ih
    refine ⟨(_, _) :: qs, rfl, rfl, fun q hq => ?_⟩
    rcases List.mem_cons.mp hq with rfl | hq
    · exact r
    · exact h q hq
theorem paired_of {α β : Type} {R : α → β → Prop} : ∀ {qs : List (α × β)}, (∀ q ∈ qs, R q.1 q.2) → Paired R (qs.map (·.1)) (qs.map (·.2))
  | [], _ => .nil
  | q :: qs, h => .cons (h q (.head _)) (paired_of fun r hr => h r (.tail _ hr))
noncomputable def firstV (H : Hp) (v : V) : Int := match v with
  | .ref c => match H c with
    | some (.tup (.int t :: _)) => t
    | _ => 0
  | _ => 0
theorem firstV_at {H : Hp} {c : Addr} {m : Cm} (h : CmT H c m) : firstV H (.ref c) = m.1 := by
  have h' : H c = some (.tup [.int m.1, .int m.2.1, .int m.2.2.1, .int m.2.2.2]) := h
  simp only [firstV, h']
theorem filt_due {H : Hp} (b : Int → Bool) : ∀ {qs : List (Addr × Cm)}, (∀ q ∈ qs, CmT H q.1 q.2) → (((qs.map (·.1)).map V.ref).filter fun v => b (firstV H v)) = (qs.filter fun q => b q.2.1).map fun q => V.ref q.1
  | [], _ => rfl
  | q :: qs, h => by
    rw [List.map_cons, List.map_cons, List.filter_cons, List.filter_cons, firstV_at (h q (.head _)), filt_due b fun r hr => h r (.tail _ hr)]
    split <;> rfl
theorem filt_snd (b : Int → Bool) (qs : List (Addr × Cm)) : (qs.filter fun q => b q.2.1).map (·.2) = (qs.map (·.2)).filter fun m => b m.1 := by
  rw [List.filter_map]
  rfl
theorem RowX.repc {H : Hp} {pd pc pc' : Addr} {dss : List (List Cp)} (h : RowX H pd pc dss) (n : H pc' = none) : RowX H pd pc' dss := by
  obtain ⟨xs, h1, h2, h3⟩ := h
  refine ⟨xs, h1, paired_imp h2 fun x ds q => ⟨fun z => ?_, q.2⟩, h3⟩
  obtain ⟨_, u, _⟩ := q.2
  rw [z, n] at u
  cases u
theorem out_of {qs qs' : List (Addr × Cm)} (h : Out4 qs qs') : OutM (qs.map (·.2)) (qs'.map (·.2)) := by
  refine ⟨h.1.map _, fun a => ?_⟩
  rw [h.2 fun i x y hx hy => a i x.2 y.2 (by rw [List.getElem?_map, hx]; rfl) (by rw [List.getElem?_map, hy]; rfl)]
theorem ok_Road_come (T : Txt K mg C_Road C_RoadError C_BadRoad C_BadPair)  : MtAt P w K mg base (CX1 P w) C_Road "come" 1 ["self", "turn"] (sp_Road_come C_Road) := by
  refine T.d_Road_come.fn sc_Road_come bd_Road_come (fun vs H Q E h => ?_) fun f cdv A outer s H vs Q E HR h => ?_
  · unfold sp_Road_come at h; split at h <;> first | rfl | exact h.elim
  · unfold sp_Road_come at h
    split at h
    · rename_i r turn
      refine ⟨_, (pss_cons (ps_setQ (i := 2) sc_Road_come.nd rfl (Or.inl rfl) (pe_callBQ (call_sorted4K K rfl) (by rfl) T.b_sorted bt_sorted (pa_q (pe_comp (N := (["copy", "turn"] : List Str)) (nv := 1) (ix := [1]) rfl (cs_of (by kernel_rfl)) (pi_seqK K rfl (pe_fldC (pv 0) T.k_Road T.n_Road_coming rfl)) (fun _ _ _ _ _ => (pg_name (i := 0) (show ((["copy", "turn"] : List Str)).Nodup by decide) rfl (Or.inl rfl))) (fun _ _ _ _ _ => (pts_one (pt_cmpR op_le (pe_ix (ix_K K rfl) (pv 0) pe_int (fun _ _ => rfl)) (pv 1) (nomark _)))) (fun _ _ _ _ _ => (pv 0))) pa_nil)))
  (pss_hold (pss_cons (ps_fldCC (pv 0) (pe_comp (N := (["copy", "turn"] : List Str)) (nv := 1) (ix := [1]) rfl (cs_of (by kernel_rfl)) (pi_seqK K rfl (pe_fldC (pv 0) T.k_Road T.n_Road_coming rfl)) (fun _ _ _ _ _ => (pg_name (i := 0) (show ((["copy", "turn"] : List Str)).Nodup by decide) rfl (Or.inl rfl))) (fun _ _ _ _ _ => (pts_one (pt_cmpR op_gt (pe_ix (ix_K K rfl) (pv 0) pe_int (fun _ _ => rfl)) (pv 1) (nomark _)))) (fun _ _ _ _ _ => (pv 0))) T.k_Road T.n_Road_coming)
  (pss_hold (pss_one (ps_ret (pe_comp (N := (["copy"] : List Str)) (nv := 1) (ix := []) rfl (cs_of (by kernel_rfl)) (pi_seqK K rfl (pv 2)) (fun _ _ _ _ _ => (pg_name (i := 0) (show ((["copy"] : List Str)).Nodup by decide) rfl (Or.inl rfl))) (fun _ _ _ _ _ => pts_nil) (fun _ _ _ _ _ => (pe_tup (pa_q (pe_ix (ix_K K rfl) (pv 0) pe_int (fun _ _ => rfl)) (pa_q (pe_ix (ix_K K rfl) (pv 0) pe_int (fun _ _ => rfl)) pa_nil))))))))))), ?_⟩
      obtain ⟨dx, pd, pc, dss, sn, ms, RA, hm, hd, q⟩ := h
      obtain ⟨cs0, hc0, hp0⟩ := RA.hc
      obtain ⟨qs, rfl, rfl, hq⟩ := paired_zip hp0
      generalize h_u1 : tHold _ = u1
      exists RA.hr
      have hmq : qs.length ≤ 1000 := by rw [List.length_map] at hm; exact hm
      refine co_list (p := fun v => decide (firstV H v ≤ turn)) (f := id) (SqL.of hc0) (small_ok (by rw [List.length_map, List.length_map]; exact hmq)) (fun x hx Q h => ?_) (fun x hx _ Q h => ⟨x, rfl, h⟩) ?_
      · obtain ⟨c, hc, rfl⟩ := List.mem_map.mp hx
        obtain ⟨q0, hq0, rfl⟩ := List.mem_map.mp hc
        have hT := hq q0 hq0
        rw [firstV_at hT] at h
        walk_at "wps"
        refine ixA_tup (SqT.of hT) rfl ?_
        walk_at "wps"
        exact h
      rw [List.map_id, filt_due (fun t => decide (t ≤ turn)) hq]
      have hl1 : ∀ b : Addr × Cm → Bool, (qs.filter b).length ≤ 1000 := fun b => Nat.le_trans (List.length_filter_le _ _) hmq
      refine ⟨small_ok (by rw [List.length_map]; exact hl1 _), fun l1 n1 => ⟨qs.filter fun q => decide (q.2.1 ≤ turn), SqL.of upd_same, fun q0 h0 => SqT.of (upd_old (hq q0 (List.mem_filter.mp h0).1) n1), ?_, fun l2 qs' n2 o4 => ?_⟩⟩
      · have e := filt_snd (fun t => decide (t ≤ turn)) qs
        unfold dueM at hd
        rw [← e, List.length_map] at hd
        exact hd
      have om := out_of o4
      rw [filt_snd (fun t => decide (t ≤ turn)) qs] at om
      replace om : OutM (dueM turn (qs.map (·.2))) (qs'.map (·.2)) := om
      have hq' : ∀ q ∈ qs', CmT H q.1 q.2 := fun q h => hq q (List.mem_filter.mp (o4.1.mem_iff.mp h)).1
      have ql : qs'.length ≤ 1000 := by rw [o4.1.length_eq]; exact hl1 _
      have S2 : Same H (upd (upd H l1 (.lst ((qs.filter fun q => decide (q.2.1 ≤ turn)).map fun q => V.ref q.1))) l2 (.lst (qs'.map fun q => V.ref q.1))) := (same_upd n1).trans (same_upd n2)
      have hl2 := upd_same (H := upd H l1 (.lst ((qs.filter fun q => decide (q.2.1 ≤ turn)).map fun q => V.ref q.1))) (a := l2) (o := .lst (qs'.map fun q => V.ref q.1))
      have nl2 : H l2 = none := fresh_old n2
      generalize upd (upd H l1 (.lst ((qs.filter fun q => decide (q.2.1 ≤ turn)).map fun q => V.ref q.1))) l2 (.lst (qs'.map fun q => V.ref q.1)) = H2 at *
      have hr2 := S2 _ _ RA.hr
      rw [← h_u1, tHold]
      generalize h_u2 : tHold _ = u2
      exists hr2
      refine co_list (p := fun v => decide (turn < firstV H2 v)) (f := id) (SqL.of (S2 _ _ hc0)) (small_ok (by rw [List.length_map, List.length_map]; exact hmq)) (fun x hx Q h => ?_) (fun x hx _ Q h => ⟨x, rfl, h⟩) ?_
      · obtain ⟨c, hc, rfl⟩ := List.mem_map.mp hx
        obtain ⟨q0, hq0, rfl⟩ := List.mem_map.mp hc
        have hT : CmT H2 q0.1 q0.2 := S2 _ _ (hq q0 hq0)
        rw [firstV_at hT] at h
        walk_at "wps"
        refine ixA_tup (SqT.of hT) rfl ?_
        walk_at "wps"
        exact h
      rw [List.map_id, filt_due (fun t => decide (turn < t)) fun q h => S2 _ _ (hq q h)]
      refine ⟨small_ok (by rw [List.length_map]; exact hl1 _), fun l3 n3 => ⟨dx, _, upd_old hr2 n3, fl_Road_len, ?_⟩⟩
      rw [fl_Road_put_coming]
      have rne : r ≠ l3 := fun z => by rw [← z, hr2] at n3; cases n3
      have nl3 : H l3 = none := none_of S2 n3
      have b4 : But r H2 (upd (upd H2 l3 (.lst ((qs.filter fun q => decide (turn < q.2.1)).map fun q => V.ref q.1))) r (.ins C_Road dx (fl_Road (.ref pd) (.int sn) (.ref l3)))) := fun b o e ne => by rw [upd_ne ne]; exact upd_old e n3
      have h4 : upd (upd H2 l3 (.lst ((qs.filter fun q => decide (turn < q.2.1)).map fun q => V.ref q.1))) r (.ins C_Road dx (fl_Road (.ref pd) (.int sn) (.ref l3))) l3 = some (.lst ((qs.filter fun q => decide (turn < q.2.1)).map fun q => V.ref q.1)) := by rw [upd_ne (Ne.symm rne), upd_same]
      have hr4 := upd_same (H := upd H2 l3 (.lst ((qs.filter fun q => decide (turn < q.2.1)).map fun q => V.ref q.1))) (a := r) (o := .ins C_Road dx (fl_Road (.ref pd) (.int sn) (.ref l3)))
      generalize upd (upd H2 l3 (.lst ((qs.filter fun q => decide (turn < q.2.1)).map fun q => V.ref q.1))) r (.ins C_Road dx (fl_Road (.ref pd) (.int sn) (.ref l3))) = H4 at *
      rw [← h_u2, tHold]
      walk_at "wps"
      have rl2 : l2 ≠ r := fun z => by rw [z, RA.hr] at nl2; cases nl2
      have hl4 := b4 _ _ hl2 rl2
      refine co_listH (SqL.of hl4) (small_ok (by rw [List.length_map]; exact ql)) (fun i ys σ H' => Same H4 H' ∧ ∃ zs : List Addr, ys = zs.map V.ref ∧ Paired (PrT H') zs (outP ((qs'.map (·.2)).take i)) ∧ ∃ v, σ = [v]) ⟨Same.refl _, [], rfl, .nil, none, rfl⟩ (fun i ys σ H' hh => ?_) (fun i ys σ H' hh => SqL.of (hh.1 _ _ hl4)) (fun i y ys σ H' hy hh => ?_) (fun ys σ H' hh => ?_)
      · obtain ⟨_, zs, e, p, _⟩ := hh
        rw [e, List.length_map, paired_len p]
        unfold outP
        rw [List.length_map]
        exact List.length_take_le _ _
      · obtain ⟨sm, zs, e, p, v, eσ⟩ := hh
        subst eσ e
        rw [List.getElem?_map] at hy
        obtain ⟨q0, e0, rfl⟩ := Option.map_eq_some_iff.mp hy
        have h0 := hq' q0 (List.mem_of_getElem? e0)
        have hr0 : q0.1 ≠ r := fun z => by unfold CmT at h0; rw [z, RA.hr] at h0; cases h0
        have hT : CmT H' q0.1 q0.2 := sm _ _ (b4 _ _ (S2 _ _ h0) hr0)
        walk_at "wps"
        refine ixA_tup (SqT.of hT) rfl ?_
        refine ixA_tup (SqT.of hT) rfl ?_
        intro pn npn
        refine ⟨sm.trans (same_upd npn), zs ++ [pn], by simp, ?_, _, rfl⟩
        have et : outP ((qs'.map (·.2)).take (i + 1)) = outP ((qs'.map (·.2)).take i) ++ [(q0.2.2.1, q0.2.2.2.2)] := by
          unfold outP
          rw [List.take_add_one, List.getElem?_map, e0, List.map_append]
          rfl
        rw [et]
        exact paired_snoc (paired_imp p fun a m u => upd_old u npn) upd_same
      · obtain ⟨sm, zs, e, p, v, eσ⟩ := hh
        subst eσ e
        rw [List.take_of_length_le (by rw [List.length_map, List.length_map]; exact Nat.le_refl _)] at p
        have zl : zs.length ≤ 1000 := by
          rw [paired_len p]
          unfold outP
          rw [List.length_map, List.length_map]
          exact ql
        refine ⟨small_ok (by rw [List.length_map]; exact zl), fun l5 n5 => ?_⟩
        have S5 : Same H4 (upd H' l5 (.lst (zs.map V.ref))) := sm.trans (same_upd n5)
        have h5 := upd_same (H := H') (a := l5) (o := .lst (zs.map V.ref))
        have p5 : Paired (PrT (upd H' l5 (.lst (zs.map V.ref)))) zs (outP (qs'.map (·.2))) := paired_imp p fun a m u => upd_old u n5
        have nl5 : H l5 = none := by
          cases e : H l5 with
          | none => rfl
          | some o =>
            exfalso
            by_cases z : l5 = r
            · rw [z, sm _ _ hr4] at n5; cases n5
            · rw [sm _ _ (b4 _ _ (S2 _ _ e) z)] at n5; cases n5
        generalize upd H' l5 (.lst (zs.map V.ref)) = H5 at *
        have cn : ∀ q ∈ qs, CmT H5 q.1 q.2 := fun q0 h => by
          have h0 := hq q0 h
          have hr0 : q0.1 ≠ r := fun z => by unfold CmT at h0; rw [z, RA.hr] at h0; cases h0
          exact S5 _ _ (b4 _ _ (S2 _ _ h0) hr0)
        refine q H5 l3 l5 (qs'.map (·.2)) (fun b o e ne => S5 _ _ (b4 _ _ (S2 _ _ e) ne)) nl3 ⟨S5 _ _ hr4, (((RA.hd.repc nl3).same S2).but b4 hr2).same S5, ⟨(qs.filter fun q => decide (turn < q.2.1)).map (·.1), ?_, ?_⟩, ?_⟩ om nl5 ⟨zs, h5, p5⟩
        · rw [List.map_map]
          exact S5 _ _ h4
        · unfold restM
          rw [← filt_snd (fun t => decide (turn < t)) qs]
          exact paired_of fun q0 h => cn q0 (List.mem_filter.mp h).1
        · intro z
          obtain ⟨_, u, _⟩ := RA.hd
          rw [z, nl3] at u
          cases u
    · exact h.elim
theorem ok__law_cell_at (T : Txt K mg C_Road C_RoadError C_BadRoad C_BadPair)  (a₀ : Addr) (ns : List Int) : FnAt P w K mg base (CX1 P w) "_law_cell_at" 1 ["_law_script", "_law_k"] (sp__law_cell_at K a₀ ns) := by
  refine T.d__law_cell_at.fn sc__law_cell_at bd__law_cell_at (fun vs H Q E h => ?_) fun f cdv A outer s H vs Q E HR h => ?_
  · unfold sp__law_cell_at at h; split at h <;> first | rfl | exact h.elim
  · unfold sp__law_cell_at at h
    split at h
    · rename_i a k
      refine ⟨_, (pss_cons (ps_if (pt_cmpR op_lt (pv 1) (pe_callBQ (call_lenK K rfl) (by rfl) T.b_len bt_len (pa_q (pv 0) pa_nil)) (nomark _)) (pss_one (ps_ret (pe_ix (ix_K K rfl) (pv 0) (pv 1) (fun _ _ => rfl)))) pss_nil)
  (pss_one (ps_ret pe_int))), ?_⟩
      obtain ⟨rfl, hS, h0, q⟩ := h
      walk_at "wps"
      refine ⟨_, .inl hS, ?_⟩
      rw [List.length_map]
      split
      · rename_i c; exact ixA_ints hS h0 c (q _)
      · exact q _
    · exact h.elim
theorem ok__law_whole (T : Txt K mg C_Road C_RoadError C_BadRoad C_BadPair)  : FnAt P w K mg base (CX1 P w) "_law_whole" 1 ["_law_found"] sp__law_whole := by
  refine T.d__law_whole.fn sc__law_whole bd__law_whole (fun vs H Q E h => ?_) fun f cdv A outer s H vs Q E HR h => ?_
  · unfold sp__law_whole at h; split at h <;> first | rfl | exact h.elim
  · unfold sp__law_whole at h
    split at h
    · rename_i i
      refine ⟨_, (pss_one (ps_ret (pe_and (pe_callBQ (call_isiK K rfl) (by rfl) T.b_isinstance bt_isinstance (pa_q (pv 0) (pa_q (pe_ty rfl T.b_int bt_int) pa_nil))) (pe_one (pe_not (pe_callBQ (call_isiK K rfl) (by rfl) T.b_isinstance bt_isinstance (pa_q (pv 0) (pa_q (pe_ty rfl T.b_bool bt_bool) pa_nil)))))))), ?_⟩
      walk_at "wps"
      exact h
    · exact h.elim
theorem ok__law_mixed (T : Txt K mg C_Road C_RoadError C_BadRoad C_BadPair)  : FnAt P w K mg base (CX1 P w) "_law_mixed" 1 ["_law_cell", "_law_k"] sp__law_mixed := by
  refine T.d__law_mixed.fn sc__law_mixed bd__law_mixed (fun vs H Q E h => ?_) fun f cdv A outer s H vs Q E HR h => ?_
  · unfold sp__law_mixed at h; split at h <;> first | rfl | exact h.elim
  · unfold sp__law_mixed at h
    split at h
    · rename_i c k
      refine ⟨_, (pss_cons (ps_if (PW.pt (pw_and (pt_cmpR op_ge (pv 0) (pe_op op_shlA pe_int pe_int) (nomark _)) (pw_and1 (pt_cmpR op_gt (pe_op op_shr (pv 0) (pe_op (op_addK K rfl) pe_int (pe_op op_mul pe_int (pv 1)))) pe_int (nomark _))))) (pss_one (ps_ret (pe_op op_mod (pe_op op_shr (pv 0) (pe_op (op_addK K rfl) pe_int (pe_op op_mul pe_int (pv 1)))) pe_int))) pss_nil)
  (pss_hold (pss_cons (ps_setQ (i := 2) sc__law_mixed.nd rfl (Or.inl rfl) (pe_op (op_addK K rfl) (pe_op op_mod (pv 0) pe_int) pe_int))
  (pss_cons (ps_for PassesOwn.never rfl (pj_range1 rfl T.b_range (pa_q pe_int pa_nil)) (pg_name (i := 3) sc__law_mixed.nd rfl (Or.inl rfl)) (pss_one (ps_setQ (i := 2) sc__law_mixed.nd rfl (Or.inl rfl) (pe_op op_mod (pe_op (op_addK K rfl) (pe_op (op_addK K rfl) (pe_op op_mul (pv 2) (pv 2)) (pe_op op_mul pe_int (pv 2))) (pv 1)) pe_int))))
  (pss_one (ps_ret (pv 2))))))), ?_⟩
      obtain ⟨h0, q⟩ := h
      generalize h_u1 : tHold _ = u1
      walk_at "wps"
      have sh : CShl 1 90 := ⟨⟨by decide, by decide⟩, by decide +kernel, by decide +kernel⟩
      have tail : u1 { nx := fun _ H' => Q .non H', rt := Q } [some (.int c), some (.int k), none, none] H := by
        rw [← h_u1, tHold]
        walk_at "wps"
        refine fo_rng (lo := 0) (n := 3) (fun i σ H' => H' = H ∧ ∃ v v3, σ = [some (.int c), some (.int k), some (.int v), v3] ∧ 0 ≤ v ∧ v < 2147483647 + (if i = 0 then 48271 else 0)) ⟨rfl, _, none, rfl, by omega, by rw [if_pos rfl]; omega⟩ (fun i σ H' _ hp => ?_) (fun σ H' hp => ?_)
        · obtain ⟨rfl, v, v3, rfl, h0, h1⟩ := hp
          walk_at "wps"
          have h2 : v < 3000000000 := by split at h1 <;> omega
          exact ⟨.inl ⟨by omega, by omega⟩, _, _, rfl, Int.emod_nonneg _ (by decide), Int.emod_lt_of_pos _ (by decide)⟩
        · obtain ⟨rfl, v, v3, rfl, h0, h1⟩ := hp
          walk_at "wps"
          exact q v h0 (by rw [if_neg (by decide)] at h1; omega)
      refine ⟨sh, ?_⟩
      split
      · refine ⟨by omega, ?_⟩
        split
        · exact ⟨by omega, q _ (Int.emod_nonneg _ (by decide)) (Int.emod_lt_of_pos _ (by decide))⟩
        · exact tail
      · exact tail
    · exact h.elim
theorem paired_app {α β : Type} {R : α → β → Prop} {xs xs' : List α} {ys ys' : List β} (p : Paired R xs ys) (p' : Paired R xs' ys') : Paired R (xs ++ xs') (ys ++ ys') := by
  induction p with
  | nil => exact p'
  | cons r _ ih => exact .cons r ih
theorem copies_dn {K : PySem.W.Frag} {H : Hp} : ∀ {cs : List Addr} {ds : List Cp}, Paired (fun c (d : Cp) => CopyT H c d.1 d.2.1 d.2.2) cs ds → Paired (Dn K H 1) (cs.map V.ref) (ds.map fun d => Dt.t [.int d.1, .int d.2.1, .int d.2.2])
  | _, _, .nil => .nil
  | _, _, .cons r rr => .cons (dn_tup r (.cons dn_int (.cons dn_int (.cons dn_int .nil)))) (copies_dn rr)
noncomputable def dtD (ds : List Cp) : Dt := .l (ds.map fun d => Dt.t [.int d.1, .int d.2.1, .int d.2.2])
theorem DeedT.dn {K : PySem.W.Frag} {H : Hp} {x : Addr} {ds : List Cp} (h : DeedT H x ds) : Dn K H 2 (.ref x) (dtD ds) := by
  obtain ⟨cs, h1, h2, _⟩ := h
  exact dn_lst h1 (copies_dn h2)
theorem deeds_dn {K : PySem.W.Frag} {H : Hp} : ∀ {xs : List Addr} {dss : List (List Cp)}, Paired (DeedT H) xs dss → Paired (Dn K H 2) (xs.map V.ref) (dss.map dtD)
  | _, _, .nil => .nil
  | _, _, .cons r rr => .cons r.dn (deeds_dn rr)
theorem RowT.dn {K : PySem.W.Frag} {H : Hp} {x : Addr} {dss : List (List Cp)} (h : RowT H x dss) : Dn K H 3 (.ref x) (.l (dss.map dtD)) := by
  obtain ⟨xs, h1, h2, _⟩ := h
  exact dn_lst h1 (deeds_dn h2)
theorem deedOf_ok {dss : List (List Cp)} {n : Int} (h : ∀ ds ∈ dss, deedB 60 ds = true) : ∀ d ∈ deedOf dss n, copyB d.1 d.2.1 d.2.2 60 = true := by
  intro d hd
  unfold deedOf at hd
  split at hd
  · rw [List.mem_singleton.mp hd]; decide
  · rw [List.getD_eq_getElem?_getD] at hd
    cases e : dss[(n % (dss.length : Int)).toNat]? with
    | none => rw [e] at hd; cases hd
    | some ds =>
      rw [e] at hd
      have := h ds (List.mem_of_getElem? e)
      unfold deedB at this
      rw [Bool.and_eq_true] at this
      exact List.all_eq_true.mp this.2 d hd
theorem deedB_up {lag : Int} {ds : List Cp} (hl : lag ≤ 60) (h : deedB lag ds = true) : deedB 60 ds = true := by
  unfold deedB at h ⊢
  rw [Bool.and_eq_true] at h ⊢
  refine ⟨h.1, List.all_eq_true.mpr fun d hd => ?_⟩
  have := List.all_eq_true.mp h.2 d hd
  unfold copyB fromB at this ⊢
  simp only [Bool.and_eq_true, decide_eq_true_eq] at this ⊢
  omega
theorem deedOf_len {dss : List (List Cp)} {n lag : Int} (h : ∀ ds ∈ dss, deedB lag ds = true) : (deedOf dss n).length ≤ 3 := by
  unfold deedOf
  split
  · decide
  · rw [List.getD_eq_getElem?_getD]
    cases e : dss[(n % (dss.length : Int)).toNat]? with
    | none => simp
    | some ds =>
      have := h ds (List.mem_of_getElem? e)
      unfold deedB at this
      rw [Bool.and_eq_true, decide_eq_true_eq] at this
      exact this.1
theorem RoadAt.same {C_Road : Addr} {H H' : Hp} {r dx pd pc : Addr} {dss : List (List Cp)} {sn : Int} {ms : List Cm} (h : RoadAt C_Road H r dx pd pc dss sn ms) (s : Same H H') : RoadAt C_Road H' r dx pd pc dss sn ms := by
  obtain ⟨cs, c1, c2⟩ := h.hc
  exact ⟨s _ _ h.hr, h.hd.same s, ⟨cs, s _ _ c1, paired_imp c2 fun _ _ u => s _ _ u⟩, h.ne⟩
theorem pick3 {a b c k : Int} (h0 : 0 ≤ k) (h1 : k < 3) : ∃ x, atI [V.int a, V.int b, V.int c] k = some (.int x) ∧ (x = a ∨ x = b ∨ x = c) := by
  have h3 : k = 0 ∨ k = 1 ∨ k = 2 := by omega
  rcases h3 with rfl | rfl | rfl
  · exact ⟨a, atI_0, .inl rfl⟩
  · exact ⟨b, atI_1, .inr (.inl rfl)⟩
  · exact ⟨c, atI_2, .inr (.inr rfl)⟩
theorem prs_dn {K : PySem.W.Frag} {H : Hp} : ∀ {cs : List Addr} {ms : List (Int × Int)}, Paired (PrT H) cs ms → Paired (Dn K H 1) (cs.map V.ref) (ms.map fun m => Dt.t [.int m.1, .int m.2])
  | _, _, .nil => .nil
  | _, _, .cons r rr => .cons (dn_tup r (.cons dn_int (.cons dn_int .nil))) (prs_dn rr)
theorem ok__law_copy (T : Txt K mg C_Road C_RoadError C_BadRoad C_BadPair)  : FnAt P w K mg base (CX1 P w) "_law_copy" 1 ["_law_number", "_law_lag"] sp__law_copy := by
  refine T.d__law_copy.fn sc__law_copy bd__law_copy (fun vs H Q E h => ?_) fun f cdv A outer s H vs Q E HR h => ?_
  · unfold sp__law_copy at h; split at h <;> first | rfl | exact h.elim
  · unfold sp__law_copy at h
    split at h
    · rename_i n lag
      refine ⟨_, (QSs.h (qss_cons ⟨(ps_setQ (i := 2) sc__law_copy.nd rfl (Or.inl rfl) (pe_ix (ix_K K rfl) (pe_lst (pa_q (pe_op (op_addK K rfl) pe_int (pe_op op_mod (pv 0) (pv 1))) (pa_q (pv 1) (pa_q pe_int pa_nil)))) (pe_op op_mod (pe_op op_fdiv (pv 0) pe_int) pe_int) (fun _ _ => rfl)))⟩
  (qss_hold (qss_one (qs_ret (qe_tup (qa_q ⟨(pv 2)⟩ (qa_q ⟨(pe_ix (ix_K K rfl) (pe_lst (pa_q (pe_op op_mod (pe_op op_fdiv (pv 0) pe_int) pe_int) (pa_q pe_int (pa_q pe_int pa_nil)))) (pe_op op_mod (pe_op op_fdiv (pv 0) pe_int) pe_int) (fun _ _ => rfl))⟩ (qa_q ⟨(pe_ix (ix_K K rfl) (pe_lst (pa_q (pe_op op_mod (pe_op op_fdiv (pv 0) pe_int) pe_int) (pa_q pe_int (pa_q pe_int pa_nil)))) (pe_op op_mod (pv 0) pe_int) (fun _ _ => rfl))⟩ qa_nil))))))))), ?_⟩
      obtain ⟨⟨h0, h1, h2⟩, q⟩ := h
      generalize h_u1 : tHold _ = u1
      walk_at "wps"
      refine ⟨by omega, fun p1 np1 => ?_⟩
      obtain ⟨x, ex, hx⟩ := pick3 (a := 1 + n % lag) (b := lag) (c := 1) (k := n / 60 % 3) (by omega) (by omega)
      refine ixA_list (SqL.of upd_same) ex ?_
      have S1 := same_upd (H := H) (o := .lst [V.int (1 + n % lag), V.int lag, V.int 1]) np1
      generalize upd H p1 (.lst [V.int (1 + n % lag), V.int lag, V.int 1]) = H1 at *
      rw [← h_u1, tHold]
      walk_at "wps"
      intro p2 np2
      obtain ⟨y, ey, hy⟩ := pick3 (a := n / 180 % 67) (b := 66) (c := 0) (k := n / 12060 % 3) (by omega) (by omega)
      refine ixA_list (SqL.of upd_same) ey ?_
      have S2 := same_upd (H := H1) (o := .lst [V.int (n / 180 % 67), V.int 66, V.int 0]) np2
      generalize upd H1 p2 (.lst [V.int (n / 180 % 67), V.int 66, V.int 0]) = H2 at *
      intro p3 np3
      obtain ⟨z, ez, hz⟩ := pick3 (a := n / 36180 % 256) (b := 255) (c := 0) (k := n % 3) (by omega) (by omega)
      refine ixA_list (SqL.of upd_same) ez ?_
      have S3 := same_upd (H := H2) (o := .lst [V.int (n / 36180 % 256), V.int 255, V.int 0]) np3
      generalize upd H2 p3 (.lst [V.int (n / 36180 % 256), V.int 255, V.int 0]) = H3 at *
      intro p4 np4
      refine q p4 x y z _ (((S1.trans S2).trans S3).trans (same_upd np4)) (none_of ((S1.trans S2).trans S3) np4) upd_same ?_
      have := Int.emod_nonneg n (show lag ≠ 0 by omega)
      have := Int.emod_lt_of_pos n (show 0 < lag by omega)
      unfold copyB fromB
      simp only [Bool.and_eq_true, decide_eq_true_eq]
      omega
    · exact h.elim
theorem ok__law_deed (T : Txt K mg C_Road C_RoadError C_BadRoad C_BadPair)  : FnAt P w K mg base (CX1 P w) "_law_deed" 2 ["_law_cell", "_law_k", "_law_lag"] sp__law_deed := by
  refine T.d__law_deed.fn sc__law_deed bd__law_deed (fun vs H Q E h => ?_) fun f cdv A outer s H vs Q E HR h => ?_
  · unfold sp__law_deed at h; split at h <;> first | rfl | exact h.elim
  · unfold sp__law_deed at h
    split at h
    · rename_i c k lag
      refine ⟨_, (pss_cons (ps_setQ (i := 3) sc__law_deed.nd rfl (Or.inr rfl) (pe_fnQ (ok__law_mixed T) HR (by decide) rfl (pa_q (pv 0) (pa_q (pv 1) pa_nil))))
  (pss_hold (pss_one (ps_ret (pe_comp (N := (["_law_at", "_law_lag", "_law_number"] : List Str)) (nv := 1) (ix := [2, 3]) rfl (cs_of (by kernel_rfl)) (pj_range1 rfl T.b_range (pa_q (pe_op (op_addK K rfl) pe_int (pe_op op_mod (pv 3) pe_int)) pa_nil)) (fun _ _ _ _ _ => (pg_name (i := 0) (show ((["_law_at", "_law_lag", "_law_number"] : List Str)).Nodup by decide) rfl (Or.inl rfl))) (fun _ _ _ _ _ => pts_nil) (fun _ _ _ _ _ => (pe_fnQ (ok__law_copy T) HR (by decide) rfl (pa_q (pe_fnQ (ok__law_mixed T) HR (by decide) rfl (pa_q (pv 2) (pa_q (pv 0) pa_nil))) (pa_q (pv 1) pa_nil))))))))), ?_⟩
      obtain ⟨⟨h0, h1, h2⟩, q⟩ := h
      generalize h_u1 : tHold _ = u1
      walk_at "wps"
      refine ⟨h0, fun num n0 n1 => ?_⟩
      rw [← h_u1, tHold]
      walk_at "wps"
      refine ⟨by omega, ?_⟩
      refine co_rngH (lo := 0) (n := (1 + num % 3).toNat) (fun i ys σ H' => Same H H' ∧ ∃ cs ds, ys = cs.map V.ref ∧ Paired (fun c (d : Cp) => CopyT H' c d.1 d.2.1 d.2.2) cs ds ∧ ds.length = i ∧ (∀ d ∈ ds, copyB d.1 d.2.1 d.2.2 lag = true) ∧ ∃ v, σ = [v, some (V.int lag), some (V.int num)]) ⟨Same.refl _, [], [], rfl, .nil, rfl, by simp, none, rfl⟩ (small_ok (by omega)) (fun i ys σ H' hh => ?_) (fun i ys σ H' hi hh => ?_) (fun ys σ H1 hh => ?_)
      · obtain ⟨_, cs, ds, rfl, p, e, _⟩ := hh
        rw [List.length_map, paired_len p, e]
        exact Nat.le_refl _
      · obtain ⟨sm, cs, ds, rfl, p, e, hb, v, rfl⟩ := hh
        walk_at "wps"
        refine ⟨by omega, fun v v0 v1 => ⟨⟨v0, h1, h2⟩, fun pn d pl rn H2 s2 npn hC hg => ⟨sm.trans s2, cs ++ [pn], ds ++ [(d, pl, rn)], by simp, paired_snoc (paired_imp p fun x d u => s2 _ _ u) hC, by rw [List.length_append, e]; rfl, fun d' hd => ?_, _, rfl⟩⟩⟩
        rcases List.mem_append.mp hd with z | z
        · exact hb d' z
        · rw [List.mem_singleton.mp z]; exact hg
      obtain ⟨sm, cs, ds, rfl, p, e, hb, v, rfl⟩ := hh
      have lc := paired_len p
      refine ⟨small_ok (by rw [List.length_map]; omega), fun l nl => ?_⟩
      have s2 := same_upd (H := H1) (o := .lst (cs.map V.ref)) nl
      refine q l ds _ (sm.trans s2) (none_of sm nl) ⟨cs, upd_same, paired_imp p fun _ _ u => s2 _ _ u, by omega⟩ ?_ (by omega)
      unfold deedB
      rw [decide_eq_true (by omega), Bool.true_and]
      exact List.all_eq_true.mpr hb
    · exact h.elim
theorem ok__law_bad_copy (T : Txt K mg C_Road C_RoadError C_BadRoad C_BadPair)  : FnAt P w K mg base (CX1 P w) "_law_bad_copy" 1 ["_law_cell", "_law_lag"] sp__law_bad_copy := by
  refine T.d__law_bad_copy.fn sc__law_bad_copy bd__law_bad_copy (fun vs H Q E h => ?_) fun f cdv A outer s H vs Q E HR h => ?_
  · unfold sp__law_bad_copy at h; split at h <;> first | rfl | exact h.elim
  · unfold sp__law_bad_copy at h
    split at h
    · rename_i c lag
      refine ⟨_, (QSs.h (qss_cons ⟨(ps_setQ (i := 2) sc__law_bad_copy.nd rfl (Or.inl rfl) (pe_op op_mod (pe_op op_fdiv (pv 0) pe_int) pe_int))⟩
  (qss_hold (qss_cons (qs_setQ (i := 3) sc__law_bad_copy.nd rfl (Or.inl rfl) (qe_lst (qa_q (qe_tup (qa_q ⟨pe_int⟩ (qa_q ⟨pe_int⟩ (qa_q ⟨pe_int⟩ qa_nil)))) (qa_q (qe_tup (qa_q ⟨(pe_op (op_addK K rfl) (pe_op (op_addK K rfl) (pv 1) pe_int) (pv 2))⟩ (qa_q ⟨pe_int⟩ (qa_q ⟨pe_int⟩ qa_nil)))) (qa_q (qe_tup (qa_q ⟨(pe_op op_sub (pe_op op_sub pe_int pe_int) (pv 2))⟩ (qa_q ⟨pe_int⟩ (qa_q ⟨pe_int⟩ qa_nil)))) (qa_q (qe_tup (qa_q ⟨pe_int⟩ (qa_q ⟨(pe_op (op_addK K rfl) pe_int (pv 2))⟩ (qa_q ⟨pe_int⟩ qa_nil)))) (qa_q (qe_tup (qa_q ⟨pe_int⟩ (qa_q ⟨(pe_op op_sub (pe_op op_sub pe_int pe_int) (pv 2))⟩ (qa_q ⟨pe_int⟩ qa_nil)))) qa_nil)))))))
  (qss_hold (qss_cons ⟨(ps_setQ (i := 3) sc__law_bad_copy.nd rfl (Or.inl rfl) (pe_op (op_addK K rfl) (pv 3) (pe_lst (pa_q (pe_tup (pa_q pe_int (pa_q pe_int (pa_q (pe_op (op_addK K rfl) pe_int (pv 2)) pa_nil)))) (pa_q (pe_tup (pa_q pe_int (pa_q pe_int (pa_q (pe_op op_sub (pe_op op_sub pe_int pe_int) (pv 2)) pa_nil)))) pa_nil)))))⟩
  (qss_hold (qss_one ⟨(ps_ret (pe_ix (ix_K K rfl) (pv 3) (pe_op op_mod (pv 0) pe_int) (fun _ _ => rfl)))⟩)))))))), ?_⟩
      obtain ⟨⟨h1, h2⟩, q⟩ := h
      generalize h_u1 : tHold _ = u1
      walk_at "wps"
      have f0 : 0 ≤ c / 7 % 1000 := by omega
      generalize c / 7 % 1000 = far at *
      rw [← h_u1, tHold]
      generalize h_u2 : tHold _ = u2
      walk_at "wps"
      have S0 : Same H H := Same.refl _
      intro t0 n_t0
      have e_t0 := upd_same (H := H) (a := t0) (o := (.tup [V.int 0, V.int 3, V.int 0]))
      have s_t0 := same_upd (H := H) (o := (.tup [V.int 0, V.int 3, V.int 0])) n_t0
      replace S0 := S0.trans s_t0
      generalize upd H t0 ((.tup [V.int 0, V.int 3, V.int 0])) = G0 at *
      intro t1 n_t1
      have e_t1 := upd_same (H := G0) (a := t1) (o := (.tup [V.int (lag + 1 + far), V.int 3, V.int 0]))
      have s_t1 := same_upd (H := G0) (o := (.tup [V.int (lag + 1 + far), V.int 3, V.int 0])) n_t1
      replace e_t0 := s_t1 _ _ e_t0
      replace S0 := S0.trans s_t1
      generalize upd G0 t1 ((.tup [V.int (lag + 1 + far), V.int 3, V.int 0])) = G1 at *
      intro t2 n_t2
      have e_t2 := upd_same (H := G1) (a := t2) (o := (.tup [V.int (-1 - far), V.int 3, V.int 0]))
      have s_t2 := same_upd (H := G1) (o := (.tup [V.int (-1 - far), V.int 3, V.int 0])) n_t2
      replace e_t0 := s_t2 _ _ e_t0
      replace e_t1 := s_t2 _ _ e_t1
      replace S0 := S0.trans s_t2
      generalize upd G1 t2 ((.tup [V.int (-1 - far), V.int 3, V.int 0])) = G2 at *
      intro t3 n_t3
      have e_t3 := upd_same (H := G2) (a := t3) (o := (.tup [V.int 1, V.int (67 + far), V.int 0]))
      have s_t3 := same_upd (H := G2) (o := (.tup [V.int 1, V.int (67 + far), V.int 0])) n_t3
      replace e_t0 := s_t3 _ _ e_t0
      replace e_t1 := s_t3 _ _ e_t1
      replace e_t2 := s_t3 _ _ e_t2
      replace S0 := S0.trans s_t3
      generalize upd G2 t3 ((.tup [V.int 1, V.int (67 + far), V.int 0])) = G3 at *
      intro t4 n_t4
      have e_t4 := upd_same (H := G3) (a := t4) (o := (.tup [V.int 1, V.int (-1 - far), V.int 0]))
      have s_t4 := same_upd (H := G3) (o := (.tup [V.int 1, V.int (-1 - far), V.int 0])) n_t4
      replace e_t0 := s_t4 _ _ e_t0
      replace e_t1 := s_t4 _ _ e_t1
      replace e_t2 := s_t4 _ _ e_t2
      replace e_t3 := s_t4 _ _ e_t3
      replace S0 := S0.trans s_t4
      generalize upd G3 t4 ((.tup [V.int 1, V.int (-1 - far), V.int 0])) = G4 at *
      intro l1 n_l1
      have e_l1 := upd_same (H := G4) (a := l1) (o := (.lst [V.ref t0, V.ref t1, V.ref t2, V.ref t3, V.ref t4]))
      have s_l1 := same_upd (H := G4) (o := (.lst [V.ref t0, V.ref t1, V.ref t2, V.ref t3, V.ref t4])) n_l1
      replace e_t0 := s_l1 _ _ e_t0
      replace e_t1 := s_l1 _ _ e_t1
      replace e_t2 := s_l1 _ _ e_t2
      replace e_t3 := s_l1 _ _ e_t3
      replace e_t4 := s_l1 _ _ e_t4
      replace S0 := S0.trans s_l1
      generalize upd G4 l1 ((.lst [V.ref t0, V.ref t1, V.ref t2, V.ref t3, V.ref t4])) = G5 at *
      rw [← h_u2, tHold]
      generalize h_u3 : tHold _ = u3
      walk_at "wps"
      intro t5 n_t5
      have e_t5 := upd_same (H := G5) (a := t5) (o := (.tup [V.int 1, V.int 3, V.int (256 + far)]))
      have s_t5 := same_upd (H := G5) (o := (.tup [V.int 1, V.int 3, V.int (256 + far)])) n_t5
      replace e_t0 := s_t5 _ _ e_t0
      replace e_t1 := s_t5 _ _ e_t1
      replace e_t2 := s_t5 _ _ e_t2
      replace e_t3 := s_t5 _ _ e_t3
      replace e_t4 := s_t5 _ _ e_t4
      replace e_l1 := s_t5 _ _ e_l1
      replace S0 := S0.trans s_t5
      generalize upd G5 t5 ((.tup [V.int 1, V.int 3, V.int (256 + far)])) = G6 at *
      intro t6 n_t6
      have e_t6 := upd_same (H := G6) (a := t6) (o := (.tup [V.int 1, V.int 3, V.int (-1 - far)]))
      have s_t6 := same_upd (H := G6) (o := (.tup [V.int 1, V.int 3, V.int (-1 - far)])) n_t6
      replace e_t0 := s_t6 _ _ e_t0
      replace e_t1 := s_t6 _ _ e_t1
      replace e_t2 := s_t6 _ _ e_t2
      replace e_t3 := s_t6 _ _ e_t3
      replace e_t4 := s_t6 _ _ e_t4
      replace e_l1 := s_t6 _ _ e_l1
      replace e_t5 := s_t6 _ _ e_t5
      replace S0 := S0.trans s_t6
      generalize upd G6 t6 ((.tup [V.int 1, V.int 3, V.int (-1 - far)])) = G7 at *
      intro l2 n_l2
      have e_l2 := upd_same (H := G7) (a := l2) (o := (.lst [V.ref t5, V.ref t6]))
      have s_l2 := same_upd (H := G7) (o := (.lst [V.ref t5, V.ref t6])) n_l2
      replace e_t0 := s_l2 _ _ e_t0
      replace e_t1 := s_l2 _ _ e_t1
      replace e_t2 := s_l2 _ _ e_t2
      replace e_t3 := s_l2 _ _ e_t3
      replace e_t4 := s_l2 _ _ e_t4
      replace e_l1 := s_l2 _ _ e_l1
      replace e_t5 := s_l2 _ _ e_t5
      replace e_t6 := s_l2 _ _ e_t6
      replace S0 := S0.trans s_l2
      generalize upd G7 l2 ((.lst [V.ref t5, V.ref t6])) = G8 at *
      refine addA_lists e_l1 e_l2 (small_ok (by simp)) ?_
      intro l3 n_l3
      have e_l3 := upd_same (H := G8) (a := l3) (o := (.lst ([V.ref t0, V.ref t1, V.ref t2, V.ref t3, V.ref t4] ++ [V.ref t5, V.ref t6])))
      have s_l3 := same_upd (H := G8) (o := (.lst ([V.ref t0, V.ref t1, V.ref t2, V.ref t3, V.ref t4] ++ [V.ref t5, V.ref t6]))) n_l3
      replace e_t0 := s_l3 _ _ e_t0
      replace e_t1 := s_l3 _ _ e_t1
      replace e_t2 := s_l3 _ _ e_t2
      replace e_t3 := s_l3 _ _ e_t3
      replace e_t4 := s_l3 _ _ e_t4
      replace e_t5 := s_l3 _ _ e_t5
      replace e_t6 := s_l3 _ _ e_t6
      replace S0 := S0.trans s_l3
      generalize upd G8 l3 ((.lst ([V.ref t0, V.ref t1, V.ref t2, V.ref t3, V.ref t4] ++ [V.ref t5, V.ref t6]))) = G9 at *
      rw [← h_u3, tHold]
      walk_at "wps"
      have e3 : SqL K G9 l3 [V.ref t0, V.ref t1, V.ref t2, V.ref t3, V.ref t4, V.ref t5, V.ref t6] := SqL.of e_l3
      have h7 : c % 7 = 0 ∨ c % 7 = 1 ∨ c % 7 = 2 ∨ c % 7 = 3 ∨ c % 7 = 4 ∨ c % 7 = 5 ∨ c % 7 = 6 := by omega
      have no1 : ∀ d p r : Int, ¬ (1 ≤ d ∧ d ≤ lag) → copyB d p r lag = false := fun d p r hh => by
        rw [Bool.eq_false_iff]
        intro z
        unfold copyB fromB at z
        simp only [Bool.and_eq_true, decide_eq_true_eq] at z
        exact hh z.1.1
      have no2 : ∀ d p r : Int, ¬ (0 ≤ p ∧ p ≤ 66) → copyB d p r lag = false := fun d p r hh => by
        rw [Bool.eq_false_iff]
        intro z
        unfold copyB fromB at z
        simp only [Bool.and_eq_true, decide_eq_true_eq] at z
        exact hh z.1.2
      have no3 : ∀ d p r : Int, ¬ (0 ≤ r ∧ r ≤ 255) → copyB d p r lag = false := fun d p r hh => by
        rw [Bool.eq_false_iff]
        intro z
        unfold copyB fromB at z
        simp only [Bool.and_eq_true, decide_eq_true_eq] at z
        exact hh z.2
      rcases h7 with e | e | e | e | e | e | e <;> rw [e]
      · exact ixA_list e3 atI_0 (q t0 _ _ _ _ S0 e_t0 (no1 _ _ _ (by omega)))
      · exact ixA_list e3 atI_1 (q t1 _ _ _ _ S0 e_t1 (no1 _ _ _ (by omega)))
      · exact ixA_list e3 atI_2 (q t2 _ _ _ _ S0 e_t2 (no1 _ _ _ (by omega)))
      · exact ixA_list e3 atI_3 (q t3 _ _ _ _ S0 e_t3 (no2 _ _ _ (by omega)))
      · exact ixA_list e3 atI_4 (q t4 _ _ _ _ S0 e_t4 (no2 _ _ _ (by omega)))
      · exact ixA_list e3 atI_5 (q t5 _ _ _ _ S0 e_t5 (no3 _ _ _ (by omega)))
      · exact ixA_list e3 (atI_n (i := 6) rfl) (q t6 _ _ _ _ S0 e_t6 (no3 _ _ _ (by omega)))
    · exact h.elim
theorem paired_set {α β : Type} {R : α → β → Prop} : ∀ (j : Nat) {xs : List α} {ys : List β} {x : α} {y : β}, Paired R xs ys → R x y → Paired R (xs.set j x) (ys.set j y)
  | _, _, _, _, _, .nil, _ => .nil
  | 0, _, _, _, _, .cons _ rr, h => .cons h rr
  | j + 1, _, _, _, _, .cons r rr, h => .cons r (paired_set j rr h)
theorem ok__law_bad_deed (T : Txt K mg C_Road C_RoadError C_BadRoad C_BadPair)  : FnAt P w K mg base (CX1 P w) "_law_bad_deed" 2 ["_law_cell", "_law_deed_here", "_law_lag"] sp__law_bad_deed := by
  refine T.d__law_bad_deed.fn sc__law_bad_deed bd__law_bad_deed (fun vs H Q E h => ?_) fun f cdv A outer s H vs Q E HR h => ?_
  · unfold sp__law_bad_deed at h; split at h <;> first | rfl | exact h.elim
  · unfold sp__law_bad_deed at h
    split at h
    · rename_i c x lag
      refine ⟨_, (pss_cons (ps_if (pt_cmpR (op_eqXK K rfl HR.units) (pe_op op_mod (pv 0) pe_int) pe_int (nomark _)) (pss_one (ps_ret (pe_op (op_addK K rfl) (pv 1) (pe_op op_rep (pe_lst (pa_q (pe_tup (pa_q pe_int (pa_q pe_int (pa_q pe_int pa_nil)))) pa_nil)) (pe_op op_sub (pe_op (op_addK K rfl) pe_int (pe_op op_mod (pe_op op_fdiv (pv 0) pe_int) pe_int)) (pe_callBQ (call_lenK K rfl) (by rfl) T.b_len bt_len (pa_q (pv 1) pa_nil))))))) pss_nil)
  (pss_hold (pss_cons (ps_setQ (i := 3) sc__law_bad_deed.nd rfl (Or.inl rfl) (pe_callTyQ (call_listK K rfl) (by rfl) T.b_list bt_list (pa_q (pv 1) pa_nil)))
  (pss_cons (ps_asgQ (pe_fnQ (ok__law_bad_copy T) HR (by decide) rfl (pa_q (pe_op op_fdiv (pv 0) pe_int) (pa_q (pv 2) pa_nil))) (pg_subQ (pv 3) (pe_op op_mod (pe_op op_fdiv (pv 0) pe_int) (pe_callBQ (call_lenK K rfl) (by rfl) T.b_len bt_len (pa_q (pv 1) pa_nil))) set_A))
  (pss_hold (pss_one (ps_ret (pv 3)))))))), ?_⟩
      obtain ⟨ds, hD, ⟨l1, l3⟩, ⟨h1, h2⟩, q⟩ := h
      have hD' := hD
      obtain ⟨cs, d1, d2, d3⟩ := hD'
      have ld := paired_len d2
      generalize h_u1 : tHold _ = u1
      walk_at "wps"
      split
      · intro p1 np1 p2 np2
        have S1 : Same H (upd (upd H p1 (.tup [V.int 1, V.int 0, V.int 0])) p2 (.lst [V.ref p1])) := (same_upd np1).trans (same_upd np2)
        have hp2 := upd_same (H := upd H p1 (.tup [V.int 1, V.int 0, V.int 0])) (a := p2) (o := .lst [V.ref p1])
        have hp1 : CopyT (upd (upd H p1 (.tup [V.int 1, V.int 0, V.int 0])) p2 (.lst [V.ref p1])) p1 1 0 0 := upd_old upd_same np2
        generalize upd (upd H p1 (.tup [V.int 1, V.int 0, V.int 0])) p2 (.lst [V.ref p1]) = H1 at *
        refine ⟨_, .inl (SqL.of (S1 _ _ d1)), ?_⟩
        rw [List.length_map, ld]
        have m3 : 0 ≤ c / 4 % 3 ∧ c / 4 % 3 < 3 := by omega
        generalize c / 4 % 3 = k3 at *
        have fl : ∀ k : Nat, (List.replicate k [V.ref p1]).flatten = (List.replicate k p1).map V.ref := fun k => by
          induction k with
          | zero => rfl
          | succ k ih => rw [List.replicate_succ, List.flatten_cons, ih, List.replicate_succ]; rfl
        have pr : ∀ (Hx : Hp) (k : Nat), CopyT Hx p1 1 0 0 → Paired (fun c (d : Cp) => CopyT Hx c d.1 d.2.1 d.2.2) (List.replicate k p1) (List.replicate k (1, 0, 0)) := fun Hx k hx => by
          induction k with
          | zero => exact .nil
          | succ k ih => exact .cons hx ih
        obtain ⟨kk, hkk⟩ : ∃ kk : Nat, 4 + k3 - (ds.length : Int) = (kk : Int) := ⟨(4 + k3 - (ds.length : Int)).toNat, by omega⟩
        rw [hkk]
        refine ⟨p2, kk, [.ref p1], rfl, rfl, hp2, by omega, by omega, small_ok (by simp; omega), fun p3 np3 => ?_⟩
        rw [Int.toNat_natCast, fl]
        refine addA_lists (upd_old (S1 _ _ d1) np3) upd_same (small_ok (by rw [List.length_map, List.length_map, List.length_replicate]; omega)) fun p4 np4 => ?_
        have S4 : Same H1 (upd (upd H1 p3 (.lst ((List.replicate kk p1).map V.ref))) p4 (.lst (cs.map V.ref ++ (List.replicate kk p1).map V.ref))) := (same_upd np3).trans (same_upd np4)
        refine q p4 (ds ++ List.replicate kk (1, 0, 0)) _ (S1.trans S4) (none_of S1 (fresh_old np4)) ⟨cs ++ List.replicate kk p1, by rw [upd_same, List.map_append], paired_app (paired_imp d2 fun _ _ u => S4 _ _ (S1 _ _ u)) (pr _ kk (S4 _ _ hp1)), by rw [List.length_append, List.length_replicate]; omega⟩ ?_
        unfold deedB
        rw [decide_eq_false (by rw [List.length_append, List.length_replicate]; omega), Bool.false_and]
      rw [← h_u1, tHold]
      generalize h_u2 : tHold _ = u2
      walk_at "wps"
      refine ⟨_, .inl (SqL.of d1), fun l nl => ⟨⟨h1, h2⟩, fun pn d pl rn H2 s2 hC hb => ?_⟩⟩
      have hl2 := s2 _ _ (upd_same (H := H) (a := l) (o := .lst (cs.map V.ref)))
      have S := (same_upd (H := H) (o := .lst (cs.map V.ref)) nl).trans s2
      refine ⟨_, .inl (SqL.of (S _ _ d1)), ?_⟩
      rw [List.length_map, ld]
      have m0 := Int.emod_nonneg (c / 4) (show ((ds.length : Nat) : Int) ≠ 0 by omega)
      have m1 := Int.emod_lt_of_pos (c / 4) (show (0 : Int) < ((ds.length : Nat) : Int) by omega)
      obtain ⟨j, hj⟩ : ∃ j : Nat, c / 4 % (ds.length : Int) = (j : Int) := ⟨(c / 4 % (ds.length : Int)).toNat, by omega⟩
      rw [hj] at m1 ⊢
      refine ⟨by omega, _, j, hl2, by rw [List.length_map, ld]; exact ixN_in (by omega), ?_⟩
      rw [← h_u2, tHold]
      walk_at "wps"
      refine q l (ds.set j (d, pl, rn)) _ (same_write S nl) nl ⟨cs.set j pn, by rw [upd_same, List.map_set], ?_, by rw [List.length_set]; exact d3⟩ ?_
      · refine paired_imp (paired_set j (paired_imp d2 fun a b u => S _ _ u) hC (R := fun c (d : Cp) => CopyT H2 c d.1 d.2.1 d.2.2) (y := (d, pl, rn))) fun a b u => ?_
        have na : a ≠ l := fun z => by unfold CopyT at u; rw [z, hl2] at u; cases u
        unfold CopyT at u ⊢
        rw [upd_ne na]
        exact u
      · unfold deedB
        rw [Bool.and_eq_false_iff]
        right
        rw [List.all_eq_false]
        exact ⟨(d, pl, rn), List.mem_iff_getElem?.mpr ⟨j, by rw [List.getElem?_set_self (by omega)]⟩, by rw [hb]; decide⟩
    · exact h.elim
theorem ok__law_bad_lag (T : Txt K mg C_Road C_RoadError C_BadRoad C_BadPair)  : FnAt P w K mg base (CX1 P w) "_law_bad_lag" 1 ["_law_cell"] sp__law_bad_lag := by
  refine T.d__law_bad_lag.fn sc__law_bad_lag bd__law_bad_lag (fun vs H Q E h => ?_) fun f cdv A outer s H vs Q E HR h => ?_
  · unfold sp__law_bad_lag at h; split at h <;> first | rfl | exact h.elim
  · unfold sp__law_bad_lag at h
    split at h
    · rename_i c
      refine ⟨_, (QSs.h (qss_one ⟨(ps_ret (pe_ix (ix_K K rfl) (pe_lst (pa_q pe_int (pa_q pe_int (pa_q (pe_op op_sub pe_int (pe_op op_mod (pe_op op_fdiv (pv 0) pe_int) pe_int)) (pa_q (pe_op (op_addK K rfl) pe_int (pe_op op_mod (pe_op op_fdiv (pv 0) pe_int) pe_int)) pa_nil))))) (pe_op op_mod (pv 0) pe_int) (fun _ _ => rfl)))⟩)), ?_⟩
      walk_at "wps"
      intro p np
      have s1 := same_upd (H := H) (o := .lst [V.int 0, V.int 61, V.int (0 - c / 4 % 1000), V.int (61 + c / 4 % 1000)]) np
      have h4 : c % 4 = 0 ∨ c % 4 = 1 ∨ c % 4 = 2 ∨ c % 4 = 3 := by omega
      rcases h4 with e | e | e | e <;> rw [e]
      · exact ixA_list (SqL.of upd_same) atI_0 (h _ _ s1 (by decide))
      · exact ixA_list (SqL.of upd_same) atI_1 (h _ _ s1 (by decide))
      · exact ixA_list (SqL.of upd_same) atI_2 (h _ _ s1 (by unfold fromB; rw [decide_eq_false (by omega), Bool.false_and]))
      · exact ixA_list (SqL.of upd_same) atI_3 (h _ _ s1 (by unfold fromB; rw [decide_eq_false (show ¬ 61 + c / 4 % 1000 ≤ 60 by omega), Bool.and_false]))
    · exact h.elim
theorem ok__law_refused (T : Txt K mg C_Road C_RoadError C_BadRoad C_BadPair)  : FnAt P w K mg base (CX1 P w) "_law_refused" 7 ["_law_deeds", "_law_lag", "_law_at"] sp__law_refused := by
  refine T.d__law_refused.fn sc__law_refused bd__law_refused (fun vs H Q E h => ?_) fun f cdv A outer s H vs Q E HR h => ?_
  · unfold sp__law_refused at h; split at h <;> first | rfl | exact h.elim
  · unfold sp__law_refused at h
    split at h
    · rename_i x lag v
      refine ⟨_, (pss_cons (ps_setc (i := 3) (N := (["_law_deed_here"] : List Str)) (nv := 1) (ix := []) rfl sc__law_refused.nd rfl rfl (cs_of (by kernel_rfl)) (pi_seqK K rfl (pv 0)) (fun _ _ _ _ _ => (pg_name (i := 0) (show ((["_law_deed_here"] : List Str)).Nodup by decide) rfl (Or.inl rfl))) (fun _ _ _ _ _ => pts_nil) (fun _ _ _ _ _ => (pe_callTyQ (call_listK K rfl) (by rfl) T.b_list bt_list (pa_q (pv 0) pa_nil))))
  (pss_hold (pss_cons (ps_setQ (i := 4) sc__law_refused.nd rfl (Or.inl rfl) pe_bl)
  (pss_cons (ps_setQ (i := 5) sc__law_refused.nd rfl (Or.inl rfl) pe_int)
  (pss_hold (pss_cons (ps_try (fun _ _ _ => (pss_one (ps_exprQ (pe_mkS T.k_Road (ok_Road___init__ T) HR (by decide) rfl (pass_try rfl) (pa_q (pv 3) (pa_q (pv 1) pa_nil)))))) (ph_cons (i := 6) rfl T.xm_BadRoad rfl sc__law_refused.nd rfl rfl (fun _ => (pss_cons (ps_setQ (i := 4) sc__law_refused.nd rfl (Or.inl rfl) (pe_and (pe_callBQ (call_isiX K rfl) (by rfl) T.b_isinstance bt_isinstance (pa_q (pv 6) (pa_q (pe_cls T.xm_RoadError rfl) pa_nil))) (pe_and (pe_callBQ (call_isiX K rfl) (by rfl) T.b_isinstance bt_isinstance (pa_q (pv 6) (pa_q (pe_ty rfl T.b_ValueError bt_ValueError) pa_nil))) (pe_one (pe_not (pe_callBQ (call_isiX K rfl) (by rfl) T.b_isinstance bt_isinstance (pa_q (pv 6) (pa_q (pe_cls T.xm_BadPair rfl) pa_nil))))))))
  (pss_one (ps_setQ (i := 5) sc__law_refused.nd rfl (Or.inl rfl) (pe_getX (pv 6) T.g_BadRoad T.xf_BadRoad_at rfl))))) ph_nil))
  (pss_hold (pss_cons (ps_if (pt_cmpR op_isNA (pv 2) pe_non (nomark _)) (pss_one (ps_ret (pe_and (pv 4) (pe_and (pe_cmpR op_isNA (pv 5) pe_non (nomark _)) (pe_one (pe_cmpR (op_eqXK K rfl HR.units) (pv 3) (pv 0) (nomark _))))))) pss_nil)
  (pss_hold (pss_one (ps_ret (pe_and (pv 4) (pe_and (pe_fnQ (ok__law_whole T) HR (by decide) rfl (pa_q (pv 5) pa_nil)) (pe_and (pe_cmpR (op_eqXK K rfl HR.units) (pv 5) (pv 2) (nomark _)) (pe_one (pe_cmpR (op_eqXK K rfl HR.units) (pv 3) (pv 0) (nomark _))))))))))))))))), ?_⟩
      obtain ⟨dss, hR, hb, q⟩ := h
      have hR' := hR
      obtain ⟨xs2, x1, x2, x3⟩ := hR'
      have lx2 := paired_len x2
      generalize h_u1 : tHold _ = u1
      walk_at "wps"
      refine co_listH (SqL.of x1) (small_ok (by rw [List.length_map, lx2]; exact x3)) (fun i ys σ H' => Same H H' ∧ ∃ zs : List Addr, ys = zs.map V.ref ∧ Paired (fun x ds => H x = none ∧ DeedT H' x ds) zs (dss.take i) ∧ ∃ v, σ = [v]) ⟨Same.refl _, [], rfl, .nil, none, rfl⟩ (fun i ys σ H' hh => ?_) (fun i ys σ H' hh => SqL.of (hh.1 _ _ x1)) (fun i y ys σ H' hy hh => ?_) (fun ys σ H' hh => ?_)
      · obtain ⟨_, zs, e, p, _⟩ := hh
        rw [e, List.length_map, paired_len p]
        exact List.length_take_le _ _
      · obtain ⟨sm, zs, e, p, v, eσ⟩ := hh
        subst eσ e
        rw [List.getElem?_map] at hy
        obtain ⟨y, ey, rfl⟩ := Option.map_eq_some_iff.mp hy
        obtain ⟨ds, eds, hD⟩ := paired_get x2 ey
        obtain ⟨cs, d1, d2, d3⟩ := hD.same sm
        walk_at "wps"
        refine ⟨_, .inl (SqL.of d1), fun l nl => ⟨sm.trans (same_upd nl), zs ++ [l], by simp, ?_⟩⟩
        rw [List.take_add_one, eds]
        refine ⟨?_, _, rfl⟩
        exact paired_snoc (R := fun x ds => H x = none ∧ DeedT (upd H' l (.lst (cs.map V.ref))) x ds) (y := ds) (paired_imp p fun a b q => ⟨q.1, q.2.same (same_upd nl)⟩) ⟨none_of sm nl, cs, upd_same, paired_imp d2 (fun c d q => upd_old q nl), d3⟩
      obtain ⟨sm, zs, e, p, v0, eσ⟩ := hh
      subst eσ e
      rw [List.length_map, lx2, List.take_length] at p
      have lz := paired_len p
      refine ⟨small_ok (by rw [List.length_map, lz]; omega), fun ph nph => ?_⟩
      have S1 : Same H (upd H' ph (.lst (zs.map V.ref))) := sm.trans (same_upd nph)
      have RH : RowT (upd H' ph (.lst (zs.map V.ref))) ph dss := ⟨zs, upd_same, paired_imp p fun a b r => r.2.same (same_upd nph), x3⟩
      have R1 := hR.same S1
      generalize upd H' ph (.lst (zs.map V.ref)) = H1 at *
      clear p sm nph x1 x2
      rw [← h_u1, tHold]
      generalize h_u2 : tHold _ = u2
      walk_at "wps"
      refine gen_ends fun DD eDD => ?_
      rw [← h_u2, tHold]
      generalize h_u3 : tHold _ = u3
      have fin : ∀ H2, Same H1 H2 → u3 DD [some (V.ref x), some (V.int lag), some v, some (V.ref ph), some (V.bl true), some v, none] H2 := by
        intro H2 s2
        have eq : ∀ R : VK, R (.bl true) H2 → rEqX K false (V.ref ph) (V.ref x) H2 R := fun R r => ⟨3, _, _, by decide, (RH.same s2).dn, (R1.same s2).dn, .inl ⟨rfl, r⟩⟩
        rw [← h_u3, tHold]
        generalize h_u4 : tHold _ = u4
        rcases hb with ⟨rfl, hh⟩ | ⟨i, ds, rfl, f1, f2, f3, f4, f5⟩
        · walk_at "wps"
          refine eq _ ?_
          rw [eDD]
          exact q _ (S1.trans s2)
        · walk_at "wps"
          rw [← h_u4, tHold]
          walk_at "wps"
          refine eq _ ?_
          rw [eDD]
          exact q _ (S1.trans s2)
      exists T.g_BadRoad, T.xf_BadRoad_at, T.qv_BadRoad, T.q_BadRoad_RoadError, T.m_BadRoad_RoadError, T.q_BadRoad_BadRoad, T.m_BadRoad_BadRoad, T.q_BadRoad_BadPair, T.m_BadRoad_BadPair, T.g_BadPair, T.qv_BadPair, T.q_BadPair_RoadError, T.m_BadPair_RoadError, T.q_BadPair_BadRoad, T.m_BadPair_BadRoad, T.q_BadPair_BadPair, T.m_BadPair_BadPair
      intro r dx nr ndx ner
      have s2 := same_new (C := C_Road) (fs := []) nr ndx
      refine ⟨dss, dx, RH.same s2, rfl, fun a1 a2 a3 => ?_, fun hh H2 d Sx hd ea hea => ?_, fun g1 g2 i ds e1 e2 e3 H2 d Sx hd ea hea => ?_⟩
      · exfalso
        rcases hb with ⟨_, hh⟩ | ⟨i, ds, _, f1, f2, f3, f4, f5⟩
        · rcases hh with hh | hh
          · rw [a1] at hh; cases hh
          · omega
        · rw [a3 ds (List.mem_of_getElem? f3)] at f4; cases f4
      · have hd1 : upd H2 ea (.ext (exF ea (.ref C_BadRoad) (some d))) d = some (.xd [("at", .non)]) := upd_old hd hea
        have ev : v = .non := by
          rcases hb with ⟨e, _⟩ | ⟨i, ds, _, f1, f2, f3, f4, f5⟩
          · exact e
          · rcases hh with hh | hh
            · rw [f1] at hh; cases hh
            · omega
        have f := fin _ ((s2.trans Sx).trans (same_upd (o := .ext (exF ea (.ref C_BadRoad) (some d))) hea))
        rw [ev] at f ⊢
        exact ⟨⟨_, hd1⟩, ⟨_, hd1⟩, ⟨_, hd1⟩, _, hd1, .non, by kernel_rfl, f⟩
      · have hd1 : upd H2 ea (.ext (exF ea (.ref C_BadRoad) (some d))) d = some (.xd [("at", .int i)]) := upd_old hd hea
        have ev : v = .int i := by
          rcases hb with ⟨_, hh⟩ | ⟨i', ds', e, f1, f2, f3, f4, f5⟩
          · rcases hh with hh | hh
            · rw [g1] at hh; cases hh
            · omega
          · have : i' = i := by
              rcases Nat.lt_trichotomy i i' with z | z | z
              · rw [f5 i z ds e1] at e2; cases e2
              · exact z.symm
              · rw [e3 i' z ds' f3] at f4; cases f4
            rw [e, this]
        have f := fin _ ((s2.trans Sx).trans (same_upd (o := .ext (exF ea (.ref C_BadRoad) (some d))) hea))
        rw [ev] at f ⊢
        exact ⟨⟨_, hd1⟩, ⟨_, hd1⟩, ⟨_, hd1⟩, _, hd1, .int i, by kernel_rfl, f⟩
    · exact h.elim
theorem ok__law_goes (T : Txt K mg C_Road C_RoadError C_BadRoad C_BadPair)  : FnAt P w K mg base (CX1 P w) "_law_goes" 7 ["_law_deeds", "_law_lag"] sp__law_goes := by
  refine T.d__law_goes.fn sc__law_goes bd__law_goes (fun vs H Q E h => ?_) fun f cdv A outer s H vs Q E HR h => ?_
  · unfold sp__law_goes at h; split at h <;> first | rfl | exact h.elim
  · unfold sp__law_goes at h
    split at h
    · rename_i x lag
      refine ⟨_, (pss_cons (ps_setQ (i := 2) sc__law_goes.nd rfl (Or.inl rfl) (pe_mkC T.k_Road (ok_Road___init__ T) HR (by decide) rfl (pa_q (pv 0) (pa_q (pv 1) pa_nil))))
  (pss_hold (pss_cons (ps_asgQ (pe_ix (ix_K K rfl) (pe_ix (ix_K K rfl) (pv 0) pe_int (fun _ _ => rfl)) pe_int (fun _ _ => rfl)) (pg_tupX K (n := 3) rfl rfl (pgs_q (pg_name (i := 3) sc__law_goes.nd rfl (Or.inl rfl)) (pgs_q (pg_name (i := 4) sc__law_goes.nd rfl (Or.inl rfl)) (pgs_q (pg_name (i := 5) sc__law_goes.nd rfl (Or.inl rfl)) pgs_nil)))))
  (pss_hold (pss_cons (ps_if (PW.pt (pw_or (pt_cmpR (op_neXK K rfl HR.units) (pe_mtC (pv 2) T.k_Road (ok_Road_send T) HR (by decide) (pa_q pe_int (pa_q pe_int pa_nil))) pe_int (nomark _)) (pw_or1 (pt_cmpR (op_neXK K rfl HR.units) (pe_mtC0 (pv 2) T.k_Road (ok_Road_under_way T) HR (by decide)) (pe_callBQ (call_lenK K rfl) (by rfl) T.b_len bt_len (pa_q (pe_ix (ix_K K rfl) (pv 0) pe_int (fun _ _ => rfl)) pa_nil)) (nomark _))))) (pss_one (ps_ret pe_bl)) pss_nil)
  (pss_hold (pss_one (ps_ret (pe_cmpR (op_inXK K rfl HR.units) (pe_tup (pa_q pe_int (pa_q (pe_op op_xor pe_int (pe_op op_shlA (pv 5) (pv 4))) pa_nil))) (pe_mtC (pv 2) T.k_Road (ok_Road_come T) HR (by decide) (pa_q (pe_op (op_addK K rfl) pe_int (pv 3)) pa_nil)) (nomarkQ rfl)))))))))), ?_⟩
      obtain ⟨dss, d0, dr, hR, flag, hl, hB, h0, q⟩ := h
      generalize h_u1 : tHold _ = u1
      walk_at "wps"
      intro r dx nr ndx ner
      have s1 := same_new (C := C_Road) (fs := []) nr ndx
      refine ⟨dss, dx, hR.same s1, rfl, fun _ _ _ H1 pd pc B1 RN1 npc RA1 => ?_, fun hh => ?_, fun _ _ i ds hh hf => ?_⟩
      rotate_left
      · rcases hh with hh | hh
        · rw [flag] at hh; cases hh
        · omega
      · rw [hB ds (List.mem_of_getElem? hh)] at hf; cases hf
      have S1 : Same H H1 := fun b o e => B1 b o (s1 b o e) (ne_of_none e nr)
      have R1 := hR.same S1
      have npcH : H pc = none := none_of s1 npc
      clear B1 RN1 npc s1
      have R0 := hR
      obtain ⟨xs, y1, y2, y3⟩ := R0
      have x1 := S1 _ _ y1
      have x2 : Paired (DeedT H1) xs dss := paired_imp y2 fun _ _ u => u.same S1
      cases x2 with
      | nil => simp at h0
      | @cons y ds yr dsr hD hDr =>
      have ed : ds = d0 :: dr := by simpa using h0
      subst ed
      have hDH : DeedT H y (d0 :: dr) := by cases y2 with | cons u _ => exact u
      have hD' := hD
      obtain ⟨cs, c1, c2, c3⟩ := hD'
      cases c2 with
      | @cons c dd cr ddr hc hcr =>
      have hc' : H1 c = some (.tup [.int d0.1, .int d0.2.1, .int d0.2.2]) := hc
      rw [← h_u1, tHold]
      generalize h_u2 : tHold _ = u2
      walk_at "wps"
      refine ixA_list (SqL.of x1) (v := .ref y) atI_0 ?_
      refine ixA_list (SqL.of c1) (v := .ref c) atI_0 ?_
      exists hc'
      have hB60 : ∀ ds ∈ (d0 :: dr) :: dsr, deedB 60 ds = true := fun ds h => deedB_up (by unfold fromB at flag; simp only [Bool.and_eq_true, decide_eq_true_eq] at flag; exact flag.2) (hB ds h)
      have eD : deedOf ((d0 :: dr) :: dsr) 0 = d0 :: dr := by
        unfold deedOf
        rw [if_neg (by simp), Int.zero_emod]
        rfl
      have ok0 := deedOf_ok (n := 0) hB60
      have ln0 := deedOf_len (n := 0) hB60
      have hd0 := ok0 d0 (by rw [eD]; exact .head _)
      unfold copyB fromB at hd0
      simp only [Bool.and_eq_true, decide_eq_true_eq] at hd0
      rw [← h_u2, tHold]
      generalize h_u3 : tHold _ = u3
      exists RA1.hr
      refine ⟨dx, pd, pc, _, 0, [], RA1, ok0, ln0, by simp, fun H2 F2 RA2 => ?_⟩
      rw [if_neg (by simp)]
      have S2 : Same H H2 := fun b o e => F2 b o (S1 b o e) (ne_of_none e nr) (ne_of_none e npcH)
      rw [eD, List.nil_append] at RA2
      have lnM : (newM 5 0 9 (d0 :: dr)).length = (d0 :: dr).length := by unfold newM; rw [List.length_mapIdx]
      rw [eD] at ln0
      exists RA2.hr
      refine ⟨dx, pd, pc, _, _, _, RA2, ?_⟩
      refine ixA_list (SqL.of (S2 _ _ y1)) (v := .ref y) atI_0 ?_
      have hD2 := hDH.same S2
      obtain ⟨cs2, k1, k2, k3⟩ := hD2
      walk_at "wps"
      refine ⟨_, .inl (SqL.of k1), ?_⟩
      rw [List.length_map, paired_len k2, lnM]
      walk_at "wps"
      rw [← h_u3, tHold]
      exists RA2.hr
      refine ⟨cshl (by omega) (by omega) (by omega) (by omega), fun pt npt => ?_⟩
      have s3 := same_upd (H := H2) (o := .tup [V.int 0, V.int (Builtin.bitXor 9 (d0.2.2 * 2 ^ d0.2.1.toNat))]) npt
      have ht3 := upd_same (H := H2) (a := pt) (o := .tup [V.int 0, V.int (Builtin.bitXor 9 (d0.2.2 * 2 ^ d0.2.1.toNat))])
      have RA3 := RA2.same s3
      generalize upd H2 pt (.tup [V.int 0, V.int (Builtin.bitXor 9 (d0.2.2 * 2 ^ d0.2.1.toNat))]) = H3 at *
      exists RA3.hr
      refine ⟨dx, pd, pc, _, _, _, RA3, by rw [lnM]; omega, Nat.lt_of_le_of_lt (List.length_filter_le _ _) (by rw [lnM]; omega), fun H4 pc' p5 ms' B4 npc' RA4 O4 np5 P5 => ?_⟩
      have ht4 := B4 _ _ ht3 (fun z => by rw [z, RA3.hr] at ht3; cases ht3)
      have S4 : Same H H4 := fun b o e => B4 b o (s3 _ _ (S2 b o e)) (ne_of_none e nr)
      obtain ⟨cs5, p1, p2⟩ := P5
      refine ⟨1, Dt.t [.int 0, .int (Builtin.bitXor 9 (d0.2.2 * 2 ^ d0.2.1.toNat))], cs5, _, by decide, dn_tup ht4 (.cons dn_int (.cons dn_int .nil)), SqL.of p1, prs_dn p2, fun b hb => ?_⟩
      have hm0 : oneM 5 0 9 0 d0 ∈ newM 5 0 9 (d0 :: dr) := by
        unfold newM
        exact List.mem_mapIdx.mpr ⟨0, by simp, rfl⟩
      have hm1 : oneM 5 0 9 0 d0 ∈ ms' := O4.1.mem_iff.mpr (List.mem_filter.mpr ⟨hm0, decide_eq_true (show 5 + d0.1 ≤ 5 + d0.1 from Int.le_refl _)⟩)
      have : b = true := hb.mpr (List.mem_map.mpr ⟨(0, Builtin.bitXor 9 (d0.2.2 * 2 ^ d0.2.1.toNat)), List.mem_map.mpr ⟨_, hm1, rfl⟩, rfl⟩)
      rw [this]
      exact q _ S4
    · exact h.elim
theorem RowX.setD {H : Hp} {pb p : Addr} {dss : List (List Cp)} {ds : List Cp} {l : List V} {j : Nat} (h : RowX H pb pb dss) (hp : H pb = some (.lst l)) (np : p ≠ pb) (hD : DeedT H p ds) : RowX (upd H pb (.lst (l.set j (.ref p)))) pb pb (dss.set j ds) := by
  obtain ⟨xs, h1, h2, h3⟩ := h
  rw [hp] at h1
  cases h1
  refine ⟨xs.set j p, by rw [upd_same, List.map_set], paired_imp (paired_set j h2 (R := fun x ds => x ≠ pb ∧ DeedT H x ds) ⟨np, hD⟩) fun x d u => ⟨u.1, ?_⟩, by rw [List.length_set]; exact h3⟩
  obtain ⟨cs, c1, c2, c3⟩ := u.2
  refine ⟨cs, by rw [upd_ne u.1]; exact c1, paired_imp c2 fun c d v => ?_, c3⟩
  have nc : c ≠ pb := fun z => by unfold CopyT at v; rw [z, hp] at v; cases v
  unfold CopyT at v ⊢
  rw [upd_ne nc]
  exact v
theorem ok_law (T : Txt K mg C_Road C_RoadError C_BadRoad C_BadPair) : FnAt P w K mg base CX0 "law" 8 ["_law_script"] (spLaw K) := by
  refine T.d_law.fn sc_law bd_law (fun vs H Q E h => ?_) fun f cdv A outer s H vs Q E HR h => ?_
  · unfold spLaw at h; split at h <;> first | rfl | exact h.elim
  · unfold spLaw at h
    split at h
    · rename_i a
      obtain ⟨ns, hS, hl, _, q⟩ := h
      refine ⟨_, (pss_cons (ps_setQ (i := 1) sc_law.nd rfl (Or.inr rfl) (pe_op (op_addK K rfl) pe_int (pe_op op_mod (pe_fnQ (ok__law_cell_at T a ns) HR (by decide) rfl (pa_q (pv 0) (pa_q pe_int pa_nil))) pe_int)))
  (pss_cons (ps_setQ (i := 2) sc_law.nd rfl (Or.inl rfl) (pe_op (op_addK K rfl) pe_int (pe_op op_mod (pe_fnQ (ok__law_cell_at T a ns) HR (by decide) rfl (pa_q (pv 0) (pa_q pe_int pa_nil))) pe_int)))
  (pss_cons (ps_setQ (i := 3) sc_law.nd rfl (Or.inr rfl) (pe_fnQ (ok__law_cell_at T a ns) HR (by decide) rfl (pa_q (pv 0) (pa_q pe_int pa_nil))))
  (pss_hold (pss_cons (ps_setc (i := 4) (N := (["_law_k", "_law_seed", "_law_lag"] : List Str)) (nv := 1) (ix := [3, 1]) rfl sc_law.nd rfl rfl (cs_of (by kernel_rfl)) (pj_range1 rfl T.b_range (pa_q (pv 2) pa_nil)) (fun _ _ _ _ _ => (pg_name (i := 0) (show ((["_law_k", "_law_seed", "_law_lag"] : List Str)).Nodup by decide) rfl (Or.inl rfl))) (fun _ _ _ _ _ => pts_nil) (fun _ _ _ _ _ => (pe_fnQ (ok__law_deed T) HR (by decide) rfl (pa_q (pv 1) (pa_q (pv 0) (pa_q (pv 2) pa_nil))))))
  (pss_hold (pss_cons (ps_setQ (i := 5) sc_law.nd rfl (Or.inl rfl) (pe_op op_mod (pe_fnQ (ok__law_cell_at T a ns) HR (by decide) rfl (pa_q (pv 0) (pa_q pe_int pa_nil))) pe_int))
  (pss_cons (ps_setQ (i := 6) sc_law.nd rfl (Or.inl rfl) (pe_fnQ (ok__law_cell_at T a ns) HR (by decide) rfl (pa_q (pv 0) (pa_q pe_int pa_nil))))
  (pss_cons (ps_setQ (i := 7) sc_law.nd rfl (Or.inl rfl) (pe_op op_mod (pe_fnQ (ok__law_cell_at T a ns) HR (by decide) rfl (pa_q (pv 0) (pa_q pe_int pa_nil))) (pv 2)))
  (pss_hold (pss_cons (ps_setQ (i := 8) sc_law.nd rfl (Or.inl rfl) (pe_callTyQ (call_listK K rfl) (by rfl) T.b_list bt_list (pa_q (pv 4) pa_nil)))
  (pss_hold (pss_cons (ps_asgQ (pe_fnQ (ok__law_bad_deed T) HR (by decide) rfl (pa_q (pv 6) (pa_q (pe_ix (ix_K K rfl) (pv 4) (pv 7) (fun _ _ => rfl)) (pa_q (pv 1) pa_nil)))) (pg_subQ (pv 8) (pv 7) set_A))
  (pss_hold (pss_cons (ps_setQ (i := 9) sc_law.nd rfl (Or.inl rfl) (pe_op (op_addK K rfl) (pv 7) (pe_op op_mod (pe_fnQ (ok__law_cell_at T a ns) HR (by decide) rfl (pa_q (pv 0) (pa_q pe_int pa_nil))) (pe_op op_sub (pv 2) (pv 7)))))
  (pss_hold (pss_mid (ps_if (pt_cmpR op_gt (pv 9) (pv 7) (nomark _)) (pss_one (ps_asgQ (pe_fnQ (ok__law_bad_deed T) HR (by decide) rfl (pa_q (pe_op op_fdiv (pv 6) pe_int) (pa_q (pe_ix (ix_K K rfl) (pv 4) (pv 9) (fun _ _ => rfl)) (pa_q (pv 1) pa_nil)))) (pg_subQ (pv 8) (pv 9) set_A))) pss_nil)
  (pss_hold (pss_cons (ps_setQ (i := 10) sc_law.nd rfl (Or.inl rfl) pe_bl)
  (pss_hold (pss_mid (ps_if (PW.pt (pw_or (pt_cmpR (op_eqXK K rfl HR.units) (pv 5) pe_int (nomark _)) (pw_or1 (pt_cmpR (op_eqXK K rfl HR.units) (pv 5) pe_int (nomark _))))) (pss_one (ps_setQ (i := 10) sc_law.nd rfl (Or.inl rfl) (pe_and (pe_fnQ (ok__law_refused T) HR (by decide) rfl (pa_q (pv 8) (pa_q (pe_fnQ (ok__law_bad_lag T) HR (by decide) rfl (pa_q (pv 6) pa_nil)) (pa_q pe_non pa_nil)))) (pe_one (pe_fnQ (ok__law_refused T) HR (by decide) rfl (pa_q (pv 4) (pa_q (pe_fnQ (ok__law_bad_lag T) HR (by decide) rfl (pa_q (pv 6) pa_nil)) (pa_q pe_non pa_nil)))))))) pss_nil)
  (pss_hold (pss_mid (ps_if (pt_cmpR (op_eqXK K rfl HR.units) (pv 5) pe_int (nomark _)) (pss_cons (ps_setc (i := 11) (N := (["_law_k", "_law_seed", "_law_lag"] : List Str)) (nv := 1) (ix := [3, 1]) rfl sc_law.nd rfl rfl (cs_of (by kernel_rfl)) (pj_range2 rfl T.b_range (pa_q (pv 2) (pa_q (pe_op (op_addK K rfl) pe_int (pe_op op_mod (pv 6) pe_int)) pa_nil))) (fun _ _ _ _ _ => (pg_name (i := 0) (show ((["_law_k", "_law_seed", "_law_lag"] : List Str)).Nodup by decide) rfl (Or.inl rfl))) (fun _ _ _ _ _ => pts_nil) (fun _ _ _ _ _ => (pe_fnQ (ok__law_deed T) HR (by decide) rfl (pa_q (pv 1) (pa_q (pv 0) (pa_q (pv 2) pa_nil))))))
  (pss_one (ps_setQ (i := 10) sc_law.nd rfl (Or.inl rfl) (pe_and (pe_fnQ (ok__law_refused T) HR (by decide) rfl (pa_q (pe_op (op_addK K rfl) (pv 8) (pv 11)) (pa_q (pv 1) (pa_q pe_non pa_nil)))) (pe_one (pe_fnQ (ok__law_refused T) HR (by decide) rfl (pa_q (pe_op (op_addK K rfl) (pv 4) (pv 11)) (pa_q (pv 1) (pa_q pe_non pa_nil))))))))) pss_nil)
  (pss_hold (pss_cons (ps_if (PW.pt (pw_and (pt_cmpR op_lt pe_int (pv 5) (nomark _)) (pw_and1 (pt_cmpR op_lt (pv 5) pe_int (nomark _))))) (pss_one (ps_setQ (i := 10) sc_law.nd rfl (Or.inl rfl) (pe_fnQ (ok__law_refused T) HR (by decide) rfl (pa_q (pv 8) (pa_q (pv 1) (pa_q (pv 7) pa_nil)))))) pss_nil)
  (pss_hold (pss_one (ps_ret (pe_and (pv 10) (pe_one (pe_fnQ (ok__law_goes T) HR (by decide) rfl (pa_q (pv 4) (pa_q (pv 1) pa_nil))))))))))))))))))))))))))))))))), ?_⟩
      generalize h_ua : tHold _ = ua
      walk_at "wps"
      refine ⟨hS, fun n0 => ⟨hS, fun n1 => ⟨hS, fun seed => ?_⟩⟩⟩
      have hlag : 1 ≤ 1 + n0 % 60 ∧ 1 + n0 % 60 ≤ 60 := by omega
      generalize 1 + n0 % 60 = lag at *
      have hmany : 1 ≤ 1 + n1 % 60 ∧ 1 + n1 % 60 ≤ 60 := by omega
      generalize 1 + n1 % 60 = many at *
      rw [← h_ua, tHold]
      generalize h_ub : tHold _ = ub
      walk_at "wps"
      refine ⟨by omega, ?_⟩
      refine co_rngH (lo := 0) (n := many.toNat) (fun i ys σ H' => Same H H' ∧ ∃ zs dss, ys = zs.map V.ref ∧ Paired (DeedT H') zs dss ∧ dss.length = i ∧ (∀ ds ∈ dss, deedB lag ds = true ∧ 1 ≤ ds.length) ∧ ∃ v, σ = [v, some (V.int seed), some (V.int lag)]) ⟨Same.refl _, [], [], rfl, .nil, rfl, by simp, none, rfl⟩ (small_ok (by omega)) (fun i ys σ H' hh => ?_) (fun i ys σ H' hi hh => ?_) (fun ys σ H1 hh => ?_)
      · obtain ⟨_, zs, dss, rfl, p, e, _⟩ := hh
        rw [List.length_map, paired_len p, e]
        exact Nat.le_refl _
      · obtain ⟨sm, zs, dss, rfl, p, e, hb, v, rfl⟩ := hh
        walk_at "wps"
        refine ⟨⟨by omega, hlag⟩, fun pn ds H2 s2 npn hD hg h1 => ⟨sm.trans s2, zs ++ [pn], dss ++ [ds], by simp, paired_snoc (paired_imp p fun x d u => u.same s2) hD, by rw [List.length_append, e]; rfl, fun d hd => ?_, _, rfl⟩⟩
        rcases List.mem_append.mp hd with z | z
        · exact hb d z
        · rw [List.mem_singleton.mp z]; exact ⟨hg, h1⟩
      obtain ⟨S1, zs, dss, rfl, P1, ln1, hB, v, rfl⟩ := hh
      have lz := paired_len P1
      refine ⟨small_ok (by rw [List.length_map]; omega), fun pds nds => ?_⟩
      have sd := same_upd (H := H1) (o := .lst (zs.map V.ref)) nds
      have hz2 := upd_same (H := H1) (a := pds) (o := .lst (zs.map V.ref))
      have P2 : Paired (DeedT (upd H1 pds (.lst (zs.map V.ref)))) zs dss := paired_imp P1 fun x ds u => u.same sd
      replace hS := same_lst (S1.trans sd) hS
      generalize upd H1 pds (.lst (zs.map V.ref)) = H2 at *
      clear P1 S1 sd nds
      have R2 : RowT H2 pds dss := ⟨zs, hz2, P2, by omega⟩
      rw [← h_ub, tHold]
      generalize h_uc : tHold _ = uc
      walk_at "wps"
      refine ⟨hS, fun n3 => ⟨hS, fun c => ⟨hS, fun n5 => ⟨by omega, ?_⟩⟩⟩⟩
      have hway : 0 ≤ n3 % 8 ∧ n3 % 8 < 8 := by omega
      generalize n3 % 8 = way at *
      have m0 := Int.emod_nonneg n5 (show many ≠ 0 by omega)
      have m1 := Int.emod_lt_of_pos n5 (show 0 < many by omega)
      obtain ⟨at', hat⟩ : ∃ j : Nat, n5 % many = (j : Int) := ⟨(n5 % many).toNat, by omega⟩
      rw [hat] at m1 ⊢
      rw [← h_uc, tHold]
      generalize h_ud : tHold _ = ud
      walk_at "wps"
      refine ⟨_, .inl (SqL.of hz2), fun pb npb => ?_⟩
      have S3 := same_upd (H := H2) (o := .lst (zs.map V.ref)) npb
      have hb3 := upd_same (H := H2) (a := pb) (o := .lst (zs.map V.ref))
      have X3 : RowX (upd H2 pb (.lst (zs.map V.ref))) pb pb dss := ⟨zs, hb3, paired_imp P2 fun x ds u => ⟨(fun z => by obtain ⟨_, k, _⟩ := u; rw [z, npb] at k; cases k), u.same S3⟩, by omega⟩
      generalize upd H2 pb (.lst (zs.map V.ref)) = H3 at *
      have dz : ∀ j : Nat, (j : Int) < many → ∃ z ds, zs[j]? = some z ∧ dss[j]? = some ds ∧ DeedT H2 z ds ∧ 1 ≤ ds.length ∧ ds.length ≤ 3 := fun j hj => by
        have hz : zs[j]? = some (zs[j]'(by omega)) := List.getElem?_eq_getElem (by omega)
        obtain ⟨ds, e, hD⟩ := paired_get P2 hz
        have := hB ds (List.mem_of_getElem? e)
        have b := this.1
        unfold deedB at b
        rw [Bool.and_eq_true, decide_eq_true_eq] at b
        exact ⟨_, ds, hz, e, hD, this.2, b.1⟩
      obtain ⟨z1, ds1, ez1, ed1, hD1, l11, l13⟩ := dz at' m1
      rw [← h_ud, tHold]
      generalize h_ue : tHold _ = ue
      walk_at "wps"
      refine ixA_list (SqL.of (S3 _ _ hz2)) (v := .ref z1) (atI_n (by rw [List.getElem?_map, ez1]; rfl)) ?_
      refine ⟨ds1, hD1.same S3, ⟨l11, l13⟩, hlag, fun p4 ds4 H4 s4 np4 hD4 hb4 => ?_⟩
      have hb4' := s4 _ _ hb3
      refine ⟨_, at', hb4', by rw [List.length_map]; exact ixN_in (by omega), ?_⟩
      have np4b : p4 ≠ pb := fun z => by rw [z, hb3] at np4; cases np4
      have X5 := (X3.same s4).setD (j := at') hb4' np4b hD4
      have S5 : Same H2 (upd H4 pb (.lst ((zs.map V.ref).set at' (.ref p4)))) := same_write (S3.trans s4) npb
      have hb5 := upd_same (H := H4) (a := pb) (o := .lst ((zs.map V.ref).set at' (.ref p4)))
      generalize upd H4 pb (.lst ((zs.map V.ref).set at' (.ref p4))) = H5 at *
      have lB5 : (dss.set at' ds4).length = dss.length := List.length_set ..
      have eB5 : (dss.set at' ds4)[at']? = some ds4 := by rw [List.getElem?_set_self (by omega)]
      have oB5 : ∀ j < at', (dss.set at' ds4)[j]? = dss[j]? := fun j hj => by rw [List.getElem?_set_ne (by omega)]
      clear X3 hb3 hb4' s4 S3 hD4
      rw [← h_ue, tHold]
      generalize h_uf : tHold _ = uf
      walk_at "wps"
      refine ⟨same_lst S5 hS, fun n6 => ⟨by omega, ?_⟩⟩
      have k0 := Int.emod_nonneg n6 (show many - (at' : Int) ≠ 0 by omega)
      have k1 := Int.emod_lt_of_pos n6 (show 0 < many - (at' : Int) by omega)
      obtain ⟨lt', hlt⟩ : ∃ j : Nat, (at' : Int) + n6 % (many - at') = (j : Int) := ⟨((at' : Int) + n6 % (many - at')).toNat, by omega⟩
      have k2 : (lt' : Int) < many := by omega
      rw [hlt]
      refine gen_ends fun DD eDD => ?_
      rw [← h_uf, tHold]
      generalize h_ug : tHold _ = ug
      have fin : ∀ H' dssB, Same H2 H' → RowX H' pb pb dssB → dssB.length = dss.length → (∃ ds, dssB[at']? = some ds ∧ deedB lag ds = false) → (∀ j < at', dssB[j]? = dss[j]?) → ug DD [some (V.ref a), some (V.int lag), some (V.int many), some (V.int seed), some (V.ref pds), some (V.int way), some (V.int c), some (V.int at'), some (V.ref pb), some (V.int lt'), none, none] H' := by
        intro H6 dssB S6 X6 lB eB oB
        have B6 := X6.row
        have R6 := R2.same S6
        have bad1 : ∀ l, fromB l 1 60 = false → BadAt dssB l .non := fun l hl => .inl ⟨rfl, .inl hl⟩
        have bad2 : ∀ l, fromB l 1 60 = false → BadAt dss l .non := fun l hl => .inl ⟨rfl, .inl hl⟩
        have flag : fromB lag 1 60 = true := by
          unfold fromB
          simp only [Bool.and_eq_true, decide_eq_true_eq]
          exact hlag
        have bad3 : BadAt dssB lag (.int at') := by
          obtain ⟨ds, e1, e2⟩ := eB
          refine .inr ⟨at', ds, rfl, flag, by omega, e1, e2, fun j hj ds' hds => ?_⟩
          rw [oB j hj] at hds
          exact (hB ds' (List.mem_of_getElem? hds)).1
        rw [← h_ug, tHold]
        generalize h_uh : tHold _ = uh
        walk_at "wps"
        rw [← h_uh, tHold]
        generalize h_ui : tHold _ = ui
        refine ⟨fun σ H' => σ = [some (V.ref a), some (V.int lag), some (V.int many), some (V.int seed), some (V.ref pds), some (V.int way), some (V.int c), some (V.int at'), some (V.ref pb), some (V.int lt'), some (V.bl true), none] ∧ Same H6 H', ?_, fun σ H7 hh => ?_⟩
        · have two : ∀ (v : Int) (H' : Hp), Same H6 H' → fromB v 1 60 = false → ∃ dss, RowT H' pb dss ∧ BadAt dss v V.non ∧ ∀ (H'_1 : Hp), Same H' H'_1 → ∀ (v : Int) (H' : Hp), Same H'_1 H' → fromB v 1 60 = false → ∃ dss, RowT H' pds dss ∧ BadAt dss v V.non ∧ ∀ (H'_2 : Hp), Same H' H'_2 → Same H6 H'_2 :=
            fun v Hx sx hv => ⟨dssB, B6.same sx, bad1 v hv, fun Hy sy v2 Hz sz hv2 => ⟨dss, ((R6.same sx).same sy).same sz, bad2 v2 hv2, fun Hw sw => ((sx.trans sy).trans sz).trans sw⟩⟩
          walk_at "wps"
          split
          · exact two
          split
          · exact two
          · exact Same.refl _
        obtain ⟨rfl, S7⟩ := hh
        rw [← h_ui, tHold]
        generalize h_uj : tHold _ = uj
        refine ⟨fun σ H' => ∃ v, σ = [some (V.ref a), some (V.int lag), some (V.int many), some (V.int seed), some (V.ref pds), some (V.int way), some (V.int c), some (V.int at'), some (V.ref pb), some (V.int lt'), some (V.bl true), v] ∧ Same H6 H', ?_, fun σ H8 hh => ?_⟩
        · walk_at "wps"
          split
          rotate_left
          · exact ⟨_, rfl, S7⟩
          refine ⟨by omega, ?_⟩
          refine co_rngH (lo := many) (n := (61 + c % 40 - many).toNat) (fun i ys σ H' => Same H7 H' ∧ ∃ zs dss, ys = zs.map V.ref ∧ Paired (DeedT H') zs dss ∧ dss.length = i ∧ ∃ v, σ = [v, some (V.int seed), some (V.int lag)]) ⟨Same.refl _, [], [], rfl, .nil, rfl, none, rfl⟩ (small_ok (by omega)) (fun i ys σ H' hh => ?_) (fun i ys σ H' hi hh => ?_) (fun ys σ H8 hh => ?_)
          · obtain ⟨_, zs, dss, rfl, p, e, _⟩ := hh
            rw [List.length_map, paired_len p, e]
            exact Nat.le_refl _
          · obtain ⟨sm, zs, dss, rfl, p, e, v, rfl⟩ := hh
            walk_at "wps"
            exact ⟨⟨by omega, hlag⟩, fun pn ds H2 s2 npn hD hg h1 => ⟨sm.trans s2, zs ++ [pn], dss ++ [ds], by simp, paired_snoc (paired_imp p fun x d u => u.same s2) hD, by rw [List.length_append, e]; rfl, _, rfl⟩⟩
          obtain ⟨S8, zr, dssR, rfl, P8, ln8, v, rfl⟩ := hh
          have lr := paired_len P8
          refine ⟨small_ok (by rw [List.length_map]; omega), fun pr npr => ?_⟩
          have s9 := same_upd (H := H8) (o := .lst (zr.map V.ref)) npr
          have hr9 := upd_same (H := H8) (a := pr) (o := .lst (zr.map V.ref))
          have P9 : Paired (DeedT (upd H8 pr (.lst (zr.map V.ref)))) zr dssR := paired_imp P8 fun _ _ u => u.same s9
          have S9 := (S7.trans S8).trans s9
          generalize upd H8 pr (.lst (zr.map V.ref)) = H9 at *
          have far : ∀ dd : List (List Cp), dd.length = dss.length → BadAt (dd ++ dssR) lag .non := fun dd hd => .inl ⟨rfl, .inr (by rw [List.length_append]; omega)⟩
          obtain ⟨xb, b1, b2, b3⟩ := B6.same S9
          have lb := paired_len b2
          refine addA_lists b1 hr9 (small_ok (by rw [List.length_map, List.length_map]; omega)) fun pa npa => ?_
          have sa := same_upd (H := H9) (o := .lst (xb.map V.ref ++ zr.map V.ref)) npa
          refine ⟨dssB ++ dssR, ⟨xb ++ zr, by rw [upd_same, List.map_append], paired_imp (paired_app b2 P9) fun _ _ u => u.same sa, by rw [List.length_append]; omega⟩, far dssB lB, fun Hb sb => ?_⟩
          have Sb := sa.trans sb
          obtain ⟨xd, d1, d2, d3⟩ := (R6.same S9).same Sb
          have ld := paired_len d2
          refine addA_lists d1 (Sb _ _ hr9) (small_ok (by rw [List.length_map, List.length_map]; omega)) fun pc npc => ?_
          have sc := same_upd (H := Hb) (o := .lst (xd.map V.ref ++ zr.map V.ref)) npc
          exact ⟨dss ++ dssR, ⟨xd ++ zr, by rw [upd_same, List.map_append], paired_imp (paired_app d2 (paired_imp P9 fun _ _ u => u.same Sb)) fun _ _ u => u.same sc, by rw [List.length_append]; omega⟩, far dss rfl, fun Hd sd => ⟨_, rfl, ((S9.trans Sb).trans sc).trans sd⟩⟩
        obtain ⟨v11, rfl, S8⟩ := hh
        rw [← h_uj, tHold]
        generalize h_uk : tHold _ = uk
        have fin3 : ∀ H9, Same H6 H9 → uk DD [some (V.ref a), some (V.int lag), some (V.int many), some (V.int seed), some (V.ref pds), some (V.int way), some (V.int c), some (V.int at'), some (V.ref pb), some (V.int lt'), some (V.bl true), v11] H9 := by
          intro H9 S9
          rw [← h_uk, tHold]
          walk_at "wps"
          obtain ⟨_, ds0, _, e0, _, l0, _⟩ := dz 0 (by omega)
          cases ds0 with
          | nil => simp at l0
          | cons d0 dr =>
            refine ⟨dss, d0, dr, R6.same S9, flag, by omega, fun ds h => (hB ds h).1, e0, fun Ha sa => ?_⟩
            rw [eDD]
            exact q _
        walk_at "wps"
        split
        · split
          · exact ⟨dssB, B6.same S8, bad3, fun Ha sa => fin3 Ha (S8.trans sa)⟩
          · exact fin3 _ S8
        · exact fin3 _ S8
      refine ⟨fun σ H' => σ = [some (V.ref a), some (V.int lag), some (V.int many), some (V.int seed), some (V.ref pds), some (V.int way), some (V.int c), some (V.int at'), some (V.ref pb), some (V.int lt'), none, none] ∧ ∃ dssB, Same H2 H' ∧ RowX H' pb pb dssB ∧ dssB.length = dss.length ∧ (∃ ds, dssB[at']? = some ds ∧ deedB lag ds = false) ∧ (∀ j < at', dssB[j]? = dss[j]?), ?_, fun σ H' hh => ?_⟩
      rotate_left
      · obtain ⟨rfl, dssB, b1, b2, b3, b4, b5⟩ := hh
        exact fin H' dssB b1 b2 b3 b4 b5
      walk_at "wps"
      split
      rotate_left
      · exact ⟨_, S5, X5, lB5, ⟨ds4, eB5, hb4⟩, oB5⟩
      rename_i hgt
      obtain ⟨z2, ds2, ez2, ed2, hD2, l21, l23⟩ := dz lt' k2
      refine ixA_list (SqL.of (S5 _ _ hz2)) (v := .ref z2) (atI_n (by rw [List.getElem?_map, ez2]; rfl)) ?_
      refine ⟨ds2, hD2.same S5, ⟨l21, l23⟩, hlag, fun p6 ds6 H6 s6 np6 hD6 hb6 => ?_⟩
      have hb6' := s6 _ _ hb5
      refine ⟨_, lt', hb6', by rw [List.length_set, List.length_map]; exact ixN_in (by omega), ?_⟩
      have np6b : p6 ≠ pb := fun z => by rw [z, hb5] at np6; cases np6
      refine ⟨(dss.set at' ds4).set lt' ds6, same_write (S5.trans s6) npb, (X5.same s6).setD (j := lt') hb6' np6b hD6, by rw [List.length_set, lB5], ⟨ds4, by rw [List.getElem?_set_ne (by omega)]; exact eB5, hb4⟩, fun j hj => by rw [List.getElem?_set_ne (by omega)]; exact oB5 j hj⟩
    · exact h.elim
end
theorem fin {P : Program} {w : World} {K : PySem.W.Frag} {h : Heap} {mg : Str → Option Value} {fa : Addr} {C_Road C_RoadError C_BadRoad C_BadPair : Addr} (KX : K.In h) (G : h.Ns mainGlobals mg) (hmg : mg "law" = some (.ref fa)) (T : Txt K mg C_Road C_RoadError C_BadRoad C_BadPair) :
    ∃ fd : FuncData, (∀ (s : Shared) (u : Value), BindsTo s fd ⟨[u], []⟩ [("_law_script", u)]) ∧ ∀ base : Heap, K.In base → base.Ns mainGlobals mg → FnOk P w K mg base CX0 8 fa fd ["_law_script"] (spLaw K) :=
  law_fin hmg T.d_law bd_law fun base => ok_law T
end K25
open PySem PySem.W PyProof.Rows
set_option maxRecDepth 100000 in
set_option maxHeartbeats 0 in
theorem PySem.Challenge.cw_slowroad_k25_no_road_holds : PySem.Challenge.rw_slowroad_k25_no_road.Holds := by
  w_on; o_law; k_head; (case hw => w_witness2)
  k_fill
  refine L2.law_walk (l := PySem.Challenge.rw_slowroad_k25_no_road) (k := 8) (x := "_law_script") rfl rfl ⟨rfl, by decide, by decide⟩ (fun w h Y => PySem.W.kIn_of Y) ?F
  case F =>
    intro w mg fa h KX G hmg
    refine' K25.fin KX G hmg ?TT
    case TT =>
      refine' K25.Txt.mk ?k_Road ?n_Road_deeds ?n_Road_sendings ?n_Road_coming ?xm_RoadError ?xm_BadRoad ?xm_BadPair ?x_BadRoad ?g_BadRoad ?kp_BadRoad ?xf_BadRoad_at ?qv_BadRoad ?q_BadRoad_RoadError ?m_BadRoad_RoadError ?q_BadRoad_BadRoad ?m_BadRoad_BadRoad ?q_BadRoad_BadPair ?m_BadRoad_BadPair ?x_BadPair ?g_BadPair ?qv_BadPair ?q_BadPair_RoadError ?m_BadPair_RoadError ?q_BadPair_BadRoad ?m_BadPair_BadRoad ?q_BadPair_BadPair ?m_BadPair_BadPair ?d_is_from ?d_BadRoad___init__ ?d_copied ?d_deed_at ?d_is_copy ?d_is_deed ?d_check_road ?d_Road___init__ ?d_Road_send ?d_Road_come ?d_Road_under_way ?d__law_whole ?d__law_cell_at ?d__law_mixed ?d__law_copy ?d__law_deed ?d__law_bad_copy ?d__law_bad_deed ?d__law_bad_lag ?d__law_refused ?d__law_goes ?d_law ?b_ValueError ?b_all ?b_bool ?b_enumerate ?b_int ?b_isinstance ?b_len ?b_list ?b_range ?b_sorted ?b_tuple ?c_LAG_MOST ?c_DEEDS_MOST ?c_COPIES_MOST ?c_PLACE_MOST ?c_RUN_MOST
      case k_Road => refine' L2.klsat_mk KX G ?a ?pg ?hd ?po ?sa ?mk ?kc; (case a => k_is); (case pg => k_is); (case hd => k_is); (case po => k_is); (case sa => k_is); (case mk => k_is); (case kc => k_is)
      case n_Road_deeds => refine' L2.noattr_mk ?a; (case a => k_is)
      case n_Road_sendings => refine' L2.noattr_mk ?a; (case a => k_is)
      case n_Road_coming => refine' L2.noattr_mk ?a; (case a => k_is)
      case xm_RoadError => refine' L2.xmat_mk KX G ?a ?t ?b; (case a => k_is); (case t => k_is); (case b => k_is)
      case xm_BadRoad => refine' L2.xmat_mk KX G ?a ?t ?b; (case a => k_is); (case t => k_is); (case b => k_is)
      case xm_BadPair => refine' L2.xmat_mk KX G ?a ?t ?b; (case a => k_is); (case t => k_is); (case b => k_is)
      case x_BadRoad => refine' ⟨_, L2.xcat_mk KX G ?a ?l ?o ?i ?t ?l2 ?o2 ?i2 ?t2⟩; (case a => k_is); (case l => k_is); (case o => kernel_rfl); (case i => k_is); (case t => k_is); (case l2 => k_is); (case o2 => kernel_rfl); (case i2 => k_is); (case t2 => k_is)
      case g_BadRoad => refine' L2.xgat_mk ?a ?b ?c ?d ?e ?f ?g ?h; (case a => k_is); (case b => k_is); (case c => k_is); (case d => k_is); (case e => k_is); (case f => k_is); (case g => k_is); (case h => k_is)
      case kp_BadRoad => k_is
      case xf_BadRoad_at => refine' ⟨?a, ?b⟩; (case a => k_is); (case b => k_is)
      case qv_BadRoad => kit_is
      case q_BadRoad_RoadError => kit_is
      case m_BadRoad_RoadError => refine' (show PySem.W.mroIn _ _ _ = _ from ?a); (case a => k_is)
      case q_BadRoad_BadRoad => kit_is
      case m_BadRoad_BadRoad => refine' (show PySem.W.mroIn _ _ _ = _ from ?a); (case a => k_is)
      case q_BadRoad_BadPair => kit_is
      case m_BadRoad_BadPair => refine' (show PySem.W.mroIn _ _ _ = _ from ?a); (case a => k_is)
      case x_BadPair => refine' L2.xcat_mk KX G ?a ?l ?o ?i ?t ?l2 ?o2 ?i2 ?t2; (case a => k_is); (case l => k_is); (case o => kernel_rfl); (case i => k_is); (case t => k_is); (case l2 => k_is); (case o2 => kernel_rfl); (case i2 => k_is); (case t2 => k_is)
      case g_BadPair => refine' L2.xgat_mk ?a ?b ?c ?d ?e ?f ?g ?h; (case a => k_is); (case b => k_is); (case c => k_is); (case d => k_is); (case e => k_is); (case f => k_is); (case g => k_is); (case h => k_is)
      case qv_BadPair => kit_is
      case q_BadPair_RoadError => kit_is
      case m_BadPair_RoadError => refine' (show PySem.W.mroIn _ _ _ = _ from ?a); (case a => k_is)
      case q_BadPair_BadRoad => kit_is
      case m_BadPair_BadRoad => refine' (show PySem.W.mroIn _ _ _ = _ from ?a); (case a => k_is)
      case q_BadPair_BadPair => kit_is
      case m_BadPair_BadPair => refine' (show PySem.W.mroIn _ _ _ = _ from ?a); (case a => k_is)
      case d_is_from => refine' L2.defat_mk KX G ?a ?l ?c ?k; (case a => k_is); (case l => k_is); (case c => k_is); (case k => k_is)
      case d_BadRoad___init__ => refine' L2.methat_mk ?a ?i ?l ?c ?k; (case a => k_is); (case i => k_is); (case l => k_is); (case c => k_is); (case k => k_is)
      case d_copied => refine' L2.defat_mk KX G ?a ?l ?c ?k; (case a => k_is); (case l => k_is); (case c => k_is); (case k => k_is)
      case d_deed_at => refine' L2.defat_mk KX G ?a ?l ?c ?k; (case a => k_is); (case l => k_is); (case c => k_is); (case k => k_is)
      case d_is_copy => refine' L2.defat_mk KX G ?a ?l ?c ?k; (case a => k_is); (case l => k_is); (case c => k_is); (case k => k_is)
      case d_is_deed => refine' L2.defat_mk KX G ?a ?l ?c ?k; (case a => k_is); (case l => k_is); (case c => k_is); (case k => k_is)
      case d_check_road => refine' L2.defat_mk KX G ?a ?l ?c ?k; (case a => k_is); (case l => k_is); (case c => k_is); (case k => k_is)
      case d_Road___init__ => refine' L2.methat_mk ?a ?i ?l ?c ?k; (case a => k_is); (case i => k_is); (case l => k_is); (case c => k_is); (case k => k_is)
      case d_Road_send => refine' L2.methat_mk ?a ?i ?l ?c ?k; (case a => k_is); (case i => k_is); (case l => k_is); (case c => k_is); (case k => k_is)
      case d_Road_come => refine' L2.methat_mk ?a ?i ?l ?c ?k; (case a => k_is); (case i => k_is); (case l => k_is); (case c => k_is); (case k => k_is)
      case d_Road_under_way => refine' L2.methat_mk ?a ?i ?l ?c ?k; (case a => k_is); (case i => k_is); (case l => k_is); (case c => k_is); (case k => k_is)
      case d__law_whole => refine' L2.defat_mk KX G ?a ?l ?c ?k; (case a => k_is); (case l => k_is); (case c => k_is); (case k => k_is)
      case d__law_cell_at => refine' L2.defat_mk KX G ?a ?l ?c ?k; (case a => k_is); (case l => k_is); (case c => k_is); (case k => k_is)
      case d__law_mixed => refine' L2.defat_mk KX G ?a ?l ?c ?k; (case a => k_is); (case l => k_is); (case c => k_is); (case k => k_is)
      case d__law_copy => refine' L2.defat_mk KX G ?a ?l ?c ?k; (case a => k_is); (case l => k_is); (case c => k_is); (case k => k_is)
      case d__law_deed => refine' L2.defat_mk KX G ?a ?l ?c ?k; (case a => k_is); (case l => k_is); (case c => k_is); (case k => k_is)
      case d__law_bad_copy => refine' L2.defat_mk KX G ?a ?l ?c ?k; (case a => k_is); (case l => k_is); (case c => k_is); (case k => k_is)
      case d__law_bad_deed => refine' L2.defat_mk KX G ?a ?l ?c ?k; (case a => k_is); (case l => k_is); (case c => k_is); (case k => k_is)
      case d__law_bad_lag => refine' L2.defat_mk KX G ?a ?l ?c ?k; (case a => k_is); (case l => k_is); (case c => k_is); (case k => k_is)
      case d__law_refused => refine' L2.defat_mk KX G ?a ?l ?c ?k; (case a => k_is); (case l => k_is); (case c => k_is); (case k => k_is)
      case d__law_goes => refine' L2.defat_mk KX G ?a ?l ?c ?k; (case a => k_is); (case l => k_is); (case c => k_is); (case k => k_is)
      case d_law => refine' L2.defat_mk KX G ?a ?l ?c ?k; (case a => k_is); (case l => k_is); (case c => k_is); (case k => k_is)
      case b_ValueError => refine' PySem.W.mg_none_of KX G ?a; (case a => k_is)
      case b_all => refine' PySem.W.mg_none_of KX G ?a; (case a => k_is)
      case b_bool => refine' PySem.W.mg_none_of KX G ?a; (case a => k_is)
      case b_enumerate => refine' PySem.W.mg_none_of KX G ?a; (case a => k_is)
      case b_int => refine' PySem.W.mg_none_of KX G ?a; (case a => k_is)
      case b_isinstance => refine' PySem.W.mg_none_of KX G ?a; (case a => k_is)
      case b_len => refine' PySem.W.mg_none_of KX G ?a; (case a => k_is)
      case b_list => refine' PySem.W.mg_none_of KX G ?a; (case a => k_is)
      case b_range => refine' PySem.W.mg_none_of KX G ?a; (case a => k_is)
      case b_sorted => refine' PySem.W.mg_none_of KX G ?a; (case a => k_is)
      case b_tuple => refine' PySem.W.mg_none_of KX G ?a; (case a => k_is)
      case c_LAG_MOST => refine' ⟨_, PySem.W.mg_of KX G ?a, ?r⟩; (case a => k_is); (case r => exact ⟨_, rfl⟩)
      case c_DEEDS_MOST => refine' ⟨_, PySem.W.mg_of KX G ?a, ?r⟩; (case a => k_is); (case r => exact ⟨_, rfl⟩)
      case c_COPIES_MOST => refine' ⟨_, PySem.W.mg_of KX G ?a, ?r⟩; (case a => k_is); (case r => exact ⟨_, rfl⟩)
      case c_PLACE_MOST => refine' ⟨_, PySem.W.mg_of KX G ?a, ?r⟩; (case a => k_is); (case r => exact ⟨_, rfl⟩)
      case c_RUN_MOST => refine' ⟨_, PySem.W.mg_of KX G ?a, ?r⟩; (case a => k_is); (case r => exact ⟨_, rfl⟩)
#print axioms PySem.Challenge.cw_slowroad_k25_no_road_holds


