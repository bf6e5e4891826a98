import PyProof.Rows.All
import Wide.All
import OpenK.AllK
import Wide.FinOn
import PyProof.EqAt
import PyProof.EqKinds
import PyProof.TupleCall
import PyProof.NeKinds
import PyProof.Rows.BitMore
import PyProof.FitsBits
import PyProof.Rows.TupAssign
import PyProof.ListRange
import PyProof.Rows.ZipGen
import PyProof.StationsW
import PyProof.ExcInit
import PyProof.ExcClass2
import PyProof.RulesTry
import PyProof.ExcBaseAll.ValueError
import PyProof.InstStoreFacts
import PyProof.RulesAs
import PyProof.RulesDel
import PyProof.ExcArgs
import KE.KUnpack
import PyProof.Draws
import PyProof.EnumMake
import Lean
import PySem.Challenge.RW_slowroad_k36_whole_fooled
set_option Elab.async false
set_option linter.all false
set_option compiler.extract_closed false
-- CHANGE: your row's module here, as the last of these rows
set_option maxRecDepth 100000
namespace L2
open PySem PySem.Spec PyProof.Rows

noncomputable abbrev Key := Sum Int Str
noncomputable def keyIs : Key → Value → Bool
  | .inl k, v => Value.isInt k v
  | .inr x, v => Value.isStrOf x v
noncomputable def keyH (w : World) : Key → Int
  | .inl k => hashInt k
  | .inr x => hashStr w x
theorem keyIs_shape : ∀ {k : Key} {v : Value}, keyIs k v = true → (∃ i t, k = Sum.inl i ∧ v = Value.int i t) ∨ (∃ x t, k = Sum.inr x ∧ v = Value.str x t)
  | .inl i, v, h => by
    obtain ⟨t, e⟩ := Value.isInt_shape (k := i) (v := v) h
    exact .inl ⟨i, t, rfl, e⟩
  | .inr x, v, h => by
    obtain ⟨t, e⟩ := Value.isStrOf_shape (x := x) (v := v) h
    exact .inr ⟨x, t, rfl, e⟩
theorem keyIs_int (i : Int) (t : Tok) : keyIs (.inl i) (.int i t) = true := by simp [keyIs, Value.isInt]
theorem keyIs_str (x : Str) (t : Tok) : keyIs (.inr x) (.str x t) = true := by simp [keyIs, Value.isStrOf]
theorem key_ll (a b : Int) : decide ((Sum.inl a : Key) = Sum.inl b) = (a == b) := by
  by_cases e : a = b
  · subst e; simp
  · have h : ¬ (Sum.inl a : Key) = Sum.inl b := fun q => e (Sum.inl.inj q)
    rw [decide_eq_false h]
    exact (beq_eq_false_iff_ne.mpr e).symm
theorem key_rr (a b : Str) : decide ((Sum.inr a : Key) = Sum.inr b) = decide (a = b) := by
  by_cases e : a = b
  · subst e; simp
  · have h : ¬ (Sum.inr a : Key) = Sum.inr b := fun q => e (Sum.inr.inj q)
    rw [decide_eq_false h, decide_eq_false e]
theorem key_lr (a : Int) (b : Str) : decide ((Sum.inl a : Key) = Sum.inr b) = false := decide_eq_false (fun q => nomatch q)
theorem key_rl (a : Str) (b : Int) : decide ((Sum.inr a : Key) = Sum.inl b) = false := decide_eq_false (fun q => nomatch q)

noncomputable def mixKind (prog : Program) (w : World) : PySem.KeyKind prog w Key where
  is := keyIs
  hash := keyH w
  inj := fun v a b ha hb => by
    rcases keyIs_shape ha with ⟨i, t, rfl, rfl⟩ | ⟨x, t, rfl, rfl⟩
    · rcases keyIs_shape hb with ⟨j, u, rfl, e⟩ | ⟨y, u, rfl, e⟩
      · injection e with e1 _; rw [e1]
      · exact nomatch e
    · rcases keyIs_shape hb with ⟨j, u, rfl, e⟩ | ⟨y, u, rfl, e⟩
      · exact nomatch e
      · injection e with e1 _; rw [e1]
  byValue := fun k v h => by
    rcases keyIs_shape h with ⟨i, t, rfl, rfl⟩ | ⟨x, t, rfl, rfl⟩ <;> rfl
  pyHash := fun hv h => by
    rcases keyIs_shape hv with ⟨i, t, rfl, rfl⟩ | ⟨x, t, rfl, rfl⟩
    · exact wpAny_pyHash_int h
    · exact wpAny_pyHash_str h
  eqBool := fun hu hv h => by
    rcases keyIs_shape hu with ⟨i, t, rfl, rfl⟩ | ⟨x, t, rfl, rfl⟩
    · rcases keyIs_shape hv with ⟨j, u, rfl, rfl⟩ | ⟨y, u, rfl, rfl⟩
      · rw [key_ll] at h; exact wpAny_eqBool_int h
      · rw [key_lr] at h; exact SeqAt.EqAt.int_str i t y u _ _ _ _ h
    · rcases keyIs_shape hv with ⟨j, u, rfl, rfl⟩ | ⟨y, u, rfl, rfl⟩
      · rw [key_rl] at h; exact SeqAt.EqAt.str_int x t j u _ _ _ _ h
      · rw [key_rr] at h; exact wpAny_eqBool_str h
  «strs» := fun k x t v h => by
    rcases keyIs_shape h with ⟨i, u, rfl, e⟩ | ⟨y, u, rfl, e⟩
    · exact nomatch e
    · injection e with e1 _
      subst e1
      cases v <;> rfl

theorem mixKind_int (prog : Program) (w : World) (i : Int) (t : Tok) : (mixKind prog w).is (.inl i) (.int i t) = true := keyIs_int i t
theorem mixKind_str (prog : Program) (w : World) (x : Str) (t : Tok) : (mixKind prog w).is (.inr x) (.str x t) = true := keyIs_str x t
end L2

namespace L2
open PySem PySem.Spec PyProof.Rows

inductive V where
  | non | bl (b : Bool) | int (i : Int) | str (x : Str) | byt (b : Array UInt8) | flt (b : UInt64) | ref (a : Addr) | ty (n : String)
  deriving DecidableEq

noncomputable def RelV : V → Value → Prop
  | .non, u => u = Value.none
  | .bl b, u => u = Value.bool b
  | .int i, u => ∃ t, u = Value.int i t
  | .str x, u => ∃ t, u = Value.str x t
  | .byt b, u => ∃ t, u = Value.bytes b t
  | .flt b, u => ∃ t, u = Value.float b t
  | .ref a, u => u = Value.ref a
  | .ty n, u => u = Value.type n

noncomputable abbrev Vals : List V → List Value → Prop := Paired RelV
theorem Vals.length {xs : List V} {us : List Value} (r : Vals xs us) : xs.length = us.length := Paired.length r
theorem Vals.get : ∀ {xs : List V} {us : List Value} {i : Nat} {x : V}, Vals xs us → xs[i]? = some x → ∃ u, us[i]? = some u ∧ RelV x u
  | _, _, _, _, .nil, e => by simp at e
  | _, _, 0, _, .cons r _, e => by simp at e; subst e; exact ⟨_, rfl, r⟩
  | _, _, i + 1, x, .cons _ t, e => by
    obtain ⟨u, h1, h2⟩ := Vals.get (i := i) (x := x) t (by simpa using e)
    exact ⟨u, by simpa using h1, h2⟩
theorem Vals.append : ∀ {xs ys : List V} {us ws : List Value}, Vals xs us → Vals ys ws → Vals (xs ++ ys) (us ++ ws)
  | _, _, _, _, .nil, s => s
  | _, _, _, _, .cons r t, s => .cons r (Vals.append t s)
noncomputable def RelO : Option V → Option Value → Prop
  | some v, some u => RelV v u
  | none, none => True
  | _, _ => False
noncomputable def KV {κ : Type} : List (κ × V) → List (κ × Value) → Prop := Paired fun (p : κ × V) (q : κ × Value) => p.1 = q.1 ∧ RelV p.2 q.2

noncomputable def kV : Key → V
  | .inl i => .int i
  | .inr x => .str x

inductive HO where
  /-- a list -/
  | lst (xs : List V)
  /-- a tuple (never changes) -/
  | tup (xs : List V)
  /-- a dict whose keys are ints and texts; one whose keys are tuples of ints and texts (the empty one is both) -/
  | dK (kvs : List (Key × V)) | dT (kvs : List (List Key × V))
  /-- a set of ints: its members, its size -/
  | set (S : Int → Bool) (n : Nat)
  /-- an instance of the class at C, its dict at dx, its attributes -/
  | ins (C dx : Addr) (fs : List (Str × V))
  /-- the dict of the instance at x -/
  | own (x : Addr)
  /-- the dict of an exception -/
  | xd (fs : List (Str × V))
  /-- a bound method, f of x -/
  | met (f x : Addr)
  /-- a range object lo, lo + 1, .. below hi -/
  | rng (lo hi : Int)
  /-- a thing that is known to the object (the script; a dict while a loop walks it): read, never written while it is so -/
  | frz (o : Obj) (u : HO)
  /-- a code object's table -/
  | tbl (ps : Array Value)
  /-- any other thing, by what is true of its one object (a def of one's own: SetO a S n := HO.ext fun h => ..) -/
  | ext (φ : Heap → Prop)

noncomputable abbrev Hp := Addr → Option HO
noncomputable def upd (H : Hp) (a : Addr) (o : HO) : Hp := fun b => if b = a then some o else H b
theorem upd_same {H : Hp} {a : Addr} {o : HO} : upd H a o a = some o := by unfold upd; rw [if_pos rfl]
theorem upd_ne {H : Hp} {a b : Addr} {o : HO} (h : b ≠ a) : upd H a o b = H b := by unfold upd; rw [if_neg h]
theorem upd_upd {H : Hp} {a : Addr} {o u : HO} : upd (upd H a o) a u = upd H a u := by
  funext b; unfold upd; split <;> rfl
theorem ne_of {H : Hp} {a b : Addr} {o u : HO} (h : H a = some o) (h' : H b = some u) (d : o ≠ u) : a ≠ b := by
  intro e; subst e; rw [h] at h'; exact d (Option.some.inj h')
theorem ne_of_none {H : Hp} {a b : Addr} {o : HO} (h : H a = some o) (h' : H b = none) : a ≠ b := by
  intro e; subst e; rw [h] at h'; cases h'

section
variable (P : Program) (w : World)
noncomputable def ObjOk (H : Hp) (h : Heap) (a : Addr) : HO → Prop
  | .lst xs => xs.length ≤ sizeLine ∧ ∃ (its : List Value) (n : Nat), Vals xs its ∧ h.get? a = some { cls := .type "list", data := .seq its.toArray n }
  | .tup xs => xs.length ≤ sizeLine ∧ ∃ its : List Value, Vals xs its ∧ IsTup h a its.toArray
  | .dK kvs => kvs.length ≤ sizeLine ∧ (a == sysModules) = false ∧ ∃ vs, KV kvs vs ∧ h.DictOf (mixKind P w) a vs
  | .dT kvs => kvs.length ≤ sizeLine ∧ (a == sysModules) = false ∧ ∃ xs : List (List Key × Addr × Value),
      Paired (fun (p : List Key × V) (q : List Key × Addr × Value) => p.1 = q.1 ∧ H q.2.1 = some (.tup (p.1.map kV)) ∧ RelV p.2 q.2.2) kvs xs ∧
      ∃ o es ep, h.get? a = some o ∧ o.ExactDict ∧ o.data = .dict es ep ∧ es.toList = xs.map (entryOfKey (tupleKind (mixKind P w))) ∧ (xs.map (·.1)).Nodup
  | .set S n => h.SetOf (intKind P w) a S n
  | .ins C dx fs => H dx = some (.own a) ∧ fs.length ≤ 1000 ∧ dx ≠ a ∧ h.get? a = some (PySem.W.instObj C dx) ∧
      ∃ mA, h.Ns1 dx mA ∧ (∀ f, RelO (fs.lookup f) (mA f)) ∧ PySem.Within mA (fs.map (·.1))
  | .own _ => ∃ o, h.get? a = some o
  | .xd fs => ∃ mA, h.Ns1 a mA ∧ ∀ f, RelO (fs.lookup f) (mA f)
  | .rng lo hi => ∃ t u v, h.get? a = some { cls := .type "range", data := .fields #[.int lo t, .int hi u, .int 1 v] }
  | .frz o u => h.get? a = some o ∧ ObjOk H h a u
  | .tbl ps => h.get? a = some { cls := .none, data := .fields ps }
  | .met f x => h.get? a = some (PySem.W.methodObj (.ref f) (.ref x))
  | .ext φ => φ h ∧ (∃ o, h.get? a = some o) ∧ ∀ h1 h2 : Heap, φ h1 → (∀ o, h1.get? a = some o → h2.get? a = some o) → φ h2
noncomputable def HOk (H : Hp) (h : Heap) : Prop := ∀ a o, H a = some o → ObjOk P w H h a o
end

section
variable {P : Program} {w : World} {H H' : Hp} {h h' : Heap} {a : Addr} {o : HO}
theorem ObjOk.lt (x : ObjOk P w H h a o) : a < h.objs.size := by
  cases o with
  | lst xs => obtain ⟨_, _, _, _, e⟩ := x; exact Heap.lt_size e
  | tup xs => obtain ⟨_, _, _, p⟩ := x; exact p.lt
  | dK kvs => obtain ⟨_, _, _, _, o, _, _, e, _⟩ := x; exact Heap.lt_size e
  | dT kvs => obtain ⟨_, _, _, _, o, _, _, e, _⟩ := x; exact Heap.lt_size e
  | set S n => obtain ⟨o, _, _, _, e, _⟩ := x; exact Heap.lt_size e
  | ins C dx fs => obtain ⟨_, _, _, e, _⟩ := x; exact Heap.lt_size e
  | own y => obtain ⟨_, e⟩ := x; exact Heap.lt_size e
  | xd fs => obtain ⟨_, ⟨_, _, _, e, _⟩, _⟩ := x; exact Heap.lt_size e
  | rng lo hi => obtain ⟨_, _, _, e⟩ := x; exact Heap.lt_size e
  | frz ob u => obtain ⟨e, _⟩ := x; exact Heap.lt_size e
  | tbl ps => exact Heap.lt_size (show h.get? a = some _ from x)
  | met f y => exact Heap.lt_size (show h.get? a = some _ from x)
  | ext φ => obtain ⟨_, ⟨_, e⟩, _⟩ := x; exact Heap.lt_size e
theorem Paired.mapP {α β : Type} {F G : α → β → Prop} : ∀ {l₁ : List α} {l₂ : List β}, Paired F l₁ l₂ → (∀ a b, F a b → G a b) → Paired G l₁ l₂
  | _, _, .nil, _ => .nil
  | _, _, .cons r t, f => .cons (f _ _ r) (Paired.mapP t f)
theorem ObjOk.stay (x : ObjOk P w H h a o) (k : ∀ b u, (b = a ∨ H b = some (.own a)) → h.get? b = some u → h'.get? b = some u)
    (ho : ∀ b, H b = some (.own a) → H' b = some (.own a)) (ht : ∀ b xs, H b = some (.tup xs) → H' b = some (.tup xs)) : ObjOk P w H' h' a o := by
  induction o with
  | lst xs => obtain ⟨z, its, n, r, e⟩ := x; exact ⟨z, its, n, r, k _ _ (.inl rfl) e⟩
  | tup xs => obtain ⟨z, its, r, ob, e, c⟩ := x; exact ⟨z, its, r, ob, k _ _ (.inl rfl) e, c⟩
  | dK kvs => obtain ⟨z, y, vs, r, ob, es, ep, e, c⟩ := x; exact ⟨z, y, vs, r, ob, es, ep, k _ _ (.inl rfl) e, c⟩
  | dT kvs =>
    obtain ⟨z, y, xs, r, ob, es, ep, e, c⟩ := x
    exact ⟨z, y, xs, Paired.mapP r fun p q z => ⟨z.1, ht _ _ z.2.1, z.2.2⟩, ob, es, ep, k _ _ (.inl rfl) e, c⟩
  | set S n => obtain ⟨ob, es, ep, t, e, c⟩ := x; exact ⟨ob, es, ep, t, k _ _ (.inl rfl) e, c⟩
  | ins C dx fs =>
    obtain ⟨d, z, ne, e, mA, ⟨od, es, ep, e2, c⟩, r⟩ := x
    exact ⟨ho _ d, z, ne, k _ _ (.inl rfl) e, mA, ⟨od, es, ep, k _ _ (.inr d) e2, c⟩, r⟩
  | own y => obtain ⟨ob, e⟩ := x; exact ⟨ob, k _ _ (.inl rfl) e⟩
  | xd fs => obtain ⟨mA, ⟨od, es, ep, e, c⟩, r⟩ := x; exact ⟨mA, ⟨od, es, ep, k _ _ (.inl rfl) e, c⟩, r⟩
  | rng lo hi => obtain ⟨t, u, v, e⟩ := x; exact ⟨t, u, v, k _ _ (.inl rfl) e⟩
  | frz ob u ih => obtain ⟨e, q⟩ := x; exact ⟨k _ _ (.inl rfl) e, ih q⟩
  | tbl ps =>
    have e : h.get? a = some { cls := .none, data := .fields ps } := x
    show h'.get? a = some { cls := .none, data := .fields ps }
    exact k a _ (.inl rfl) e
  | met f y =>
    have e : h.get? a = some (PySem.W.methodObj (.ref f) (.ref y)) := x
    show h'.get? a = some (PySem.W.methodObj (.ref f) (.ref y))
    exact k a _ (.inl rfl) e
  | ext φ => obtain ⟨p, ⟨o, e⟩, st⟩ := x; exact ⟨st _ _ p fun o q => k _ _ (.inl rfl) q, ⟨o, k _ _ (.inl rfl) e⟩, st⟩
theorem HOk.lt (x : HOk P w H h) (e : H a = some o) : a < h.objs.size := (x a o e).lt
theorem HOk.fresh (x : HOk P w H h) (e : h.objs.size ≤ a) : H a = none := by
  cases q : H a with
  | none => rfl
  | some u => exact absurd (Nat.lt_of_lt_of_le (x.lt q) e) (Nat.lt_irrefl _)
theorem HOk.kept (x : HOk P w H h) (k : ∀ b u, h.get? b = some u → h'.get? b = some u) : HOk P w H h' := fun a o e =>
  (x a o e).stay (fun b u _ q => k b u q) (fun _ q => q) fun _ _ q => q
theorem HOk.laid (x : HOk P w H h) (k : ∀ b u, h.get? b = some u → h'.get? b = some u) (hp : h.objs.size ≤ a) (new : ObjOk P w (upd H a o) h' a o) : HOk P w (upd H a o) h' := fun b u e => by
  have hn := x.fresh hp
  by_cases hb : b = a
  · subst hb; rw [upd_same] at e; cases e; exact new
  · rw [upd_ne hb] at e
    exact (x b u e).stay (fun c v _ q => k c v q) (fun c q => by rw [upd_ne (ne_of_none q hn)]; exact q) fun c xs q => by rw [upd_ne (ne_of_none q hn)]; exact q
end

noncomputable def Rd (H : Hp) (a : Addr) (u : HO) : Prop := H a = some u ∨ ∃ o, H a = some (.frz o u)
theorem Rd.ok {P : Program} {w : World} {H : Hp} {h : Heap} {a : Addr} {u : HO} (r : Rd H a u) (x : HOk P w H h) : ObjOk P w H h a u := by
  rcases r with r | ⟨o, r⟩
  · exact x a u r
  · obtain ⟨_, q⟩ := x a _ r
    exact q
noncomputable def Mut : Option HO → Prop
  | some (.lst _) => True
  | some (.dK _) => True
  | some (.dT _) => True
  | some (.set _ _) => True
  | some (.ins _ _ _) => True
  | some (.ext _) => True
  | _ => False
section
variable {P : Program} {w : World} {H : Hp} {h h' : Heap} {x e : Addr} {o' : HO}
theorem HOk.write (ok : HOk P w H h) (mu : Mut (H x)) (he : e = x ∨ H e = some (.own x)) (k : ∀ b u, b ≠ e → h.get? b = some u → h'.get? b = some u) (heo : ∃ u, h'.get? e = some u)
    (new : ObjOk P w (upd H x o') h' x o') : HOk P w (upd H x o') h' := fun b u q => by
  have nown : ∀ c y, H c = some (.own y) → c ≠ x := fun c y r z => by subst z; rw [r] at mu; exact mu
  have ntup : ∀ c xs, H c = some (.tup xs) → c ≠ x := fun c xs r z => by subst z; rw [r] at mu; exact mu
  by_cases hb : b = x
  · subst hb; rw [upd_same] at q; cases q; exact new
  · rw [upd_ne hb] at q
    by_cases hbe : b = e
    · have q' : H b = some (.own x) := by
        rcases he with z | z
        · exact absurd (hbe.trans z) hb
        · rw [hbe]; exact z
      rw [q] at q'; cases q'
      obtain ⟨v, hv⟩ := heo
      exact ⟨v, by rw [hbe]; exact hv⟩
    · refine (ok b u q).stay (fun c v hc r => k c v ?_ r) (fun c r => by rw [upd_ne (nown c b r)]; exact r) fun c xs r => by rw [upd_ne (ntup c xs r)]; exact r
      rcases hc with rfl | hc
      · exact hbe
      · rintro rfl
        rcases he with z | z
        · exact nown c b hc z
        · rw [hc] at z; cases z; exact hb rfl
end

structure Un (fs ex : List Addr) (H H' : Hp) (h h' : Heap) : Prop where
  keep : ∀ b o, h.get? b = some o → H b = none → b ∉ fs → b ∉ ex → h'.get? b = some o
  slot : ∀ b o, h.get? b = some o → H b = none → b ∈ fs → b ∉ ex → ∃ sl, h'.get? b = some { o with slots := sl }
  free : ∀ b o, h.get? b = some o → H b = none → b ∉ ex → H' b = none
  there : ∀ b o, h.get? b = some o → b ∉ ex → ∃ o', h'.get? b = some o'
  tups : ∀ b xs, H b = some (.tup xs) → H' b = some (.tup xs)
  frzs : ∀ b o u, H b = some (.frz o u) → H' b = some (.frz o u)
  tbls : ∀ b ps, H b = some (.tbl ps) → ∃ more, H' b = some (.tbl (ps ++ more))
section
variable {fs fs' ex ex' : List Addr} {H H1 H2 : Hp} {h h1 h2 h' : Heap} {a x e : Addr} {o : HO}
theorem Un.any (u : Un fs ex H H1 h h1) {b : Addr} {ob : Obj} (q : h.get? b = some ob) (n : H b = none) (hx : b ∉ ex) : ∃ sl, h1.get? b = some { ob with slots := sl } := by
  by_cases hb : b ∈ fs
  · exact u.slot b ob q n hb hx
  · exact ⟨ob.slots, u.keep b ob q n hb hx⟩
theorem Un.kept (k : ∀ b u, h.get? b = some u → h'.get? b = some u) : Un fs ex H H h h' :=
  ⟨fun b ob q _ _ _ => k b ob q, fun b ob q _ _ _ => ⟨ob.slots, k b ob q⟩, fun _ _ _ n _ => n, fun b ob q _ => ⟨ob, k b ob q⟩, fun _ _ q => q, fun _ _ _ q => q, fun _ ps q => ⟨#[], by rw [q]; simp⟩⟩
theorem Un.refl : Un fs ex H H h h := Un.kept fun _ _ q => q
theorem Un.laid (k : ∀ b u, h.get? b = some u → h'.get? b = some u) (hp : h.objs.size ≤ a) (hn : H a = none) : Un fs ex H (upd H a o) h h' where
  keep := fun b u q _ _ _ => k b u q
  slot := fun b u q _ _ _ => ⟨u.slots, k b u q⟩
  free := fun b u q n _ => by rw [upd_ne (Nat.ne_of_lt (Nat.lt_of_lt_of_le (Heap.lt_size q) hp))]; exact n
  there := fun b u q _ => ⟨u, k b u q⟩
  tups := fun b xs q => by rw [upd_ne (ne_of_none q hn)]; exact q
  frzs := fun b u xs q => by rw [upd_ne (ne_of_none q hn)]; exact q
  tbls := fun b ps q => ⟨#[], by rw [upd_ne (ne_of_none q hn), q]; simp⟩
theorem Un.write (mu : Mut (H x)) (he : e = x ∨ H e = some (.own x)) (k : ∀ b u, b ≠ e → h.get? b = some u → h'.get? b = some u) (heo : ∃ u, h'.get? e = some u) : Un fs ex H (upd H x o) h h' := by
  have hx : ∀ b, H b = none → b ≠ x := fun b n z => by subst z; rw [n] at mu; exact mu
  have hb : ∀ b, H b = none → b ≠ e := fun b n z => by
    subst z
    rcases he with r | r
    · exact hx b n r
    · rw [n] at r; cases r
  have hm : ∀ b u, H b = some u → ¬ Mut (some u) → b ≠ x := fun b u q nm z => by subst z; rw [q] at mu; exact nm mu
  refine ⟨fun b u q n _ _ => k b u (hb b n) q, fun b u q n _ _ => ⟨u.slots, k b u (hb b n) q⟩, fun b u q n _ => by rw [upd_ne (hx b n)]; exact n, fun b u q _ => ?_,
    fun b xs q => by rw [upd_ne (hm b _ q fun z => z)]; exact q, fun b u xs q => by rw [upd_ne (hm b _ q fun z => z)]; exact q, fun b ps q => ⟨#[], by rw [upd_ne (hm b _ q fun z => z), q]; simp⟩⟩
  by_cases hbe : b = e
  · subst hbe; exact heo
  · exact ⟨u, k b u hbe q⟩
end

noncomputable def trk (h : Heap) (H : Hp) : List Addr := (List.range h.objs.size).filter fun a => (H a).isSome
noncomputable def hidT (h : Heap) (H : Hp) : Heap := PySem.W.hideAll h (trk h H)
theorem hidT_size (h : Heap) (H : Hp) : (hidT h H).objs.size = h.objs.size := PySem.W.hideAll_size _ _
theorem hidT_get {h : Heap} {H : Hp} {b : Addr} {o : Obj} (e : h.get? b = some o) (n : H b = none) : (hidT h H).get? b = some o :=
  PySem.W.hideAll_get _ e fun hm => by
    have q : (H b).isSome = true := (List.mem_filter.mp hm).2
    rw [n] at q; simp at q
theorem of_hidT {h : Heap} {H : Hp} {b : Addr} {o : Obj} (e : (hidT h H).get? b = some o) : h.get? b = some o ∧ H b = none := by
  have e' : h.get? b = some o := PySem.W.of_hideAll (trk h H) e
  refine ⟨e', ?_⟩
  cases q : H b with
  | none => rfl
  | some x =>
    have hm : b ∈ trk h H := List.mem_filter.mpr ⟨List.mem_range.mpr (Heap.lt_size e'), by simp [q]⟩
    have z : (hidT h H).get? b = none := PySem.W.hideAll_none (trk h H) hm
    rw [z] at e; cases e

end L2

namespace L2
open PySem PySem.Spec PyProof.Rows

structure Mod (K : PySem.W.Frag) (mg : Str → Option Value) (base : Heap) : Prop where
  kin : K.In base
  glob : base.Ns mainGlobals mg
  blt : ∃ mb, base.Ns builtinsNs mb ∧ ∀ x : Str, x ≠ "__name__" → mb x = bootBuiltins x
  nolimit : base.NoLimit

structure Cx where
  prog : Program
  w : World
  K : PySem.W.Frag
  mg : Str → Option Value
  base : Heap
  A : Around
  N : List Str
  s₀ : Shared
  H₀ : Hp
  env : Env
  outer : List Env
  stack : List Env
  ex : List Addr
  fn : Str → Bool
  calm : Bool
  pn : List (Addr × Obj)
  xe : Value → Shared → Prop
noncomputable def frs (l : List Env) : List Addr := l.filterMap (·.frame)
noncomputable abbrev Cx.fs (X : Cx) : List Addr := frs X.outer

noncomputable def Vis (sc : Scope) (x : Str) : Prop := sc.names.lookup x = some .local ∨ sc.names.lookup x = some .cell ∨ sc.names.lookup x = some .free
noncomputable def Loc (sc : Scope) (x : Str) : Prop := sc.names.lookup x = some .local ∨ sc.names.lookup x = some .cell
noncomputable def Look (env : Env) (h : Heap) (m : Str → Option Value) (x : Str) (u : Value) : Prop :=
  (env.kindOf x = some .local ∧ m x = some u) ∨ ((env.kindOf x = some .cell ∨ env.kindOf x = some .free) ∧ ∃ c, env.cells.lookup x = some c ∧ h.IsCell c (some u))

structure Cx.Ok (X : Cx) : Prop where
  mod : Mod X.K X.mg X.base
  kind : X.env.scope.kind = .function
  glob : X.env.globals = mainGlobals
  blt : X.env.builtins = builtinsNs
  above : X.s₀.heap.objs.size ≤ X.env.locals
  inj : ∀ x y c, X.env.cells.lookup x = some c → X.env.cells.lookup y = some c → x = y
  has : ∀ x, (X.env.kindOf x = some .cell ∨ X.env.kindOf x = some .free) → ∃ c, X.env.cells.lookup x = some c
  cab : ∀ x c, X.fn x = true → X.env.cells.lookup x = some c → X.s₀.heap.objs.size ≤ c
  hd : X.calm = true → X.A.handled = none
  frames : X.A.frames = some X.stack
  stk : X.stack = X.outer ∨ (X.stack = X.env :: X.outer ∧ X.env.frame = some X.env.locals)
  exf : ∀ b ∈ X.ex, b ≠ X.env.locals ∧ ∀ x c, X.env.cells.lookup x = some c → c ≠ b
  bs : ∀ b o, X.base.get? b = some o → X.s₀.heap.get? b = some o ∧ X.H₀ b = none
  bsz : X.base.objs.size ≤ X.s₀.heap.objs.size
  noex : ∀ b o, X.base.get? b = some o → b ∉ X.ex
  exfs : ∀ b ∈ X.ex, b ∉ X.fs
  funs : X.s₀.heap.FunFrames X.base X.outer
  frf : ∀ b ∈ X.fs, X.H₀ b = none

structure Inv (X : Cx) (pins : List (Addr × Obj)) (σ : List (Option V)) (H : Hp) (s : Shared) : Prop where
  ok : X.Ok
  os : s.os = X.s₀.os
  bare : AllBare s.gens
  base : Un X.fs X.ex X.H₀ H X.s₀.heap s.heap
  loc : ∃ m, s.heap.Ns X.env.locals m ∧ ∀ (i : Nat) (x : Str) (v : V), X.N[i]? = some x → σ[i]? = some (some v) → Vis X.env.scope x → ∃ u, RelV v u ∧ Look X.env s.heap m x u
  cell : ∀ x c, X.env.cells.lookup x = some c → ∃ v, s.heap.IsCell c v
  free : H X.env.locals = none
  freeC : ∀ x c, X.env.cells.lookup x = some c → H c = none
  pin : ∀ p ∈ X.pn ++ pins, s.heap.get? p.1 = some p.2 ∧ H p.1 = none ∧ p.1 ≠ X.env.locals ∧ p.1 ∉ X.fs ∧ ∀ v, p.2.data ≠ .cell v
  hok : HOk X.prog X.w H s.heap
  len : σ.length = X.N.length

section
variable {X : Cx} {pins : List (Addr × Obj)} {σ : List (Option V)} {H H' : Hp} {s : Shared} {h' : Heap}

theorem Cx.Ok.nofr (ok : X.Ok) {b : Addr} {o : Obj} (e : X.base.get? b = some o) : b ∉ X.fs := fun hb => by
  have := (ok.funs.mem hb).1
  rw [e] at this; cases this
theorem Inv.bs (I : Inv X pins σ H s) : ∀ b o, X.base.get? b = some o → s.heap.get? b = some o ∧ H b = none := fun b o e =>
  ⟨I.base.keep b o (I.ok.bs b o e).1 (I.ok.bs b o e).2 (I.ok.nofr e) (I.ok.noex b o e), I.base.free b o (I.ok.bs b o e).1 (I.ok.bs b o e).2 (I.ok.noex b o e)⟩
theorem Inv.bk (I : Inv X pins σ H s) : ∀ b o, X.base.get? b = some o → s.heap.get? b = some o := fun b o e => (I.bs b o e).1
theorem Inv.mod (I : Inv X pins σ H s) : Mod X.K X.mg X.base := I.ok.mod
theorem Inv.kIn (I : Inv X pins σ H s) : X.K.In s.heap := I.ok.mod.kin.keeps I.bk
theorem Inv.lt (I : Inv X pins σ H s) : X.env.locals < s.heap.objs.size := let ⟨_, hn, _⟩ := I.loc; hn.lt
theorem Inv.sz (I : Inv X pins σ H s) : X.s₀.heap.objs.size ≤ s.heap.objs.size := Nat.le_trans I.ok.above (Nat.le_of_lt I.lt)
theorem Inv.nofs (I : Inv X pins σ H s) {a : Addr} (h : s.heap.objs.size ≤ a) : a ∉ X.fs := fun hb => by
  obtain ⟨_, o, ho, _⟩ := I.ok.funs.mem hb
  exact absurd (Nat.lt_of_lt_of_le (Heap.lt_size ho) (Nat.le_trans I.sz h)) (Nat.lt_irrefl _)
theorem Inv.cne (I : Inv X pins σ H s) : ∀ x c, X.env.cells.lookup x = some c → c ≠ X.env.locals := fun x c e z => by
  obtain ⟨v, o, ho, hd⟩ := I.cell x c e
  obtain ⟨m, ⟨o', es, ep, ho', hd', _⟩, _⟩ := I.loc
  rw [z, ho'] at ho; cases ho; rw [hd'] at hd; cases hd
theorem Inv.funs (I : Inv X pins σ H s) : s.heap.FunFrames X.base X.outer := by
  have all : ∀ (l : List Env), (∀ b ∈ frs l, b ∈ X.fs) → X.s₀.heap.FunFrames X.base l → s.heap.FunFrames X.base l := by
    intro l
    induction l with
    | nil => intro _ _; trivial
    | cons env r ih =>
      intro hs hl
      obtain ⟨hk, ⟨L, o, hf, hn, ho, hd⟩, hr⟩ := hl
      have hL : L ∈ X.fs := hs L (by unfold frs; rw [List.filterMap_cons, hf]; exact List.mem_cons_self)
      obtain ⟨sl, e⟩ := I.base.slot L o ho (I.ok.frf L hL) hL fun z => I.ok.exfs L z hL
      exact ⟨hk, ⟨L, _, hf, hn, e, hd⟩, ih (fun b hb => hs b (by unfold frs; rw [List.filterMap_cons, hf]; exact List.mem_cons_of_mem _ hb)) hr⟩
  exact all X.outer (fun _ hb => hb) I.ok.funs

theorem Inv.stack (I : Inv X pins σ H s) : s.heap.FunFrames X.base X.stack := by
  rcases I.ok.stk with e | ⟨e, hf⟩
  · rw [e]; exact I.funs
  · rw [e]
    obtain ⟨m, hn, _⟩ := I.loc
    refine .cons (by rw [I.ok.kind]; decide) hf hn ?_ I.funs
    exact Heap.get?_none_of_le (Nat.le_trans I.ok.bsz I.ok.above)
theorem Inv.stkSub (I : Inv X pins σ H s) : ∀ b ∈ frs X.stack, b ∈ X.env.locals :: X.fs := fun b hb => by
  rcases I.ok.stk with e | ⟨e, hf⟩
  · rw [e] at hb; exact List.mem_cons_of_mem _ hb
  · rw [e] at hb
    unfold frs at hb
    rw [List.filterMap_cons, hf] at hb
    exact hb
theorem Inv.stkFree (I : Inv X pins σ H s) : ∀ b ∈ frs X.stack, H b = none := fun b hb => by
  rcases List.mem_cons.mp (I.stkSub b hb) with e | hb
  · rw [e]; exact I.free
  · obtain ⟨_, o, ho, _⟩ := I.ok.funs.mem hb
    exact I.base.free b o ho (I.ok.frf b hb) fun z => I.ok.exfs b z hb

theorem Inv.step {g' : Array GenState} {t' : Nat} {d' : Drawn} {ch : List Addr} (I : Inv X pins σ H s)
    (hch : ∀ b ∈ ch, (b ∈ X.ex ∨ X.s₀.heap.objs.size ≤ b) ∧ b ≠ X.env.locals ∧ (∀ x c, X.env.cells.lookup x = some c → c ≠ b) ∧ ∀ p ∈ X.pn ++ pins, p.1 ≠ b)
    (keep : ∀ b o, b ≠ X.env.locals → b ∉ X.fs → b ∉ ch → s.heap.get? b = some o → H b = none → h'.get? b = some o)
    (slot : ∀ b o, b ≠ X.env.locals → b ∈ X.fs → b ∉ ch → s.heap.get? b = some o → H b = none → ∃ sl, h'.get? b = some { o with slots := sl }) (free : ∀ b o, b ∉ ch → s.heap.get? b = some o → H b = none → H' b = none)
    (there : ∀ b o, b ∉ ch → s.heap.get? b = some o → ∃ o', h'.get? b = some o')
    (tups : ∀ b xs, H b = some (.tup xs) → H' b = some (.tup xs)) (frzs : ∀ b o u, H b = some (.frz o u) → H' b = some (.frz o u)) (tbls : ∀ b ps, H b = some (.tbl ps) → ∃ more, H' b = some (.tbl (ps ++ more)))
    (ns : ∀ m, s.heap.Ns X.env.locals m → h'.Ns X.env.locals m) (hok : HOk X.prog X.w H' h') (hg : AllBare g') :
    Inv X pins σ H' { s with heap := h', gens := g', drawn := d', toks := t' } := by
  have neL : ∀ b o, X.s₀.heap.get? b = some o → b ≠ X.env.locals := fun b o e => Nat.ne_of_lt (Nat.lt_of_lt_of_le (Heap.lt_size e) I.ok.above)
  have neC : ∀ b o, X.s₀.heap.get? b = some o → b ∉ X.ex → b ∉ ch := fun b o e hx hb => by
    rcases (hch b hb).1 with z | z
    · exact hx z
    · exact absurd (Nat.lt_of_lt_of_le (Heap.lt_size e) z) (Nat.lt_irrefl _)
  have cellK : ∀ x c, X.env.cells.lookup x = some c → ∀ v, s.heap.IsCell c v → h'.IsCell c v := fun x c e v ⟨o, ho, hd⟩ => by
    have nch : c ∉ ch := fun z => (hch c z).2.2.1 x c e rfl
    by_cases hc : c ∈ X.fs
    · obtain ⟨sl, q⟩ := slot c o (I.cne x c e) hc nch ho (I.freeC x c e)
      exact ⟨_, q, hd⟩
    · exact ⟨o, keep c o (I.cne x c e) hc nch ho (I.freeC x c e), hd⟩
  refine ⟨I.ok, I.os, hg, ⟨fun b o e n hb hx => ?_, fun b o e n hb hx => ?_, fun b o e n hx => ?_, fun b o e hx => ?_, fun b xs e => tups b xs (I.base.tups b xs e), fun b o xs e => frzs b o xs (I.base.frzs b o xs e), fun b ps e => ?_⟩, ?_, fun x c e => ?_, ?_, fun x c e => ?_, fun p hp => ?_, hok, I.len⟩
  · exact keep b o (neL b o e) hb (neC b o e hx) (I.base.keep b o e n hb hx) (I.base.free b o e n hx)
  · obtain ⟨sl, e1⟩ := I.base.slot b o e n hb hx
    obtain ⟨sl', e2⟩ := slot b _ (neL b o e) hb (neC b o e hx) e1 (I.base.free b o e n hx)
    exact ⟨sl', e2⟩
  · obtain ⟨o', e1⟩ := I.base.there b o e hx
    exact free b o' (neC b o e hx) e1 (I.base.free b o e n hx)
  · obtain ⟨o', e1⟩ := I.base.there b o e hx
    exact there b o' (neC b o e hx) e1
  · obtain ⟨m1, e1⟩ := I.base.tbls b ps e
    obtain ⟨m2, e2⟩ := tbls b _ e1
    exact ⟨m1 ++ m2, by rw [e2, Array.append_assoc]⟩
  · obtain ⟨m, hn, hl⟩ := I.loc
    refine ⟨m, ns m hn, fun i x v e1 e2 e3 => ?_⟩
    obtain ⟨u, r, l⟩ := hl i x v e1 e2 e3
    refine ⟨u, r, ?_⟩
    rcases l with l | ⟨k, c, e, z⟩
    · exact .inl l
    · exact .inr ⟨k, c, e, cellK x c e _ z⟩
  · obtain ⟨v, z⟩ := I.cell x c e
    exact ⟨v, cellK x c e v z⟩
  · obtain ⟨m, ⟨o, _, _, ho, _⟩, _⟩ := I.loc
    exact free _ o (fun z => (hch _ z).2.1 rfl) ho I.free
  · obtain ⟨v, o, ho, hd⟩ := I.cell x c e
    exact free c o (fun z => (hch c z).2.2.1 x c e rfl) ho (I.freeC x c e)
  · obtain ⟨e, n, ne, nf, d⟩ := I.pin p hp
    have nch : p.1 ∉ ch := fun z => (hch p.1 z).2.2.2 p hp rfl
    exact ⟨keep p.1 p.2 ne nf nch e n, free p.1 p.2 nch e n, ne, nf, d⟩
theorem Inv.un {t' : Nat} (I : Inv X pins σ H s) (u : Un X.fs [] H H' s.heap h') (hok : HOk X.prog X.w H' h') : Inv X pins σ H' { s with heap := h', toks := t' } := by
  obtain ⟨m, ⟨o, es, ep, ho, r⟩, _⟩ := id I.loc
  obtain ⟨sl, hL⟩ := u.any ho I.free (by simp)
  exact I.step (g' := s.gens) (d' := s.drawn) (ch := []) (fun _ z => nomatch z) (fun b o _ hb _ e n => u.keep b o e n hb (by simp)) (fun b o _ hb _ e n => u.slot b o e n hb (by simp)) (fun b o _ e n => u.free b o e n (by simp)) (fun b o _ e => u.there b o e (by simp)) u.tups u.frzs u.tbls (fun m' hm => by
    obtain ⟨o', es', ep', ho', r'⟩ := hm
    rw [ho] at ho'; cases ho'
    exact ⟨_, es', ep', hL, r'⟩) hok I.bare
theorem Inv.call {g' : Array GenState} {t' : Nat} {d' : Drawn} {ch : List Addr} (I : Inv X pins σ H s) (u : Un (frs X.stack) ch H H' s.heap h') (hok : HOk X.prog X.w H' h') (hg : AllBare g')
    (hch : ∀ b ∈ ch, (b ∈ X.ex ∨ X.s₀.heap.objs.size ≤ b) ∧ b ≠ X.env.locals ∧ (∀ x c, X.env.cells.lookup x = some c → c ≠ b) ∧ ∀ p ∈ X.pn ++ pins, p.1 ≠ b) :
    Inv X pins σ H' { s with heap := h', gens := g', drawn := d', toks := t' } := by
  obtain ⟨m, ⟨o, es, ep, ho, r⟩, _⟩ := id I.loc
  obtain ⟨sl, hL⟩ := u.any ho I.free fun z => (hch _ z).2.1 rfl
  exact I.step (ch := ch) hch (fun b o hL hb hc e n => u.keep b o e n (fun z => (List.mem_cons.mp (I.stkSub b z)).elim hL hb) hc) (fun b o _ _ hc e n => u.any e n hc) (fun b o hc e n => u.free b o e n hc) (fun b o hc e => u.there b o e hc) u.tups u.frzs u.tbls (fun m' hm => by
    obtain ⟨o', es', ep', ho', r'⟩ := hm
    rw [ho] at ho'; cases ho'
    exact ⟨_, es', ep', hL, r'⟩) hok hg
theorem Inv.turned {t' : Nat} {it : Addr} (I : Inv X pins σ H s) (k : ∀ b o, b ≠ it → s.heap.get? b = some o → h'.get? b = some o) (hn : H it = none) (hL : it ≠ X.env.locals)
    (h1 : it ∈ X.ex ∨ X.s₀.heap.objs.size ≤ it) (h2 : ∀ x c, X.env.cells.lookup x = some c → c ≠ it) (h3 : ∀ p ∈ X.pn ++ pins, p.1 ≠ it) : Inv X pins σ H { s with heap := h', toks := t' } := by
  have nit : ∀ b u, H b = some u → b ≠ it := fun b u e z => by rw [z, hn] at e; cases e
  refine I.step (g' := s.gens) (d' := s.drawn) (ch := [it]) (fun b hb => ?_) (fun b o _ _ hc e _ => k b o (fun z => hc (by simp [z])) e) (fun b o _ _ hc e _ => ⟨o.slots, k b o (fun z => hc (by simp [z])) e⟩) (fun _ _ _ _ n => n)
    (fun b o hc e => ⟨o, k b o (fun z => hc (by simp [z])) e⟩) (fun _ _ e => e) (fun _ _ _ e => e) (fun b ps e => ⟨#[], by rw [e]; simp⟩) (fun m hm => ?_) (fun b u e => ?_) I.bare
  · have e : b = it := by simpa using hb
    subst e
    exact ⟨h1, hL, h2, h3⟩
  · obtain ⟨o, es, ep, ho, r⟩ := hm
    exact ⟨o, es, ep, k _ o (Ne.symm hL) ho, r⟩
  · refine (I.hok b u e).stay (fun c v hc q => k c v ?_ q) (fun _ q => q) fun _ _ q => q
    rcases hc with z | z
    · rw [z]; exact nit b u e
    · exact nit c _ z
theorem Inv.tok (I : Inv X pins σ H s) (t : Nat) : Inv X pins σ H { s with toks := t } := I.un (h' := s.heap) (t' := t) Un.refl I.hok
theorem Inv.kept {t' : Nat} (I : Inv X pins σ H s) (k : ∀ b u, s.heap.get? b = some u → h'.get? b = some u) : Inv X pins σ H { s with heap := h', toks := t' } := I.un (Un.kept k) (I.hok.kept k)
theorem Inv.laid {a : Addr} {o : HO} {t' : Nat} (I : Inv X pins σ H s) (k : ∀ b u, s.heap.get? b = some u → h'.get? b = some u) (hp : s.heap.objs.size ≤ a) (new : ObjOk X.prog X.w (upd H a o) h' a o) :
    Inv X pins σ (upd H a o) { s with heap := h', toks := t' } := I.un (Un.laid k hp (I.hok.fresh hp)) (I.hok.laid k hp new)
theorem Inv.write {x e : Addr} {o : HO} {t' : Nat} (I : Inv X pins σ H s) (mu : Mut (H x)) (he : e = x ∨ H e = some (.own x)) (k : ∀ b u, b ≠ e → s.heap.get? b = some u → h'.get? b = some u) (heo : ∃ u, h'.get? e = some u)
    (new : ObjOk X.prog X.w (upd H x o) h' x o) : Inv X pins σ (upd H x o) { s with heap := h', toks := t' } := I.un (Un.write mu he k heo) (I.hok.write mu he k heo new)
theorem Inv.pins_of {pins' : List (Addr × Obj)} (I : Inv X pins σ H s) (h : ∀ p ∈ pins', s.heap.get? p.1 = some p.2 ∧ H p.1 = none ∧ p.1 ≠ X.env.locals ∧ p.1 ∉ X.fs ∧ ∀ v, p.2.data ≠ .cell v) : Inv X pins' σ H s :=
  ⟨I.ok, I.os, I.bare, I.base, I.loc, I.cell, I.free, I.freeC, fun p hp => (List.mem_append.mp hp).elim (fun z => I.pin p (List.mem_append_left _ z)) (h p), I.hok, I.len⟩

theorem nodup_ix {N : List Str} (hN : N.Nodup) {i j : Nat} {x : Str} (a : N[i]? = some x) (b : N[j]? = some x) : i = j := by
  obtain ⟨h1, e1⟩ := List.getElem?_eq_some_iff.mp a
  obtain ⟨h2, e2⟩ := List.getElem?_eq_some_iff.mp b
  exact (List.getElem_inj hN).mp (e1.trans e2.symm)

theorem store_ok2 {M : Model} {A : Around} {E : Value → Shared → Prop} {i : Nat} {x : Str} {v : V} {u : Value} {Q : Unit → Shared → Prop} (I : Inv X pins σ H s) (hN : X.N.Nodup) (hi : X.N[i]? = some x) (hx : Loc X.env.scope x) (r : RelV v u)
    (h : ∀ s', Inv X pins (σ.set i (some v)) H s' → (∃ a, Heap.SameBut a s.heap s'.heap ∧ (a = X.env.locals ∨ X.env.cells.lookup x = some a)) → Q () s') (hf : X.fn x = true ∨ X.env.scope.names.lookup x = some .local := by first | exact .inl rfl | exact .inr rfl | assumption) : wpAny M A (storeName X.env x u) Q E s := by
  obtain ⟨m, hn, hl⟩ := id I.loc
  have hcls : (X.env.scope.kind == .class || (X.env.scope.kind == .module && X.env.locals != X.env.globals)) = false := by rw [I.ok.kind]; rfl
  have hiσ : i < σ.length := by rw [I.len]; exact (List.getElem?_eq_some_iff.mp hi).1
  have cne := I.cne
  have tracked : ∀ {a : Addr} {h' : Heap}, (∃ o, s.heap.get? a = some o ∧ H a = none) → Heap.SameBut a s.heap h' → HOk X.prog X.w H h' := fun {a h'} ha hs b ob e => by
    obtain ⟨_, _, hfree⟩ := ha
    refine (I.hok b ob e).stay (fun c w' hc q => (hs.2 c ?_).trans q) (fun _ q => q) fun _ _ q => q
    rintro rfl
    rcases hc with rfl | hc
    · rw [hfree] at e; cases e
    · rw [hfree] at hc; cases hc
  rcases hx with hk | hk
  · refine wpAny_storeName_local hk hn (fun h' hn' hs => ?_) hcls
    obtain ⟨oL, _, _, hoL, _⟩ := id hn
    refine h _ ⟨I.ok, I.os, I.bare, ⟨fun b o e n hb hx => ?_, fun b o e n hb hx => ?_, I.base.free, fun b o e hx => ?_, I.base.tups, I.base.frzs, I.base.tbls⟩, ⟨_, hn', fun j y v' e1 e2 e3 => ?_⟩, fun y c e => ?_, I.free, I.freeC, fun p hp => ?_, tracked ⟨oL, hoL, I.free⟩ hs, by simpa using I.len⟩ ⟨_, hs, .inl rfl⟩
    · exact (hs.2 b (Nat.ne_of_lt (Nat.lt_of_lt_of_le (Heap.lt_size e) I.ok.above))).trans (I.base.keep b o e n hb hx)
    · obtain ⟨sl, e1⟩ := I.base.slot b o e n hb hx
      exact ⟨sl, (hs.2 b (Nat.ne_of_lt (Nat.lt_of_lt_of_le (Heap.lt_size e) I.ok.above))).trans e1⟩
    · obtain ⟨o', e1⟩ := I.base.there b o e hx
      exact ⟨o', (hs.2 b (Nat.ne_of_lt (Nat.lt_of_lt_of_le (Heap.lt_size e) I.ok.above))).trans e1⟩
    · by_cases hj : j = i
      · subst hj
        rw [hi] at e1; cases e1
        rw [List.getElem?_set_self hiσ] at e2
        cases e2
        exact ⟨u, r, .inl ⟨hk, by simp⟩⟩
      · rw [List.getElem?_set_ne (Ne.symm hj)] at e2
        obtain ⟨u', r', q⟩ := hl j y v' e1 e2 e3
        refine ⟨u', r', ?_⟩
        rcases q with ⟨k, e⟩ | ⟨k, c, e, z⟩
        · refine .inl ⟨k, ?_⟩
          have : y ≠ x := fun e => hj (nodup_ix hN e1 (e ▸ hi))
          simp [this, e]
        · exact .inr ⟨k, c, e, z.sameBut hs (cne y c e)⟩
    · obtain ⟨w', z⟩ := I.cell y c e
      exact ⟨w', z.sameBut hs (cne y c e)⟩
    · obtain ⟨e, n, ne, nf, d⟩ := I.pin p hp
      exact ⟨(hs.2 p.1 ne).trans e, n, ne, nf, d⟩
  · have hfn : X.fn x = true := by
      rcases hf with z | z
      · exact z
      · rw [z] at hk; cases hk
    obtain ⟨c, hc⟩ := I.ok.has x (.inl hk)
    obtain ⟨w', z⟩ := I.cell x c hc
    refine wpAny_storeName_cell I.ok.kind hk hc z (fun h' hc' hs => ?_)
    obtain ⟨oc, hoc, hocd⟩ := id z
    refine h { s with heap := h' } ⟨I.ok, I.os, I.bare, ⟨fun b o e n hb hx => ?_, fun b o e n hb hx => ?_, I.base.free, fun b o e hx => ?_, I.base.tups, I.base.frzs, I.base.tbls⟩, ⟨m, hn.sameBut hs (Ne.symm (cne x c hc)), fun j y v' e1 e2 e3 => ?_⟩, fun y c' e => ?_, I.free, I.freeC, fun p hp => ?_, tracked ⟨oc, hoc, I.freeC x c hc⟩ hs, by simpa using I.len⟩ ⟨c, hs, .inr hc⟩
    · exact (hs.2 b (Nat.ne_of_lt (Nat.lt_of_lt_of_le (Heap.lt_size e) (I.ok.cab x c hfn hc)))).trans (I.base.keep b o e n hb hx)
    · obtain ⟨sl, e1⟩ := I.base.slot b o e n hb hx
      exact ⟨sl, (hs.2 b (Nat.ne_of_lt (Nat.lt_of_lt_of_le (Heap.lt_size e) (I.ok.cab x c hfn hc)))).trans e1⟩
    · obtain ⟨o', e1⟩ := I.base.there b o e hx
      exact ⟨o', (hs.2 b (Nat.ne_of_lt (Nat.lt_of_lt_of_le (Heap.lt_size e) (I.ok.cab x c hfn hc)))).trans e1⟩
    · by_cases hj : j = i
      · subst hj
        rw [hi] at e1; cases e1
        rw [List.getElem?_set_self hiσ] at e2
        cases e2
        exact ⟨u, r, .inr ⟨.inl hk, c, hc, hc'⟩⟩
      · rw [List.getElem?_set_ne (Ne.symm hj)] at e2
        obtain ⟨u', r', q⟩ := hl j y v' e1 e2 e3
        refine ⟨u', r', ?_⟩
        rcases q with q | ⟨k, c', e, z'⟩
        · exact .inl q
        · refine .inr ⟨k, c', e, z'.sameBut hs ?_⟩
          rintro rfl
          exact hj (nodup_ix hN e1 (I.ok.inj _ _ _ e hc ▸ hi))
    · by_cases hcc : c' = c
      · subst hcc; exact ⟨_, hc'⟩
      · obtain ⟨w2, z2⟩ := I.cell y c' e
        exact ⟨w2, z2.sameBut hs hcc⟩
    · obtain ⟨e, n, ne, nf, d⟩ := I.pin p hp
      refine ⟨(hs.2 p.1 ?_).trans e, n, ne, nf, d⟩
      intro q
      rw [q, hoc] at e
      have q' : oc = p.2 := Option.some.inj e
      exact d w' (by rw [← q']; exact hocd)
theorem store_ok {M : Model} {A : Around} {E : Value → Shared → Prop} {i : Nat} {x : Str} {v : V} {u : Value} {Q : Unit → Shared → Prop} (I : Inv X pins σ H s) (hN : X.N.Nodup) (hi : X.N[i]? = some x) (hx : Loc X.env.scope x) (r : RelV v u)
    (h : ∀ s', Inv X pins (σ.set i (some v)) H s' → Q () s') (hf : X.fn x = true ∨ X.env.scope.names.lookup x = some .local := by first | exact .inl rfl | exact .inr rfl | assumption) : wpAny M A (storeName X.env x u) Q E s :=
  store_ok2 I hN hi hx r (fun s' I' _ => h s' I') hf
theorem Inv.call' {s' : Shared} {ch : List Addr} (I : Inv X pins σ H s) (ho : s'.os = s.os) (u : Un (frs X.stack) ch H H' s.heap s'.heap) (hok : HOk X.prog X.w H' s'.heap) (hg : AllBare s'.gens)
    (hch : ∀ b ∈ ch, (b ∈ X.ex ∨ X.s₀.heap.objs.size ≤ b) ∧ b ≠ X.env.locals ∧ (∀ x c, X.env.cells.lookup x = some c → c ≠ b) ∧ ∀ p ∈ X.pn ++ pins, p.1 ≠ b) : Inv X pins σ H' s' := by
  obtain ⟨h', g', d', t', o'⟩ := s'
  have e : o' = s.os := ho
  subst e
  exact I.call (g' := g') (t' := t') (d' := d') u hok hg hch
end

noncomputable abbrev XK := Value → Option Addr → Hp → Prop
noncomputable abbrev St := List (Option V)
noncomputable abbrev VK := V → Hp → Prop
noncomputable abbrev TE := St → Hp → VK → Prop
noncomputable abbrev TT := St → Hp → (Bool → Hp → Prop) → Prop
noncomputable abbrev TA := St → Hp → (List V → Hp → Prop) → Prop
structure Ends where
  nx : St → Hp → Prop
  rt : VK
  bk : St → Hp → Prop := fun _ _ => False
  ct : St → Hp → Prop := fun _ _ => False
noncomputable abbrev TS := Ends → St → Hp → Prop

noncomputable def EP (X : Cx) (pins : List (Addr × Obj)) (σ : St) (Q : VK) (u : Value) (s' : Shared) : Prop := ∃ v H', Inv X pins σ H' s' ∧ RelV v u ∧ Q v H'
noncomputable def TP (X : Cx) (pins : List (Addr × Obj)) (σ : St) (Q : Bool → Hp → Prop) (b : Bool) (s' : Shared) : Prop := ∃ H', Inv X pins σ H' s' ∧ Q b H'
noncomputable def AP (X : Cx) (pins : List (Addr × Obj)) (σ : St) (Q : List V → Hp → Prop) (us : List Value) (s' : Shared) : Prop := ∃ vs H', Inv X pins σ H' s' ∧ Vals vs us ∧ Q vs H'
noncomputable def SP (X : Cx) (pins : List (Addr × Obj)) (D : Ends) (f : Flow) (s' : Shared) : Prop :=
  match f with
  | .next => ∃ σ' H', Inv X pins σ' H' s' ∧ D.nx σ' H'
  | .brk => ∃ σ' H', Inv X pins σ' H' s' ∧ D.bk σ' H'
  | .cont => ∃ σ' H', Inv X pins σ' H' s' ∧ D.ct σ' H'
  | .ret u => ∃ v σ' H', Inv X pins σ' H' s' ∧ RelV v u ∧ D.rt v H'

noncomputable def PE (X : Cx) (e : Expr) (t : TE) : Prop :=
  ∀ (pins : List (Addr × Obj)) (s : Shared) (σ : St) (H : Hp) (Q : VK), Inv X pins σ H s → t σ H Q → wpAny (model X.prog X.w) X.A (eval e X.env) (EP X pins σ Q) X.xe s
noncomputable def PT (X : Cx) (e : Expr) (t : TT) : Prop :=
  ∀ (pins : List (Addr × Obj)) (s : Shared) (σ : St) (H : Hp) (Q : Bool → Hp → Prop), Inv X pins σ H s → t σ H Q → wpAny (model X.prog X.w) X.A (isTrue e X.env (eval e X.env)) (TP X pins σ Q) X.xe s
noncomputable def PW (X : Cx) (e : Expr) (t : TT) : Prop :=
  ∀ (whole : Sem Value) (pins : List (Addr × Obj)) (s : Shared) (σ : St) (H : Hp) (Q : Bool → Hp → Prop), Inv X pins σ H s → t σ H Q → wpAny (model X.prog X.w) X.A (isTrue e X.env whole) (TP X pins σ Q) X.xe s
theorem PW.pt {X : Cx} {e : Expr} {t : TT} (h : PW X e t) : PT X e t := h _
noncomputable def PA (X : Cx) (es : List Expr) (t : TA) : Prop :=
  ∀ (pos : Pos) (pins : List (Addr × Obj)) (s : Shared) (σ : St) (H : Hp) (Q : List V → Hp → Prop), Inv X pins σ H s → t σ H Q → wpAny (model X.prog X.w) X.A (spliced (backTo pos (starEach es X.env))) (AP X pins σ Q) X.xe s
noncomputable def PS (X : Cx) (st : Stmt) (t : TS) : Prop :=
  ∀ (pins : List (Addr × Obj)) (s : Shared) (σ : St) (H : Hp) (D : Ends), Inv X pins σ H s → t D σ H → wpAny (model X.prog X.w) X.A (exec st X.env) (SP X pins D) X.xe s
noncomputable def PSs (X : Cx) (st : List Stmt) (t : TS) : Prop :=
  ∀ (pins : List (Addr × Obj)) (s : Shared) (σ : St) (H : Hp) (D : Ends), Inv X pins σ H s → t D σ H → wpAny (model X.prog X.w) X.A (execs st X.env) (SP X pins D) X.xe s
theorem thn {α : Type} {t : Sem α} {Q Q' : α → Shared → Prop} {M : Model} {A : Around} {E : Value → Shared → Prop} {s : Shared} (h : wpAny M A t Q E s) (hQ : ∀ a s, Q a s → Q' a s) : wpAny M A t Q' E s := wpAny_mono h hQ fun _ _ x => x
end L2

namespace L2
open PySem PySem.Spec PyProof.Rows
section
variable {X : Cx}

noncomputable def tVar (i : Nat) : TE := fun σ H Q => ∃ v, σ[i]? = some (some v) ∧ Q v H
noncomputable def tC (v : V) : TE := fun _ H Q => Q v H
theorem pe_var {i : Nat} {x : Str} {pos : Pos} (hN : X.N[i]? = some x) (hv : Vis X.env.scope x) (hd : (x == ("__debug__" : Str)) = false := by decide) (hcd : (x == ("__classdict__" : Str)) = false := by decide) : PE X (.Name x pos) (tVar i) := by
  intro pins s σ H Q I h
  obtain ⟨v, e, h⟩ := h
  obtain ⟨m, hn, hl⟩ := I.loc
  obtain ⟨u, r, l⟩ := hl i x v hN e hv
  have fin : EP X pins σ Q u s := ⟨v, H, I, r, h⟩
  rcases l with ⟨hk, hm⟩ | ⟨hk, c, hc, hcell⟩
  · exact wpAny_Name (wpAny_loadName_local I.ok.kind hk hn hm fin) hd
  · rcases hk with hk | hk
    · exact wpAny_Name (wpAny_loadName_cell I.ok.kind hk hc hcell fin) hd
    · exact wpAny_Name (wpAny_loadName_free I.ok.kind hk hc hcell fin hcd) hd
theorem pe_int {i j pos} : PE X (.Constant (.int i) j pos) (tC (.int i)) := fun _ _ _ H _ I h => wpAny_Constant_int ⟨.int i, H, I.tok _, ⟨_, rfl⟩, h⟩
theorem pe_bl {b j pos} : PE X (.Constant (.bool b) j pos) (tC (.bl b)) := fun _ _ _ H _ I h => Constant_bool ⟨.bl b, H, I, rfl, h⟩
theorem pe_non {j pos} : PE X (.Constant .none j pos) (tC .non) := fun _ _ _ H _ I h => Constant_none ⟨.non, H, I, rfl, h⟩
noncomputable def Gl (X : Cx) (x : Str) : Prop := X.env.kindOf x = some .globalImplicit
theorem ld_glob {E : Value → Shared → Prop} {pins : List (Addr × Obj)} {s : Shared} {σ : St} {H : Hp} {x : Str} {u : Value} {pos : Pos} {Q : Value → Shared → Prop} (I : Inv X pins σ H s) (hg : Gl X x) (hm : X.mg x = some u) (h : Q u s)
    (hd : (x == ("__debug__" : Str)) = false := by decide) : wpAny (model X.prog X.w) X.A (eval (.Name x pos) X.env) Q E s :=
  Calls.Name_function_global I.ok.kind hg (Calls.loadGlobal_global (by rw [I.ok.glob]; exact I.mod.glob.keeps I.bk) hm h) hd
theorem ld_blt {E : Value → Shared → Prop} {pins : List (Addr × Obj)} {s : Shared} {σ : St} {H : Hp} {x : Str} {u : Value} {pos : Pos} {Q : Value → Shared → Prop} (I : Inv X pins σ H s) (hg : Gl X x) (hm : X.mg x = none) (hv : bootBuiltins x = some u) (h : Q u s)
    (hn : x ≠ "__name__" := by decide) (hd : (x == ("__debug__" : Str)) = false := by decide) : wpAny (model X.prog X.w) X.A (eval (.Name x pos) X.env) Q E s := by
  obtain ⟨mb, h1, h2⟩ := I.mod.blt
  exact Calls.Name_function_global I.ok.kind hg (Calls.loadGlobal_builtin (by rw [I.ok.glob]; exact I.mod.glob.keeps I.bk) hm (by rw [I.ok.blt]; exact h1.keeps I.bk) ((h2 x hn).trans hv) h) hd
theorem pe_glob {x : Str} {v : V} {u : Value} {pos : Pos} (hg : Gl X x) (hm : X.mg x = some u) (r : RelV v u) (hd : (x == ("__debug__" : Str)) = false := by decide) : PE X (.Name x pos) (tC v) :=
  fun _ _ _ H _ I h => ld_glob I hg hm ⟨v, H, I, r, h⟩ hd
theorem pe_bltn {x : Str} {v : V} {u : Value} {pos : Pos} (hg : Gl X x) (hm : X.mg x = none) (hv : bootBuiltins x = some u) (r : RelV v u) (hn : x ≠ "__name__" := by decide) (hd : (x == ("__debug__" : Str)) = false := by decide) : PE X (.Name x pos) (tC v) :=
  fun _ _ _ H _ I h => ld_blt I hg hm hv ⟨v, H, I, r, h⟩ hn hd

variable {a b : Expr} {ta tb : TE} {pos : Pos}
noncomputable def PC (X : Cx) (op : CmpOp) (a b : Expr) (t : TE) : Prop :=
  ∀ (pins : List (Addr × Obj)) (s : Shared) (σ : St) (H : Hp) (Q : VK), Inv X pins σ H s → t σ H Q →
    wpAny (model X.prog X.w) X.A (eval a X.env) (fun v s₁ => wpAny (model X.prog X.w) X.A (eval b X.env) (fun u s₂ => wpAny (model X.prog X.w) X.A (compareOp op v u) (EP X pins σ Q) X.xe s₂) X.xe s₁) X.xe s
noncomputable def tB (t : TE) : TT := fun σ H Q => t σ H fun x H1 => ∃ c, x = .bl c ∧ Q c H1
theorem pe_cmp {op : CmpOp} {t : TE} (h : PC X op a b t) (h1 : behindInMarks op b = false := by first | exact nobehind _ (by decide) (by decide) | rfl) : PE X (.Compare a [op] [b] pos) t := fun pins s σ H Q I hw => wpAny_Compare1 (h pins s σ H Q I hw) h1
theorem pt_cmp {op : CmpOp} {t : TE} (h : PC X op a b t) (h1 : behindInMarks op b = false := by first | exact nobehind _ (by decide) (by decide) | rfl) : PT X (.Compare a [op] [b] pos) (tB t) := by
  intro pins s σ H Q I hw
  refine wpAny_isTrue_Compare1 (thn (h pins s σ H _ I hw) fun v s1 h1 => thn h1 fun u s2 h2 => thn h2 fun c s3 ⟨x, H1, I1, r1, q1⟩ => ?_) h1
  obtain ⟨d, rfl, q⟩ := q1
  cases r1
  exact wpAny_truthy_bool ⟨H1, I1, q⟩
theorem pt_val {e : Expr} {t : TE} (h : PE X e t) (he : ∀ whole, isTrue e X.env whole = (do let v ← whole; standAt e.pos; holding [v] (truthy v)) := by intro _; rfl) : PT X e (tB t) := by
  intro pins s σ H Q I hw
  refine isTrue_plain (thn (h pins s σ H _ I hw) fun v s1 ⟨x, H1, I1, r1, q1⟩ => ?_) (he _)
  obtain ⟨d, rfl, q⟩ := q1
  cases r1
  exact wpAny_truthy_bool ⟨H1, I1, q⟩

variable {tA tB' : TT} {rest : List Expr}
noncomputable def tAnd (t u : TT) : TT := fun σ H Q => t σ H fun c H1 => if c = true then u σ H1 Q else Q false H1
noncomputable def tOr (t u : TT) : TT := fun σ H Q => t σ H fun c H1 => if c = true then Q true H1 else u σ H1 Q
noncomputable def tNot (t : TT) : TT := fun σ H Q => t σ H fun c H1 => Q (!c) H1
theorem pw_and1 (ha : PT X a tA) : PW X (.BoolOp .And [a] pos) tA := by
  intro wh pins s σ H Q I h
  refine isTrue_and (thn (ha pins s σ H Q I h) fun c s1 e => ?_)
  cases c with
  | true => exact isTrue_and_nil e
  | false => exact e
theorem pw_or1 (ha : PT X a tA) : PW X (.BoolOp .Or [a] pos) tA := by
  intro wh pins s σ H Q I h
  refine isTrue_or (thn (ha pins s σ H Q I h) fun c s1 e => ?_)
  cases c with
  | false => exact isTrue_or_nil e
  | true => exact e
theorem pw_and (ha : PT X a tA) (hb : PW X (.BoolOp .And (b :: rest) pos) tB') : PW X (.BoolOp .And (a :: b :: rest) pos) (tAnd tA tB') := by
  intro wh pins s σ H Q I h
  refine isTrue_and (thn (ha pins s σ H _ I h) fun c s1 ⟨H1, I1, q1⟩ => ?_)
  cases c with
  | true => exact hb wh pins s1 σ H1 Q I1 q1
  | false => exact ⟨H1, I1, q1⟩
theorem pw_or (ha : PT X a tA) (hb : PW X (.BoolOp .Or (b :: rest) pos) tB') : PW X (.BoolOp .Or (a :: b :: rest) pos) (tOr tA tB') := by
  intro wh pins s σ H Q I h
  refine isTrue_or (thn (ha pins s σ H _ I h) fun c s1 ⟨H1, I1, q1⟩ => ?_)
  cases c with
  | true => exact ⟨H1, I1, q1⟩
  | false => exact hb wh pins s1 σ H1 Q I1 q1
theorem pt_not (ha : PT X a tA) : PT X (.UnaryOp .Not a pos) (tNot tA) := by
  intro pins s σ H Q I h
  exact isTrue_not (ha pins s σ H (fun c H1 => Q (!c) H1) I h)
noncomputable def tAndV (ta tb : TE) : TE := fun σ H Q => ta σ H fun x H1 => ∃ c, x = .bl c ∧ if c = true then tb σ H1 Q else Q (.bl false) H1
noncomputable def tOrV (ta tb : TE) : TE := fun σ H Q => ta σ H fun x H1 => ∃ c, x = .bl c ∧ if c = true then Q (.bl true) H1 else tb σ H1 Q
noncomputable def tNotV (ta : TE) : TE := fun σ H Q => ta σ H fun x H1 => ∃ c, x = .bl c ∧ Q (.bl (!c)) H1
theorem pe_one {op} {t : TE} (h : PE X a t) : PE X (.BoolOp op [a] pos) t := fun pins s σ H Q I hw => BoolOp_one (h pins s σ H Q I hw)
theorem pe_and (ha : PE X a ta) (hb : PE X (.BoolOp .And (b :: rest) pos) tb) : PE X (.BoolOp .And (a :: b :: rest) pos) (tAndV ta tb) := by
  intro pins s σ H Q I h
  refine BoolOp_and (thn (ha pins s σ H _ I h) fun v s1 ⟨x, H1, I1, r1, q1⟩ => ?_)
  obtain ⟨c, rfl, q1⟩ := q1
  cases r1
  refine wpAny_truthy_bool ?_
  cases c with
  | true => exact hb pins s1 σ H1 Q I1 q1
  | false => exact ⟨.bl false, H1, I1, rfl, q1⟩
theorem pe_or (ha : PE X a ta) (hb : PE X (.BoolOp .Or (b :: rest) pos) tb) : PE X (.BoolOp .Or (a :: b :: rest) pos) (tOrV ta tb) := by
  intro pins s σ H Q I h
  refine BoolOp_or (thn (ha pins s σ H _ I h) fun v s1 ⟨x, H1, I1, r1, q1⟩ => ?_)
  obtain ⟨c, rfl, q1⟩ := q1
  cases r1
  refine wpAny_truthy_bool ?_
  cases c with
  | false => exact hb pins s1 σ H1 Q I1 q1
  | true => exact ⟨.bl true, H1, I1, rfl, q1⟩
theorem pe_not (ha : PE X a ta) : PE X (.UnaryOp .Not a pos) (tNotV ta) := by
  intro pins s σ H Q I h
  refine UnaryOp_ (thn (ha pins s σ H _ I h) fun v s1 ⟨x, H1, I1, r1, q1⟩ => ?_)
  obtain ⟨c, rfl, q1⟩ := q1
  cases r1
  exact not_of (wpAny_truthy_bool ⟨.bl (!c), H1, I1, rfl, q1⟩)
noncomputable def tIf (t : TT) (ta tb : TE) : TE := fun σ H Q => t σ H fun c H1 => if c = true then ta σ H1 Q else tb σ H1 Q
theorem pe_ifExp {c : Expr} (hc : PT X c tA) (ha : PE X a ta) (hb : PE X b tb) : PE X (.IfExp c a b pos) (tIf tA ta tb) := by
  intro pins s σ H Q I h
  refine wpAny_IfExp (thn (hc pins s σ H _ I h) fun d s1 ⟨H1, I1, q1⟩ => ?_)
  cases d with
  | true => exact ha pins s1 σ H1 Q I1 q1
  | false => exact hb pins s1 σ H1 Q I1 q1
end
end L2

namespace L2
open PySem PySem.Spec PyProof.Rows

noncomputable def SqL (K : PySem.W.Frag) (H : Hp) (a : Addr) (xs : List V) : Prop :=
  Rd H a (.lst xs) ∨
    ∃ (o : Obj) (its : Array Value) (n : Nat), K.lookup a = some o ∧ o.cls = .type "list" ∧ o.dict = none ∧ o.data = .seq its n ∧ its.size ≤ sizeLine ∧ Vals xs its.toList
noncomputable def SqT (K : PySem.W.Frag) (H : Hp) (a : Addr) (xs : List V) : Prop :=
  Rd H a (.tup xs) ∨
    ∃ (o : Obj) (its : Array Value) (n : Nat), K.lookup a = some o ∧ o.cls = .type "tuple" ∧ o.data = .seq its n ∧ its.size ≤ sizeLine ∧ Vals xs its.toList
noncomputable def absV : Value → Option V
  | .none => some .non
  | .bool b => some (.bl b)
  | .int i _ => some (.int i)
  | .str x _ => some (.str x)
  | .bytes b _ => some (.byt b)
  | .float b _ => some (.flt b)
  | .ref a => some (.ref a)
  | .type n => some (.ty n)
  | _ => none
theorem RelV.abs {x : V} {u : Value} (r : RelV x u) : absV u = some x := by
  cases x with
  | non => cases r; rfl
  | bl _ => cases r; rfl
  | int _ => obtain ⟨t, rfl⟩ := r; rfl
  | str _ => obtain ⟨t, rfl⟩ := r; rfl
  | byt _ => obtain ⟨t, rfl⟩ := r; rfl
  | flt _ => obtain ⟨t, rfl⟩ := r; rfl
  | ref _ => cases r; rfl
  | ty _ => cases r; rfl
theorem RelV.inj {x y : V} {u : Value} (r : RelV x u) (q : RelV y u) : x = y := Option.some.inj (r.abs.symm.trans q.abs)
theorem Vals.inj : ∀ {xs ys : List V} {us : List Value}, Vals xs us → Vals ys us → xs = ys
  | _, _, _, .nil, .nil => rfl
  | _, _, _, .cons r t, .cons r' t' => by rw [r.inj r', Vals.inj t t']
section
variable {X : Cx} {pins : List (Addr × Obj)} {σ : St} {H : Hp} {s : Shared} {a : Addr} {xs ys : List V}
theorem SqL.of {K : PySem.W.Frag} (h : H a = some (.lst xs)) : SqL K H a xs := .inl (.inl h)
theorem SqT.of {K : PySem.W.Frag} (h : H a = some (.tup xs)) : SqT K H a xs := .inl (.inl h)
theorem Inv.list (I : Inv X pins σ H s) (h : SqL X.K H a xs) : ∃ its : List Value, Vals xs its ∧ PlainL s.heap a its.toArray ∧ xs.length ≤ sizeLine := by
  rcases h with h | ⟨o, its, n, hk, hc, hd, hs, hz, r⟩
  · obtain ⟨z, its, n, r, e⟩ := h.ok I.hok
    exact ⟨its, r, ⟨_, n, e, rfl, rfl, rfl⟩, z⟩
  · refine ⟨its.toList, r, ⟨o, n, I.kIn a o hk, hc, hd, by simpa using hs⟩, ?_⟩
    have e := r.length
    simp only [Array.length_toList] at e
    omega
theorem Inv.tuple (I : Inv X pins σ H s) (h : SqT X.K H a xs) : ∃ its : List Value, Vals xs its ∧ IsTup s.heap a its.toArray ∧ xs.length ≤ sizeLine := by
  rcases h with h | ⟨o, its, n, hk, hc, hs, hz, r⟩
  · obtain ⟨z, its, r, p⟩ := h.ok I.hok
    exact ⟨its, r, p, z⟩
  · refine ⟨its.toList, r, ⟨o, I.kIn a o hk, hc, n, by simpa using hs⟩, ?_⟩
    have e := r.length
    simp only [Array.length_toList] at e
    omega
theorem Inv.list_inj (I : Inv X pins σ H s) (h : SqL X.K H a xs) (h' : SqL X.K H a ys) : xs = ys := by
  obtain ⟨its, r, ⟨o, n, e, _, _, d⟩, _⟩ := I.list h
  obtain ⟨its', r', ⟨o', n', e', _, _, d'⟩, _⟩ := I.list h'
  rw [e] at e'; cases e'
  rw [d] at d'
  injection d' with d1 _
  have : its = its' := by simpa using congrArg Array.toList d1
  subst this
  exact r.inj r'
theorem Inv.tuple_inj (I : Inv X pins σ H s) (h : SqT X.K H a xs) (h' : SqT X.K H a ys) : xs = ys := by
  obtain ⟨its, r, ⟨o, e, _, n, d⟩, _⟩ := I.tuple h
  obtain ⟨its', r', ⟨o', e', _, n', d'⟩, _⟩ := I.tuple h'
  rw [e] at e'; cases e'
  rw [d] at d'
  injection d' with d1 _
  have : its = its' := by simpa using congrArg Array.toList d1
  subst this
  exact r.inj r'
end

noncomputable abbrev Cx.wish (X : Cx) (E : Value → Shared → Prop) : Cx := { X with xe := E }
noncomputable abbrev Cx.nox (X : Cx) : Cx := X.wish fun _ _ => False
theorem Cx.Ok.wish {X : Cx} (ok : X.Ok) (E : Value → Shared → Prop) : (X.wish E).Ok :=
  ⟨ok.mod, ok.kind, ok.glob, ok.blt, ok.above, ok.inj, ok.has, ok.cab, ok.hd, ok.frames, ok.stk, ok.exf, ok.bs, ok.bsz, ok.noex, ok.exfs, ok.funs, ok.frf⟩
theorem Cx.Ok.unwish {X : Cx} {E : Value → Shared → Prop} (ok : (X.wish E).Ok) : X.Ok :=
  ⟨ok.mod, ok.kind, ok.glob, ok.blt, ok.above, ok.inj, ok.has, ok.cab, ok.hd, ok.frames, ok.stk, ok.exf, ok.bs, ok.bsz, ok.noex, ok.exfs, ok.funs, ok.frf⟩
section
variable {X : Cx} {pins : List (Addr × Obj)} {σ : St} {H : Hp} {s : Shared} {E : Value → Shared → Prop}
theorem Inv.wish (I : Inv X pins σ H s) (E : Value → Shared → Prop) : Inv (X.wish E) pins σ H s := ⟨I.ok.wish E, I.os, I.bare, I.base, I.loc, I.cell, I.free, I.freeC, I.pin, I.hok, I.len⟩
theorem Inv.unwish (I : Inv (X.wish E) pins σ H s) : Inv X pins σ H s := ⟨I.ok.unwish, I.os, I.bare, I.base, I.loc, I.cell, I.free, I.freeC, I.pin, I.hok, I.len⟩
theorem SP.unwish {D : Ends} {f : Flow} {s' : Shared} (h : SP (X.wish E) pins D f s') : SP X pins D f s' := by
  cases f with
  | next => obtain ⟨σ', H', I, q⟩ := h; exact ⟨σ', H', I.unwish, q⟩
  | brk => obtain ⟨σ', H', I, q⟩ := h; exact ⟨σ', H', I.unwish, q⟩
  | cont => obtain ⟨σ', H', I, q⟩ := h; exact ⟨σ', H', I.unwish, q⟩
  | ret u => obtain ⟨v, σ', H', I, r, q⟩ := h; exact ⟨v, σ', H', I.unwish, r, q⟩
theorem PT.nox {e : Expr} {t : TT} (h : PT X.nox e t) : PT X e t := fun pins s σ H Q I hw =>
  wpAny_mono (h pins s σ H Q (I.wish _) hw) (fun _ _ ⟨H', I', q⟩ => ⟨H', I'.unwish, q⟩) fun _ _ z => False.elim z
theorem PSs.nox {st : List Stmt} {t : TS} (h : PSs X.nox st t) : PSs X st t := fun pins s σ H D I hw =>
  wpAny_mono (h pins s σ H D (I.wish _) hw) (fun _ _ q => q.unwish) fun _ _ z => False.elim z
end

section
variable {X : Cx} {st : Stmt} {rest : List Stmt} {t u : TS} {e : Expr} {te : TE} {pos : Pos}
noncomputable def tNext : TS := fun D σ H => D.nx σ H
noncomputable def tSeq (t u : TS) : TS := fun D σ H => t { D with nx := u D } σ H
theorem pss_nil : PSs X [] tNext := fun _ _ σ H _ I h => wpAny_execs_nil ⟨σ, H, I, h⟩
theorem pss_cons (h1 : PS X st t) (h2 : PSs X rest u) : PSs X (st :: rest) (tSeq t u) := by
  intro pins s σ H D I h
  refine wpAny_execs_cons (thn (h1 pins s σ H { D with nx := u D } I h) fun f s1 q => ?_)
  cases f with
  | next =>
    obtain ⟨σ', H', I', q⟩ := q
    exact h2 pins s1 σ' H' D I' q
  | ret v => exact q
  | brk => exact q
  | cont => exact q
theorem pss_one (h1 : PS X st t) : PSs X [st] t := by
  intro pins s σ H D I h
  refine wpAny_execs_cons (thn (h1 pins s σ H D I h) fun f s1 q => ?_)
  cases f with
  | next => exact wpAny_execs_nil q
  | ret v => exact q
  | brk => exact q
  | cont => exact q
noncomputable def tBreak : TS := fun D σ H => D.bk σ H
noncomputable def tCont : TS := fun D σ H => D.ct σ H
theorem Inv.quiet {pins : List (Addr × Obj)} {σ : St} {H : Hp} {s : Shared} (I : Inv X pins σ H s) : interactive X.env = false := by simp [interactive, I.ok.kind]
noncomputable def tDrop (te : TE) : TS := fun D σ H => te σ H fun _ H1 => D.nx σ H1
theorem ps_expr (he : PE X e te) (hs : swapsWith e none pos.line X.env = pure false := by rfl) : PS X (.Expr e pos) (tDrop te) := by
  intro pins s σ H D I h
  exact wpAny_Expr_any (thn (he pins s σ H _ I h) fun v s1 ⟨x, H1, I1, r1, q1⟩ => ⟨σ, H1, I1, q1⟩) I.quiet hs
noncomputable def tRet (te : TE) : TS := fun D σ H => te σ H D.rt
theorem ps_ret (he : PE X e te) : PS X (.Return (some e) pos) (tRet te) := by
  intro pins s σ H D I h
  exact wpAny_Return_some (thn (he pins s σ H _ I h) fun v s1 ⟨x, H1, I1, r1, q1⟩ => ⟨x, σ, H1, I1, r1, q1⟩)
noncomputable def tRetN : TS := fun D _ H => D.rt .non H
noncomputable def tIfS (c : TT) (t u : TS) : TS := fun D σ H => c σ H fun b H1 => if b = true then t D σ H1 else u D σ H1
theorem ps_if {c : Expr} {a b : List Stmt} {tc : TT} (hc : PT X c tc) (ha : PSs X a t) (hb : PSs X b u) : PS X (.If c a b pos) (tIfS tc t u) := by
  intro pins s σ H D I h
  refine wpAny_If (thn (hc pins s σ H _ I h) fun d s1 ⟨H1, I1, q1⟩ => ?_)
  cases d with
  | true => exact ha pins s1 σ H1 D I1 q1
  | false => exact hb pins s1 σ H1 D I1 q1
end

noncomputable abbrev TG := V → St → Hp → (St → Hp → Prop) → Prop
noncomputable abbrev TGs := List V → St → Hp → (St → Hp → Prop) → Prop
noncomputable def PG (X : Cx) (target : Expr) (t : TG) : Prop :=
  ∀ (pins : List (Addr × Obj)) (s : Shared) (σ : St) (H : Hp) (v : V) (u : Value) (Q : St → Hp → Prop), Inv X pins σ H s → RelV v u → t v σ H Q →
    wpAny (model X.prog X.w) X.A (assign target X.env u) (fun _ s' => ∃ σ' H', Inv X pins σ' H' s' ∧ Q σ' H') X.xe s
noncomputable def PGs (X : Cx) (ts : List Expr) (t : TGs) : Prop :=
  ∀ (pins : List (Addr × Obj)) (s : Shared) (σ : St) (H : Hp) (vs : List V) (us : List Value) (Q : St → Hp → Prop), Inv X pins σ H s → Vals vs us → t vs σ H Q →
    wpAny (model X.prog X.w) X.A (assignInOrder ((assignEach ts X.env).map (·.2)) us) (fun _ s' => ∃ σ' H', Inv X pins σ' H' s' ∧ Q σ' H') X.xe s
noncomputable abbrev TSet := V → V → V → Hp → (Hp → Prop) → Prop
noncomputable abbrev TIp := V → V → Hp → VK → Prop
noncomputable def PIp (X : Cx) (op : Operator) (t : TIp) : Prop :=
  ∀ (pins : List (Addr × Obj)) (s : Shared) (σ : St) (H : Hp) (x y : V) (v u : Value) (Q : VK), Inv X pins σ H s → RelV x v → RelV y u → t x y H Q →
    wpAny (model X.prog X.w) X.A (inplaceOp op v u) (EP X pins σ Q) X.xe s
section
variable {X : Cx} {pos : Pos}
noncomputable def gName (i : Nat) : TG := fun v σ H Q => Q (σ.set i (some v)) H
theorem pg_name {i : Nat} {x : Str} (hN : X.N.Nodup) (hi : X.N[i]? = some x) (hx : Loc X.env.scope x) (hf : X.fn x = true ∨ X.env.scope.names.lookup x = some .local := by first | exact .inl rfl | exact .inr rfl | assumption) : PG X (.Name x pos) (gName i) := by
  intro pins s σ H v u Q I r h
  exact wpAny_assign_Name (store_ok I hN hi hx r (fun s' I' => ⟨_, H, I', h⟩) hf)
noncomputable def gNil : TGs := fun vs σ H Q => vs = [] ∧ Q σ H
noncomputable def gCons (t : TG) (u : TGs) : TGs := fun vs σ H Q => ∃ v r, vs = v :: r ∧ t v σ H fun σ' H' => u r σ' H' Q
theorem pgs_nil : PGs X [] gNil := by
  intro pins s σ H vs us Q I r h
  obtain ⟨e, h⟩ := h
  subst e
  cases r
  exact assignInOrder_nil ⟨σ, H, I, h⟩
theorem pgs_cons {e : Expr} {es : List Expr} {t : TG} {u : TGs} (h1 : PG X e t) (h2 : PGs X es u)
    (hs : (assignEach (e :: es) X.env).map (·.2) = assign e X.env :: (assignEach es X.env).map (·.2) := by rfl) : PGs X (e :: es) (gCons t u) := by
  intro pins s σ H vs us Q I r h
  obtain ⟨v, vr, e1, h⟩ := h
  subst e1
  cases r with
  | cons r rr =>
    rw [hs]
    refine assignInOrder_cons (thn (h1 pins s σ H _ _ _ I r h) fun _ s1 ⟨σ1, H1, I1, q1⟩ => ?_)
    exact h2 pins s1 σ1 H1 _ _ Q I1 rr q1
noncomputable def gTup (K : PySem.W.Frag) (n : Nat) (t : TGs) : TG := fun v σ H Q => ∃ a xs, v = .ref a ∧ SqT K H a xs ∧ xs.length = n ∧ t xs σ H Q
theorem pg_tup {es : List Expr} {k : Nat} {t : TGs} {n : Nat} (hc : X.calm = true) (h : PGs X es t)
    (hn : (assignEach es X.env).length = n := by rfl) (hst : (assignEach es X.env).findIdx? (·.1) = none := by rfl) : PG X (.Tuple es k pos) (gTup X.K n t) := by
  intro pins s σ H v u Q I r hw
  obtain ⟨a, xs, e1, hq, hl, hw⟩ := hw
  subst e1
  cases r
  obtain ⟨its, rv, ht, hz⟩ := I.tuple hq
  refine assign_Tuple_tuple (I.ok.hd hc) ht (by simp [hn, ← hl, rv.length]) hst fun h' hx => ?_
  have I1 : Inv X pins σ H { s with heap := h' } := I.kept (t' := s.toks) fun b o e => hx b o (Nat.ne_of_lt (Heap.lt_size e)) e
  exact h pins _ σ H xs _ Q I1 (by simpa using rv) hw
noncomputable def gSub (to ti : TE) (t : TSet) : TG := fun v σ H Q => to σ H fun o H1 => ti σ H1 fun i H2 => t o i v H2 fun H3 => Q σ H3
noncomputable def tAsg (te : TE) (g : TG) : TS := fun D σ H => te σ H fun x H1 => g x σ H1 D.nx
theorem ps_asg {tg e : Expr} {te : TE} {g : TG} (he : PE X e te) (hg : PG X tg g) (hs : swapsWithSole [tg] e pos.line X.env = pure false := by rfl) (hw : swappedStores [tg] e X.env = pure none := by rfl)
    (h1 : (assignEach [tg] X.env).map (·.2) = [assign tg X.env] := by rfl) : PS X (.Assign [tg] e pos) (tAsg te g) := by
  intro pins s σ H D I h
  refine wpAny_Assign_stores (thn (he pins s σ H _ I h) fun v s1 ⟨x, H1, I1, r1, q1⟩ => ?_) hs hw
  rw [h1]
  exact thn (hg pins s1 σ H1 x v _ I1 r1 q1) fun _ s2 q => q
theorem ps_set {i : Nat} {x : Str} {e : Expr} {te : TE} {pos' : Pos} (hN : X.N.Nodup) (hi : X.N[i]? = some x) (hx : Loc X.env.scope x) (he : PE X e te) (hs : swapsWith e (some (.Name x pos')) pos.line X.env = pure false := by rfl) (hf : X.fn x = true ∨ X.env.scope.names.lookup x = some .local := by first | exact .inl rfl | exact .inr rfl | assumption) :
    PS X (.Assign [.Name x pos'] e pos) (tAsg te (gName i)) := by
  intro pins s σ H D I h
  refine wpAny_Assign_Name (thn (he pins s σ H _ I h) fun v s1 ⟨y, H1, I1, r1, q1⟩ => ?_) hs
  exact store_ok I1 hN hi hx r1 (fun s2 I2 => ⟨_, H1, I2, q1⟩) hf
noncomputable def tAug (i : Nat) (te : TE) (ti : TIp) : TS := fun D σ H => ∃ x, σ[i]? = some (some x) ∧ te σ H fun y H1 => ti x y H1 fun z H2 => D.nx (σ.set i (some z)) H2
theorem ps_aug {i : Nat} {x : Str} {e : Expr} {te : TE} {op : Operator} {ti : TIp} {pos' : Pos} (hN : X.N.Nodup) (hi : X.N[i]? = some x) (hx : Loc X.env.scope x) (he : PE X e te) (ho : PIp X op ti) (hf : X.fn x = true ∨ X.env.scope.names.lookup x = some .local := by first | exact .inl rfl | exact .inr rfl | assumption) :
    PS X (.AugAssign (.Name x pos') op e pos) (tAug i te ti) := by
  intro pins s σ H D I h
  obtain ⟨v, e1, h⟩ := h
  obtain ⟨m, hn, hl⟩ := I.loc
  have vis : Vis X.env.scope x := by rcases hx with k | k; exact .inl k; exact .inr (.inl k)
  obtain ⟨u, r, l⟩ := hl i x v hi e1 vis
  refine wpAny_AugAssign_Name ?_
  have go : wpAny (model X.prog X.w) X.A (eval e X.env) (fun w s₂ => wpAny (model X.prog X.w) X.A (inplaceOp op u w) (fun r s₃ => wpAny (model X.prog X.w) X.A (storeName X.env x r) (fun _ => SP X pins D .next) X.xe s₃) X.xe s₂) X.xe s := by
    refine thn (he pins s σ H _ I h) fun w s1 ⟨y, H1, I1, r1, q1⟩ => ?_
    refine thn (ho pins s1 σ H1 v y u w _ I1 r r1 q1) fun z s2 ⟨zv, H2, I2, r2, q2⟩ => ?_
    exact store_ok I2 hN hi hx r2 (fun s3 I3 => ⟨_, H2, I3, q2⟩) hf
  rcases l with ⟨hk, hm⟩ | ⟨hk, c, hc, hcell⟩
  · exact wpAny_loadName_local I.ok.kind hk hn hm go
  · rcases hk with hk | hk
    · exact wpAny_loadName_cell I.ok.kind hk hc hcell go
    · rcases hx with k | k
      · have : X.env.scope.names.lookup x = some .free := hk
        rw [k] at this; cases this
      · have : X.env.scope.names.lookup x = some .free := hk
        rw [k] at this; cases this
end

section
variable {X : Cx} {pos : Pos}
noncomputable def tWhile (c : TT) (tb : TS) : TS := fun D σ H => ∃ W : Nat → St → Hp → Prop, (∃ m, W m σ H) ∧ ∀ m σ H, W m σ H →
  c σ H fun b H1 => if b = true then ∃ N : St → Hp → Prop, (∀ σ' H', N σ' H' → ∃ m', m' < m ∧ W m' σ' H') ∧ tb { D with nx := N, ct := N, bk := D.nx } σ H1 else D.nx σ H1
theorem ps_while {c : Expr} {body : List Stmt} {tc : TT} {tb : TS} (hp : PassesOwn (model X.prog X.w) X.A X.env X.xe) (hc : PT X c tc) (hb : PSs X body tb) : PS X (.While c body [] pos) (tWhile tc tb) := by
  intro pins s σ H D I h
  obtain ⟨W, ⟨m0, w0⟩, turn⟩ := h
  refine wpAny_While (codeAny_whileLoop (fun n s' => ∃ σ' H', Inv X pins σ' H' s' ∧ W n σ' H') ?_ m0 ⟨σ, H, I, w0⟩)
  rintro n s1 ⟨σ1, H1, I1, w1⟩
  refine wpAny_passesOwn hp (thn (hc pins s1 σ1 H1 _ I1 (turn n σ1 H1 w1)) fun b s2 ⟨H2, I2, q2⟩ => ?_)
  cases b with
  | true =>
    obtain ⟨N, hN, q2⟩ := q2
    rw [if_pos rfl]
    refine wpAny_passesOwn hp (thn (hb pins s2 σ1 H2 _ I2 q2) fun f s3 q3 => ?_)
    cases f with
    | next =>
      obtain ⟨σ3, H3, I3, n3⟩ := q3
      obtain ⟨m', hm, w3⟩ := hN σ3 H3 n3
      exact ⟨m', hm, σ3, H3, I3, w3⟩
    | cont =>
      obtain ⟨σ3, H3, I3, n3⟩ := q3
      obtain ⟨m', hm, w3⟩ := hN σ3 H3 n3
      exact ⟨m', hm, σ3, H3, I3, w3⟩
    | brk => exact q3
    | ret v => exact q3
  | false =>
    rw [if_neg Bool.false_ne_true]
    exact wpAny_execs_nil ⟨σ1, H2, I2, q2⟩
end

structure It where
  go : Nat → Hp → Prop
  yld : Nat → Hp → V → Hp → Prop
  stop : Nat → Hp → Prop
noncomputable def FpOk (X : Cx) (pins : List (Addr × Obj)) (H : Hp) (b : Addr) : Prop :=
  H b = none ∧ b ≠ X.env.locals ∧ b ∉ X.fs ∧ (b ∈ X.ex ∨ X.s₀.heap.objs.size ≤ b) ∧ (∀ x c, X.env.cells.lookup x = some c → c ≠ b) ∧ ∀ p ∈ X.pn ++ pins, p.1 ≠ b
theorem Inv.fpOk {X : Cx} {pins : List (Addr × Obj)} {σ : St} {H H' : Hp} {s : Shared} {b : Addr} (I : Inv X pins σ H s) (hb : s.heap.objs.size ≤ b) (hn : H' b = none) : FpOk X pins H' b := by
  refine ⟨hn, Nat.ne_of_gt (Nat.lt_of_lt_of_le I.lt hb), I.nofs hb, .inr (Nat.le_trans I.sz hb), fun x c e z => ?_, fun p hp z => ?_⟩
  · obtain ⟨v, q⟩ := I.cell x c e
    exact absurd (Nat.lt_of_lt_of_le q.lt (by rw [z]; exact hb)) (Nat.lt_irrefl _)
  · exact absurd (Nat.lt_of_lt_of_le (Heap.lt_size (I.pin p hp).1) (by rw [z]; exact hb)) (Nat.lt_irrefl _)
structure Turn (P : Program) (w : World) (K : PySem.W.Frag) (tg : Expr) (J : It) (fp : List Addr) (it : Addr) (tn : Nat → Heap → Prop) : Prop where
  mem : it ∈ fp
  obj : ∀ i h, tn i h → ∀ b ∈ fp, ∃ o, h.get? b = some o ∧ ∀ v, o.data ≠ .cell v
  keep : ∀ i h h', tn i h → (∀ b ∈ fp, ∀ o, h.get? b = some o → h'.get? b = some o) → tn i h'
  item : ∀ (X : Cx), X.prog = P → X.w = w → X.K = K → X.calm = true → ∀ (i : Nat) (pins : List (Addr × Obj)) (s : Shared) (σ : St) (H : Hp) (E : Value → Shared → Prop), Inv X pins σ H s → (∀ b ∈ fp, FpOk X pins H b) → tn i s.heap → J.go i H →
    wpAny (model P w) X.A (pyNext (.ref it)) (fun r s1 => ∃ u, r = some u ∧
      wpAny (model P w) X.A (letOwnedTupleGo tg (.ref it) u) (fun _ s2 => ∃ x H', Inv X pins σ H' s2 ∧ RelV x u ∧ J.yld i H x H' ∧ tn (i + 1) s2.heap ∧ ∀ b ∈ fp, H' b = none) E s1) E s
  done : ∀ (X : Cx), X.prog = P → X.w = w → X.K = K → X.calm = true → ∀ (i : Nat) (pins : List (Addr × Obj)) (s : Shared) (σ : St) (H : Hp) (E : Value → Shared → Prop), Inv X pins σ H s → (∀ b ∈ fp, FpOk X pins H b) → tn i s.heap → J.stop i H →
    wpAny (model P w) X.A (pyNext (.ref it)) (fun r s1 => r = none ∧ Inv X pins σ H s1) E s
  self : ∀ (A : Around) (i : Nat) (s : Shared) (Q : Value → Shared → Prop) (E : Value → Shared → Prop), tn i s.heap → Q (.ref it) s → wpAny (model P w) A (pyIter (.ref it)) Q E s
noncomputable abbrev TI := St → Hp → (It → Hp → Prop) → Prop
noncomputable def PIE (X : Cx) (pins : List (Addr × Obj)) (σ : St) (tg : Expr) (R : It → Hp → Prop) (itv : Value) (s2 : Shared) : Prop :=
  ∃ (it : Addr) (fp : List Addr) (tn : Nat → Heap → Prop) (J : It) (H' : Hp), itv = .ref it ∧ Inv X pins σ H' s2 ∧ Turn X.prog X.w X.K tg J fp it tn ∧ tn 0 s2.heap ∧ (∀ b ∈ fp, FpOk X pins H' b) ∧ R J H'
noncomputable def PI (X : Cx) (tg iter : Expr) (wi : TI) : Prop :=
  ∀ (pins : List (Addr × Obj)) (s : Shared) (σ : St) (H : Hp) (R : It → Hp → Prop), Inv X pins σ H s → wi σ H R →
    wpAny (model X.prog X.w) X.A (eval iter X.env) (fun v s1 => wpAny (model X.prog X.w) X.A (pyIter v) (PIE X pins σ tg R) X.xe s1) X.xe s

theorem go_of {M : Model} {A : Around} {E : Value → Shared → Prop} {s : Shared} {tg : Expr} {it : Addr} {u : Value} {o : Obj} {n : String} {vs : Array Value} {Q : Unit → Shared → Prop} (ho : s.heap.get? it = some o) (hc : o.cls = .type n) (hd : o.data = .fields vs)
    (hn : ["enumerate", "zip", "dict_itemiterator", "dict_reverseitemiterator", "odict_iterator", "itertools.zip_longest", "itertools.pairwise"].contains n = false) (hQ : Q () s) : wpAny M A (letOwnedTupleGo tg (.ref it) u) Q E s := by
  unfold letOwnedTupleGo
  cases tg <;> first
    | exact wpAny_pure hQ
    | (cases u <;> first
        | exact wpAny_pure hQ
        | (refine wpAny_bind (wpAny_load ho ?_)
           rw [hc, hd]
           show wpAny M A (if (["enumerate", "zip", "dict_itemiterator", "dict_reverseitemiterator", "odict_iterator", "itertools.zip_longest", "itertools.pairwise"].contains n && vs[0]? == some (rawInt _)) = true then _ else _) Q E s
           rw [if_neg (by intro h; rw [hn, Bool.false_and] at h; cases h)]
           exact wpAny_pure hQ))

noncomputable def Itl (K : PySem.W.Frag) (a : Addr) : It :=
  ⟨fun i H => ∃ xs x, SqL K H a xs ∧ xs[i]? = some x, fun i H x H' => H' = H ∧ ∀ xs, SqL K H a xs → xs[i]? = some x, fun i H => ∃ xs, SqL K H a xs ∧ xs.length ≤ i⟩
noncomputable def Itt (K : PySem.W.Frag) (a : Addr) : It :=
  ⟨fun i H => ∃ xs x, SqT K H a xs ∧ xs[i]? = some x, fun i H x H' => H' = H ∧ ∀ xs, SqT K H a xs → xs[i]? = some x, fun i H => ∃ xs, SqT K H a xs ∧ xs.length ≤ i⟩
noncomputable def Itr (lo : Int) (n : Nat) : It := ⟨fun i _ => i < n, fun i H x H' => H' = H ∧ x = .int (lo + i), fun i _ => n ≤ i⟩
theorem turn_list {P : Program} {w : World} {K : PySem.W.Frag} {tg : Expr} (a it : Addr) : Turn P w K tg (Itl K a) [it] it (fun i h => h.IsListIter it a i) where
  mem := by simp
  obj := fun i h st b hb => by
    have e : b = it := by simpa using hb
    subst e
    obtain ⟨o, e, c, d⟩ := st
    exact ⟨o, e, fun v z => by rw [d] at z; cases z⟩
  keep := fun i h h' st k => st.at fun o e => k it (by simp) o e
  item := by
    intro X hP hw hK hc i pins s σ H E I hf st hg
    subst hP hw hK
    obtain ⟨xs, x, hq, hx⟩ := hg
    obtain ⟨its, rv, p, hz⟩ := I.list hq
    obtain ⟨u, hu, ru⟩ := rv.get hx
    obtain ⟨f0, f1, f2, f3, f4, f5⟩ := hf it (by simp)
    refine wpAny_pyNext_list_item st p.isList (x := u) (by simpa using hu) fun h' st' sb => ?_
    have I1 : Inv X pins σ H { s with heap := h' } := I.turned (t' := s.toks) (fun b o hb e => (sb.2 b hb).trans e) f0 f1 f3 f4 f5
    obtain ⟨o, e, c, d⟩ := id st'
    exact ⟨u, rfl, go_of (s := { s with heap := h' }) e c d (by decide) ⟨x, H, I1, ru, ⟨rfl, fun ys hy => by rw [I.list_inj hy hq]; exact hx⟩, st', fun b hb => (hf b hb).1⟩⟩
  done := by
    intro X hP hw hK hc i pins s σ H E I hf st hg
    subst hP hw hK
    obtain ⟨xs, hq, hx⟩ := hg
    obtain ⟨its, rv, p, hz⟩ := I.list hq
    obtain ⟨f0, f1, f2, f3, f4, f5⟩ := hf it (by simp)
    have hl := rv.length
    exact wpAny_pyNext_list_end (I.ok.hd hc) st p.isList (by simp; omega) fun h' eb => ⟨rfl, I.turned (t' := s.toks) (fun b o hb e => eb b o hb e) f0 f1 f3 f4 f5⟩
  self := fun _ _ _ _ _ st h => wpAny_pyIter_listiter st h
theorem turn_tuple {P : Program} {w : World} {K : PySem.W.Frag} {tg : Expr} (a it : Addr) : Turn P w K tg (Itt K a) [it] it (fun i h => h.IsTupleIter it a i) where
  mem := by simp
  obj := fun i h st b hb => by
    have e : b = it := by simpa using hb
    subst e
    obtain ⟨o, e, c, d⟩ := st
    exact ⟨o, e, fun v z => by rw [d] at z; cases z⟩
  keep := fun i h h' st k => st.at fun o e => k it (by simp) o e
  item := by
    intro X hP hw hK hc i pins s σ H E I hf st hg
    subst hP hw hK
    obtain ⟨xs, x, hq, hx⟩ := hg
    obtain ⟨its, rv, p, hz⟩ := I.tuple hq
    obtain ⟨u, hu, ru⟩ := rv.get hx
    obtain ⟨f0, f1, f2, f3, f4, f5⟩ := hf it (by simp)
    refine wpAny_pyNext_tuple_item st (show s.heap.IsTuple a its.toArray from p) (x := u) (by simpa using hu) fun h' st' sb => ?_
    have I1 : Inv X pins σ H { s with heap := h' } := I.turned (t' := s.toks) (fun b o hb e => (sb.2 b hb).trans e) f0 f1 f3 f4 f5
    obtain ⟨o, e, c, d⟩ := id st'
    exact ⟨u, rfl, go_of (s := { s with heap := h' }) e c d (by decide) ⟨x, H, I1, ru, ⟨rfl, fun ys hy => by rw [I.tuple_inj hy hq]; exact hx⟩, st', fun b hb => (hf b hb).1⟩⟩
  done := by
    intro X hP hw hK hc i pins s σ H E I hf st hg
    subst hP hw hK
    obtain ⟨xs, hq, hx⟩ := hg
    obtain ⟨its, rv, p, hz⟩ := I.tuple hq
    obtain ⟨f0, f1, f2, f3, f4, f5⟩ := hf it (by simp)
    have hl := rv.length
    exact wpAny_pyNext_tuple_end (I.ok.hd hc) st (show s.heap.IsTuple a its.toArray from p) (by simp; omega) fun h' eb => ⟨rfl, I.turned (t' := s.toks) (fun b o hb e => eb b o hb e) f0 f1 f3 f4 f5⟩
  self := fun _ _ _ _ _ st h => wpAny_pyIter_tupleiter st h
theorem turn_range {P : Program} {w : World} {K : PySem.W.Frag} {tg : Expr} (it : Addr) (lo : Int) (n : Nat) : Turn P w K tg (Itr lo n) [it] it (fun i h => IsRangeIter h it (lo + (i : Nat) * 1) ((n : Int) - (i : Nat)) 1) where
  mem := by simp
  obj := fun i h st b hb => by
    have e : b = it := by simpa using hb
    subst e
    exact ⟨_, st, fun v z => by
      have z' : Data.fields _ = Data.cell v := z
      cases z'⟩
  keep := fun i h h' st k => k it (by simp) _ st
  item := by
    intro X hP hw hK hc i pins s σ H E I hf st hg
    subst hP hw hK
    obtain ⟨f0, f1, f2, f3, f4, f5⟩ := hf it (by simp)
    have W := Walks.range (prog := X.prog) (w := X.w) (I.ok.hd hc) it lo 1 n
    refine W.item i s _ _ hg st fun v h' tk hv st' kk => ?_
    obtain ⟨t, rfl⟩ := hv
    have I1 : Inv X pins σ H { s with heap := h', toks := tk } := I.turned (fun b o hb e => kk b o (by simpa using hb) e) f0 f1 f3 f4 f5
    refine ⟨_, rfl, go_of (s := { s with heap := h', toks := tk }) (n := "range_iterator") st' rfl rfl (by decide) ⟨.int (lo + i), H, I1, ⟨t, ?_⟩, ⟨rfl, rfl⟩, st', fun b hb => (hf b hb).1⟩⟩
    rw [Int.mul_one]
  done := by
    intro X hP hw hK hc i pins s σ H E I hf st hg
    subst hP hw hK
    obtain ⟨f0, f1, f2, f3, f4, f5⟩ := hf it (by simp)
    exact wpAny_pyNext_range_end (I.ok.hd hc) st (by have : n ≤ i := hg; omega) fun h' eb => ⟨rfl, I.turned (t' := s.toks) (fun b o hb e => eb b o hb e) f0 f1 f3 f4 f5⟩
  self := fun _ _ _ _ _ st h => wpAny_pyIter_rangeiter st h
end L2

namespace L2
open PySem PySem.Spec PyProof.Rows
section
variable {X : Cx} {tg : Expr}
theorem range_it {pins : List (Addr × Obj)} {σ : St} {H : Hp} {s : Shared} {R : It → Hp → Prop} {E : Value → Shared → Prop} {lo hi : Int} {t u v : Tok} {tk : Nat} (I : Inv X pins σ H s) (h1 : -(2 ^ 62) ≤ lo) (h2 : lo < 2 ^ 62) (h3 : -(2 ^ 62) ≤ hi) (h4 : hi < 2 ^ 62)
    (q : R (Itr lo (hi - lo).toNat) H) : wpAny (model X.prog X.w) X.A (pyIter (.ref s.heap.objs.size)) (PIE X pins σ tg R) E { s with heap := s.heap.push { cls := .type "range", data := .fields #[.int lo t, .int hi u, .int 1 v] }, toks := tk } := by
  refine wpAny_pyIter_range (IsRange.new ..) (small_one h1 h2 h3 h4) ?_
  have I1 : Inv X pins σ H { s with heap := s.heap.push { cls := .type "range", data := .fields #[.int lo t, .int hi u, .int 1 v] }, toks := tk } := I.kept fun b o e => Heap.get?_push_of_some _ e
  refine ⟨(s.heap.push { cls := .type "range", data := .fields #[.int lo t, .int hi u, .int 1 v] }).objs.size, [(s.heap.push { cls := .type "range", data := .fields #[.int lo t, .int hi u, .int 1 v] }).objs.size], _, _, H, rfl,
    I1.kept (t' := tk) fun b o e => Heap.get?_push_of_some _ e, turn_range _ lo (hi - lo).toNat, ?_, fun b hb => ?_, q⟩
  · have e1 : lo + ((0 : Nat) : Int) * 1 = lo := by simp
    have e2 : (((hi - lo).toNat : Nat) : Int) - ((0 : Nat) : Int) = Builtin.Range.rangeSize lo hi 1 := by rw [rangeSize_one]; split <;> omega
    show IsRangeIter _ _ (lo + ((0 : Nat) : Int) * 1) ((((hi - lo).toNat : Nat) : Int) - ((0 : Nat) : Int)) 1
    rw [e1, e2]
    exact Heap.get?_push_size _ rfl
  · have e : b = (s.heap.push { cls := .type "range", data := .fields #[.int lo t, .int hi u, .int 1 v] }).objs.size := by simpa using hb
    subst e
    exact I1.fpOk (Nat.le_refl _) (I1.hok.fresh (Nat.le_refl _))
noncomputable def tFor (wi : TI) (g : TG) (tb : TS) : TS := fun D σ H => wi σ H fun J H1 => ∃ W : Nat → Nat → St → Hp → Prop, (∃ m, W 0 m σ H1) ∧ ∀ i m σ H, W i m σ H →
  (J.stop i H ∧ D.nx σ H) ∨ (J.go i H ∧ ∃ N : St → Hp → Prop, (∀ σ' H', N σ' H' → ∃ m', m' < m ∧ W (i + 1) m' σ' H') ∧ ∀ x H', J.yld i H x H' → g x σ H' fun σ2 H2 => tb { D with nx := N, ct := N, bk := D.nx } σ2 H2)
noncomputable def pinsAt (fp : List Addr) (h : Heap) : List (Addr × Obj) := fp.filterMap fun b => (h.get? b).map fun o => (b, o)
theorem mem_pinsAt {fp : List Addr} {h : Heap} {b : Addr} {o : Obj} (hb : b ∈ fp) (e : h.get? b = some o) : (b, o) ∈ pinsAt fp h := List.mem_filterMap.mpr ⟨b, hb, by rw [e]; rfl⟩
theorem of_pinsAt {fp : List Addr} {h : Heap} {p : Addr × Obj} (hp : p ∈ pinsAt fp h) : p.1 ∈ fp ∧ h.get? p.1 = some p.2 := by
  obtain ⟨b, hb, e⟩ := List.mem_filterMap.mp hp
  cases q : h.get? b with
  | none => rw [q] at e; cases e
  | some o =>
    rw [q] at e
    have e' : (b, o) = p := Option.some.inj e
    subst e'
    exact ⟨hb, q⟩
theorem Inv.pinned {pins : List (Addr × Obj)} {σ : St} {H : Hp} {s : Shared} {fp : List Addr} (I : Inv X pins σ H s) (hf : ∀ b ∈ fp, FpOk X pins H b) (ho : ∀ b ∈ fp, ∃ o, s.heap.get? b = some o ∧ ∀ v, o.data ≠ .cell v) : Inv X (pins ++ pinsAt fp s.heap) σ H s :=
  I.pins_of fun p hp => (List.mem_append.mp hp).elim (fun z => I.pin p (List.mem_append_right _ z)) fun z => by
    obtain ⟨hb, e⟩ := of_pinsAt z
    obtain ⟨f0, f1, f2, _⟩ := hf p.1 hb
    obtain ⟨o, e', d⟩ := ho p.1 hb
    rw [e] at e'; cases e'
    exact ⟨e, f0, f1, f2, d⟩
theorem Inv.unpinned {pins pl : List (Addr × Obj)} {σ : St} {H : Hp} {s : Shared} (I : Inv X (pins ++ pl) σ H s) : Inv X pins σ H s := I.pins_of fun p hp => I.pin p (List.mem_append_right _ (List.mem_append_left _ hp))
theorem ps_for {iter : Expr} {body : List Stmt} {wi : TI} {g : TG} {tb : TS} {pos : Pos} (hp : PassesOwn (model X.prog X.w) X.A X.env X.xe) (hc : X.calm = true) (hi : PI X tg iter wi) (hg : PG X tg g) (hb : PSs X body tb)
    (hs : ∀ x, foldedSetIterable iter X.env x = pure x := by intro _; rfl) : PS X (.For tg iter body [] pos) (tFor wi g tb) := by
  intro pins s σ H D I h
  refine wpAny_For (thn (hi pins s σ H _ I h) fun v s1 h1 => thn h1 fun itv s2 h2 => ?_) hs
  obtain ⟨it, fp, tn, J, H2, e, I2, T, st2, f2, W, ⟨m0, w0⟩, turn⟩ := h2
  subst e
  -- what stays true of the iterator's objects through the loop
  have stat : ∀ {H' : Hp}, (∀ b ∈ fp, H' b = none) → ∀ b ∈ fp, FpOk X pins H' b := fun hn b hb => ⟨hn b hb, (f2 b hb).2⟩
  refine codeAny_forLoop_any (fun n s' => ∃ i σ' H', Inv X pins σ' H' s' ∧ tn i s'.heap ∧ (∀ b ∈ fp, H' b = none) ∧ W i n σ' H') ?_ m0 ⟨0, σ, H2, I2, st2, fun b hb => (f2 b hb).1, w0⟩
  rintro n s3 ⟨i, σ3, H3, I3, st3, fr3, w3⟩
  rcases turn i n σ3 H3 w3 with ⟨stop, qn⟩ | ⟨go, N, hN, step⟩
  · refine wpAny_passesOwn hp (thn (T.done X rfl rfl rfl hc i pins s3 σ3 H3 X.xe I3 (stat fr3) st3 stop) fun r s4 ⟨hr, I4⟩ => ?_)
    subst hr
    exact wpAny_execs_nil ⟨σ3, H3, I4, qn⟩
  · refine wpAny_passesOwn hp (thn (T.item X rfl rfl rfl hc i pins s3 σ3 H3 X.xe I3 (stat fr3) st3 go) fun r s4 ⟨u, hr, h4⟩ => ?_)
    subst hr
    refine wpAny_passesOwn hp (thn h4 fun _ s5 ⟨x, H5, I5, r5, y5, st5, fr5⟩ => ?_)
    have I5' := I5.pinned (stat fr5) (T.obj _ _ st5)
    refine wpAny_passesOwn hp (thn (hg _ s5 σ3 H5 x u _ I5' r5 (step x H5 y5)) fun _ s6 ⟨σ6, H6, I6, q6⟩ => ?_)
    refine wpAny_passesOwn hp (thn (hb _ s6 σ6 H6 _ I6 q6) fun f s7 q7 => ?_)
    have again : ∀ {σ7 : St} {H7 : Hp}, Inv X (pins ++ pinsAt fp s5.heap) σ7 H7 s7 → N σ7 H7 → ∃ m, m < n ∧ ∃ i σ' H', Inv X pins σ' H' s7 ∧ tn i s7.heap ∧ (∀ b ∈ fp, H' b = none) ∧ W i m σ' H' := fun {σ7 H7} I7 n7 => by
      obtain ⟨m', hm, w7⟩ := hN σ7 H7 n7
      refine ⟨m', hm, i + 1, σ7, H7, I7.unpinned, T.keep _ _ _ st5 fun b hb o e => (I7.pin (b, o) (List.mem_append_right _ (List.mem_append_right _ (mem_pinsAt hb e)))).1, fun b hb => ?_, w7⟩
      obtain ⟨o, e, d⟩ := T.obj _ _ st5 b hb
      exact (I7.pin (b, o) (List.mem_append_right _ (List.mem_append_right _ (mem_pinsAt hb e)))).2.1
    cases f with
    | next => obtain ⟨σ7, H7, I7, n7⟩ := q7; exact again I7 n7
    | cont => obtain ⟨σ7, H7, I7, n7⟩ := q7; exact again I7 n7
    | brk => obtain ⟨σ7, H7, I7, q7⟩ := q7; exact ⟨σ7, H7, I7.unpinned, q7⟩
    | ret v => obtain ⟨x7, σ7, H7, I7, r7, q7⟩ := q7; exact ⟨x7, σ7, H7, I7.unpinned, r7, q7⟩
end

theorem for_list {K : PySem.W.Frag} {a : Addr} {xs : List V} {g : TG} {tb : TS} {D : Ends} {σ : St} {H : Hp} (Pv : Nat → St → Hp → Prop) (h0 : Pv 0 σ H) (hl : ∀ i σ H, i ≤ xs.length → Pv i σ H → SqL K H a xs)
    (hs : ∀ i x σ H, xs[i]? = some x → Pv i σ H → g x σ H fun σ2 H2 => tb { D with nx := Pv (i + 1), ct := Pv (i + 1), bk := D.nx } σ2 H2) (hd : ∀ σ H, Pv xs.length σ H → D.nx σ H) :
    ∃ W : Nat → Nat → St → Hp → Prop, (∃ m, W 0 m σ H) ∧ ∀ i m σ H, W i m σ H →
      ((Itl K a).stop i H ∧ D.nx σ H) ∨ ((Itl K a).go i H ∧ ∃ N : St → Hp → Prop, (∀ σ' H', N σ' H' → ∃ m', m' < m ∧ W (i + 1) m' σ' H') ∧ ∀ x H', (Itl K a).yld i H x H' → g x σ H' fun σ2 H2 => tb { D with nx := N, ct := N, bk := D.nx } σ2 H2) := by
  refine ⟨fun i m σ H => m = xs.length - i ∧ i ≤ xs.length ∧ Pv i σ H, ⟨xs.length, by simp, Nat.zero_le _, h0⟩, ?_⟩
  rintro i m σ H ⟨rfl, hi, p⟩
  have q := hl i σ H hi p
  by_cases hlt : i < xs.length
  · refine .inr ⟨⟨xs, xs[i], q, by simp [hlt]⟩, Pv (i + 1), fun σ' H' p' => ⟨xs.length - (i + 1), by omega, rfl, hlt, p'⟩, fun x H' y => ?_⟩
    obtain ⟨e, y⟩ := y
    subst e
    exact hs i x σ _ (y xs q) p
  · have e : i = xs.length := by omega
    subst e
    exact .inl ⟨⟨xs, q, Nat.le_refl _⟩, hd σ H p⟩
theorem for_range {lo : Int} {n : Nat} {g : TG} {tb : TS} {D : Ends} {σ : St} {H : Hp} (Pv : Nat → St → Hp → Prop) (h0 : Pv 0 σ H)
    (hs : ∀ i σ H, i < n → Pv i σ H → g (.int (lo + i)) σ H fun σ2 H2 => tb { D with nx := Pv (i + 1), ct := Pv (i + 1), bk := D.nx } σ2 H2) (hd : ∀ σ H, Pv n σ H → D.nx σ H) :
    ∃ W : Nat → Nat → St → Hp → Prop, (∃ m, W 0 m σ H) ∧ ∀ i m σ H, W i m σ H →
      ((Itr lo n).stop i H ∧ D.nx σ H) ∨ ((Itr lo n).go i H ∧ ∃ N : St → Hp → Prop, (∀ σ' H', N σ' H' → ∃ m', m' < m ∧ W (i + 1) m' σ' H') ∧ ∀ x H', (Itr lo n).yld i H x H' → g x σ H' fun σ2 H2 => tb { D with nx := N, ct := N, bk := D.nx } σ2 H2) := by
  refine ⟨fun i m σ H => m = n - i ∧ i ≤ n ∧ Pv i σ H, ⟨n, by simp, Nat.zero_le _, h0⟩, ?_⟩
  rintro i m σ H ⟨rfl, hi, p⟩
  by_cases hlt : i < n
  · refine .inr ⟨hlt, Pv (i + 1), fun σ' H' p' => ⟨n - (i + 1), by omega, rfl, hlt, p'⟩, fun x H' y => ?_⟩
    obtain ⟨e, y⟩ := y
    subst e y
    exact hs i σ _ hlt p
  · have e : i = n := by omega
    subst e
    exact .inl ⟨Nat.le_refl _, hd σ H p⟩
end L2

namespace L2
open PySem PySem.Spec PyProof.Rows

noncomputable abbrev R2 := V → V → Hp → VK → Prop
noncomputable def OpR (X : Cx) (f : Value → Value → Sem Value) (r : R2) : Prop :=
  ∀ (pins : List (Addr × Obj)) (s : Shared) (σ : St) (H : Hp) (x y : V) (v u : Value) (Q : VK), Inv X pins σ H s → RelV x v → RelV y u → r x y H Q →
    wpAny (model X.prog X.w) X.A (f v u) (EP X pins σ Q) X.xe s
noncomputable def UnR (X : Cx) (f : Value → Sem Value) (r : V → Hp → VK → Prop) : Prop :=
  ∀ (pins : List (Addr × Obj)) (s : Shared) (σ : St) (H : Hp) (x : V) (v : Value) (Q : VK), Inv X pins σ H s → RelV x v → r x H Q →
    wpAny (model X.prog X.w) X.A (f v) (EP X pins σ Q) X.xe s
noncomputable def CallR (X : Cx) (f : Value) (r : List V → Hp → VK → Prop) : Prop :=
  ∀ (pins : List (Addr × Obj)) (s : Shared) (σ : St) (H : Hp) (xs : List V) (us : List Value) (Q : VK), Inv X pins σ H s → Vals xs us → r xs H Q →
    wpAny (model X.prog X.w) X.A (call f us) (EP X pins σ Q) X.xe s
noncomputable def tOp (r : R2) (ta tb : TE) : TE := fun σ H Q => ta σ H fun x H1 => tb σ H1 fun y H2 => r x y H2 Q
noncomputable def tUn (r : V → Hp → VK → Prop) (ta : TE) : TE := fun σ H Q => ta σ H fun x H1 => r x H1 Q
noncomputable def rI (C : Int → Int → Prop) (g : Int → Int → V) : R2 := fun x y H Q => ∃ i j, x = .int i ∧ y = .int j ∧ C i j ∧ Q (g i j) H
noncomputable def rI0 (g : Int → Int → V) : R2 := fun x y H Q => ∃ i j, x = .int i ∧ y = .int j ∧ Q (g i j) H
noncomputable def rU (g : Int → V) : V → Hp → VK → Prop := fun x H Q => ∃ i, x = .int i ∧ Q (g i) H

section
variable {X : Cx} {a b c : Expr} {ta tb tc : TE} {pos : Pos}

theorem binT (ha : PE X a ta) (hb : PE X b tb) {pins : List (Addr × Obj)} {s : Shared} {σ : St} {H : Hp} {R : V → V → Hp → Prop} (I : Inv X pins σ H s)
    (h : ta σ H fun x H1 => tb σ H1 fun y H2 => R x y H2) {Q : Value → Shared → Prop} {f : Value → Value → Sem Value}
    (hf : ∀ v u s2 x y H2, Inv X pins σ H2 s2 → RelV x v → RelV y u → R x y H2 → wpAny (model X.prog X.w) X.A (f v u) Q X.xe s2) :
    wpAny (model X.prog X.w) X.A (eval a X.env) (fun v s₁ => wpAny (model X.prog X.w) X.A (eval b X.env) (fun u s₂ => wpAny (model X.prog X.w) X.A (f v u) Q X.xe s₂) X.xe s₁) X.xe s := by
  refine thn (ha pins s σ H _ I h) fun v s1 ⟨x, H1, I1, r1, q1⟩ => ?_
  refine thn (hb pins s1 σ H1 _ I1 q1) fun u s2 ⟨y, H2, I2, r2, q2⟩ => ?_
  exact hf v u s2 x y H2 I2 r1 r2 q2

theorem pe_op {op : Operator} {r : R2} (ho : OpR X (binaryOp op) r) (ha : PE X a ta) (hb : PE X b tb) : PE X (.BinOp a op b pos) (tOp r ta tb) := by
  intro pins s σ H Q I h
  exact wpAny_BinOp (binT ha hb I h fun v u s2 x y H2 I2 rx ry q => ho pins s2 σ H2 x y v u Q I2 rx ry q)
theorem pe_un {op : UnaryOp} {r : V → Hp → VK → Prop} (ho : UnR X (unaryOp op) r) (ha : PE X a ta) : PE X (.UnaryOp op a pos) (tUn r ta) := by
  intro pins s σ H Q I h
  exact UnaryOp_ (thn (ha pins s σ H _ I h) fun v s1 ⟨x, H1, I1, r1, q1⟩ => ho pins s1 σ H1 x v Q I1 r1 q1)
theorem opI {f : Value → Value → Sem Value} {C : Int → Int → Prop} {g : Int → Int → Int}
    (rule : ∀ (i j : Int) (t u : Tok) (s : Shared) (Q : Value → Shared → Prop) (E : Value → Shared → Prop), C i j → Q (.int (g i j) s.toks) { s with toks := s.toks + 1 } → wpAny (model X.prog X.w) X.A (f (.int i t) (.int j u)) Q E s) :
    OpR X f (rI C fun i j => .int (g i j)) := by
  intro pins s σ H x y v u Q I rx ry h
  obtain ⟨i, j, rfl, rfl, hc, q⟩ := h
  obtain ⟨t, rfl⟩ := rx
  obtain ⟨t', rfl⟩ := ry
  exact rule i j t t' s _ _ hc ⟨.int (g i j), H, I.tok _, ⟨_, rfl⟩, q⟩
theorem opI0 {f : Value → Value → Sem Value} {g : Int → Int → Int}
    (rule : ∀ (i j : Int) (t u : Tok) (s : Shared) (Q : Value → Shared → Prop) (E : Value → Shared → Prop), Q (.int (g i j) s.toks) { s with toks := s.toks + 1 } → wpAny (model X.prog X.w) X.A (f (.int i t) (.int j u)) Q E s) :
    OpR X f (rI0 fun i j => .int (g i j)) := by
  intro pins s σ H x y v u Q I rx ry h
  obtain ⟨i, j, rfl, rfl, q⟩ := h
  obtain ⟨t, rfl⟩ := rx
  obtain ⟨t', rfl⟩ := ry
  exact rule i j t t' s _ _ ⟨.int (g i j), H, I.tok _, ⟨_, rfl⟩, q⟩
theorem opB0 {f : Value → Value → Sem Value} {g : Int → Int → Bool}
    (rule : ∀ (i j : Int) (t u : Tok) (s : Shared) (Q : Value → Shared → Prop) (E : Value → Shared → Prop), Q (.bool (g i j)) s → wpAny (model X.prog X.w) X.A (f (.int i t) (.int j u)) Q E s) :
    OpR X f (rI0 fun i j => .bl (g i j)) := by
  intro pins s σ H x y v u Q I rx ry h
  obtain ⟨i, j, rfl, rfl, q⟩ := h
  obtain ⟨t, rfl⟩ := rx
  obtain ⟨t', rfl⟩ := ry
  exact rule i j t t' s _ _ ⟨.bl (g i j), H, I, rfl, q⟩

noncomputable def CDiv (i j : Int) : Prop := 0 < j ∧ j < 1073741824
noncomputable def CMul (i j : Int) : Prop := (-(2 ^ 64) < i ∧ i < 2 ^ 64) ∨ (-(2 ^ 64) < j ∧ j < 2 ^ 64)
theorem CMul.ok {i j : Int} (h : CMul i j) : IntMulOk i j := by
  rcases h with ⟨h1, h2⟩ | ⟨h1, h2⟩
  · exact .of_left (intBits_le_64 h1 h2)
  · exact .of_right (intBits_le_64 h1 h2)
theorem op_add : OpR X (binaryOp .Add) (rI0 fun i j => .int (i + j)) := opI0 fun _ _ _ _ _ _ _ q => add_int q
theorem op_sub : OpR X (binaryOp .Sub) (rI0 fun i j => .int (i - j)) := opI0 fun _ _ _ _ _ _ _ q => sub_int q
theorem op_mul : OpR X (binaryOp .Mult) (rI CMul fun i j => .int (i * j)) := opI fun _ _ _ _ _ _ _ hc q => mul_int q hc.ok
theorem op_fdiv : OpR X (binaryOp .FloorDiv) (rI CDiv fun i j => .int (i / j)) := opI fun i j _ _ _ _ _ hc q => by
  have h1 : (0 : Int) < j := hc.1
  have h2 : j < 1073741824 := hc.2
  exact floordiv_int (by omega) (by rw [Int.fdiv_eq_ediv_of_nonneg i (by omega)]; exact q) (.inl (PyProof.noPylong_small (by omega)))
theorem op_mod : OpR X (binaryOp .Mod) (rI (fun _ j => 0 < j) fun i j => .int (i % j)) := opI fun i j _ _ _ _ _ hc q => by
  have h1 : (0 : Int) < j := hc
  exact mod_int' (by omega) (by rw [Int.fmod_eq_emod_of_nonneg i (by omega)]; exact q)
theorem iop_add : OpR X (inplaceOp .Add) (rI0 fun i j => .int (i + j)) := opI0 fun _ _ _ _ _ _ _ q => iadd_int q
theorem unI {f : Value → Sem Value} {g : Int → Int}
    (rule : ∀ (i : Int) (t : Tok) (s : Shared) (Q : Value → Shared → Prop) (E : Value → Shared → Prop), Q (.int (g i) s.toks) { s with toks := s.toks + 1 } → wpAny (model X.prog X.w) X.A (f (.int i t)) Q E s) :
    UnR X f (rU fun i => .int (g i)) := by
  intro pins s σ H x v Q I rx h
  obtain ⟨i, rfl, q⟩ := h
  obtain ⟨t, rfl⟩ := rx
  exact rule i t s _ _ ⟨.int (g i), H, I.tok _, ⟨_, rfl⟩, q⟩
theorem un_neg : UnR X (unaryOp .USub) (rU fun i => .int (-i)) := unI fun _ _ _ _ _ q => neg_int q
end

noncomputable def scal : V → V → Bool
  | .non, .non => true | .non, .int _ => true | .int _, .non => true | .non, .bl _ => true | .bl _, .non => true | .non, .str _ => true | .str _, .non => true
  | .int _, .int _ => true | .bl _, .bl _ => true | .str _, .str _ => true | .byt _, .byt _ => true
  | .int _, .str _ => true | .str _, .int _ => true | .bl _, .str _ => true | .str _, .bl _ => true
  | _, _ => false
noncomputable def rEq : R2 := fun x y H Q => scal x y = true ∧ Q (.bl (decide (x = y))) H
noncomputable def rNe : R2 := fun x y H Q => scal x y = true ∧ Q (.bl (!decide (x = y))) H

theorem dec_int {i j : Int} : decide (V.int i = V.int j) = (i == j) := by
  rw [Bool.eq_iff_iff]
  simp
theorem dec_bl {i j : Bool} : decide (V.bl i = V.bl j) = (i == j) := by
  rw [Bool.eq_iff_iff]
  simp
theorem dec_str {i j : Str} : decide (V.str i = V.str j) = (i == j) := by
  rw [Bool.eq_iff_iff]
  simp
theorem dec_byt {i j : Array UInt8} : decide (V.byt i = V.byt j) = (i.toList == j.toList) := by
  rw [Bool.eq_iff_iff]
  cases i
  cases j
  simp

section
variable {X : Cx} {a b c : Expr} {ta tb tc : TE} {pos : Pos}
theorem fin_bl {pins : List (Addr × Obj)} {σ : St} {H : Hp} {s : Shared} {Q : VK} {k k' : Bool} (I : Inv X pins σ H s) (q : Q (.bl k) H) (e : k = k') : EP X pins σ Q (.bool k') s := by
  subst e
  exact ⟨.bl k, H, I, rfl, q⟩
theorem op_eq : OpR X (compareOp .Eq) rEq := by
  intro pins s σ H x y v u Q I rx ry h
  obtain ⟨hs, q⟩ := h
  cases x with
  | non =>
    cases rx
    cases y with
    | non => cases ry; exact PySem.EqNone.eq_none_none (fin_bl I q (by simp))
    | bl j => cases ry; exact PySem.EqNone.eq_none_bool (fin_bl I q (by simp))
    | int j => obtain ⟨t', rfl⟩ := ry; exact PySem.EqNone.eq_none_int (fin_bl I q (by simp))
    | str j => obtain ⟨t', rfl⟩ := ry; exact PySem.EqNone.eq_none_str (fin_bl I q (by simp))
    | _ => exact absurd (show false = true from hs) Bool.false_ne_true
  | bl i =>
    cases rx
    cases y with
    | non => cases ry; exact PySem.EqNone.eq_bool_none (fin_bl I q (by simp))
    | bl j => cases ry; exact eq_bool (fin_bl I q dec_bl)
    | str j => obtain ⟨t', rfl⟩ := ry; exact PySem.EqMixed.eq_bool_str (fin_bl I q (by simp))
    | _ => exact absurd (show false = true from hs) Bool.false_ne_true
  | int i =>
    obtain ⟨t, rfl⟩ := rx
    cases y with
    | non => cases ry; exact PySem.EqNone.eq_int_none (fin_bl I q (by simp))
    | int j => obtain ⟨t', rfl⟩ := ry; exact eq_int (fin_bl I q dec_int)
    | str j => obtain ⟨t', rfl⟩ := ry; exact PySem.EqMixed.eq_int_str (fin_bl I q (by simp))
    | _ => exact absurd (show false = true from hs) Bool.false_ne_true
  | str i =>
    obtain ⟨t, rfl⟩ := rx
    cases y with
    | non => cases ry; exact PySem.EqNone.eq_str_none (fin_bl I q (by simp))
    | bl j => cases ry; exact PySem.EqMixed.eq_str_bool (fin_bl I q (by simp))
    | int j => obtain ⟨t', rfl⟩ := ry; exact PySem.EqMixed.eq_str_int (fin_bl I q (by simp))
    | str j => obtain ⟨t', rfl⟩ := ry; exact eq_str (fin_bl I q dec_str)
    | _ => exact absurd (show false = true from hs) Bool.false_ne_true
  | byt i =>
    obtain ⟨t, rfl⟩ := rx
    cases y with
    | byt j => obtain ⟨t', rfl⟩ := ry; exact PySem.W.eq_bytes (fin_bl I q dec_byt)
    | _ => exact absurd (show false = true from hs) Bool.false_ne_true
  | _ => cases y <;> exact absurd (show false = true from hs) Bool.false_ne_true
theorem op_ne : OpR X (compareOp .NotEq) rNe := by
  intro pins s σ H x y v u Q I rx ry h
  obtain ⟨hs, q⟩ := h
  cases x with
  | non =>
    cases rx
    cases y with
    | non => cases ry; exact PySem.EqNone.ne_none_none (fin_bl I q (by simp))
    | bl j => cases ry; exact PySem.EqNone.ne_none_bool (fin_bl I q (by simp))
    | int j => obtain ⟨t', rfl⟩ := ry; exact PySem.EqNone.ne_none_int (fin_bl I q (by simp))
    | str j => obtain ⟨t', rfl⟩ := ry; exact PySem.EqNone.ne_none_str (fin_bl I q (by simp))
    | _ => exact absurd (show false = true from hs) Bool.false_ne_true
  | bl i =>
    cases rx
    cases y with
    | non => cases ry; exact PySem.EqNone.ne_bool_none (fin_bl I q (by simp))
    | bl j => cases ry; exact ne_bool (fin_bl I q (congrArg not dec_bl))
    | str j => obtain ⟨t', rfl⟩ := ry; exact PySem.EqMixed.ne_bool_str (fin_bl I q (by simp))
    | _ => exact absurd (show false = true from hs) Bool.false_ne_true
  | int i =>
    obtain ⟨t, rfl⟩ := rx
    cases y with
    | non => cases ry; exact PySem.EqNone.ne_int_none (fin_bl I q (by simp))
    | int j => obtain ⟨t', rfl⟩ := ry; exact ne_int (fin_bl I q (congrArg not dec_int))
    | str j => obtain ⟨t', rfl⟩ := ry; exact PySem.EqMixed.ne_int_str (fin_bl I q (by simp))
    | _ => exact absurd (show false = true from hs) Bool.false_ne_true
  | str i =>
    obtain ⟨t, rfl⟩ := rx
    cases y with
    | non => cases ry; exact PySem.EqNone.ne_str_none (fin_bl I q (by simp))
    | bl j => cases ry; exact PySem.EqMixed.ne_str_bool (fin_bl I q (by simp))
    | int j => obtain ⟨t', rfl⟩ := ry; exact PySem.EqMixed.ne_str_int (fin_bl I q (by simp))
    | str j => obtain ⟨t', rfl⟩ := ry; exact ne_str (fin_bl I q (congrArg not dec_str))
    | _ => exact absurd (show false = true from hs) Bool.false_ne_true
  | byt i =>
    obtain ⟨t, rfl⟩ := rx
    cases y with
    | byt j => obtain ⟨t', rfl⟩ := ry; exact PySem.W.ne_bytes (fin_bl I q (congrArg not dec_byt))
    | _ => exact absurd (show false = true from hs) Bool.false_ne_true
  | _ => cases y <;> exact absurd (show false = true from hs) Bool.false_ne_true

theorem op_lt : OpR X (compareOp .Lt) (rI0 fun i j => .bl (decide (i < j))) := opB0 fun _ _ _ _ _ _ _ q => lt_int q
theorem op_le : OpR X (compareOp .LtE) (rI0 fun i j => .bl (decide (i ≤ j))) := opB0 fun _ _ _ _ _ _ _ q => le_int q
theorem op_gt : OpR X (compareOp .Gt) (rI0 fun i j => .bl (decide (j < i))) := opB0 fun _ _ _ _ _ _ _ q => gt_int q
theorem op_ge : OpR X (compareOp .GtE) (rI0 fun i j => .bl (decide (j ≤ i))) := opB0 fun _ _ _ _ _ _ _ q => ge_int q
theorem op_isN : OpR X (compareOp .Is) (fun x y H Q => y = .non ∧ Q (.bl (decide (x = .non))) H) := by
  intro pins s σ H x y v u Q I rx ry h
  obtain ⟨rfl, q⟩ := h
  cases ry
  refine is_none_gen (fin_bl I q ?_)
  cases x <;> first
    | (cases rx; rfl)
    | (obtain ⟨t, rfl⟩ := rx; rfl)
theorem op_notN : OpR X (compareOp .IsNot) (fun x y H Q => y = .non ∧ Q (.bl (!decide (x = .non))) H) := by
  intro pins s σ H x y v u Q I rx ry h
  obtain ⟨rfl, q⟩ := h
  cases ry
  refine isnot_none_gen (fin_bl I q ?_)
  cases x <;> first
    | (cases rx; rfl)
    | (obtain ⟨t, rfl⟩ := rx; rfl)

theorem OpR.or {f : Value → Value → Sem Value} {r r' : R2} (h : OpR X f r) (h' : OpR X f r') : OpR X f (fun x y H Q => r x y H Q ∨ r' x y H Q) := by
  intro pins s σ H x y v u Q I rx ry q
  rcases q with q | q
  · exact h pins s σ H x y v u Q I rx ry q
  · exact h' pins s σ H x y v u Q I rx ry q

theorem nomark (b : Expr) {op : CmpOp} (h : op ≠ .In := by decide) (h2 : op ≠ .NotIn := by decide) : behindInMarks op b = false := by
  have e1 : (op == CmpOp.In) = false := by cases op <;> first | rfl | exact absurd rfl h
  have e2 : (op == CmpOp.NotIn) = false := by cases op <;> first | rfl | exact absurd rfl h2
  cases b <;> simp [behindInMarks, e1, e2]
theorem pe_cmpR {op : CmpOp} {r : R2} (ho : OpR X (compareOp op) r) (ha : PE X a ta) (hb : PE X b tb) (hm : behindInMarks op b = false) : PE X (.Compare a [op] [b] pos) (tOp r ta tb) := by
  intro pins s σ H Q I h
  exact wpAny_Compare1 (binT ha hb I h fun v u s2 x y H2 I2 rx ry q => ho pins s2 σ H2 x y v u Q I2 rx ry q) hm
noncomputable def tTest (t : TE) : TT := fun σ H Q => t σ H fun x H' => ∃ k, x = .bl k ∧ Q k H'
theorem pt_cmpR {op : CmpOp} {r : R2} (ho : OpR X (compareOp op) r) (ha : PE X a ta) (hb : PE X b tb) (hm : behindInMarks op b = false) : PT X (.Compare a [op] [b] pos) (tTest (tOp r ta tb)) := by
  intro pins s σ H Q I h
  refine wpAny_isTrue_Compare1 (thn (ha pins s σ H _ I h) fun v s1 ⟨x, H1, I1, r1, q1⟩ => thn (hb pins s1 σ H1 _ I1 q1) fun u s2 ⟨y, H2, I2, r2, q2⟩ =>
    thn (ho pins s2 σ H2 x y v u _ I2 r1 r2 q2) fun c s3 ⟨z, H3, I3, r3, k, e, q3⟩ => ?_) hm
  subst e
  cases r3
  exact wpAny_truthy_bool ⟨H3, I3, q3⟩
noncomputable def tChain (r r' : R2) (ta tb tc : TE) : TE := fun σ H Q => ta σ H fun x H1 => tb σ H1 fun y H2 => r x y H2 fun z H3 => ∃ k, z = .bl k ∧
  (if k = true then tc σ H3 fun w' H4 => r' y w' H4 Q else Q (.bl false) H3)
theorem pe_chain {op op' : CmpOp} {r r' : R2} (ho : OpR X (compareOp op) r) (ho' : OpR X (compareOp op') r') (ha : PE X a ta) (hb : PE X b tb) (hc : PE X c tc)
    (hm : lastMarks [op, op'] [b, c] = false := by with_unfolding_all rfl) : PE X (.Compare a [op, op'] [b, c] pos) (tChain r r' ta tb tc) := by
  intro pins s σ H Q I h
  refine Compare_chain (thn (ha pins s σ H _ I h) fun v s1 ⟨x, H1, I1, r1, q1⟩ => chain_link (thn (hb pins s1 σ H1 _ I1 q1) fun u s2 ⟨y, H2, I2, r2, q2⟩ =>
    thn (ho pins s2 σ H2 x y v u _ I2 r1 r2 q2) fun d s3 ⟨z, H3, I3, r3, k, e, q3⟩ => ?_)) hm
  subst e
  cases r3
  refine wpAny_truthy_bool ?_
  cases k with
  | false => exact ite_ff ⟨.bl false, H3, I3, rfl, q3⟩
  | true => exact ite_tt (chain_last (thn (hc pins s3 σ H3 _ I3 q3) fun w' s4 ⟨z', H4, I4, r4, q4⟩ => ho' pins s4 σ H4 y z' u w' Q I4 r2 r4 q4))
theorem pt_chain {op op' : CmpOp} {r r' : R2} (ho : OpR X (compareOp op) r) (ho' : OpR X (compareOp op') r') (ha : PE X a ta) (hb : PE X b tb) (hc : PE X c tc)
    (hm : lastMarks [op, op'] [b, c] = false := by with_unfolding_all rfl) : PT X (.Compare a [op, op'] [b, c] pos) (tTest (tChain r r' ta tb tc)) := by
  intro pins s σ H Q I h
  refine isTrue_chain (thn (ha pins s σ H _ I h) fun v s1 ⟨x, H1, I1, r1, q1⟩ => test_link (thn (hb pins s1 σ H1 _ I1 q1) fun u s2 ⟨y, H2, I2, r2, q2⟩ =>
    thn (ho pins s2 σ H2 x y v u _ I2 r1 r2 q2) fun d s3 ⟨z, H3, I3, r3, k, e, q3⟩ => ?_)) hm
  subst e
  cases r3
  refine wpAny_truthy_bool ?_
  cases k with
  | false =>
    obtain ⟨k', e', q'⟩ := q3
    cases e'
    exact ite_ff ⟨H3, I3, q'⟩
  | true =>
    refine ite_tt (test_last (thn (hc pins s3 σ H3 _ I3 q3) fun w' s4 ⟨z', H4, I4, r4, q4⟩ => thn (ho' pins s4 σ H4 y z' u w' _ I4 r2 r4 q4) fun d' s5 ⟨z2, H5, I5, r5, k2, e2, q5⟩ => ?_))
    subst e2
    cases r5
    exact wpAny_truthy_bool ⟨H5, I5, q5⟩

theorem line63 : (sizeLine : Nat) < 2 ^ 63 := by rw [sizeLine_eq]; decide
theorem op_add_str : OpR X (binaryOp .Add) (fun x y H Q => ∃ i j, x = .str i ∧ y = .str j ∧ i.length + j.length ≤ sizeLine ∧ Q (.str (i ++ j)) H) := by
  intro pins s σ H x y v u Q I rx ry h
  obtain ⟨i, j, rfl, rfl, hz, q⟩ := h
  obtain ⟨t, rfl⟩ := rx
  obtain ⟨t', rfl⟩ := ry
  exact add_str (fun t' tk => ⟨.str (i ++ j), H, I.tok _, ⟨_, rfl⟩, q⟩) hz
theorem vals1 {x : V} {us : List Value} (r : Vals [x] us) : ∃ u, us = [u] ∧ RelV x u := by
  cases r with
  | cons r1 r2 => cases r2; exact ⟨_, rfl, r1⟩
theorem vals2 {x y : V} {us : List Value} (r : Vals [x, y] us) : ∃ u w', us = [u, w'] ∧ RelV x u ∧ RelV y w' := by
  cases r with
  | cons r1 r2 =>
    cases r2 with
    | cons r3 r4 => cases r4; exact ⟨_, _, rfl, r1, r3⟩
theorem call_max2 (hc : X.calm = true) : CallR X (.builtin "max") (fun xs H Q => ∃ i j, xs = [.int i, .int j] ∧ Q (.int (if j > i then j else i)) H) := by
  intro pins s σ H xs us Q I r h
  obtain ⟨i, j, rfl, q⟩ := h
  obtain ⟨u, w', rfl, ⟨t, rfl⟩, ⟨t', rfl⟩⟩ := vals2 r
  refine max_two_ints (I.ok.hd hc) fun h' tk k => ⟨_, H, I.kept k, ?_, q⟩
  by_cases hj : j > i
  · rw [if_pos hj, if_pos hj]; exact ⟨_, rfl⟩
  · rw [if_neg hj, if_neg hj]; exact ⟨_, rfl⟩
theorem call_min2 (hc : X.calm = true) : CallR X (.builtin "min") (fun xs H Q => ∃ i j, xs = [.int i, .int j] ∧ Q (.int (if j < i then j else i)) H) := by
  intro pins s σ H xs us Q I r h
  obtain ⟨i, j, rfl, q⟩ := h
  obtain ⟨u, w', rfl, ⟨t, rfl⟩, ⟨t', rfl⟩⟩ := vals2 r
  refine min_two_ints (I.ok.hd hc) fun h' tk k => ⟨_, H, I.kept k, ?_, q⟩
  by_cases hj : j < i
  · rw [if_pos hj, if_pos hj]; exact ⟨_, rfl⟩
  · rw [if_neg hj, if_neg hj]; exact ⟨_, rfl⟩
theorem call_int1 : CallR X (.type "int") (fun xs H Q => (∃ i, xs = [.int i] ∧ Q (.int i) H) ∨ ∃ k, xs = [.bl k] ∧ Q (.int (if k then 1 else 0)) H) := by
  intro pins s σ H xs us Q I r h
  rcases h with ⟨i, rfl, q⟩ | ⟨k, rfl, q⟩
  · obtain ⟨u, rfl, t, rfl⟩ := vals1 r
    exact call_int_int ⟨.int i, H, I, ⟨_, rfl⟩, q⟩
  · obtain ⟨u, rfl, r1⟩ := vals1 r
    cases r1
    exact call_int_bool ⟨.int (if k then 1 else 0), H, I.tok _, ⟨_, rfl⟩, q⟩
end
end L2

namespace L2
open PySem PySem.Spec PyProof.Rows

structure ObjM (h : Heap) (x dx C : Addr) (mA : Str → Option Value) : Prop where
  obj : h.get? x = some (PySem.W.instObj C dx)
  ns : h.Ns1 dx mA
  ne : dx ≠ x

theorem lookIn_ns {h : Heap} {dx : Addr} {mA : Str → Option Value} (n : h.Ns1 dx mA) : ∃ od, h.get? dx = some od ∧ ∀ name, PySem.W.lookIn name od = some (mA name) := by
  obtain ⟨o, es, ep, ho, hd, hk, _, hm⟩ := n
  refine ⟨o, ho, fun name => ?_⟩
  have e := hm name
  unfold nsFind findBy at e
  rw [← Array.find?_toList] at e
  unfold PySem.W.lookIn
  rw [hd]
  dsimp only
  split
  · rename_i y q
    rw [q] at e
    exact congrArg some e
  · rename_i q
    rw [q] at e
    have a : es.toList.any (·.refKey) = false := by
      rw [List.any_eq_false]
      intro y hy
      obtain ⟨z, t, hkey⟩ := hk y (Array.mem_toList_iff.mp hy)
      simp [DictEntry.refKey, hkey]
    have a' : ¬ es.toList.any (·.refKey) = true := by rw [a]; exact Bool.false_ne_true
    rw [if_neg a']
    exact congrArg some e

theorem ObjM.look {h : Heap} {x dx C : Addr} {mA : Str → Option Value} (I : ObjM h x dx C mA) : ∃ od, PySem.W.InstAt h x (PySem.W.instObj C dx) C (some od) ∧ ∀ name, PySem.W.lookIn name od = some (mA name) :=
  let ⟨od, ho, hl⟩ := lookIn_ns I.ns
  ⟨od, ⟨I.obj, rfl, rfl, ho⟩, hl⟩

section
variable {prog : Program} {w : World} {A : Around} {E : Value → Shared → Prop} {s : Shared} {K : PySem.W.Frag} {x dx C f : Addr} {mA : Str → Option Value} {name : Str} {v : Value}

theorem get_map {expr : Bool} {Q : Value → Shared → Prop} (X : K.In s.heap) (I : ObjM s.heap x dx C mA) (hg : PySem.W.plainGet K C name = true) (hh : PySem.W.hasDictIn K C = true)
    (ha : PySem.W.findIn K (.ref C) name = some none) (hv : mA name = some v) (hv' : PySem.W.handedIn v = true) (h : Q v { s with toks := s.toks + 1 }) :
    wpAny (model prog w) A (getAttr (.ref x) name expr) Q E s := by
  obtain ⟨od, J, hl⟩ := I.look
  exact PySem.W.get_value X J (PySem.W.plainGet_of hg).1 (PySem.W.findObj_own hh ha rfl (by rw [hl, hv])) hv' h

theorem get_meth {pl : Sem Bool} {Q : Value × List Value → Shared → Prop} (X : K.In s.heap) (I : ObjM s.heap x dx C mA) (hg : PySem.W.plainGet K C name = true)
    (hf : PySem.W.findIn K (.ref C) name = some (some (.ref f))) (ht : PySem.W.isFn K (.ref f) = true) (hv : mA name = none) (h : Q (.ref f, [.ref x]) s) :
    wpAny (model prog w) A (getMethod (.ref x) name pl) Q E s := by
  obtain ⟨od, J, hl⟩ := I.look
  exact PySem.W.method_fn X J (PySem.W.plainGet_of hg).1 (PySem.W.plainGet_of hg).2 hf (beq_iff_eq.mp ht) (by show (PySem.W.lookIn name od).map (·.isSome) = some false; rw [hl, hv]; rfl) h

theorem set_map {ns : List Str} {Q : Unit → Shared → Prop} (X : K.In s.heap) (I : ObjM s.heap x dx C mA)
    (hs : PySem.W.findIn K (.ref C) "__setattr__" = some (some (.builtin "object.__setattr__"))) (hp : PySem.W.plainOver K C = true) (ht : PySem.W.takerIn K C name = some none) (hh : PySem.W.hasDictIn K C = true)
    (hw : PySem.Within mA ns) (hsz : ns.length ≤ sizeLine)
    (h : ∀ h', ObjM h' x dx C (fun y => if y = name then some v else mA y) → Heap.SameBut dx s.heap h' → Q () { s with heap := h', toks := s.toks + 2 }) :
    wpAny (model prog w) A (setAttr (.ref x) name v) Q E s := by
  obtain ⟨od, J, hl⟩ := I.look
  refine PySem.W.set_plain X J hs (PySem.W.osa_open (s := { s with toks := s.toks + 1 }) (r := none) X J hp ht fun b => ?_)
  obtain ⟨cd, hc, hd'⟩ := PySem.W.any_some hh
  have hx : s.heap.get? x = some ⟨.ref C, some dx, .plain, #[]⟩ := I.obj
  refine wpAny_bind (wpAny_pure (wpAny_bind (wpAny_bind (wpAny_loadPart hx (wpAny_bind (PySem.W.Looks.here (s := { s with toks := s.toks + 1 }) (PySem.W.looks_clsIn X hc) ?_))))))
  rw [hd']
  refine wpAny_pure (a := some dx) (wpAny_bind (wpAny_pure (wpAny_bind ?_)))
  refine wpAny_nsSet1 (s := { s with toks := s.toks + 1 }) I.ns fun h' hn2 hs2 => ?_
  obtain ⟨oD, esD, epD, hoD, hdD, hcD⟩ := hn2.count (PySem.Within.cons name v hw)
  refine wpAny_bind (wpAny_lookBehind hoD (by rw [hdD]; exact pastItsLine_dict (Nat.le_trans hcD (by rw [List.length_cons]; omega))) ?_)
  exact wpAny_pure (h _ ⟨(hs2.2 _ (Ne.symm I.ne)).trans I.obj, hn2, I.ne⟩ hs2)

theorem make_map {R : Result → Shared → Prop} {vs : List Value} {kw : List (Str × Value)} (X : K.In s.heap) (hm : PySem.W.makesIn K C = true)
    (hi : PySem.W.findIn K (.ref C) "__init__" = some (some (.ref f))) (hf : PySem.W.typeIn K (.ref f) = some (.type "function"))
    (h : codeAny (model prog w) (A.under (.builtin "type.__call__" ⟨.ref C :: vs, kw⟩)) (.call (.ref f) ⟨.ref (s.heap.objs.size + 1) :: vs, kw⟩) (PySem.W.InitBack (s.heap.objs.size + 1) R)
      { s with heap := (s.heap.push PySem.W.emptyDict).push (PySem.W.instObj C s.heap.objs.size) }) :
    codeAny (model prog w) A (.call (.ref C) ⟨vs, kw⟩) R s := by
  obtain ⟨hh, g, d, t, os⟩ := s
  exact PySem.W.make_core (PySem.W.makes_of X hm) (PySem.W.looks_findIn X hi) (fun self => PySem.W.bind_fn X self hf) (.inl rfl) h
end

noncomputable def putF (f : Str) (v : V) : List (Str × V) → List (Str × V)
  | [] => [(f, v)]
  | (g, x) :: r => if g = f then (g, v) :: r else (g, x) :: putF f v r
theorem lookup_putF (f g : Str) (v : V) : ∀ fs : List (Str × V), (putF f v fs).lookup g = if g = f then some v else fs.lookup g
  | [] => by
    show List.lookup g [(f, v)] = _
    by_cases h : g = f
    · have hb : (g == f) = true := beq_iff_eq.mpr h
      simp only [List.lookup, hb, if_pos h]
    · have hb : (g == f) = false := beq_eq_false_iff_ne.mpr h
      simp only [List.lookup, hb, if_neg h]
  | (k, x) :: r => by
    have ih := lookup_putF f g v r
    rw [show putF f v ((k, x) :: r) = (if k = f then (k, v) :: r else (k, x) :: putF f v r) from rfl]
    by_cases hk : k = f
    · rw [if_pos hk]
      by_cases h : g = k
      · have hb : (g == k) = true := beq_iff_eq.mpr h
        simp only [List.lookup, hb, if_pos (h.trans hk)]
      · have hb : (g == k) = false := beq_eq_false_iff_ne.mpr h
        simp only [List.lookup, hb, if_neg (fun e : g = f => h (e.trans hk.symm))]
    · rw [if_neg hk]
      by_cases h : g = k
      · have hb : (g == k) = true := beq_iff_eq.mpr h
        simp only [List.lookup, hb, if_neg (fun e : g = f => hk (h.symm.trans e))]
      · have hb : (g == k) = false := beq_eq_false_iff_ne.mpr h
        simp only [List.lookup, hb]
        exact ih
theorem keys_putF (f : Str) (v : V) : ∀ fs : List (Str × V), f ∈ (putF f v fs).map (·.1) ∧ ∀ g, g ∈ fs.map (·.1) → g ∈ (putF f v fs).map (·.1)
  | [] => ⟨by simp [putF], fun g h => by simp at h⟩
  | (k, x) :: r => by
    obtain ⟨i1, i2⟩ := keys_putF f v r
    rw [show putF f v ((k, x) :: r) = (if k = f then (k, v) :: r else (k, x) :: putF f v r) from rfl]
    by_cases hk : k = f
    · rw [if_pos hk]
      subst hk
      exact ⟨by simp, fun g h => by simpa using h⟩
    · rw [if_neg hk]
      refine ⟨?_, fun g h => ?_⟩
      · rw [List.map_cons]
        exact List.mem_cons_of_mem _ i1
      · rw [List.map_cons] at h ⊢
        rcases List.mem_cons.mp h with e | e
        · exact List.mem_cons.mpr (.inl e)
        · exact List.mem_cons_of_mem _ (i2 g e)
theorem length_putF (f : Str) (v : V) : ∀ fs : List (Str × V), (putF f v fs).length ≤ fs.length + 1
  | [] => by simp [putF]
  | (k, x) :: r => by
    have ih := length_putF f v r
    rw [show putF f v ((k, x) :: r) = (if k = f then (k, v) :: r else (k, x) :: putF f v r) from rfl]
    by_cases hk : k = f
    · rw [if_pos hk, List.length_cons, List.length_cons]; omega
    · rw [if_neg hk, List.length_cons, List.length_cons]; omega

theorem RelO.some_of {v : V} {o : Option Value} (r : RelO (some v) o) : ∃ u, o = some u ∧ RelV v u := by
  cases o with
  | none => exact (show False from r).elim
  | some u => exact ⟨u, rfl, r⟩
theorem RelO.none_of {o : Option Value} (r : RelO none o) : o = none := by
  cases o with
  | none => rfl
  | some u => exact (show False from r).elim
theorem handed_of {v : V} {u : Value} (r : RelV v u) : PySem.W.handedIn u = true := by
  cases v with
  | non => cases (show u = Value.none from r); rfl
  | bl b => cases (show u = Value.bool b from r); rfl
  | int i => obtain ⟨t, e⟩ := (show ∃ t, u = Value.int i t from r); cases e; rfl
  | str x => obtain ⟨t, e⟩ := (show ∃ t, u = Value.str x t from r); cases e; rfl
  | byt b => obtain ⟨t, e⟩ := (show ∃ t, u = Value.bytes b t from r); cases e; rfl
  | flt b => obtain ⟨t, e⟩ := (show ∃ t, u = Value.float b t from r); cases e; rfl
  | ref a => cases (show u = Value.ref a from r); rfl
  | ty n => cases (show u = Value.type n from r); rfl

section
variable {P : Program} {w : World} {H H' : Hp} {h h' : Heap} {a C dx : Addr} {fs fs' : List (Str × V)}
theorem ins_get (hok : HOk P w H h) (e : H a = some (.ins C dx fs)) : ∃ mA, ObjM h a dx C mA ∧ (∀ f, RelO (fs.lookup f) (mA f)) ∧ PySem.Within mA (fs.map (·.1)) ∧ fs.length ≤ 1000 ∧ H dx = some (.own a) := by
  obtain ⟨d, z, ne, ob, mA, n, r, q⟩ := (show ObjOk P w H h a (.ins C dx fs) from hok a _ e)
  exact ⟨mA, ⟨ob, n, ne⟩, r, q, z, d⟩
end

structure Cls (K : PySem.W.Frag) (C : Addr) : Prop where
  pg : PySem.W.plainGet K C Str.empty = true
  hd : PySem.W.hasDictIn K C = true
  po : PySem.W.plainOver K C = true
  sa : PySem.W.findIn K (.ref C) "__setattr__" = some (some (.builtin "object.__setattr__"))
theorem Cls.get {K : PySem.W.Frag} {C : Addr} (c : Cls K C) (f : Str) : PySem.W.plainGet K C f = true := c.pg
noncomputable def NoAttr (K : PySem.W.Frag) (C : Addr) (f : Str) : Prop := PySem.W.findIn K (.ref C) f = some none
theorem NoAttr.taker {K : PySem.W.Frag} {C : Addr} {f : Str} (n : NoAttr K C f) : PySem.W.takerIn K C f = some none := by
  unfold PySem.W.takerIn
  rw [show PySem.W.findIn K (.ref C) f = some none from n]
  rfl
structure Con (K : PySem.W.Frag) (C : Addr) (f : Str) (v : V) (u : Value) : Prop where
  at_ : PySem.W.findIn K (.ref C) f = some (some u)
  rel : RelV v u
  get : PySem.W.specialIn K u "__get__" = some none
  cp : PySem.W.copiedNames.contains f = false
structure Meth (K : PySem.W.Frag) (C : Addr) (m : Str) (f : Addr) : Prop where
  at_ : PySem.W.findIn K (.ref C) m = some (some (.ref f))
  fn : PySem.W.isFn K (.ref f) = true
  kp : PySem.W.keepIn K (.ref f) = true

section
variable {X : Cx} {pins : List (Addr × Obj)} {σ : St} {H : Hp} {s : Shared} {a C dx : Addr} {fs : List (Str × V)} {f : Str} {v : V} {A : Around} {E : Value → Shared → Prop}

theorem getattr_ok {b : Bool} {Q : Value → Shared → Prop} (I : Inv X pins σ H s) (e : H a = some (.ins C dx fs)) (c : Cls X.K C) (n : NoAttr X.K C f) (l : fs.lookup f = some v)
    (h : ∀ u s', Inv X pins σ H s' → RelV v u → Q u s') : wpAny (model X.prog X.w) A (getAttr (.ref a) f b) Q E s := by
  obtain ⟨mA, O, r, _, _, _⟩ := ins_get I.hok e
  obtain ⟨u, hu, ru⟩ := RelO.some_of (v := v) (o := mA f) (by rw [← l]; exact r f)
  exact get_map I.kIn O (c.get f) c.hd n hu (handed_of ru) (h u _ (I.tok _) ru)

theorem getmeth_ok {m : Str} {g : Addr} {pl : Sem Bool} {Q : Value × List Value → Shared → Prop} (I : Inv X pins σ H s) (e : H a = some (.ins C dx fs)) (c : Cls X.K C) (k : Meth X.K C m g) (l : fs.lookup m = none)
    (h : Q (.ref g, [.ref a]) s) : wpAny (model X.prog X.w) A (getMethod (.ref a) m pl) Q E s := by
  obtain ⟨mA, O, r, _, _, _⟩ := ins_get I.hok e
  have hn : mA m = none := RelO.none_of (by rw [← l]; exact r m)
  exact get_meth I.kIn O (c.get m) k.at_ k.fn hn h

theorem setattr_ok {y : V} {u : Value} {Q : Unit → Shared → Prop} (I : Inv X pins σ H s) (e : H a = some (.ins C dx fs)) (c : Cls X.K C) (n : NoAttr X.K C f) (hl : fs.length < 1000) (ry : RelV y u)
    (h : ∀ s', Inv X pins σ (upd H a (.ins C dx (putF f y fs))) s' → Q () s') : wpAny (model X.prog X.w) A (setAttr (.ref a) f u) Q E s := by
  obtain ⟨mA, O, r, wi, _, ho⟩ := ins_get I.hok e
  have hz : (fs.map (·.1)).length ≤ sizeLine := by rw [List.length_map, sizeLine_eq]; omega
  refine set_map I.kIn O c.sa c.po n.taker c.hd wi hz fun h' O' sb => h _ ?_
  have hd : ∃ o, h'.get? dx = some o := let ⟨o, _, _, e', _⟩ := O'.ns; ⟨o, e'⟩
  refine I.write (x := a) (e := dx) (by rw [e]; exact True.intro) (.inr ho) (fun b q hb z => (sb.2 b hb).trans z) hd ?_
  refine ⟨by rw [upd_ne O.ne]; exact ho, ?_, O.ne, O'.obj, _, O'.ns, fun g => ?_, fun g hg => ?_⟩
  · have := length_putF f y fs; omega
  · show RelO ((putF f y fs).lookup g) (if g = f then some u else mA g)
    rw [lookup_putF]
    by_cases q : g = f
    · rw [if_pos q, if_pos q]; exact ry
    · rw [if_neg q, if_neg q]; exact r g
  · by_cases q : g = f
    · rw [q]; exact (keys_putF f y fs).1
    · refine (keys_putF f y fs).2 g (wi g fun z => hg ?_)
      show (if g = f then some u else mA g) = none
      rw [if_neg q]; exact z

theorem Inv.made (I : Inv X pins σ H s) : Inv X pins σ (upd (upd H s.heap.objs.size (.own (s.heap.objs.size + 1))) (s.heap.objs.size + 1) (.ins C s.heap.objs.size []))
    { s with heap := (s.heap.push PySem.W.emptyDict).push (PySem.W.instObj C s.heap.objs.size) } := by
  have e1 : (s.heap.push PySem.W.emptyDict).get? s.heap.objs.size = some PySem.W.emptyDict := Heap.get?_push_size s.heap rfl
  have e2 : ((s.heap.push PySem.W.emptyDict).push (PySem.W.instObj C s.heap.objs.size)).get? (s.heap.objs.size + 1) = some (PySem.W.instObj C s.heap.objs.size) := by
    have := Heap.get?_push_size (s.heap.push PySem.W.emptyDict) (o := PySem.W.instObj C s.heap.objs.size) rfl
    rwa [Heap.size_push] at this
  have e3 : (s.heap.push PySem.W.emptyDict).Ns s.heap.objs.size (fun _ => none) := ⟨PySem.W.emptyDict, #[], _, e1, rfl, (fun e he => absurd he (by simp)), fun _ => rfl⟩
  have I1 := I.laid (a := s.heap.objs.size) (o := .own (s.heap.objs.size + 1)) (h' := s.heap.push PySem.W.emptyDict) (t' := s.toks) (fun b u q => Heap.get?_push_of_some _ q) (Nat.le_refl _) ⟨_, e1⟩
  refine I1.laid (a := s.heap.objs.size + 1) (o := .ins C s.heap.objs.size []) (t' := s.toks) (fun b u q => Heap.get?_push_of_some _ q) (Nat.le_of_eq (Heap.size_push _ _)) ?_
  have ne : s.heap.objs.size ≠ s.heap.objs.size + 1 := Nat.ne_of_lt (Nat.lt_succ_self _)
  refine ⟨by rw [upd_ne ne, upd_same], Nat.zero_le _, ne, e2, fun _ => none, (Heap.Ns1.of_empty e3).at fun o q => Heap.get?_push_of_some _ q, fun _ => True.intro, fun y hy => absurd rfl hy⟩

theorem attr_of {prog : Program} {w : World} {env : Env} {e : Expr} {f : Str} {pos : Pos} {s : Shared} {Q : Value → Shared → Prop} (hb : attributeBase e f env (eval e env) = eval e env)
    (h : wpAny (model prog w) A (eval e env) (fun o s₁ => wpAny (model prog w) A (getAttr o f true) Q E s₁) E s) : wpAny (model prog w) A (eval (.Attribute e f pos) env) Q E s :=
  Attribute_any_ h (by rw [arm_eval_Attribute, hb])
end

section
variable {X : Cx} {o e value : Expr} {f : Str} {pos pos' tpos : Pos} {ta tv : TE}
end

section
variable {X : Cx} {pins : List (Addr × Obj)} {σ : St} {H : Hp} {s : Shared} {A : Around} {E : Value → Shared → Prop} {Q : Value → Shared → Prop} {c : Value} {b : Bool}
inductive TyOf (K : PySem.W.Frag) (H : Hp) : V → Value → Prop where
  | non : TyOf K H .non (.type "NoneType")
  | bl (x : Bool) : TyOf K H (.bl x) (.type "bool")
  | int (i : Int) : TyOf K H (.int i) (.type "int")
  | str (x : Str) : TyOf K H (.str x) (.type "str")
  | flt (x : UInt64) : TyOf K H (.flt x) (.type "float")
  | lst {a : Addr} {xs : List V} (e : H a = some (.lst xs)) : TyOf K H (.ref a) (.type "list")
  | frz {a : Addr} {o : Obj} {xs : List V} (e : H a = some (.frz o (.lst xs))) : TyOf K H (.ref a) (.type "list")
  | tup {a : Addr} {xs : List V} (e : H a = some (.tup xs)) : TyOf K H (.ref a) (.type "tuple")
  | dK {a : Addr} {kvs : List (Key × V)} (e : H a = some (.dK kvs)) : TyOf K H (.ref a) (.type "dict")
  | dT {a : Addr} {kvs : List (List Key × V)} (e : H a = some (.dT kvs)) : TyOf K H (.ref a) (.type "dict")
  | ins {a C dx : Addr} {fs : List (Str × V)} (e : H a = some (.ins C dx fs)) (cl : Cls K C) (ha : PySem.W.findIn K (.ref C) "__class__" = some (some (.builtin "object.__class__")))
      (hn : PySem.W.specialIn K (.builtin "object.__class__") "__get__" = some (some (.builtin "getset_descriptor.__get__"))) (htk : PySem.W.takesIn K (.builtin "object.__class__") = some true)
      (hm : PySem.W.mroIn K C (.type "object") = some true) : TyOf K H (.ref a) (.ref C)
theorem isinst_ok {x : V} {u t : Value} (I : Inv X pins σ H s) (rx : RelV x u) (ty : TyOf X.K H x t) (e : PySem.W.kitOne X.K t c = some b) (h : ∀ tk, Q (.bool b) { s with toks := tk }) :
    wpAny (model X.prog X.w) A (call (.builtin "isinstance") [u, c]) Q E s := by
  cases ty with
  | non => cases (show u = Value.none from rx); exact PySem.W.kia_one PySem.W.kitx_none I.kIn True.intro e (fun z => nomatch z) h
  | bl y => cases (show u = Value.bool y from rx); exact PySem.W.kia_one PySem.W.kitx_bool I.kIn True.intro e (fun z => nomatch z) h
  | int i => obtain ⟨t, q⟩ := (show ∃ t, u = Value.int i t from rx); cases q; exact PySem.W.kia_one PySem.W.kitx_int I.kIn True.intro e (fun z => nomatch z) h
  | str y => obtain ⟨t, q⟩ := (show ∃ t, u = Value.str y t from rx); cases q; exact PySem.W.kia_one PySem.W.kitx_str I.kIn True.intro e (fun z => nomatch z) h
  | flt y => obtain ⟨t, q⟩ := (show ∃ t, u = Value.float y t from rx); cases q; exact PySem.W.kia_one PySem.W.kitx_float I.kIn True.intro e (fun z => nomatch z) h
  | @lst a xs ea =>
    cases (show u = Value.ref a from rx)
    obtain ⟨_, _, n, _, h1⟩ := (show ObjOk X.prog X.w H s.heap a (.lst xs) from I.hok a _ ea)
    exact PySem.W.kia_one PySem.W.kitx_list I.kIn ⟨_, h1, rfl⟩ e (fun z => nomatch z) h
  | @frz a ob xs ea =>
    cases (show u = Value.ref a from rx)
    obtain ⟨_, _, _, n, _, h1⟩ := (show ObjOk X.prog X.w H s.heap a (.frz ob (.lst xs)) from I.hok a _ ea)
    exact PySem.W.kia_one PySem.W.kitx_list I.kIn ⟨_, h1, rfl⟩ e (fun z => nomatch z) h
  | @tup a xs ea =>
    cases (show u = Value.ref a from rx)
    obtain ⟨_, _, _, p⟩ := (show ObjOk X.prog X.w H s.heap a (.tup xs) from I.hok a _ ea)
    obtain ⟨o, h1, h2, _⟩ := p
    exact PySem.W.kia_one PySem.W.kitx_tuple I.kIn ⟨o, h1, h2⟩ e (fun z => nomatch z) h
  | @dK a kvs ea =>
    cases (show u = Value.ref a from rx)
    obtain ⟨_, _, vs, _, p⟩ := (show ObjOk X.prog X.w H s.heap a (.dK kvs) from I.hok a _ ea)
    obtain ⟨o, es, ep, h1, h2, _⟩ := p
    exact PySem.W.kia_one PySem.W.kitx_dict I.kIn ⟨o, h1, h2.1⟩ e (fun z => nomatch z) h
  | @dT a kvs ea =>
    cases (show u = Value.ref a from rx)
    obtain ⟨_, _, xs, _, o, es, ep, h1, h2, _⟩ := (show ObjOk X.prog X.w H s.heap a (.dT kvs) from I.hok a _ ea)
    exact PySem.W.kia_one PySem.W.kitx_dict I.kIn ⟨o, h1, h2.1⟩ e (fun z => nomatch z) h
  | @ins a C dx fs ea cl ha hn htk hm =>
    cases (show u = Value.ref a from rx)
    obtain ⟨mA, O, _⟩ := ins_get I.hok ea
    obtain ⟨od, J, _⟩ := O.look
    exact PySem.W.kia_one (PySem.W.kitx_own (cl.get _) cl.hd ha hn htk hm) I.kIn J e (fun z => nomatch z) h
end
end L2

namespace L2
open PySem PySem.Spec PyProof.Rows

structure Room (k : Nat) (A : Around) : Prop where
  hd : A.handled = none
  dp : A.depth + 3 * k + 5 < recursionLimit
  un : A.units + 16 * k + 200 < cLine
theorem Room.mono {j k : Nat} {A : Around} (r : Room k A) (h : j ≤ k) : Room j A := ⟨r.hd, by have := r.dp; omega, by have := r.un; omega⟩
theorem Room.deeper {k : Nat} {A : Around} (r : Room (k + 1) A) (env : Env) : Room k (A.deeper env) :=
  ⟨r.hd, by have := r.dp; show A.depth + 1 + 3 * k + 5 < _; omega, by have := r.un; show A.units + 3 + 16 * k + 200 < _; omega⟩
theorem make_depth {A : Around} {C : Addr} {us : List Value} {kw : List (Str × Value)} : (A.under (.builtin "type.__call__" ⟨.ref C :: us, kw⟩)).depth = A.depth + 1 := by
  first | rfl | simp [Around.under, Code.weight, Code.isCreation, Code.isGuard, Code.isCaller, Code.frames, Code.isFrame, guardIds]
theorem make_units {A : Around} {C : Addr} {us : List Value} {kw : List (Str × Value)} : (A.under (.builtin "type.__call__" ⟨.ref C :: us, kw⟩)).units = A.units + 1 := by
  first | rfl | simp [Around.under, Code.cUnits, Code.frames, Code.isFrame]
theorem Room.make {k : Nat} {A : Around} (r : Room (k + 1) A) (C : Addr) (us : List Value) (kw : List (Str × Value)) : Room k (A.under (.builtin "type.__call__" ⟨.ref C :: us, kw⟩)) :=
  ⟨r.hd, by have := r.dp; rw [make_depth]; omega, by have := r.un; rw [make_units]; omega⟩
theorem Room.depth {k : Nat} {A : Around} (r : Room k A) : A.depth < recursionLimit := by have := r.dp; omega
theorem Room.units {k : Nat} {A : Around} (r : Room k A) : A.units + 64 < cLine := by have := r.un; omega
noncomputable def tNil : TA := fun _ H Q => Q [] H
noncomputable def tCons (ta : TE) (tr : TA) : TA := fun σ H Q => ta σ H fun x H1 => tr σ H1 fun xs H2 => Q (x :: xs) H2
section
variable {X : Cx} {e : Expr} {es : List Expr} {te : TE} {t : TA} {pos : Pos}
theorem pa_nil : PA X [] tNil := fun _ _ _ _ H Q I h => Calls.spliced_nil ⟨[], H, I, .nil, h⟩
theorem pa_cons (ha : PE X e te) (hr : PA X es t) (hs : starEach (e :: es) X.env = (false, eval e X.env) :: starEach es X.env := by rfl) : PA X (e :: es) (tCons te t) := by
  intro pos pins s σ H Q I h
  rw [hs]
  show wpAny _ _ (spliced ((false, eval e X.env) :: backTo pos (starEach es X.env))) _ _ s
  refine Calls.spliced_cons (thn (ha pins s σ H _ I h) fun u s1 ⟨x, H1, I1, r1, q1⟩ => ?_)
  exact thn (hr pos pins s1 σ H1 _ I1 q1) fun us s2 ⟨xs, H2, I2, r2, q2⟩ => ⟨x :: xs, H2, I2, .cons r1 r2, q2⟩

noncomputable def tTup (t : TA) : TE := fun σ H Q => t σ H fun xs H1 => xs.length ≤ sizeLine ∧ ∀ p, H1 p = none → Q (.ref p) (upd H1 p (.tup xs))
noncomputable def tLst (t : TA) : TE := fun σ H Q => t σ H fun xs H1 => xs.length ≤ sizeLine ∧ ∀ p, H1 p = none → Q (.ref p) (upd H1 p (.lst xs))
theorem pe_tup {x1} (h : PA X es t) : PE X (.Tuple es x1 pos) (tTup t) := by
  intro pins s σ H Q I hq
  refine wpAny_Tuple_spliced (thn (h pos pins s σ H _ I hq) fun us s1 ⟨xs, H1, I1, r, z, q⟩ => ⟨by rw [← r.length]; exact z, ?_⟩)
  have hf : H1 s1.heap.objs.size = none := I1.hok.fresh (Nat.le_refl _)
  refine ⟨.ref s1.heap.objs.size, upd H1 s1.heap.objs.size (.tup xs), I1.laid (t' := s1.toks) (fun b u e => Heap.get?_push_of_some _ e) (Nat.le_refl _) ?_, rfl, q _ hf⟩
  exact ⟨z, us, r, ⟨_, Heap.get?_push_size _ rfl, rfl, _, rfl⟩⟩
theorem pe_lst (h : PA X es t) : PE X (.List es pos) (tLst t) := by
  intro pins s σ H Q I hq
  refine wpAny_List_spliced (thn (h pos pins s σ H _ I hq) fun us s1 ⟨xs, H1, I1, r, z, q⟩ => ⟨by rw [← r.length]; exact z, ?_⟩)
  have hf : H1 s1.heap.objs.size = none := I1.hok.fresh (Nat.le_refl _)
  refine ⟨.ref s1.heap.objs.size, upd H1 s1.heap.objs.size (.lst xs), I1.laid (t' := s1.toks) (fun b u e => Heap.get?_push_of_some _ e) (Nat.le_refl _) ?_, rfl, q _ hf⟩
  exact ⟨z, us, 0, r, Heap.get?_push_size _ rfl⟩
end

noncomputable abbrev Sp := List V → Hp → VK → XK → Prop
noncomputable abbrev CXT := List Env → Hp → Shared → XK → Value → Shared → Prop

structure Env0 (P : Program) (w : World) (K : PySem.W.Frag) (mg : Str → Option Value) (base : Heap) (A : Around) (outer : List Env) (s : Shared) (H : Hp) : Prop where
  frames : A.frames = some outer
  mod : Mod K mg base
  bs : ∀ b o, base.get? b = some o → s.heap.get? b = some o ∧ H b = none
  bsz : base.objs.size ≤ s.heap.objs.size
  funs : s.heap.FunFrames base outer
  frf : ∀ b ∈ frs outer, H b = none
  hok : HOk P w H s.heap
  bare : AllBare s.gens
noncomputable def CE (outer : List Env) (P : Program) (w : World) (H : Hp) (s : Shared) (Q : VK) (u : Value) (s' : Shared) : Prop :=
  ∃ v H', s'.os = s.os ∧ AllBare s'.gens ∧ Un (frs outer) [] H H' s.heap s'.heap ∧ HOk P w H' s'.heap ∧ RelV v u ∧ Q v H'
noncomputable def CR (CX : CXT) (outer : List Env) (P : Program) (w : World) (H : Hp) (s : Shared) (Q : VK) (E : XK) (r : Result) (s' : Shared) : Prop :=
  match r with
  | .ok (.ret u) => CE outer P w H s Q u s'
  | .ok _ => False
  | .error e => CX outer H s E e s'
structure FnOk (P : Program) (w : World) (K : PySem.W.Frag) (mg : Str → Option Value) (base : Heap) (CX : CXT) (k : Nat) (f : Addr) (fd : FuncData) (ps : List Str) (sp : Sp) : Prop where
  len : ∀ vs H Q E, sp vs H Q E → vs.length = ps.length
  run : ∀ (A : Around) (outer : List Env) (s : Shared) (H : Hp) (args : Args) (us : List Value) (vs : List V) (Q : VK) (E : XK), Room k A → Env0 P w K mg base A outer s H → BindsTo s fd args (ps.zip us) → Vals vs us → sp vs H Q E →
    codeAny (model P w) A (.call (.ref f) args) (CR CX outer P w H s Q E) s
theorem Env0.make {P : Program} {w : World} {K : PySem.W.Frag} {mg : Str → Option Value} {base : Heap} {A : Around} {outer : List Env} {s : Shared} {H : Hp} (e : Env0 P w K mg base A outer s H) (C : Addr) (us : List Value) (kw : List (Str × Value)) :
    Env0 P w K mg base (A.under (.builtin "type.__call__" ⟨.ref C :: us, kw⟩)) outer s H := ⟨by first | exact e.frames | (simpa [Around.under, Code.envs, Code.isFrame, pushEnvs] using e.frames), e.mod, e.bs, e.bsz, e.funs, e.frf, e.hok, e.bare⟩
section
variable {X : Cx} {pins : List (Addr × Obj)} {σ : St} {H : Hp} {s s' : Shared}
theorem Inv.env0 (I : Inv X pins σ H s) : Env0 X.prog X.w X.K X.mg X.base X.A X.stack s H :=
  ⟨I.ok.frames, I.ok.mod, I.bs, Nat.le_trans I.ok.bsz I.sz, I.stack, I.stkFree, I.hok, I.bare⟩
theorem Inv.after {Q : VK} {u : Value} (I : Inv X pins σ H s) (h : CE X.stack X.prog X.w H s Q u s') : EP X pins σ Q u s' := by
  obtain ⟨v, H', os, bare, un, hok, r, q⟩ := h
  obtain ⟨hh, g, d, t, os'⟩ := s'
  obtain rfl : os' = s.os := os
  exact ⟨v, H', I.call (h' := hh) (g' := g) (d' := d) (t' := t) (ch := []) un hok bare (fun b z => absurd z (by simp)), r, q⟩
end

noncomputable def tCall (sp : Sp) (dvs : List V) (E : XK) (t : TA) : TE := fun σ H Q => t σ H fun vs H1 => sp (vs ++ dvs) H1 Q E
noncomputable def tMake (C : Addr) (sp : Sp) (dvs : List V) (E : XK) (t : TA) : TE := fun σ H Q => t σ H fun vs H1 => ∀ x dx, H1 x = none → H1 dx = none → dx ≠ x →
  sp (.ref x :: (vs ++ dvs)) (upd (upd H1 dx (.own x)) x (.ins C dx [])) (fun v H2 => v = .non ∧ Q (.ref x) H2) E

noncomputable def Binds (K : PySem.W.Frag) (fd : FuncData) (ps : List Str) (ds : List Value) : Prop :=
  ∀ (s : Shared) (us : List Value), K.In s.heap → (us ++ ds).length = ps.length → BindsTo s fd ⟨us, []⟩ (ps.zip (us ++ ds))
theorem Binds.all {K : PySem.W.Frag} {fd : FuncData} {ps : List Str} (h : ∀ us : List Value, us.length = ps.length → bindArgs fd ⟨us, []⟩ = pure (ps.zip us)) : Binds K fd ps [] := fun s us _ hl => by
  rw [List.append_nil] at hl ⊢
  exact .of_eq (h us hl)

noncomputable def Passes (CX : CXT) (X : Cx) (E : XK) : Prop := ∀ (pins : List (Addr × Obj)) (σ : St) (H : Hp) (s : Shared) (e : Value) (s' : Shared), Inv X pins σ H s → CX X.stack H s E e s' → X.xe e s'

section
variable {X : Cx} {CX : CXT} {k : Nat} {f C : Addr} {fd : FuncData} {ps : List Str} {sp : Sp} {dvs : List V} {ds : List Value} {E : XK} {x m : Str} {p pos apos : Pos} {e o : Expr} {es : List Expr} {ta : TE} {t : TA}

theorem run_fn {pins : List (Addr × Obj)} {σ : St} {H : Hp} {s : Shared} {Q : VK} {us : List Value} {vs : List V} (F : FnOk X.prog X.w X.K X.mg X.base CX k f fd ps sp) (hr : Room k X.A) (hb : Binds X.K fd ps ds) (hd : Vals dvs ds) (hx : Passes CX X E)
    (I : Inv X pins σ H s) (r : Vals vs us) (h : sp (vs ++ dvs) H Q E) : wpAny (model X.prog X.w) X.A (call (.ref f) us) (EP X pins σ Q) X.xe s := by
  have r2 : Vals (vs ++ dvs) (us ++ ds) := r.append hd
  have hl : (us ++ ds).length = ps.length := by rw [← r2.length]; exact F.len _ _ _ _ h
  refine wpAny_call (codeAny_mono (F.run X.A X.stack s H ⟨us, []⟩ (us ++ ds) (vs ++ dvs) Q E hr I.env0 (hb s us I.kIn hl) r2 h) fun r s' hq => ?_)
  cases r with
  | error e => exact hx pins σ H s e s' I hq
  | ok fl =>
    cases fl with
    | ret u => exact I.after hq
    | next => exact False.elim hq
    | brk => exact False.elim hq
    | cont => exact False.elim hq

theorem pe_call (F : FnOk X.prog X.w X.K X.mg X.base CX k f fd ps sp) (hr : Room k X.A) (hg : Gl X x) (hm : X.mg x = some (.ref f)) (hk : PySem.W.keepIn X.K (.ref f) = true) (hb : Binds X.K fd ps ds) (hd : Vals dvs ds) (hx : Passes CX X E)
    (ha : PA X (e :: es) t) (hdb : (x == ("__debug__" : Str)) = false := by decide) (he : starEach (e :: es) X.env = (false, eval e X.env) :: starEach es X.env := by rfl) (hpl : (backTo pos (starEach es X.env)).any (·.1) = false := by rfl) :
    PE X (.Call (.Name x p) (e :: es) [] pos) (tCall sp dvs E t) := by
  intro pins s σ H Q I h
  refine wpAny_Call_Name_kw (ld_glob I hg hm ?_ hdb)
  refine PySem.W.callWith_K (h₀ := X.base) I.ok.mod.kin hk (thn (ha pos pins s σ H _ I h) fun us s1 ⟨vs, H1, I1, r, q⟩ => ⟨I1.kIn, ?_⟩) he hpl
  exact run_fn F hr hb hd hx I1 r q
structure Mk (K : PySem.W.Frag) (C f : Addr) : Prop where
  makes : PySem.W.makesIn K C = true
  init : PySem.W.findIn K (.ref C) "__init__" = some (some (.ref f))
  fn : PySem.W.isFn K (.ref f) = true
  kp : PySem.W.keepIn K (.ref C) = true

theorem run_make {pins : List (Addr × Obj)} {σ : St} {H : Hp} {s : Shared} {Q : VK} {us : List Value} {vs : List V} (M : Mk X.K C f) (F : FnOk X.prog X.w X.K X.mg X.base CX k f fd ps sp) (hr : Room (k + 1) X.A) (hb : Binds X.K fd ps ds) (hd : Vals dvs ds)
    (hx : Passes CX X E) (I : Inv X pins σ H s) (r : Vals vs us)
    (h : ∀ x dx, H x = none → H dx = none → dx ≠ x → sp (.ref x :: (vs ++ dvs)) (upd (upd H dx (.own x)) x (.ins C dx [])) (fun v H2 => v = .non ∧ Q (.ref x) H2) E) :
    wpAny (model X.prog X.w) X.A (call (.ref C) us) (EP X pins σ Q) X.xe s := by
  have hq := h (s.heap.objs.size + 1) s.heap.objs.size (I.hok.fresh (Nat.le_succ _)) (I.hok.fresh (Nat.le_refl _)) (Nat.ne_of_lt (Nat.lt_succ_self _))
  have I2 := Inv.made (C := C) I
  have r2 : Vals (V.ref (s.heap.objs.size + 1) :: (vs ++ dvs)) (Value.ref (s.heap.objs.size + 1) :: (us ++ ds)) := .cons rfl (r.append hd)
  have hl : (Value.ref (s.heap.objs.size + 1) :: us ++ ds).length = ps.length := by
    have e := r2.length
    rw [F.len _ _ _ _ hq] at e
    exact e.symm
  refine wpAny_call (make_map (f := f) I.kIn M.makes M.init (beq_iff_eq.mp M.fn) (codeAny_mono (F.run _ X.stack _ _ ⟨Value.ref (s.heap.objs.size + 1) :: us, []⟩ (Value.ref (s.heap.objs.size + 1) :: (us ++ ds)) _ _ E (hr.make C us [])
    (I2.env0.make C us []) (hb _ (Value.ref (s.heap.objs.size + 1) :: us) I2.kIn hl) r2 hq) fun r s' hq' => ?_))
  cases r with
  | error e => exact hx pins σ _ _ e s' I2 hq'
  | ok fl =>
    cases fl with
    | ret u =>
      obtain ⟨v, H', I3, rv, ev, q3⟩ := I2.after hq'
      subst ev
      exact ⟨rv, ⟨V.ref (s.heap.objs.size + 1), H', I3, rfl, q3⟩⟩
    | next => exact False.elim hq'
    | brk => exact False.elim hq'
    | cont => exact False.elim hq'
theorem pe_make (M : Mk X.K C f) (F : FnOk X.prog X.w X.K X.mg X.base CX k f fd ps sp) (hr : Room (k + 1) X.A) (hg : Gl X x) (hm : X.mg x = some (.ref C)) (hb : Binds X.K fd ps ds) (hd : Vals dvs ds) (hx : Passes CX X E)
    (ha : PA X (e :: es) t) (hdb : (x == ("__debug__" : Str)) = false := by decide) (he : starEach (e :: es) X.env = (false, eval e X.env) :: starEach es X.env := by rfl) (hpl : (backTo pos (starEach es X.env)).any (·.1) = false := by rfl) :
    PE X (.Call (.Name x p) (e :: es) [] pos) (tMake C sp dvs E t) := by
  intro pins s σ H Q I h
  refine wpAny_Call_Name_kw (ld_glob I hg hm ?_ hdb)
  refine PySem.W.callWith_K (h₀ := X.base) I.ok.mod.kin M.kp (thn (ha pos pins s σ H _ I h) fun us s1 ⟨vs, H1, I1, r, q⟩ => ⟨I1.kIn, ?_⟩) he hpl
  exact run_make M F hr hb hd hx I1 r q
end

section
variable {X : Cx} {CX : CXT} {k : Nat} {f C : Addr} {fd : FuncData} {ps ks : List Str} {sp : Sp} {E : XK} {x m : Str} {p pos apos kpos : Pos} {e o : Expr} {es : List Expr} {kws : List Keyword} {te ta : TE} {t tk : TA} {nm : Option Str}
structure KBinds (K : PySem.W.Frag) (fd : FuncData) (ps ks : List Str) (g : List Value → List Value → List Value) (gV : List V → List V → List V) : Prop where
  to : ∀ (s : Shared) (us ws : List Value), K.In s.heap → (g us ws).length = ps.length → BindsTo s fd ⟨us, ks.zip ws⟩ (ps.zip (g us ws))
  rel : ∀ {vs : List V} {us : List Value} {zs : List V} {ws : List Value}, Vals vs us → Vals zs ws → Vals (gV vs zs) (g us ws)
variable {g : List Value → List Value → List Value} {gV : List V → List V → List V}
end

structure FnScope (N P : List Str) (sc : Scope) : Prop where
  kind : sc.kind = .function
  co : sc.isCoroutine = false
  gen : sc.isGenerator = false
  nd : N.Nodup
  pre : N.take P.length = P
  par : ∀ x ∈ P, sc.names.lookup x = some .local ∨ sc.names.lookup x = some .cell
  nofree : ∀ y ∈ sc.names, y.2 ≠ .free

theorem bindL_out {kindOf : Str → Option NameKind} {x : Str} : ∀ {binds : List (Str × Value)} {m : Str → Option Value}, (∀ v, (x, v) ∉ binds) → bindL kindOf binds m x = m x
  | [], _, _ => rfl
  | (n, v) :: r, m, h => by
    unfold bindL
    rw [bindL_out fun w hw => h w (List.mem_cons_of_mem _ hw)]
    split
    · have : x ≠ n := by rintro rfl; exact h v List.mem_cons_self
      simp [this]
    · rfl
theorem bindC_out {kindOf : Str → Option NameKind} {x : Str} : ∀ {binds : List (Str × Value)} {m : Str → Option Value}, (∀ v, (x, v) ∉ binds) → bindC kindOf binds m x = m x
  | [], _, _ => rfl
  | (n, v) :: r, m, h => by
    unfold bindC
    rw [bindC_out fun w hw => h w (List.mem_cons_of_mem _ hw)]
    split
    · rfl
    · have : x ≠ n := by rintro rfl; exact h v List.mem_cons_self
      simp [this]
theorem bindL_get {kindOf : Str → Option NameKind} {x : Str} {v : Value} : ∀ {P : List Str} {vs : List Value} {i : Nat} {m : Str → Option Value}, P.Nodup → P[i]? = some x → vs[i]? = some v → kindOf x = some .local →
    bindL kindOf (P.zip vs) m x = some v
  | [], _, _, _, _, h, _, _ => by simp at h
  | _ :: _, [], _, _, _, _, h, _ => by simp at h
  | p :: P, w :: vs, 0, m, nd, h1, h2, hk => by
    simp at h1 h2; subst h1; subst h2
    show bindL kindOf ((p, w) :: P.zip vs) m p = _
    unfold bindL
    rw [bindL_out fun v hv => (List.nodup_cons.mp nd).1 (List.of_mem_zip hv).1, if_pos hk]
    simp
  | p :: P, w :: vs, i + 1, m, nd, h1, h2, hk => by
    show bindL kindOf ((p, w) :: P.zip vs) m x = _
    unfold bindL
    exact bindL_get (i := i) (List.nodup_cons.mp nd).2 (by simpa using h1) (by simpa using h2) hk
theorem bindC_get {kindOf : Str → Option NameKind} {x : Str} {v : Value} : ∀ {P : List Str} {vs : List Value} {i : Nat} {m : Str → Option Value}, P.Nodup → P[i]? = some x → vs[i]? = some v → kindOf x ≠ some .local →
    bindC kindOf (P.zip vs) m x = some v
  | [], _, _, _, _, h, _, _ => by simp at h
  | _ :: _, [], _, _, _, _, h, _ => by simp at h
  | p :: P, w :: vs, 0, m, nd, h1, h2, hk => by
    simp at h1 h2; subst h1; subst h2
    show bindC kindOf ((p, w) :: P.zip vs) m p = _
    unfold bindC
    rw [bindC_out fun v hv => (List.nodup_cons.mp nd).1 (List.of_mem_zip hv).1, if_neg hk]
    simp
  | p :: P, w :: vs, i + 1, m, nd, h1, h2, hk => by
    show bindC kindOf ((p, w) :: P.zip vs) m x = _
    unfold bindC
    exact bindC_get (i := i) (List.nodup_cons.mp nd).2 (by simpa using h1) (by simpa using h2) hk

noncomputable def start (N : List Str) (vs : List V) : St := vs.map some ++ List.replicate (N.length - vs.length) none

noncomputable def cxOf (CX : CXT) (P : Program) (w : World) (K : PySem.W.Frag) (mg : Str → Option Value) (base : Heap) (N : List Str) (qual : Str) (scope : Scope) (f : Addr) (cd : Value) (A : Around) (outer : List Env) (s : Shared) (H : Hp) (E : XK) : Cx where
  prog := P
  w := w
  K := K
  mg := mg
  base := base
  A := A.deeper (envOfC qual scope s.heap.objs.size f cd)
  N := N
  s₀ := s
  H₀ := H
  env := envOfC qual scope s.heap.objs.size f cd
  outer := outer
  stack := envOfC qual scope s.heap.objs.size f cd :: outer
  ex := []
  calm := true
  fn := fun _ => true
  pn := []
  xe := fun e s' => wpAny (model P w) (A.deeper (envOfC qual scope s.heap.objs.size f cd)) (leaving (envOfC qual scope s.heap.objs.size f cd) e) (fun _ s'' => CX outer H s E e s'') (fun e' s'' => CX outer H s E e' s'') s'

theorem cell_has {sc : Scope} {n : Nat} {x : Str} (h : sc.names.lookup x = some .cell) : ∃ c, (cellsFrom n sc.names []).lookup x = some c := by
  have q := PySem.W.cellsFrom_some sc.names n [] (.inl h)
  exact Option.isSome_iff_exists.mp q

theorem inv_start {CX : CXT} {P : Program} {w : World} {K : PySem.W.Frag} {mg : Str → Option Value} {base : Heap} {N ps : List Str} {qual : Str} {scope : Scope} {f : Addr} {cd : Value} {A : Around} {outer : List Env} {s s1 : Shared} {H : Hp} {E : XK} {us : List Value} {vs : List V}
    (S : FnScope N ps scope) (hd : A.handled = none) (e0 : Env0 P w K mg base A outer s H) (hl : vs.length = ps.length) (r : Vals vs us)
    (x : InCallC s s.heap.objs.size (bindL (envOfC qual scope s.heap.objs.size f cd).kindOf (ps.zip us) fun _ => none) (cellsFrom (s.heap.objs.size + 1) scope.names []) (bindC (envOfC qual scope s.heap.objs.size f cd).kindOf (ps.zip us) fun _ => none) s1) :
    Inv (cxOf CX P w K mg base N qual scope f cd A outer s H E) [] (start N vs) H s1 := by
  have hpl : ps.length ≤ N.length := by have := congrArg List.length S.pre; rw [List.length_take] at this; omega
  obtain ⟨h1, tk, rfl, hk⟩ := x.done
  have noA : ∀ b : Addr, b ∉ (cxOf CX P w K mg base N qual scope f cd A outer s H E).ex := fun b z => absurd (show b ∈ ([] : List Addr) from z) (by simp)
  refine ⟨⟨e0.mod, S.kind, rfl, rfl, Nat.le_refl _, fun y z c h1 h2 => ?_, fun y hy => ?_, fun y c _ h => ?_, fun _ => hd, Around.frames_deeper e0.frames, .inr ⟨rfl, rfl⟩, fun b z => absurd z (noA b), e0.bs, e0.bsz, fun b _ _ => noA b, fun b z => absurd z (noA b), e0.funs, e0.frf⟩,
    rfl, e0.bare, Un.kept hk, ⟨_, x.toInCall.ns, fun i y v h1 h2 h3 => ?_⟩, fun y c h => ⟨_, x.cell y c h⟩, e0.hok.fresh (Nat.le_refl _), fun y c h => ?_, fun p hp => absurd (show p ∈ ([] : List (Addr × Obj)) from hp) (by simp), e0.hok.kept hk, ?_⟩
  · exact name_of_addr x.apart (PySem.mem_of_lookup h1) (PySem.mem_of_lookup h2)
  · have hy : scope.names.lookup y = some .cell ∨ scope.names.lookup y = some .free := hy
    rcases hy with hy | hy
    · exact cell_has hy
    · exact absurd rfl (S.nofree _ (PySem.mem_of_lookup hy))
  · exact Nat.le_of_lt (x.above y c (PySem.mem_of_lookup h))
  · have hi : i < vs.length := by
      unfold start at h2
      by_cases hi : i < vs.length
      · exact hi
      · rw [List.getElem?_append_right (by simpa using hi)] at h2
        rw [List.getElem?_replicate] at h2
        split at h2 <;> cases h2
    have ha : vs[i]? = some v := by
      unfold start at h2
      rw [List.getElem?_append_left (by simpa using hi), List.getElem?_map] at h2
      cases e : vs[i]? with
      | none => rw [e] at h2; cases h2
      | some a => rw [e] at h2; cases h2; rfl
    obtain ⟨u, hu, rv⟩ := r.get ha
    have hp : ps[i]? = some y := by
      rw [← S.pre, List.getElem?_take_of_lt (by omega)]; exact h1
    have ndP : ps.Nodup := by rw [← S.pre]; exact S.nd.sublist (List.take_sublist _ _)
    refine ⟨u, rv, ?_⟩
    rcases S.par y (List.mem_of_getElem? hp) with k | k
    · exact .inl ⟨k, bindL_get ndP hp hu k⟩
    · obtain ⟨c, e⟩ := cell_has (n := s.heap.objs.size + 1) k
      refine .inr ⟨.inl k, c, e, ?_⟩
      have q := x.cell y c e
      rw [bindC_get ndP hp hu (by show scope.names.lookup y ≠ _; rw [k]; decide)] at q
      exact q
  · exact e0.hok.fresh (Nat.le_of_lt (x.above y c (PySem.mem_of_lookup h)))
  · unfold start
    show _ = N.length
    rw [List.length_append, List.length_map, List.length_replicate]
    omega

theorem fn_of {CX : CXT} {P : Program} {w : World} {K : PySem.W.Frag} {mg : Str → Option Value} {base : Heap} {k : Nat} {f : Addr} {name qual : Str} {params : Arguments} {body : List Stmt} {scope : Scope} {dV kV doc pm cdv ct oc : Value} {an od : Option Addr}
    {osl : Array (Option Value)} {N ps : List Str} {sp : Sp} (lk : K.lookup f = some ⟨oc, od, .func (PySem.W.fnOf name qual params body scope dV kV doc pm an cdv ct), osl⟩) (hcd : PySem.W.codeIn K cdv qual = true) (S : FnScope N ps scope)
    (len : ∀ vs H Q E, sp vs H Q E → vs.length = ps.length)
    (hbody : ∀ (A : Around) (outer : List Env) (s : Shared) (H : Hp) (vs : List V) (Q : VK) (E : XK), Room k (A.deeper (envOfC qual scope s.heap.objs.size f cdv)) → sp vs H Q E →
      ∃ t, PSs (cxOf CX P w K mg base N qual scope f cdv A outer s H E) body t ∧ t { nx := fun _ H' => Q .non H', rt := Q } (start N vs) H) :
    FnOk P w K mg base CX (k + 1) f (PySem.W.fnOf name qual params body scope dV kV doc pm an cdv ct) ps sp := by
  refine ⟨len, fun A outer s H args us vs Q E hr e0 hb r hsp => ?_⟩
  have hl := len _ _ _ _ hsp
  have KX : K.In s.heap := e0.mod.kin.keeps fun b o e => (e0.bs b o e).1
  have lim : s.heap.NoLimit := e0.mod.nolimit.keeps fun b o e => (e0.bs b o e).1
  have hkind : ∀ y ∈ ps.zip us, scope.names.lookup y.1 = some .local ∨ (scope.names.lookup y.1 = some .cell ∧ ((cellsFrom (s.heap.objs.size + 1) scope.names []).lookup y.1).isSome = true) := fun ⟨n, v⟩ hy => by
    rcases S.par n (List.of_mem_zip hy).1 with q | q
    · exact .inl q
    · exact .inr ⟨q, PySem.W.cellsFrom_some _ _ _ (.inl q)⟩
  refine codeAny_call_function hr.depth (KX _ _ lk) rfl S.co S.gen rfl (PySem.W.codeRec_of KX hcd) (hb _ _ _ _ ?_)
  refine wpAny_newFunctionEnv_cells S.kind hkind fun env he s1 x => ?_
  subst he
  refine ⟨lim.keeps x.toInCall.keep, codeAny_func ?_⟩
  obtain ⟨t, ht, hq⟩ := hbody A outer s H vs Q E (hr.deeper _) hsp
  have I : Inv (cxOf CX P w K mg base N qual scope f cdv A outer s H E) [] (start N vs) H s1 := inv_start S hr.hd e0 hl r x
  refine wpAny_mono (ht [] s1 (start N vs) H _ I hq) (fun fl s' hs => ?_) fun e s' hs => hs
  have fin : ∀ {σ' : St} {H' : Hp} {v : V} {u : Value}, Inv (cxOf CX P w K mg base N qual scope f cdv A outer s H E) [] σ' H' s' → RelV v u → Q v H' → CE outer P w H s Q u s' :=
    fun {σ' H' v u} J rv q => ⟨v, H', J.os, J.bare, J.base, J.hok, rv, q⟩
  cases fl with
  | ret u =>
    obtain ⟨v, σ', H', J, rv, q⟩ := hs
    exact fin J rv q
  | next =>
    obtain ⟨σ', H', J, q⟩ := hs
    exact fin (v := V.non) (u := Value.none) J rfl q
  | brk =>
    obtain ⟨_, _, _, q⟩ := hs
    exact False.elim q
  | cont =>
    obtain ⟨_, _, _, q⟩ := hs
    exact False.elim q
end L2

namespace L2
open PySem PySem.Spec PyProof.Rows
section
variable {X : Cx} {x : Str} {p pos : Pos} {e : Expr} {es : List Expr} {t : TA} {id T : String} {r : List V → Hp → VK → Prop}

noncomputable def tCB (r : List V → Hp → VK → Prop) (t : TA) : TE := fun σ H Q => t σ H fun vs H1 => r vs H1 Q
theorem pe_callB (hc : CallR X (.builtin id) r) (hg : Gl X x) (hm : X.mg x = none) (hv : bootBuiltins x = some (.builtin id)) (ha : PA X (e :: es) t) (hn : x ≠ "__name__" := by decide) (hdb : (x == ("__debug__" : Str)) = false := by decide)
    (he : starEach (e :: es) X.env = (false, eval e X.env) :: starEach es X.env := by rfl) (hpl : (backTo pos (starEach es X.env)).any (·.1) = false := by rfl) : PE X (.Call (.Name x p) (e :: es) [] pos) (tCB r t) := by
  intro pins s σ H Q I h
  refine wpAny_Call_Name_kw (ld_blt I hg hm hv ?_ hn hdb)
  exact PyProof.Rows.callWith_builtin1 (thn (ha pos pins s σ H _ I h) fun us s1 ⟨vs, H1, I1, r1, q1⟩ => hc pins s1 σ H1 vs us Q I1 r1 q1) he hpl
theorem pe_callTy (hc : CallR X (.type T) r) (hg : Gl X x) (hm : X.mg x = none) (hv : bootBuiltins x = some (.type T)) (ha : PA X (e :: es) t) (hn : x ≠ "__name__" := by decide) (hdb : (x == ("__debug__" : Str)) = false := by decide)
    (he : starEach (e :: es) X.env = (false, eval e X.env) :: starEach es X.env := by rfl) (hpl : (backTo pos (starEach es X.env)).any (·.1) = false := by rfl) : PE X (.Call (.Name x p) (e :: es) [] pos) (tCB r t) := by
  intro pins s σ H Q I h
  refine wpAny_Call_Name_kw (ld_blt I hg hm hv ?_ hn hdb)
  exact PyProof.Rows.callWith_type1 (thn (ha pos pins s σ H _ I h) fun us s1 ⟨vs, H1, I1, r1, q1⟩ => hc pins s1 σ H1 vs us Q I1 r1 q1) he hpl
end
end L2

namespace HT
open PySem PyProof.Rows

section
open PySem.SeqAt
open PySem.AutoSeq1 (wpAny_loadPart')
open PySem.MeetsSeq PySem.MeetsSeq2 PySem.MeetsSeq3

end

section
variable {prog : Program} {w : World} {A : Around} {E : Value → Shared → Prop} {s : Shared}

theorem cat_tup {t b : Addr} {vs ws : List Value} {Q : Value → Shared → Prop} (ht : IsTup s.heap t vs.toArray) (hb : IsTup s.heap b ws.toArray) (hv : vs ≠ [])
    (h1 : ws = [] → Q (.ref t) s) (h2 : ws ≠ [] → Q (.ref s.heap.objs.size) { s with heap := s.heap.push { cls := .type "tuple", data := .seq (vs ++ ws).toArray } })
    (hsz : vs.length + ws.length ≤ sizeLine) : wpAny (model prog w) A (binaryOp .Add (.ref t) (.ref b)) Q E s := by
  obtain ⟨⟨cls, dd, data, sl⟩, ho, hc, n, hd⟩ := id ht
  obtain ⟨⟨cls2, dd2, data2, sl2⟩, ho2, hc2, n2, hd2⟩ := id hb
  simp only at hc hd hc2 hd2
  subst hc hd hc2 hd2
  have e : vs.toArray ++ ws.toArray = (vs ++ ws).toArray := by simp
  by_cases hw : ws = []
  · exact concat_meets ⟨_, ho, rfl⟩ ⟨_, ho2, rfl⟩ noFill_tuple_add seq_tuple_add PySem.F.slot_tuple_add PySem.F.entry_tuple_add (PySem.F.args_tuple_add_2 _ _)
      (tuple_addW1 t b vs.toArray ws.toArray n n2 dd dd2 sl sl2 (by simpa using hv) (by simp [hw])) ⟨ho, ho2, h1 hw⟩
  · refine concat_meets ⟨_, ho, rfl⟩ ⟨_, ho2, rfl⟩ noFill_tuple_add seq_tuple_add PySem.F.slot_tuple_add PySem.F.entry_tuple_add (PySem.F.args_tuple_add_2 _ _)
      (tuple_addW2 t b vs.toArray ws.toArray n n2 dd dd2 sl sl2 (by simpa using hv) (by simpa using hw) (by rw [List.size_toArray, List.size_toArray]; exact hsz)) ⟨ho, ho2, ?_⟩
    rw [e]
    exact h2 hw

noncomputable def sIx (n d : Nat) : Option Int → Nat
  | none => d
  | some v => if v < 0 then (v + (n : Int)).toNat else min v.toNat n
end
end HT

namespace L2
open PySem PySem.Spec PyProof.Rows

noncomputable abbrev TO := St → Hp → (Option Int → Hp → Prop) → Prop
noncomputable def tNoPart : TO := fun _ H Q => Q none H
noncomputable def tPart (t : TE) : TO := fun σ H Q => t σ H fun x H1 => ∃ i, x = .int i ∧ Q (some i) H1

section
variable {X : Cx} {e : Expr} {te : TE} {lo hi : Option Expr} {tl th : TO} {pos p2 : Pos}

noncomputable def tSl (r : V → Option Int → Option Int → Hp → VK → Prop) (te : TE) (tl th : TO) : TE := fun σ H Q => te σ H fun x H1 => tl σ H1 fun l H2 => th σ H2 fun u H3 => r x l u H3 Q
noncomputable def cutV (xs : List V) (lo hi : Option Int) : List V := (xs.drop (HT.sIx xs.length 0 lo)).take (HT.sIx xs.length xs.length hi - HT.sIx xs.length 0 lo)
noncomputable def rSlT (K : PySem.W.Frag) : V → Option Int → Option Int → Hp → VK → Prop := fun x lo hi H Q => ∃ a xs, x = .ref a ∧ SqT K H a xs ∧
  ¬ (HT.sIx xs.length 0 lo = 0 ∧ HT.sIx xs.length xs.length hi = xs.length) ∧ ∀ p, H p = none → Q (.ref p) (upd H p (.tup (cutV xs lo hi)))
noncomputable def rCatT (K : PySem.W.Frag) : R2 := fun x y H Q => ∃ a b xs ys, x = .ref a ∧ y = .ref b ∧ SqT K H a xs ∧ SqT K H b ys ∧ xs ≠ [] ∧ xs.length + ys.length ≤ sizeLine ∧
  (ys = [] → Q (.ref a) H) ∧ (ys ≠ [] → ∀ p, H p = none → Q (.ref p) (upd H p (.tup (xs ++ ys))))
theorem Vals.nil_iff {xs : List V} {us : List Value} (r : Vals xs us) : us = [] ↔ xs = [] := by
  cases r with
  | nil => simp
  | cons _ _ => simp
theorem op_catT : OpR X (binaryOp .Add) (rCatT X.K) := by
  intro pins s σ H x y v u Q I rx ry h
  obtain ⟨a, b, xs, ys, rfl, rfl, ha, hb, hx, hz, q1, q2⟩ := h
  cases rx
  cases ry
  obtain ⟨its, r1, p1, _⟩ := I.tuple ha
  obtain ⟨its2, r2, p2, _⟩ := I.tuple hb
  refine HT.cat_tup p1 p2 (fun z => hx (r1.nil_iff.mp z)) (fun z => ⟨.ref a, H, I, rfl, q1 (r2.nil_iff.mp z)⟩) (fun z => ?_) (by rw [← r1.length, ← r2.length]; exact hz)
  refine ⟨.ref s.heap.objs.size, _, I.laid (t' := s.toks) (o := .tup (xs ++ ys)) (fun b ob q => Heap.get?_push_of_some _ q) (Nat.le_refl _) ?_, rfl, q2 (fun w => z (r2.nil_iff.mpr w)) _ (I.hok.fresh (Nat.le_refl _))⟩
  exact ⟨by rw [List.length_append]; exact hz, _, r1.append r2, IsTup.new _ _⟩
end
end L2

namespace L2
open PySem PySem.Spec PyProof.Rows

noncomputable def ixN (n : Nat) (i : Int) : Option Nat := if 0 ≤ i then (if i < n then some i.toNat else none) else if -(n : Int) ≤ i then some (i + n).toNat else none
noncomputable def atI {α : Type} (xs : List α) (i : Int) : Option α := (ixN xs.length i).bind fun j => xs[j]?
theorem ixN_seq {n : Nat} {i : Int} {j : Nat} (h : ixN n i = some j) : seqIndex? i n = some j ∧ j < n ∧ -(n : Int) ≤ i ∧ i < n := by
  unfold ixN at h
  by_cases h0 : 0 ≤ i
  · rw [if_pos h0] at h
    by_cases h1 : i < n
    · rw [if_pos h1] at h
      have e : i.toNat = j := Option.some.inj h
      exact ⟨by rw [seqIndex_of h0 h1, e], by omega, by omega, h1⟩
    · rw [if_neg h1] at h; cases h
  · rw [if_neg h0] at h
    by_cases h1 : -(n : Int) ≤ i
    · rw [if_pos h1] at h
      have e : (i + n).toNat = j := Option.some.inj h
      exact ⟨by rw [seqIndex_neg (by omega) h1, e], by omega, h1, by omega⟩
    · rw [if_neg h1] at h; cases h
theorem atI_get {α : Type} {xs : List α} {i : Int} {v : α} (h : atI xs i = some v) : ∃ j, seqIndex? i xs.length = some j ∧ xs[j]? = some v ∧ j < xs.length ∧ -(xs.length : Int) ≤ i ∧ i < xs.length := by
  unfold atI at h
  cases e : ixN xs.length i with
  | none => rw [e] at h; cases h
  | some j =>
    rw [e] at h
    obtain ⟨h1, h2, h3, h4⟩ := ixN_seq e
    exact ⟨j, h1, h, h2, h3, h4⟩
theorem atI_nat {α : Type} {xs : List α} {j : Nat} {v : α} (h : xs[j]? = some v) : atI xs (j : Int) = some v := by
  have hj : j < xs.length := (List.getElem?_eq_some_iff.mp h).1
  have e : ixN xs.length (j : Int) = some j := by
    unfold ixN
    rw [if_pos (by omega), if_pos (by omega)]; simp
  unfold atI; rw [e]; exact h
theorem atI_last {α : Type} (xs : List α) (v : α) : atI (xs ++ [v]) (-1) = some v := by
  have hl : (xs ++ [v]).length = xs.length + 1 := by simp
  have e : ixN (xs ++ [v]).length (-1) = some xs.length := by
    unfold ixN
    rw [hl, if_neg (by decide), if_pos (by omega)]
    congr 1
    omega
  unfold atI
  rw [e]
  show (xs ++ [v])[xs.length]? = some v
  simp

noncomputable def PlainIx (b : Expr) : Prop := ∀ o i, subscripted b false o i = operate [o, i] (getItem o i)
noncomputable def IxR (X : Cx) (r : R2) : Prop :=
  ∀ (value slice : Expr) (pins : List (Addr × Obj)) (s : Shared) (σ : St) (H : Hp) (x y : V) (v u : Value) (Q : VK), Inv X pins σ H s → RelV x v → RelV y u → r x y H Q →
    subscripted slice false v u = operate [v, u] (getItem v u) → wpAny (model X.prog X.w) X.A (subscriptTail value slice v u) (EP X pins σ Q) X.xe s
noncomputable def MtR (X : Cx) (id : String) (r : V → List V → Hp → VK → Prop) : Prop :=
  ∀ (pins : List (Addr × Obj)) (s : Shared) (σ : St) (H : Hp) (x : V) (xs : List V) (v : Value) (us : List Value) (Q : VK), Inv X pins σ H s → RelV x v → Vals xs us → r x xs H Q →
    wpAny (model X.prog X.w) X.A (call (.builtin id) (v :: us)) (EP X pins σ Q) X.xe s
section
variable {X : Cx} {a b : Expr} {ta tb : TE} {pos : Pos}
theorem IxR.or {r r' : R2} (h : IxR X r) (h' : IxR X r') : IxR X (fun x y H Q => r x y H Q ∨ r' x y H Q) := by
  intro value slice pins s σ H x y v u Q I rx ry q hs
  rcases q with q | q
  · exact h value slice pins s σ H x y v u Q I rx ry q hs
  · exact h' value slice pins s σ H x y v u Q I rx ry q hs
theorem pe_ix {r : R2} (hr : IxR X r) (ha : PE X a ta) (hb : PE X b tb) (hs : PlainIx b) : PE X (.Subscript a b pos) (tOp r ta tb) := by
  intro pins s σ H Q I h
  exact Subscript_ (binT ha hb I h fun v u s2 x y H2 I2 rx ry q => hr a b pins s2 σ H2 x y v u Q I2 rx ry q (hs _ _))

noncomputable def rIxL (K : PySem.W.Frag) : R2 := fun x y H Q => ∃ p xs i v, x = .ref p ∧ y = .int i ∧ SqL K H p xs ∧ atI xs i = some v ∧ Q v H
noncomputable def rIxT (K : PySem.W.Frag) : R2 := fun x y H Q => ∃ p xs i v, x = .ref p ∧ y = .int i ∧ SqT K H p xs ∧ atI xs i = some v ∧ Q v H
noncomputable def rIxS : R2 := fun x y H Q => ∃ z i c, x = .str z ∧ y = .int i ∧ z.length ≤ sizeLine ∧ atI z.cps.toList i = some c ∧ Q (.str ⟨#[c]⟩) H
theorem ix_list : IxR X (rIxL X.K) := by
  intro value slice pins s σ H x y v u Q I rx ry h hs
  obtain ⟨p, xs, i, z, rfl, rfl, hq, he, q⟩ := h
  cases rx
  obtain ⟨t, rfl⟩ := ry
  obtain ⟨its, r, pl, hz⟩ := I.list hq
  obtain ⟨j, h1, h2, h3, h4, h5⟩ := atI_get he
  obtain ⟨w, ew, rw'⟩ := r.get h2
  have hl := r.length
  have hn := line63
  have fin : EP X pins σ Q w s := ⟨z, H, I, rw', q⟩
  by_cases h0 : 0 ≤ i
  · have hj : i.toNat = j := by
      rw [seqIndex_of h0 h5] at h1
      exact Option.some.inj h1
    exact item_listR pl.isList h0 (by omega) (by rw [hj]; simpa using ew) fin hs
  · have hj : (i + (its.toArray.size : Int)).toNat = j := by
      rw [seqIndex_neg (by omega) h4] at h1
      rw [List.size_toArray, ← hl]
      exact Option.some.inj h1
    exact subscriptTail_builtinR (x := w) pl.isList.typeIs slot_list_getitem.lookup
      (wpAny_getItem_list_neg (Q := fun r s' => r = w ∧ EP X pins σ Q r s') pl.isList (by omega) (by rw [List.size_toArray] <;> omega) (by omega) (by rw [hj]; simpa using ew) ⟨rfl, fin⟩) hs
theorem ix_tup : IxR X (rIxT X.K) := by
  intro value slice pins s σ H x y v u Q I rx ry h hs
  obtain ⟨p, xs, i, z, rfl, rfl, hq, he, q⟩ := h
  cases rx
  obtain ⟨t, rfl⟩ := ry
  obtain ⟨its, r, pl, hz⟩ := I.tuple hq
  obtain ⟨j, h1, h2, h3, h4, h5⟩ := atI_get he
  obtain ⟨w, ew, rw'⟩ := r.get h2
  have hl := r.length
  have hn := line63
  have fin : EP X pins σ Q w s := ⟨z, H, I, rw', q⟩
  exact subscriptTail_builtinR (x := w) pl.typeIs slot_tuple_getitem.lookup
    (getItem_tuple (j := j) (Q := fun r s' => r = w ∧ EP X pins σ Q r s') pl (by omega) (by omega) (by rw [List.size_toArray, ← hl]; exact h1) (by simpa using ew) ⟨rfl, fin⟩) hs
theorem ix_str : IxR X rIxS := by
  intro value slice pins s σ H x y v u Q I rx ry h hs
  obtain ⟨z, i, c, rfl, rfl, hz, he, q⟩ := h
  obtain ⟨t, rfl⟩ := rx
  obtain ⟨t', rfl⟩ := ry
  obtain ⟨j, h1, h2, h3, h4, h5⟩ := atI_get he
  have hl : z.cps.toList.length = z.length := by simp [Str.length]
  rw [hl] at h1 h4 h5
  have hn := line63
  exact tail_any (typeIs_str s z t) slot_str_getitem.lookup (getItem_str (c := c) (by
    have e1 : decide (i < -(2 ^ 63 : Int)) = false := decide_eq_false (by omega)
    have e2 : decide (i ≥ 2 ^ 63) = false := decide_eq_false (by omega)
    rw [e1, e2, Bool.or_false]) (by rw [h1]; simpa using h2) ⟨.str ⟨#[c]⟩, H, I.tok _, ⟨_, rfl⟩, q⟩) hs
noncomputable def rIx (K : PySem.W.Frag) : R2 := fun x y H Q => rIxL K x y H Q ∨ rIxT K x y H Q ∨ rIxS x y H Q
theorem ix_seq : IxR X (rIx X.K) := ix_list.or (ix_tup.or ix_str)

noncomputable def flatV : V → Bool
  | .non => true
  | .bl _ => true
  | .int _ => true
  | .str _ => true
  | _ => false
noncomputable def eqV : V → V → Bool
  | .non, .non => true
  | .bl a, .bl b => a == b
  | .bl a, .int b => (if a then 1 else 0) == b
  | .int a, .bl b => a == (if b then 1 else 0)
  | .int a, .int b => a == b
  | .str a, .str b => a == b
  | _, _ => false
noncomputable def inV (x : V) (xs : List V) : Bool := xs.any fun y => eqV y x
theorem call_len_seq : CallR X (.builtin "len") (fun xs H Q => ∃ p ys, xs = [.ref p] ∧ (SqL X.K H p ys ∨ SqT X.K H p ys) ∧ Q (.int ys.length) H) := by
  intro pins s σ H xs us Q I r h
  obtain ⟨p, ys, rfl, hq, q⟩ := h
  obtain ⟨u, rfl, rx⟩ := vals1 r
  cases rx
  have hn := line63
  rcases hq with hq | hq
  · obtain ⟨its, r', pl, hz⟩ := I.list hq
    have hlen := r'.length
    exact Calls.call_len_list pl.isList (by simp only [List.size_toArray] <;> omega) ⟨.int ys.length, H, I.tok _, ⟨s.toks + 1, by rw [List.size_toArray, hlen]⟩, q⟩
  · obtain ⟨its, r', pl, hz⟩ := I.tuple hq
    have hlen := r'.length
    exact len_tuple pl (by simp only [List.size_toArray] <;> omega) ⟨.int ys.length, H, I.tok _, ⟨s.toks + 1, by rw [List.size_toArray, hlen]⟩, q⟩
theorem call_len_str : CallR X (.builtin "len") (fun xs H Q => ∃ z, xs = [.str z] ∧ z.length ≤ sizeLine ∧ Q (.int z.length) H) := by
  intro pins s σ H xs us Q I r h
  obtain ⟨z, rfl, hz, q⟩ := h
  obtain ⟨u, rfl, t, rfl⟩ := vals1 r
  have hn := line63
  exact len_str (by omega) ⟨.int z.length, H, I.tok _, ⟨_, rfl⟩, q⟩
theorem CallR.or {f : Value} {r r' : List V → Hp → VK → Prop} (h : CallR X f r) (h' : CallR X f r') : CallR X f (fun xs H Q => r xs H Q ∨ r' xs H Q) := by
  intro pins s σ H xs us Q I rs q
  rcases q with q | q
  · exact h pins s σ H xs us Q I rs q
  · exact h' pins s σ H xs us Q I rs q
theorem call_list_of : CallR X (.type "list") (fun xs H Q => ∃ p ys, xs = [.ref p] ∧ (SqL X.K H p ys ∨ SqT X.K H p ys) ∧ ∀ l, H l = none → Q (.ref l) (upd H l (.lst ys))) := by
  intro pins s σ H xs us Q I r h
  obtain ⟨p, ys, rfl, hq, q⟩ := h
  obtain ⟨u, rfl, rx⟩ := vals1 r
  cases rx
  have fin : ∀ (its : List Value), Vals ys its → ys.length ≤ sizeLine → ∀ (h' : Heap) (c' : Nat), (∀ b o', s.heap.get? b = some o' → h'.get? b = some o') →
      h'.get? s.heap.objs.size = some { cls := .type "list", dict := none, data := .seq its.toArray c', slots := #[] } → EP X pins σ Q (.ref s.heap.objs.size) { s with heap := h' } := fun its r' hz h' c' kp e =>
    ⟨.ref s.heap.objs.size, _, I.laid (t' := s.toks) kp (Nat.le_refl _) (show ObjOk X.prog X.w _ h' _ (.lst ys) from ⟨hz, its, c', r', e⟩), rfl, q _ (I.hok.fresh (Nat.le_refl _))⟩
  rcases hq with hq | hq
  · obtain ⟨its, r', pl, hz⟩ := I.list hq
    have hlen := r'.length
    obtain ⟨o, ho, hc, n, hd⟩ := pl.isList
    exact call_list_seq p (.inl rfl) ho hc hd (fun h' c' kp e => fin its r' hz h' c' kp e) (by simp only [List.size_toArray] <;> omega)
  · obtain ⟨its, r', pl, hz⟩ := I.tuple hq
    have hlen := r'.length
    obtain ⟨o, ho, hc, n, hd⟩ := pl
    exact call_list_seq p (.inr rfl) ho hc hd (fun h' c' kp e => fin its r' hz h' c' kp e) (by simp only [List.size_toArray] <;> omega)
noncomputable def tyV (K : PySem.W.Frag) (T : String) (x : V) (H : Hp) : Prop := match x with
  | .str _ => T = "str"
  | .int _ => T = "int"
  | .ref p => (T = "list" ∧ ∃ xs, SqL K H p xs) ∨ (T = "tuple" ∧ ∃ o, K.lookup p = some o ∧ o.cls = .type "tuple" ∧ o.dict = none) ∨
      (T = "dict" ∧ ((∃ kvs, H p = some (.dK kvs)) ∨ ∃ kvs, H p = some (.dT kvs))) ∨ (T = "set" ∧ ∃ S n, H p = some (.set S n))
  | _ => False
theorem tyV_is {pins : List (Addr × Obj)} {σ : St} {H : Hp} {s : Shared} {T : String} {x : V} {v : Value} (I : Inv X pins σ H s) (r : RelV x v) (ty : tyV X.K T x H) :
    s.TypeIs v T ∧ ∀ a, v = .ref a → ∃ ob, s.heap.get? a = some ob ∧ ob.dict = none := by
  cases x with
  | str z =>
    obtain ⟨t, rfl⟩ := r
    cases (show T = "str" from ty)
    exact ⟨typeIs_str s z t, fun _ e => nomatch e⟩
  | int i =>
    obtain ⟨t, rfl⟩ := r
    cases (show T = "int" from ty)
    exact ⟨typeIs_int s i t, fun _ e => nomatch e⟩
  | ref p =>
    cases r
    rcases ty with ⟨rfl, xs, hq⟩ | ⟨rfl, o, hk, hc, hd⟩ | ⟨rfl, hk⟩ | ⟨rfl, S, n, hk⟩
    · obtain ⟨its, _, pl, _⟩ := I.list hq
      refine ⟨pl.isList.typeIs, fun a e => ?_⟩
      cases e
      obtain ⟨o, n, e, c, hd, _⟩ := pl
      exact ⟨o, e, hd⟩
    · refine ⟨⟨o, I.kIn p o hk, hc⟩, fun a e => ?_⟩
      cases e
      exact ⟨o, I.kIn _ o hk, hd⟩
    · have z : ∃ o, s.heap.get? p = some o ∧ o.ExactDict := by
        rcases hk with ⟨kvs, hk⟩ | ⟨kvs, hk⟩
        · obtain ⟨_, _, _, _, o, _, _, e, ex, _⟩ := I.hok p _ hk
          exact ⟨o, e, ex⟩
        · obtain ⟨_, _, _, _, o, _, _, e, ex, _⟩ := I.hok p _ hk
          exact ⟨o, e, ex⟩
      obtain ⟨o, e, ex⟩ := z
      refine ⟨⟨o, e, ex.1⟩, fun a e2 => ?_⟩
      cases e2
      exact ⟨o, e, ex.2.1⟩
    · obtain ⟨o, _, _, _, e, ex, _⟩ := I.hok p _ hk
      refine ⟨⟨o, e, ex.1⟩, fun a e2 => ?_⟩
      cases e2
      exact ⟨o, e, ex.2.1⟩
  | _ => exact False.elim ty
noncomputable def tBM0 (K : PySem.W.Frag) (T : String) (r : V → List V → Hp → VK → Prop) (to : TE) : TE := fun σ H Q => to σ H fun x H1 => tyV K T x H1 ∧ r x [] H1 Q
noncomputable def tBM (K : PySem.W.Frag) (T : String) (r : V → List V → Hp → VK → Prop) (to : TE) (t : TA) : TE := fun σ H Q => to σ H fun x H1 => tyV K T x H1 ∧ t σ H1 fun xs H2 => r x xs H2 Q
variable {o e : Expr} {es : List Expr} {to : TE} {t : TA} {name : Str} {apos cpos : Pos} {T id : String} {r : V → List V → Hp → VK → Prop}
theorem pe_bm0 (pa : PlainAttrs T) (slot : Slot T name id) (hty : typeOf (.builtin id) = pure (.type "method_descriptor")) (hm : MtR X id r) (ho : PE X o to)
    (hbase : attributeBase o name X.env (eval o X.env) = eval o X.env := by rfl) (hline : (apos.endLine == cpos.line) = true := by rfl) : PE X (.Call (.Attribute o name apos) [] [] cpos) (tBM0 X.K T r to) := by
  intro pins s σ H Q I h
  refine wpAny_Call_method0_late hbase hline (thn (ho pins s σ H _ I h) fun v s1 ⟨x, H1, I1, r1, ty, q1⟩ => ?_)
  obtain ⟨h1, h2⟩ := tyV_is I1 r1 ty
  exact ⟨T, id, pa, slot, hty, h1, h2, Calls.callWith_builtin rfl (PySem.evalArgs_none (hm pins s1 σ H1 x [] v [] Q I1 r1 .nil q1))⟩
theorem pe_bm (pa : PlainAttrs T) (slot : Slot T name id) (hty : typeOf (.builtin id) = pure (.type "method_descriptor")) (hm : MtR X id r) (ho : PE X o to) (ha : PA X (e :: es) t)
    (hbase : attributeBase o name X.env (eval o X.env) = eval o X.env := by rfl)
    (hfew : ((backTo cpos (starEach (e :: es) X.env)).all (fun x => !x.1) && (backToKw cpos (keywordEach [] X.env)).all (fun x => x.1.isSome)
      && decide ((e :: es).length + ([] : List Keyword).length + (if ([] : List Keyword).isEmpty then 0 else 1) < 30)) = true := by rfl)
    (hline : (apos.endLine == cpos.line) = true := by rfl) (hs : starEach (e :: es) X.env = (false, eval e X.env) :: starEach es X.env := by rfl) (hplain : (backTo cpos (starEach es X.env)).any (·.1) = false := by rfl) :
    PE X (.Call (.Attribute o name apos) (e :: es) [] cpos) (tBM X.K T r to t) := by
  intro pins s σ H Q I h
  refine wpAny_Call_method_late hbase hfew hline rfl (thn (ho pins s σ H _ I h) fun v s1 ⟨x, H1, I1, r1, ty, q1⟩ => ?_)
  obtain ⟨h1, h2⟩ := tyV_is I1 r1 ty
  refine ⟨T, id, pa, slot, hty, h1, h2, ?_⟩
  have hA := ha cpos pins s1 σ H1 _ I1 q1
  rw [hs] at hA ⊢
  refine Calls.callWith_builtin (by show (false || (backTo cpos (starEach es X.env)).any (·.1)) = false; rw [hplain] <;> rfl) (Calls.evalArgs_plain ?_)
  exact thn hA fun us s2 ⟨vs, H2, I2, r2, q2⟩ => hm pins s2 σ H2 x vs v us Q I2 r1 r2 q2
/- xs.append(e), list.index on a module's tuple .. are MtR facts of 06m -/
end
end L2

namespace L2
open PySem PySem.Spec PyProof.Rows

noncomputable def MtM (X : Cx) (id : String) (r : V → List V → Hp → VK → Prop) : Prop :=
  ∀ (pins : List (Addr × Obj)) (s : Shared) (σ : St) (H : Hp) (x : V) (xs : List V) (v : Value) (us : List Value) (Q : VK), Inv X pins σ H s → RelV x v → Vals xs us → r x xs H Q →
    wpAny (model X.prog X.w) X.A (call (.builtin id) (v :: us)) (EP X pins σ Q) X.xe s

theorem Vals.one : ∀ {x : V} {us : List Value}, Vals [x] us → ∃ u, us = [u] ∧ RelV x u
  | _, _, .cons r .nil => ⟨_, rfl, r⟩
theorem Vals.zero : ∀ {us : List Value}, Vals [] us → us = []
  | _, .nil => rfl
theorem Vals.dropLast {xs : List V} {us : List Value} (h : Vals xs us) : Vals xs.dropLast us.dropLast := by
  induction h with
  | nil => exact .nil
  | cons r t ih =>
    cases t with
    | nil => exact .nil
    | cons q t' => exact .cons r ih
theorem erase_last {α : Type} (l : List α) : l.eraseIdx (l.length - 1) = l.dropLast := by
  induction l with
  | nil => rfl
  | cons a r ih =>
    cases r with
    | nil => rfl
    | cons b r =>
      have e : (a :: b :: r).length - 1 = ((b :: r).length - 1) + 1 := by
        have h1 : (a :: b :: r).length = r.length + 2 := rfl
        have h2 : (b :: r).length = r.length + 1 := rfl
        omega
      rw [e, List.eraseIdx_cons_succ, ih]
      all_goals rfl
section
variable {X : Cx} {pins : List (Addr × Obj)} {σ : St} {H : Hp} {s : Shared} {l b : Addr} {xs ys zs : List V}

theorem Inv.lset {its its' : List Value} {n : Nat} {f : Array Value → Array Value} {t' : Nat} (I : Inv X pins σ H s) (hH : H l = some (.lst xs))
    (e : s.heap.get? l = some { cls := .type "list", data := .seq its.toArray n }) (hf : f its.toArray = its'.toArray) (hv : Vals ys its') (hz : ys.length ≤ sizeLine) :
    Inv X pins σ (upd H l (.lst ys)) { s with heap := s.heap.update l (Obj.mapSeq f), toks := t' } := by
  have q := PySem.IsL.update e f
  rw [hf] at q
  refine I.write (x := l) (e := l) (by rw [hH]; exact trivial) (.inl rfl) (fun b' u hb hu => (Heap.get?_update_other s.heap (Obj.mapSeq f) (Ne.symm hb)).trans hu) ⟨_, q⟩ ?_
  exact ⟨hz, its', _, hv, q⟩
theorem Inv.lnew {its : List Value} {t' : Nat} (I : Inv X pins σ H s) (hv : Vals ys its) (hz : ys.length ≤ sizeLine) :
    Inv X pins σ (upd H s.heap.objs.size (.lst ys)) { s with heap := s.heap.push { cls := .type "list", data := .seq its.toArray }, toks := t' } :=
  I.laid (fun _ _ q => Heap.get?_push_of_some _ q) (Nat.le_refl _) ⟨hz, its, 0, hv, Heap.get?_push_size _ rfl⟩
theorem Inv.fresh (I : Inv X pins σ H s) : H s.heap.objs.size = none := I.hok.fresh (Nat.le_refl _)
theorem Inv.lstM (I : Inv X pins σ H s) (hH : H l = some (.lst xs)) : xs.length ≤ sizeLine ∧ ∃ (its : List Value) (n : Nat), Vals xs its ∧ xs.length = its.length ∧ s.heap.get? l = some { cls := .type "list", data := .seq its.toArray n } := by
  obtain ⟨z, its, n, r, e⟩ := I.hok l _ hH
  exact ⟨z, its, n, r, r.length, e⟩

end

section
variable {X : Cx}

noncomputable def rAppend : V → List V → Hp → VK → Prop := fun x vs H Q => ∃ l xs y, x = .ref l ∧ vs = [y] ∧ H l = some (.lst xs) ∧ xs.length < sizeLine ∧ Q .non (upd H l (.lst (xs ++ [y])))
theorem mt_append : MtM X "list.append" rAppend := by
  intro pins s σ H x vs v us Q I rx rv h
  obtain ⟨l, xs, y, rfl, rfl, hH, hz, q⟩ := h
  cases rx
  obtain ⟨u, rfl, ru⟩ := rv.one
  obtain ⟨z, its, n, r, hl, e⟩ := I.lstM hH
  refine call_meets F.slot_list_append ⟨_, e, rfl⟩ F.entry_list_append (F.args_list_append_2 _ _) (PySem.list_append l its.toArray n u (by rw [List.size_toArray]; omega)) ⟨e, ?_⟩
  refine ⟨.non, _, I.lset (its' := its ++ [u]) hH e (by simp) (r.append (.cons ru .nil)) ?_, rfl, q⟩
  rw [List.length_append, List.length_singleton]
  omega

noncomputable def rPop : V → List V → Hp → VK → Prop := fun x vs H Q => ∃ l xs y, x = .ref l ∧ vs = [] ∧ H l = some (.lst xs) ∧ xs[xs.length - 1]? = some y ∧ Q y (upd H l (.lst xs.dropLast))
theorem mt_pop : MtM X "list.pop" rPop := by
  intro pins s σ H x vs v us Q I rx rv h
  obtain ⟨l, xs, y, rfl, rfl, hH, hy, q⟩ := h
  cases rx
  have hus := rv.zero
  subst hus
  obtain ⟨z, its, n, r, hl, e⟩ := I.lstM hH
  obtain ⟨u, hu, ru⟩ := r.get hy
  have hy' : its.toArray[its.toArray.size - 1]? = some u := by
    show its.toArray[its.length - 1]? = some u
    rw [← Array.getElem?_toList, ← hl]
    exact hu
  refine call_meets F.slot_list_pop ⟨_, e, rfl⟩ F.entry_list_pop (F.args_list_pop_1 _) (MeetsSeq.list_pop_last l its.toArray n u hy' (by rw [List.size_toArray]; omega)) ⟨e, ?_⟩
  refine ⟨y, _, I.lset (its' := its.dropLast) hH e ?_ r.dropLast ?_, ru, q⟩
  · show its.toArray.eraseIdxIfInBounds (its.toArray.size - 1) = its.dropLast.toArray
    rw [List.size_toArray, List.eraseIdxIfInBounds_toArray, erase_last]
  · rw [List.length_dropLast]
    omega

noncomputable def rClear : V → List V → Hp → VK → Prop := fun x vs H Q => ∃ l xs, x = .ref l ∧ vs = [] ∧ H l = some (.lst xs) ∧ Q .non (upd H l (.lst []))
theorem mt_clear : MtM X "list.clear" rClear := by
  intro pins s σ H x vs v us Q I rx rv h
  obtain ⟨l, xs, rfl, rfl, hH, q⟩ := h
  cases rx
  have hus := rv.zero
  subst hus
  obtain ⟨z, its, n, r, hl, e⟩ := I.lstM hH
  refine call_meets F.slot_list_clear ⟨_, e, rfl⟩ F.entry_list_clear (F.args_list_clear_1 _) (AutoSeq1.list_clear_list_0 l its.toArray n (by rw [List.size_toArray]; omega)) ⟨e, ?_⟩
  exact ⟨.non, _, I.lset (its' := []) (ys := []) hH e rfl .nil (Nat.zero_le _), rfl, q⟩

noncomputable def rCat : R2 := fun x y H Q => ∃ l b xs zs, x = .ref l ∧ y = .ref b ∧ H l = some (.lst xs) ∧ H b = some (.lst zs) ∧ xs.length + zs.length ≤ sizeLine ∧ ∀ p, H p = none → Q (.ref p) (upd H p (.lst (xs ++ zs)))
theorem op_cat : OpR X (binaryOp .Add) rCat := by
  intro pins s σ H x y v u Q I rx ry h
  obtain ⟨l, b, xs, zs, rfl, rfl, hH, hB, hz, q⟩ := h
  cases rx
  cases ry
  obtain ⟨z, its, n, r, hl, e⟩ := I.lstM hH
  obtain ⟨z2, its2, n2, r2, hl2, e2⟩ := I.lstM hB
  refine PySem.P.add_list e e2 ?_ (by rw [List.size_toArray, List.size_toArray]; omega)
  have ea : its.toArray ++ its2.toArray = (its ++ its2).toArray := by simp
  rw [ea]
  exact ⟨.ref _, _, I.lnew (t' := s.toks) (r.append r2) (by rw [List.length_append]; omega), rfl, q _ I.fresh⟩
end

section
variable {prog : Program} {w : World} {A : Around} {E : Value → Shared → Prop} {s : Shared}
end

section
variable {X : Cx}
end
end L2

namespace Att
open PySem PySem.W PySem.Calls PyProof.Rows

theorem ints_of_wellAll {P : Params} {h : Heap} : ∀ (ns : List Int) (vs : List Value), WellAll P h vs (ns.map WData.int) → IntsAre vs ns := by
  intro ns
  induction ns with
  | nil =>
    intro vs w
    rw [List.map_nil] at w
    cases w
    exact .nil
  | cons n ns ih =>
    intro vs w
    rw [List.map_cons] at w
    cases w with
    | cons a b =>
      cases a
      exact .cons _ _ (ih _ b)

theorem script_of {l : OpenLaw} {n : Nat} (hn : l.most = some n) {P : Params} {h : Heap} {args : List WData} {vals : List Value}
    (hpre : l.row.toRowW.claim.pre args = true) (hwl : WellAll P h vals args) :
    ∃ a vs ns, vals = [Value.ref a] ∧ args = [WData.list (ns.map WData.int)] ∧ h.get? a = some { cls := .type "list", data := .seq vs.toArray } ∧ IntsAre vs ns ∧ ns.length ≤ n := by
  have hsh : WShape.hasAll [] args [.list .int] = true := (pre_splitW hpre).1
  have hc : l.pre.holds [] { args := args } = true := (pre_splitW hpre).2
  obtain ⟨d, r, rfl, h1, h2⟩ := hasAllW_cons hsh
  obtain rfl := hasAllW_nil h2
  obtain ⟨xs, rfl, h3⟩ := hasW_list h1
  obtain ⟨ns, rfl⟩ := items_int h3
  have hlen : ns.length ≤ n := by
    unfold OpenLaw.pre at hc
    have h4 : (WTm.not (.lt (.lit (.int (n : Int))) (.len (.arg 0)))).holds [] { args := [.list (ns.map .int)] } = true := by
      have h4 := (holds_andW hc).1
      rw [hn] at h4
      exact h4
    have h5 := condW_of h4 (w_not (w_lt w_lit (w_len_list (w_arg rfl))))
    rw [List.length_map] at h5
    refine Nat.le_of_not_lt fun q => ?_
    have q' : (n : Int) < ((ns.length : Nat) : Int) := by omega
    first
      | (rw [decide_eq_true q'] at h5; exact absurd h5 (by decide))
      | (simp at h5; omega)
  cases hwl with
  | cons w1 w2 =>
    cases w2
    cases w1 with
    | list ho hall => exact ⟨_, _, ns, rfl, rfl, ho, ints_of_wellAll ns _ hall, hlen⟩

theorem post_true (l : OpenLaw) (args : List WData) : l.row.toRowW.claim.post args (.bool true) args = true :=
  postW_of (r := l.row.toRowW) (X := (true == true))
    (show WShape.has [] (.bool true) .bool = true by first | rfl | decide | simp [WShape.has, WShape.arms, WShape.armsAll])
    (show (WTm.eq .res (.lit (.bool true))).value [] { args := args, res := some (.bool true), after := args } = some (.bool (true == true)) from w_eq_bool (w_res rfl) w_lit) rfl

theorem attach_call {l : OpenLaw} {n : Nat} {q : Program} {loose : List Str} {XP : (Str → Option Value) → Heap → Prop} {YP : World → Heap → Prop} {d : DefRec}
    (hn : l.most = some n) (hdf : d.params.defaults = [])
    (call : ∀ (w : World) (s₀ s₁ : Shared) (mg mb : Str → Option Value) (fa : Addr) (o : Obj) (pm cd doc : Value) (a : Addr) (vs : List Value) (ns : List Int),
      Ground q loose [] XP w s₀ mg mb s₁.heap → YP w s₁.heap →
      s₁.heap.get? fa = some o → o.data = .func (docDef d.name d.params d.body d.scope pm cd doc) → s₁.heap.CodeRec cd d.name → mg d.name = some (.ref fa) →
      s₁.heap.get? a = some { cls := .type "list", data := .seq vs.toArray } → IntsAre vs ns → ns.length ≤ n → s₁.gens = #[] →
      codeAny (model l.prog w) callerA (.call (.ref fa) ⟨[.ref a], []⟩) (fun r s' => r = .ok (.ret (.bool true)) ∧ OldK s₁.heap s'.heap ∧ s'.os = s₁.os ∧ AllBare s'.gens) s₁) :
    WalkO q loose XP YP l.row.toRowW d [] (fun f vs => PySem.call f vs) := by
  intro w s₀ s₁ mg mb G Y fa o pm cd doc dV kV ho hd hcd hD hmg hg args vals as hpre hlay hrd hwl hlo
  obtain rfl : dV = .none := Dflts.none hD hdf
  obtain rfl : kV = .none := Dflts.noKw hD
  obtain ⟨a, vs, ns, rfl, rfl, hobj, hints, hlen⟩ := script_of hn hpre hwl
  refine enter_call (codeAny_mono (call w s₀ s₁ mg mb fa o pm cd doc a vs ns G Y ho (fd_plain hd) hcd hmg hobj hints hlen hg) fun r s' hq => ?_)
  obtain ⟨rfl, h2, h3, h4⟩ := hq
  exact ⟨.inl ⟨.bool true, .bool true, [], rfl, fun _ => rfl, .bool true, post_true l _, fun _ => ⟨List.Pairwise.nil, fun _ hm => (nomatch hm)⟩⟩, h2, h3, h4⟩

section
variable {prog : Program} {w : World} {A : Around} {E : Value → Shared → Prop} {s : Shared} {K : Frag}

end
end Att

namespace L2
open PySem PySem.Spec PyProof.Rows

theorem vals_ints : ∀ {vs : List Value} {ns : List Int}, IntsAre vs ns → Vals (ns.map V.int) vs
  | _, _, .nil => .nil
  | _, _, .cons n t h => .cons ⟨t, rfl⟩ (vals_ints h)

noncomputable def Only (H : Hp) : Prop := ∀ b, H b = none ∨ ∃ o xs, H b = some (.frz o (.lst xs))

theorem law_call {P : Program} {w : World} {K : PySem.W.Frag} {mg mb : Str → Option Value} {CX : CXT} {k : Nat} {fa a : Addr} {fd : FuncData} {x : Str} {sp : Sp} {s₁ : Shared} {vs : List Value} {ns : List Int}
    (KX : K.In s₁.heap) (hns : s₁.heap.Ns mainGlobals mg) (hb : s₁.heap.Ns builtinsNs mb) (hbb : ∀ x : Str, x ≠ "__name__" → mb x = bootBuiltins x) (hlim : s₁.heap.NoLimit) (hg : s₁.gens = #[])
    (ha : s₁.heap.get? a = some { cls := .type "list", data := .seq vs.toArray }) (hi : IntsAre vs ns) (hl : ns.length ≤ sizeLine) (hr : Room k callerA)
    (F : ∀ base : Heap, K.In base → base.Ns mainGlobals mg → FnOk P w K mg base CX k fa fd [x] sp) (hbind : ∀ (s : Shared) (u : Value), BindsTo s fd ⟨[u], []⟩ [(x, u)])
    (hsp : ∀ H : Hp, Only H → SqL K H a (ns.map V.int) → sp [.ref a] H (fun v _ => v = .bl true) fun _ _ _ => False)
    (hCX : ∀ H e s', CX [] H s₁ (fun _ _ _ => False) e s' → False) :
    codeAny (model P w) callerA (.call (.ref fa) ⟨[.ref a], []⟩) (fun r s' => r = .ok (.ret (.bool true)) ∧ OldK s₁.heap s'.heap ∧ s'.os = s₁.os ∧ AllBare s'.gens) s₁ := by
  have rv := vals_ints hi
  have lenV := hi.length
  -- from an abstract heap in which nothing but the script may be tracked
  have core : ∀ H : Hp, Only H → SqL K H a (ns.map V.int) → HOk P w H s₁.heap → (∀ b, H b ≠ none → b = a) → (H a ≠ none → K.lookup a = none) →
      codeAny (model P w) callerA (.call (.ref fa) ⟨[.ref a], []⟩) (fun r s' => r = .ok (.ret (.bool true)) ∧ OldK s₁.heap s'.heap ∧ s'.os = s₁.os ∧ AllBare s'.gens) s₁ := by
    intro H hO hS hok hA hK
    have base_of : ∀ {b : Addr} {o : Obj}, s₁.heap.get? b = some o → H b = none → (hidT s₁.heap H).get? b = some o := fun e n => hidT_get e n
    have noA : ∀ {b : Addr} {o : Obj} {es : Array DictEntry} {ep : Nat}, s₁.heap.get? b = some o → o.data = .dict es ep → H b = none := fun {b o es ep} e d => by
      cases q : H b with
      | none => rfl
      | some u =>
        have e' : b = a := hA b (by rw [q]; simp)
        subst e'
        rw [ha] at e; cases e
        have d' : Data.seq vs.toArray _ = Data.dict es ep := d
        cases d'
    have nsK : ∀ {b : Addr} {m : Str → Option Value}, s₁.heap.Ns b m → (hidT s₁.heap H).Ns b m := fun {b m} ⟨o, es, ep, e, d, r⟩ => ⟨o, es, ep, base_of e (noA e d), d, r⟩
    have hKb : K.In (hidT s₁.heap H) := fun b o e => base_of (KX b o e) (by
      cases q : H b with
      | none => rfl
      | some u =>
        have e' : b = a := hA b (by rw [q]; simp)
        subst e'
        rw [hK (by rw [q]; simp)] at e; cases e)
    have hM : Mod K mg (hidT s₁.heap H) := ⟨hKb, nsK hns, ⟨mb, nsK hb, hbb⟩, let ⟨mc, h1, h2⟩ := hlim; ⟨mc, nsK h1, h2⟩⟩
    have e0 : Env0 P w K mg (hidT s₁.heap H) callerA [] s₁ H := ⟨rfl, hM, fun b o e => of_hidT e, Nat.le_of_eq (hidT_size _ _), trivial, fun b hb => absurd (show b ∈ ([] : List Addr) from hb) (by simp), hok, .of_eq hg⟩
    refine codeAny_mono ((F _ hKb (nsK hns)).run callerA [] s₁ H ⟨[.ref a], []⟩ [.ref a] [.ref a] _ _ hr e0 (hbind s₁ (.ref a)) (.cons rfl .nil) (hsp H hO hS)) fun r s' h => ?_
    cases r with
    | error e => exact (hCX H e s' h).elim
    | ok fl =>
      cases fl with
      | next => exact False.elim h
      | brk => exact False.elim h
      | cont => exact False.elim h
      | ret u =>
        obtain ⟨v, H', os, bare, un, hok', r', q⟩ := h
        have q' : v = .bl true := q
        subst q'
        obtain rfl : u = Value.bool true := r'
        refine ⟨rfl, OldK.of_keep fun b o e => ?_, os, bare⟩
        cases q : H b with
        | none => exact un.keep b o e q (by intro z; exact absurd (show b ∈ ([] : List Addr) from z) (by simp)) (by simp)
        | some u =>
          rcases hO b with z | ⟨ob, xs, z⟩
          · rw [q] at z; cases z
          · have z2 := un.frzs b ob _ z
            obtain ⟨e1, _⟩ := hok b _ z
            obtain ⟨e2, _⟩ := hok' b _ z2
            rw [e] at e1; cases e1
            exact e2
  cases hk : K.lookup a with
  | some o =>
    -- the script is one of the module's own objects
    have e := KX a o hk
    rw [ha] at e
    cases e
    refine core (fun _ => none) (fun _ => .inl rfl) (.inr ⟨_, vs.toArray, _, hk, rfl, rfl, rfl, by rw [List.size_toArray, lenV]; exact hl, by simpa using rv⟩) (fun b u z => by have z' : (none : Option HO) = some u := z; cases z') (fun b z => absurd rfl z) fun z => absurd rfl z
  | none =>
    refine core (fun b => if b = a then some (.frz { cls := .type "list", data := .seq vs.toArray } (.lst (ns.map V.int))) else none) (fun b => ?_) (.inl (.inr ⟨{ cls := .type "list", data := .seq vs.toArray }, if_pos rfl⟩)) (fun b u z => ?_) (fun b z => ?_) fun _ => hk
    · by_cases hb : b = a
      · exact .inr ⟨_, _, if_pos hb⟩
      · exact .inl (if_neg hb)
    · by_cases hb : b = a
      · have z' := (if_pos hb).symm.trans z
        cases z'
        subst hb
        exact ⟨ha, by rw [List.length_map]; exact hl, vs, _, rv, ha⟩
      · have z' := (if_neg hb).symm.trans z
        cases z'
    · by_cases hb : b = a
      · exact hb
      · exact absurd (if_neg hb) z
end L2

namespace L2
open PySem PySem.Spec PyProof.Rows

theorem walk_of {l : PySem.W.OpenLaw} {n k : Nat} {q : Program} {loose : List Str} {XP : (Str → Option Value) → Heap → Prop} {YP : World → Heap → Prop} {d : DefRec} {K : Params → PySem.W.Frag} {CX : World → CXT} {sp : World → Sp} {x : Str}
    (hn : l.most = some n) (hn2 : n ≤ sizeLine) (hdf : d.params.defaults = []) (hr : Room k callerA)
    (hY : ∀ (w : World) (h : Heap), YP w h → (K w.params).In h)
    (F : ∀ (w : World) (mg : Str → Option Value) (fa : Addr) (h : Heap), (K w.params).In h → h.Ns mainGlobals mg → mg d.name = some (.ref fa) →
      ∃ fd : FuncData, (∀ (s : Shared) (u : Value), BindsTo s fd ⟨[u], []⟩ [(x, u)]) ∧
        ∀ base : Heap, (K w.params).In base → base.Ns mainGlobals mg → FnOk l.prog w (K w.params) mg base (CX w) k fa fd [x] (sp w))
    (hsp : ∀ (w : World) (H : Hp) (a : Addr) (ns : List Int), ns.length ≤ n → Only H → SqL (K w.params) H a (ns.map V.int) → sp w [.ref a] H (fun v _ => v = .bl true) fun _ _ _ => False)
    (hCX : ∀ (w : World) (H : Hp) (s : Shared) (e : Value) (s' : Shared), CX w [] H s (fun _ _ _ => False) e s' → False) :
    PySem.W.WalkO q loose XP YP l.row.toRowW d [] (fun f vs => PySem.call f vs) := by
  refine Att.attach_call hn hdf fun w s₀ s₁ mg mb fa o pm cd doc a vs ns G Y ho hd hcd hmg hobj hints hlen hg => ?_
  have KX := hY w _ Y
  obtain ⟨fd, hb, hF⟩ := F w mg fa _ KX G.T.g hmg
  exact law_call KX G.T.g G.T.b G.T.builtins G.T.nolimit hg hobj hints (Nat.le_trans hlen hn2) hr hF hb (fun H hO hS => hsp w H a ns hlen hO hS) fun H e s' => hCX w H s₁ e s'
theorem walk_ofK {l : PySem.W.OpenLaw} {n k : Nat} {q : Program} {loose : List Str} {XP : (Str → Option Value) → Heap → Prop} {YP : World → Heap → Prop} {d : DefRec} {K : Params → PySem.W.Frag} {CX : CXT} {sp : PySem.W.Frag → Sp} {x : Str}
    (hn : l.most = some n) (hn2 : n ≤ sizeLine) (hdf : d.params.defaults = []) (hr : Room k callerA)
    (hY : ∀ (w : World) (h : Heap), YP w h → (K w.params).In h)
    (F : ∀ (w : World) (mg : Str → Option Value) (fa : Addr) (h : Heap), (K w.params).In h → h.Ns mainGlobals mg → mg d.name = some (.ref fa) →
      ∃ fd : FuncData, (∀ (s : Shared) (u : Value), BindsTo s fd ⟨[u], []⟩ [(x, u)]) ∧
        ∀ base : Heap, (K w.params).In base → base.Ns mainGlobals mg → FnOk l.prog w (K w.params) mg base CX k fa fd [x] (sp (K w.params)))
    (hsp : ∀ (K : PySem.W.Frag) (H : Hp) (a : Addr) (ns : List Int), ns.length ≤ n → Only H → SqL K H a (ns.map V.int) → sp K [.ref a] H (fun v _ => v = .bl true) fun _ _ _ => False)
    (hCX : ∀ (H : Hp) (s : Shared) (e : Value) (s' : Shared), CX [] H s (fun _ _ _ => False) e s' → False) :
    PySem.W.WalkO q loose XP YP l.row.toRowW d [] (fun f vs => PySem.call f vs) :=
  walk_of (K := K) (CX := fun _ => CX) (sp := fun w => sp (K w.params)) hn hn2 hdf hr hY F (fun w H a ns h1 h2 h3 => hsp (K w.params) H a ns h1 h2 h3) fun _ H s e s' => hCX H s e s'
end L2

/- THE LAST THEOREM (shape; LID, My.* are yours):
   My.Adr: a structure of the addresses that your layer names (classes, functions); My.Txt K t: a structure (Prop) of the equations over K;
   My.txt_mk : {K} {implicit addresses ..} (e1 : nsIn K mainGlobals "law" = some (some (.ref f))) (e2 : K.lookup f = some ⟨oc, od, .func (fnOf "law" "law" params body scope dV kV doc pm an cdv ct), sl⟩) (e3 : codeIn K cdv "law" = true) .. : ∃ t, My.Txt K t

set_option maxRecDepth 100000 in
set_option maxHeartbeats 0 in
theorem PySem.Challenge.cw_LID_holds : PySem.Challenge.rw_LID.Holds := by
  w_on; o_law; k_head; (case hw => w_witness2)
  k_fill
  refine L2.walk_of (l := PySem.Challenge.rw_LID) (n := 63) (k := 40) (x := "script") (CX := fun w => ..) (sp := fun _ => My.sp_law) rfl (by decide) rfl ⟨rfl, by decide, by decide⟩ (fun w h Y => PySem.W.kIn_of Y) ?F ?S ?C
  case F =>
    intro w mg fa h KX G hmg
    have T : ∃ t, My.Txt (L2.KOf KX) t := by
      dsimp only [L2.KOf]                          -- K must stand as «<heap const> w.params» for k_is
      refine' My.txt_mk ?e1 ?e2 ?e3 ..
      (case e1 => PySem.W.k_is)                    -- in the order: a name -> its address -> its object -> its parts
      (case e2 => PySem.W.k_is)
      ..
    obtain ⟨t, T⟩ := T
    have e0 := hmg.symm.trans (PySem.W.mg_of KX G T.law)
    cases e0                                       -- fa is the law's own address
    exact ⟨_, fun s u => .of_eq rfl, fun base kb nb => My.law_fn T kb nb⟩     -- if «.of_eq rfl» comes too early: refine' ⟨_, ?b, fun base kb nb => My.law_fn T kb nb⟩; exact fun s u => .of_eq rfl
  case S => exact fun w H a ns hl hO hS => ..
  case C => exact ..
(the tactic k_is has no namespace: write k_is) -/

namespace L2
open PySem PySem.Spec PyProof.Rows

noncomputable def inClass (s : Stmt) (j : Nat) : Stmt := match s with
  | .ClassDef _ _ _ body _ _ _ _ _ _ _ => body.getD j (.Pass ⟨0, 0, 0, 0⟩)
  | _ => .Pass ⟨0, 0, 0, 0⟩
noncomputable def defArgs (s : Stmt) : Arguments := match s with
  | .FunctionDef _ a _ _ _ _ _ _ _ _ => a
  | _ => { posonlyargs := [], args := [], vararg := none, kwonlyargs := [], kw_defaults := [], kwarg := none, defaults := [] }
noncomputable def defBody (s : Stmt) : List Stmt := match s with
  | .FunctionDef _ _ b _ _ _ _ _ _ _ => b
  | _ => []
noncomputable def defScope (s : Stmt) : Scope := match s with
  | .FunctionDef _ _ _ _ _ _ sc _ _ _ => sc
  | _ => { kind := .function, names := [], isGenerator := false, isCoroutine := false }

noncomputable abbrev CX0 : CXT := fun _ _ _ _ _ _ => False
noncomputable abbrev E0 : XK := fun _ _ _ => False
theorem pass0 {X : Cx} : Passes CX0 X E0 := fun _ _ _ _ _ _ _ h => h.elim

structure Fun (K : PySem.W.Frag) (x qual : Str) (st : Stmt) (f : Addr) (fd : FuncData) : Prop where
  ex : ∃ (oc : Value) (od : Option Addr) (kV doc pm : Value) (an : Option Addr) (cdv ct : Value) (osl : Array (Option Value)),
    fd = PySem.W.fnOf x qual (defArgs st) (defBody st) (defScope st) .none kV doc pm an cdv ct ∧ K.lookup f = some ⟨oc, od, .func fd, osl⟩ ∧ PySem.W.codeIn K cdv qual = true
  kp : PySem.W.keepIn K (.ref f) = true
section
variable {P : Program} {w : World} {K : PySem.W.Frag} {mg : Str → Option Value} {base : Heap}
theorem Fun.binds {x qual : Str} {st : Stmt} {f : Addr} {fd : FuncData} {ps : List Str} (F : Fun K x qual st f fd)
    (h : ∀ (kV doc pm : Value) (an : Option Addr) (cdv ct : Value) (us : List Value), us.length = ps.length → bindArgs (PySem.W.fnOf x qual (defArgs st) (defBody st) (defScope st) .none kV doc pm an cdv ct) ⟨us, []⟩ = pure (ps.zip us)) : Binds K fd ps [] := by
  obtain ⟨oc, od, kV, doc, pm, an, cdv, ct, osl, rfl, lk, hcd⟩ := F.ex
  exact .all (h kV doc pm an cdv ct)
theorem fun_mk {x qual : Str} {st : Stmt} {f : Addr} {oc : Value} {od an : Option Addr} {osl : Array (Option Value)} {kV doc pm cdv ct : Value} (l : K.lookup f = some ⟨oc, od, .func (PySem.W.fnOf x qual (defArgs st) (defBody st) (defScope st) .none kV doc pm an cdv ct), osl⟩)
    (c : PySem.W.codeIn K cdv qual = true) (k : PySem.W.keepIn K (.ref f) = true) : Fun K x qual st f (PySem.W.fnOf x qual (defArgs st) (defBody st) (defScope st) .none kV doc pm an cdv ct) := ⟨⟨oc, od, kV, doc, pm, an, cdv, ct, osl, rfl, l, c⟩, k⟩
end
section
variable {X : Cx}
theorem pv (i : Nat) {x : Str} {pos : Pos} (hN : X.N[i]? = some x := by rfl) (hv : Vis X.env.scope x := by first | exact Or.inl rfl | exact Or.inr (Or.inl rfl) | exact Or.inr (Or.inr rfl)) (hd : (x == ("__debug__" : Str)) = false := by decide)
    (hcd : (x == ("__classdict__" : Str)) = false := by decide) : PE X (.Name x pos) (tVar i) := pe_var hN hv hd hcd
end

noncomputable def Same (H H' : Hp) : Prop := ∀ b o, H b = some o → H' b = some o
theorem Same.refl (H : Hp) : Same H H := fun _ _ h => h
theorem Same.trans {H H1 H2 : Hp} (a : Same H H1) (b : Same H1 H2) : Same H H2 := fun c o h => b c o (a c o h)
end L2


set_option maxRecDepth 100000
namespace L2
open PySem PySem.Spec PyProof.Rows

section
variable {κ : Type} [DecidableEq κ]
noncomputable def valV (kvs : List (κ × V)) (k : κ) : Option V := (kvs.find? fun kv => decide (kv.1 = k)).map (·.2)
noncomputable def putK (kvs : List (κ × V)) (k : κ) (v : V) : List (κ × V) :=
  if (kvs.any fun kv => decide (kv.1 = k)) = true then kvs.map (fun kv => if kv.1 = k then (kv.1, v) else kv) else kvs ++ [(k, v)]
noncomputable def dropK (kvs : List (κ × V)) (k : κ) : List (κ × V) := kvs.filter fun kv => decide (kv.1 ≠ k)

theorem valV_nil {k : κ} : valV ([] : List (κ × V)) k = none := rfl
theorem valV_pos {p : κ × V} {r : List (κ × V)} {k : κ} (e : p.1 = k) : valV (p :: r) k = some p.2 := by simp [valV, List.find?_cons, e]
theorem valV_neg {p : κ × V} {r : List (κ × V)} {k : κ} (e : ¬ p.1 = k) : valV (p :: r) k = valV r k := by simp [valV, List.find?_cons, e]
theorem valV_any (k : κ) : ∀ kvs : List (κ × V), (kvs.any fun kv => decide (kv.1 = k)) = (valV kvs k).isSome
  | [] => rfl
  | p :: r => by
    rw [List.any_cons]
    by_cases e : p.1 = k
    · simp only [valV_pos e, decide_eq_true e, Bool.true_or, Option.isSome_some]
    · rw [valV_neg e, decide_eq_false e, Bool.false_or]; exact valV_any k r
theorem valV_map (k j : κ) (y : V) : ∀ kvs : List (κ × V), valV (kvs.map fun kv => if kv.1 = k then (kv.1, y) else kv) j = (valV kvs j).map fun x => if j = k then y else x
  | [] => rfl
  | p :: r => by
    have ih := valV_map k j y r
    rw [List.map_cons]
    by_cases h : p.1 = k
    · rw [if_pos h]
      by_cases e : p.1 = j
      · rw [valV_pos (p := (p.1, y)) e, valV_pos e, Option.map_some, if_pos (e.symm.trans h)]
      · rw [valV_neg (p := (p.1, y)) e, valV_neg e, ih]
    · rw [if_neg h]
      by_cases e : p.1 = j
      · rw [valV_pos (p := p) e, valV_pos e, Option.map_some, if_neg (fun z => h (e.trans z))]
      · rw [valV_neg (p := p) e, valV_neg e, ih]
theorem valV_snoc (k j : κ) (y : V) : ∀ kvs : List (κ × V), valV kvs k = none → valV (kvs ++ [(k, y)]) j = if j = k then some y else valV kvs j
  | [], _ => by
    by_cases e : k = j
    · rw [if_pos e.symm]; exact valV_pos (p := (k, y)) e
    · rw [if_neg (fun z => e z.symm)]; exact valV_neg (p := (k, y)) e
  | p :: r, hn => by
    rw [List.cons_append]
    have hk : ¬ p.1 = k := fun z => by rw [valV_pos z] at hn; cases hn
    rw [valV_neg hk] at hn
    have ih := valV_snoc k j y r hn
    by_cases e : p.1 = j
    · rw [valV_pos e, valV_pos e, if_neg (fun z => hk (e.trans z))]
    · rw [valV_neg e, valV_neg e, ih]
theorem valV_put (kvs : List (κ × V)) (k j : κ) (y : V) : valV (putK kvs k y) j = if j = k then some y else valV kvs j := by
  unfold putK
  by_cases a : (kvs.any fun kv => decide (kv.1 = k)) = true
  · rw [if_pos a, valV_map]
    rw [valV_any] at a
    by_cases e : j = k
    · obtain ⟨x, hx⟩ := Option.isSome_iff_exists.mp a
      rw [if_pos e, e, hx, Option.map_some, if_pos rfl]
    · rw [if_neg e]
      cases valV kvs j with
      | none => rfl
      | some x => rw [Option.map_some, if_neg e]
  · rw [if_neg a]
    refine valV_snoc k j y kvs ?_
    rw [valV_any] at a
    cases q : valV kvs k with
    | none => rfl
    | some x => rw [q] at a; exact (a rfl).elim
theorem length_putK (kvs : List (κ × V)) (k : κ) (v : V) : (putK kvs k v).length ≤ kvs.length + 1 := by
  unfold putK
  split
  · rw [List.length_map]; omega
  · rw [List.length_append, List.length_cons, List.length_nil]; omega
theorem RelO.isSome_eq {o : Option V} {u : Option Value} (r : RelO o u) : o.isSome = u.isSome := by
  cases o with
  | none => cases u with
    | none => rfl
    | some _ => exact (show False from r).elim
  | some _ => cases u with
    | none => exact (show False from r).elim
    | some _ => rfl
theorem KV.val {kvs : List (κ × V)} {vs : List (κ × Value)} (r : KV kvs vs) (k : κ) : RelO (valV kvs k) (valueAt vs k) := by
  unfold KV at r
  induction r with
  | nil => exact True.intro
  | @cons p q ps qs h t ih =>
    obtain ⟨h1, h2⟩ := h
    by_cases e : p.1 = k
    · have e' : q.1 = k := h1.symm.trans e
      have b : valueAt (q :: qs) k = some q.2 := by simp [valueAt, List.find?_cons, e']
      rw [valV_pos e, b]; exact h2
    · have e' : ¬ q.1 = k := fun z => e (h1.trans z)
      have b : valueAt (q :: qs) k = valueAt qs k := by simp [valueAt, List.find?_cons, e']
      rw [valV_neg e, b]; exact ih
theorem KV.any {kvs : List (κ × V)} {vs : List (κ × Value)} (r : KV kvs vs) (k : κ) : (kvs.any fun kv => decide (kv.1 = k)) = vs.any fun kv => decide (kv.1 = k) := by
  unfold KV at r
  induction r with
  | nil => rfl
  | cons h t ih => rw [List.any_cons, List.any_cons, ih, h.1]
theorem KV.repl {kvs : List (κ × V)} {vs : List (κ × Value)} (r : KV kvs vs) (k : κ) {y : V} {u : Value} (ry : RelV y u) :
    KV (kvs.map fun kv => if kv.1 = k then (kv.1, y) else kv) (vs.map fun kv => if kv.1 = k then (kv.1, u) else kv) := by
  unfold KV at r ⊢
  induction r with
  | nil => exact .nil
  | @cons p q ps qs h t ih =>
    rw [List.map_cons, List.map_cons]
    refine .cons ?_ ih
    obtain ⟨h1, h2⟩ := h
    by_cases e : p.1 = k
    · rw [if_pos e, if_pos (h1.symm.trans e)]; exact ⟨h1, ry⟩
    · rw [if_neg e, if_neg (fun z => e (h1.trans z))]; exact ⟨h1, h2⟩
theorem KV.put {kvs : List (κ × V)} {vs : List (κ × Value)} (r : KV kvs vs) (k : κ) {y : V} {u : Value} (ry : RelV y u) : KV (putK kvs k y) (stored vs k u) := by
  unfold putK stored
  rw [r.any k]
  by_cases e : (vs.any fun kv => decide (kv.1 = k)) = true
  · rw [if_pos e, if_pos e]; exact r.repl k ry
  · rw [if_neg e, if_neg e]; exact Paired.snoc r ⟨rfl, ry⟩
theorem KV.length {kvs : List (κ × V)} {vs : List (κ × Value)} (r : KV kvs vs) : kvs.length = vs.length := Paired.length r
end


theorem kV_is {P : Program} {w : World} {k : Key} {u : Value} (r : RelV (kV k) u) : (mixKind P w).is k u = true := by
  cases k with
  | inl i => obtain ⟨t, e⟩ := (show ∃ t, u = Value.int i t from r); subst e; exact mixKind_int P w i t
  | inr x => obtain ⟨t, e⟩ := (show ∃ t, u = Value.str x t from r); subst e; exact mixKind_str P w x t
theorem items_are {P : Program} {w : World} : ∀ {ks : List Key} {us : List Value}, Vals (ks.map kV) us → ItemsAre (mixKind P w) ks us
  | [], _, r => by rw [List.map_nil] at r; cases r; exact .nil
  | k :: ks, _, r => by
    rw [List.map_cons] at r
    cases r with
    | cons h t => exact .cons (kV_is h) (items_are t)

noncomputable abbrev KT (H : Hp) : List (List Key × V) → List (List Key × Addr × Value) → Prop := Paired fun p q => p.1 = q.1 ∧ H q.2.1 = some (.tup (p.1.map kV)) ∧ RelV p.2 q.2.2
theorem KT.val {H : Hp} {kvs : List (List Key × V)} {xs : List (List Key × Addr × Value)} (r : KT H kvs xs) (k : List Key) : RelO (valV kvs k) ((atKey xs k).map (·.2)) := by
  induction r with
  | nil => exact True.intro
  | @cons p q ps qs h t ih =>
    obtain ⟨h1, _, h2⟩ := h
    by_cases e : p.1 = k
    · have e' : q.1 = k := h1.symm.trans e
      have b : atKey (q :: qs) k = some q.2 := by simp [atKey, List.find?_cons, e']
      rw [valV_pos e, b]; exact h2
    · have e' : ¬ q.1 = k := fun z => e (h1.trans z)
      have b : atKey (q :: qs) k = atKey qs k := by simp [atKey, List.find?_cons, e']
      rw [valV_neg e, b]; exact ih
theorem KT.repl {H : Hp} {kvs : List (List Key × V)} {xs : List (List Key × Addr × Value)} (r : KT H kvs xs) (k : List Key) {y : V} {u : Value} (ry : RelV y u) :
    KT H (kvs.map fun kv => if kv.1 = k then (kv.1, y) else kv) (xs.map (putAt k u)) := by
  induction r with
  | nil => exact .nil
  | @cons p q ps qs h t ih =>
    rw [List.map_cons, List.map_cons]
    refine .cons ?_ ih
    obtain ⟨h1, h2, h3⟩ := h
    unfold putAt
    by_cases e : p.1 = k
    · rw [if_pos e, if_pos (h1.symm.trans e)]; exact ⟨h1, h2, ry⟩
    · rw [if_neg e, if_neg (fun z => e (h1.trans z))]; exact ⟨h1, h2, h3⟩
theorem KT.put {H : Hp} {kvs : List (List Key × V)} {xs : List (List Key × Addr × Value)} (r : KT H kvs xs) (k : List Key) {b : Addr} {y : V} {u : Value} (hb : H b = some (.tup (k.map kV))) (ry : RelV y u) :
    KT H (putK kvs k y) (storedH xs k b u) := by
  have e : (kvs.any fun kv => decide (kv.1 = k)) = (atKey xs k).isSome := by
    rw [valV_any, (r.val k).isSome_eq, Option.isSome_map]
  unfold putK storedH
  rw [e]
  by_cases q : (atKey xs k).isSome = true
  · rw [if_pos q, if_pos q]; exact r.repl k ry
  · rw [if_neg q, if_neg q]; exact Paired.snoc r ⟨rfl, hb, ry⟩
theorem KT.keeps {H H' : Hp} {kvs : List (List Key × V)} {xs : List (List Key × Addr × Value)} (r : KT H kvs xs) (ht : ∀ b ys, H b = some (.tup ys) → H' b = some (.tup ys)) : KT H' kvs xs :=
  Paired.mapP r fun _ _ z => ⟨z.1, ht _ _ z.2.1, z.2.2⟩

section
variable {P : Program} {w : World} {H : Hp} {h : Heap} {a : Addr}
theorem rd_of {u : HO} (ok : HOk P w H h) (e : Rd H a u) : ObjOk P w H h a u := e.ok ok
theorem dk_rd {kvs : List (Key × V)} (ok : HOk P w H h) (e : Rd H a (.dK kvs)) : kvs.length ≤ sizeLine ∧ (a == sysModules) = false ∧ ∃ vs, KV kvs vs ∧ h.DictOf (mixKind P w) a vs :=
  show ObjOk P w H h a (.dK kvs) from rd_of ok e
theorem dk_of {kvs : List (Key × V)} (ok : HOk P w H h) (e : H a = some (.dK kvs)) : kvs.length ≤ sizeLine ∧ (a == sysModules) = false ∧ ∃ vs, KV kvs vs ∧ h.DictOf (mixKind P w) a vs := dk_rd ok (.inl e)
theorem key_of {ks : List Key} (ok : HOk P w H h) (e : H a = some (.tup (ks.map kV))) : (tupleKind (mixKind P w)).is h ks a := by
  obtain ⟨_, its, r, o, h1, h2, n, h3⟩ := (show ObjOk P w H h a (.tup (ks.map kV)) from ok a _ e)
  exact ⟨o, its.toArray, n, h1, h2, h3, by simpa using items_are r⟩
theorem dt_rd {kvs : List (List Key × V)} (ok : HOk P w H h) (e : Rd H a (.dT kvs)) : kvs.length ≤ sizeLine ∧ (a == sysModules) = false ∧
    ∃ xs, KT H kvs xs ∧ h.DictOfH (tupleKind (mixKind P w)) a xs := by
  obtain ⟨z, y, xs, r, o, es, ep, h1, h2, h3, h4, h5⟩ := (show ObjOk P w H h a (.dT kvs) from rd_of ok e)
  refine ⟨z, y, xs, r, o, es, ep, h1, h2, h3, h4, fun x hx => ?_, h5⟩
  have all : ∀ {l : List (List Key × V)} {m : List (List Key × Addr × Value)}, KT H l m → ∀ x ∈ m, (tupleKind (mixKind P w)).is h x.1 x.2.1 := by
    intro l m q
    induction q with
    | nil => intro x hx; exact nomatch hx
    | @cons p q ps qs hq t ih =>
      intro x hx
      rcases List.mem_cons.mp hx with e | hx
      · subst e
        exact key_of ok (by rw [← hq.1]; exact hq.2.1)
      · exact ih x hx
  exact all r x hx
theorem dt_of {kvs : List (List Key × V)} (ok : HOk P w H h) (e : H a = some (.dT kvs)) : kvs.length ≤ sizeLine ∧ (a == sysModules) = false ∧
    ∃ xs, KT H kvs xs ∧ h.DictOfH (tupleKind (mixKind P w)) a xs := dt_rd ok (.inl e)
end

noncomputable def DGet (H : Hp) (a : Addr) (y : V) (r : Option V) : Prop :=
  (∃ kvs k, Rd H a (.dK kvs) ∧ y = kV k ∧ r = valV kvs k) ∨ ∃ kvs k b, Rd H a (.dT kvs) ∧ y = .ref b ∧ H b = some (.tup (k.map kV)) ∧ r = valV kvs k
noncomputable def DPut (H : Hp) (a : Addr) (y v : V) (H' : Hp) : Prop :=
  (∃ kvs k, H a = some (.dK kvs) ∧ y = kV k ∧ kvs.length < sizeLine ∧ H' = upd H a (.dK (putK kvs k v))) ∨
  ∃ kvs k b, H a = some (.dT kvs) ∧ y = .ref b ∧ H b = some (.tup (k.map kV)) ∧ kvs.length < sizeLine ∧ H' = upd H a (.dT (putK kvs k v))
theorem DGet.k {H : Hp} {a : Addr} {kvs : List (Key × V)} {k : Key} (e : H a = some (.dK kvs)) : DGet H a (kV k) (valV kvs k) := .inl ⟨kvs, k, .inl e, rfl, rfl⟩
theorem DPut.k {H : Hp} {a : Addr} {kvs : List (Key × V)} {k : Key} {v : V} (e : H a = some (.dK kvs)) (hl : kvs.length < sizeLine) : DPut H a (kV k) v (upd H a (.dK (putK kvs k v))) := .inl ⟨kvs, k, e, rfl, hl, rfl⟩
section
variable {X : Cx} {pins : List (Addr × Obj)} {σ : St} {H : Hp} {s : Shared} {a : Addr} {y v : V} {u r : Value} {o : Option V} {A : Around} {E : Value → Shared → Prop}

theorem Inv.big (I : Inv X pins σ H s) : sysModules < s.heap.objs.size := by
  have h : mainGlobals < s.heap.objs.size := (I.mod.glob.keeps I.bk).lt
  exact Nat.lt_trans (by decide) h

theorem d_getItem {Q : Value → Shared → Prop} (hu : A.units + 1 < cLine) (I : Inv X pins σ H s) (g : DGet H a y (some v)) (ry : RelV y u) (h : ∀ w' s', Inv X pins σ H s' → RelV v w' → Q w' s') :
    wpAny (model X.prog X.w) A (getItem (.ref a) u) Q E s := by
  rcases g with ⟨kvs, k, e, ey, l⟩ | ⟨kvs, k, b, e, ey, eb, l⟩
  · subst ey
    obtain ⟨z, hd, vs, rel, dd⟩ := dk_rd I.hok e
    obtain ⟨w', hw, rw'⟩ := RelO.some_of (v := v) (o := valueAt vs k) (by rw [l]; exact rel.val k)
    exact wpAny_getItem_of (kV_is ry) dd.mapOf hw (h w' _ (I.tok _) rw')
  · subst ey
    cases (show u = Value.ref b from ry)
    obtain ⟨z, hd, xs, rel, dd⟩ := dt_rd I.hok e
    obtain ⟨w', hw, rw'⟩ := RelO.some_of (v := v) (o := (atKey xs k).map (·.2)) (by rw [l]; exact rel.val k)
    obtain ⟨p, hp, hp2⟩ := Option.map_eq_some_iff.mp hw
    refine wpAny_getItem_heap (tupleKind_room_in1 hu) (key_of I.hok eb) dd hp ?_
    rw [hp2]
    exact h w' _ (I.tok _) rw'
theorem d_in {Q : Value → Shared → Prop} (hu : A.units + 1 < cLine) (I : Inv X pins σ H s) (g : DGet H a y o) (ry : RelV y u) (h : ∀ s', Inv X pins σ H s' → Q (.bool o.isSome) s') :
    wpAny (model X.prog X.w) A (compareOp .In u (.ref a)) Q E s := by
  rcases g with ⟨kvs, k, e, ey, l⟩ | ⟨kvs, k, b, e, ey, eb, l⟩
  · subst ey
    obtain ⟨z, hd, vs, rel, dd⟩ := dk_rd I.hok e
    refine wpAny_in_of (kV_is ry) hd dd.mapOf ?_
    rw [← (rel.val k).isSome_eq, ← l]
    exact h _ (I.tok _)
  · subst ey
    cases (show u = Value.ref b from ry)
    obtain ⟨z, hd, xs, rel, dd⟩ := dt_rd I.hok e
    refine wpAny_in_heap (tupleKind_room_in1 hu) (key_of I.hok eb) hd dd ?_
    have q := (rel.val k).isSome_eq
    rw [Option.isSome_map] at q
    rw [← q, ← l]
    exact h _ (I.tok _)
theorem d_write {h' : Heap} {t' : Nat} {ob : HO} (I : Inv X pins σ H s) (mu : Mut (H a)) (hs : Heap.SameBut a s.heap h') (he : ∃ q, h'.get? a = some q) (new : ObjOk X.prog X.w (upd H a ob) h' a ob) :
    Inv X pins σ (upd H a ob) { s with heap := h', toks := t' } :=
  I.write (x := a) (e := a) mu (.inl rfl) (fun b q hb z => (hs.2 b hb).trans z) he new
theorem dk_new {P : Program} {w : World} {H' : Hp} {h' : Heap} {kvs : List (Key × V)} {vs : List (Key × Value)} (z : kvs.length ≤ sizeLine) (hd : (a == sysModules) = false) (rel : KV kvs vs) (dd : h'.DictOf (mixKind P w) a vs) :
    ObjOk P w H' h' a (.dK kvs) := ⟨z, hd, vs, rel, dd⟩
theorem d_setItem {H' : Hp} {Q : Unit → Shared → Prop} (hu : A.units + 1 < cLine) (I : Inv X pins σ H s) (g : DPut H a y v H') (ry : RelV y u) (rv : RelV v r) (h : ∀ s', Inv X pins σ H' s' → Q () s') :
    wpAny (model X.prog X.w) A (setItem (.ref a) u r) Q E s := by
  rcases g with ⟨kvs, k, e, ey, l, eH⟩ | ⟨kvs, k, b, e, ey, eb, l, eH⟩
  · subst ey eH
    obtain ⟨z, hd, vs, rel, dd⟩ := dk_of I.hok e
    have hz : vs.length ≤ sizeLine := by rw [← rel.length]; exact z
    have hl : (putK kvs k v).length ≤ sizeLine := by have := length_putK kvs k v; omega
    refine wpAny_setItem_pairs (hsz := hz) (kV_is ry) dd fun h' dd' hs => h _ ?_
    have he : ∃ q, h'.get? a = some q := let ⟨q, _, _, hq, _⟩ := dd'; ⟨q, hq⟩
    exact d_write I (by rw [e]; exact True.intro) hs he (dk_new hl hd (rel.put k rv) dd')
  · subst ey eH
    cases (show u = Value.ref b from ry)
    obtain ⟨z, hd, xs, rel, dd⟩ := dt_of I.hok e
    have hz : xs.length ≤ sizeLine := by rw [← Paired.length rel]; exact z
    have hl : (putK kvs k v).length ≤ sizeLine := by have := length_putK kvs k v; omega
    refine wpAny_setItem_heap (hsz := hz) (tupleKind_room_in1 hu) (key_of I.hok eb) dd fun h' dd' hs => h _ ?_
    obtain ⟨q, es, ep, hq, h2, h3, h4, _, h5⟩ := dd'
    refine d_write I (by rw [e]; exact True.intro) hs ⟨q, hq⟩ ⟨hl, hd, _, (rel.put k eb rv).keeps fun c ys ec => ?_, q, es, ep, hq, h2, h3, h4, h5⟩
    rw [upd_ne (ne_of ec e (fun z => nomatch z))]
    exact ec
end

section
variable {X : Cx} {pins : List (Addr × Obj)} {σ : St} {H : Hp} {s : Shared} {a : Addr} {kvs : List (Key × V)} {k : Key} {u : Value} {A : Around} {E : Value → Shared → Prop}
end


noncomputable def NoSl (i : Expr) : Prop := ∀ ov iv, subscripted i false ov iv = operate [ov, iv] (getItem ov iv)
theorem subD_of {prog : Program} {w : World} {A : Around} {E : Value → Shared → Prop} {s : Shared} {env : Env} {value slice : Expr} {pos : Pos} {T id : String} {Q : Value → Shared → Prop}
    (hl : typeLookup (.type T) "__getitem__" = pure (some (.builtin id))) (hs : NoSl slice)
    (h : wpAny (model prog w) A (eval value env) (fun o s₁ => wpAny (model prog w) A (eval slice env) (fun i s₂ => s₂.TypeIs o T ∧ wpAny (model prog w) A (getItem o i) Q E s₂) E s₁) E s) :
    wpAny (model prog w) A (eval (.Subscript value slice pos) env) Q E s := by
  refine Subscript_ (wpAny_mono h (fun o s₁ h₁ => wpAny_mono h₁ (fun i s₂ h₂ => ?_) fun _ _ x => x) fun _ _ x => x)
  obtain ⟨hT, h₂⟩ := h₂
  unfold subscriptTail
  refine wpAny_bind ?_
  rw [getitemInPython_of_ne hT.not_modules]
  refine wpAny_bind (wpAny_specialOf hT hl ?_)
  have fin : wpAny (model prog w) A (subscripted slice false o i) (fun r s₃ => wpAny (model prog w) A (letTemporaryGo value o r >>= fun _ => pure r) Q E s₃) E s₂ := by
    rw [hs o i]
    exact wpAny_operating (wpAny_mono h₂ (fun r s₃ h₃ => wpAny_bind (wpAny_letTemporaryGo (wpAny_pure h₃))) fun _ _ x => x)
  first
    | exact wpAny_pure (wpAny_bind fin)
    | exact wpAny_bind (wpAny_pure (wpAny_bind fin))
    | exact wpAny_bind fin

theorem dict_typeIs {X : Cx} {pins : List (Addr × Obj)} {σ : St} {H : Hp} {s : Shared} {a : Addr} {y : V} {o : Option V} (I : Inv X pins σ H s) (g : DGet H a y o) : s.TypeIs (.ref a) "dict" := by
  rcases g with ⟨kvs, k, e, _, _⟩ | ⟨kvs, k, b, e, _, _, _⟩
  · obtain ⟨_, _, vs, _, dd⟩ := dk_rd I.hok e
    exact dd.typeIs
  · obtain ⟨_, _, xs, _, dd⟩ := dt_rd I.hok e
    exact dd.typeIs
section
variable {X : Cx} {o i e value : Expr} {pos pos' tpos : Pos} {td ty tv : TE}
end


theorem dk_empty {P : Program} {w : World} {H : Hp} (h : Heap) (hb : sysModules < h.objs.size) : ObjOk P w H (h.push { cls := .type "dict", data := .dict #[] }) h.objs.size (.dK []) :=
  ⟨Nat.zero_le _, beq_eq_false_iff_ne.mpr (Ne.symm (Nat.ne_of_lt hb)), [], .nil, Heap.DictOf.new h⟩
noncomputable def tDNewK : TE := fun _ H Q => ∀ p, H p = none → Q (.ref p) (upd H p (.dK []))
section
variable {X : Cx} {pos : Pos}
theorem pe_dnewK : PE X (.Dict [] [] pos) tDNewK := fun pins s σ H Q I h =>
  wpAny_Dict_empty ⟨.ref s.heap.objs.size, _, I.laid (a := s.heap.objs.size) (o := .dK []) (t' := s.toks) (fun _ _ q => Heap.get?_push_of_some _ q) (Nat.le_refl _) (dk_empty s.heap I.big), rfl, h _ (I.hok.fresh (Nat.le_refl _))⟩
end

structure M1 (X : Cx) (o : Expr) (m : Str) (apos : Pos) (e : Expr) (cpos : Pos) : Prop where
  base : attributeBase o m X.env (eval o X.env) = eval o X.env
  few : ((backTo cpos (starEach [e] X.env)).all (fun x => !x.1) && (backToKw cpos (keywordEach [] X.env)).all (fun x => x.1.isSome)
    && decide (([e] : List Expr).length + ([] : List Keyword).length + (if ([] : List Keyword).isEmpty then 0 else 1) < 30)) = true
  line : (apos.endLine == cpos.line) = true
  trees : backTo cpos (starEach [e] X.env) = [(false, eval e X.env)]
structure M2 (X : Cx) (o : Expr) (m : Str) (apos : Pos) (e f : Expr) (cpos : Pos) : Prop where
  base : attributeBase o m X.env (eval o X.env) = eval o X.env
  few : ((backTo cpos (starEach [e, f] X.env)).all (fun x => !x.1) && (backToKw cpos (keywordEach [] X.env)).all (fun x => x.1.isSome)
    && decide (([e, f] : List Expr).length + ([] : List Keyword).length + (if ([] : List Keyword).isEmpty then 0 else 1) < 30)) = true
  line : (apos.endLine == cpos.line) = true
  trees : backTo cpos (starEach [e, f] X.env) = [(false, eval e X.env), (false, eval f X.env)]

section
variable {X : Cx} {pins : List (Addr × Obj)} {σ : St} {H : Hp} {s : Shared} {a : Addr} {y d : V} {u r : Value} {o : Option V} {A : Around} {E : Value → Shared → Prop}
end

section
variable {X : Cx} {o e f : Expr} {apos cpos : Pos} {td ty tx : TE}
end

section
variable {X : Cx} {pins : List (Addr × Obj)} {σ : St} {H : Hp} {s : Shared} {a : Addr} {kvs : List (Key × V)} {A : Around} {E : Value → Shared → Prop}
end


section
variable {X : Cx} {pins : List (Addr × Obj)} {σ : St} {H : Hp} {s : Shared} {a : Addr} {y : V} {u : Value} {A : Around} {E : Value → Shared → Prop}
end
end L2
namespace L2
open PySem PySem.Spec PyProof.Rows
section
variable {X : Cx}
end
section
variable {κ : Type} [DecidableEq κ]
end
end L2


set_option maxRecDepth 100000
namespace L2
open PySem PySem.Spec PyProof.Rows

noncomputable def FnAt (P : Program) (w : World) (K : PySem.W.Frag) (mg : Str → Option Value) (base : Heap) (CX : CXT) (x : Str) (k : Nat) (ps : List Str) (sp : Sp) : Prop :=
  ∃ f fd, FnOk P w K mg base CX k f fd ps sp ∧ mg x = some (.ref f) ∧ PySem.W.keepIn K (.ref f) = true ∧ Binds K fd ps [] ∧ ∃ oc od osl, K.lookup f = some ⟨oc, od, .func fd, osl⟩
noncomputable def DefAt (K : PySem.W.Frag) (mg : Str → Option Value) (x : Str) (st : Stmt) : Prop := ∃ f fd, Fun K x x st f fd ∧ mg x = some (.ref f)
class Quiet (CX : CXT) : Prop where
  pass : ∀ (X : Cx), Passes CX X E0
noncomputable instance : Quiet CX0 := ⟨fun _ => pass0⟩
theorem defat_mk {K : PySem.W.Frag} {h : Heap} {mg : Str → Option Value} {x : Str} {st : Stmt} {f : Addr} {oc : Value} {od an : Option Addr} {osl : Array (Option Value)} {kV doc pm cdv ct : Value} (X : K.In h) (G : h.Ns mainGlobals mg)
    (a : PySem.W.nsIn K mainGlobals x = some (some (.ref f)))
    (l : K.lookup f = some ⟨oc, od, .func (PySem.W.fnOf x x (defArgs st) (defBody st) (defScope st) .none kV doc pm an cdv ct), osl⟩) (c : PySem.W.codeIn K cdv x = true) (k : PySem.W.keepIn K (.ref f) = true) : DefAt K mg x st :=
  ⟨f, _, fun_mk l c k, PySem.W.mg_of X G a⟩
section
variable {P : Program} {w : World} {K : PySem.W.Frag} {mg : Str → Option Value} {base : Heap} {CX : CXT}
theorem DefAt.fn {x : Str} {st : Stmt} {N ps : List Str} {k : Nat} {sp : Sp} (F : DefAt K mg x st) (S : FnScope N ps (defScope st))
    (hb : ∀ (kV doc pm : Value) (an : Option Addr) (cdv ct : Value) (us : List Value), us.length = ps.length → bindArgs (PySem.W.fnOf x x (defArgs st) (defBody st) (defScope st) .none kV doc pm an cdv ct) ⟨us, []⟩ = pure (ps.zip us))
    (len : ∀ vs H Q E, sp vs H Q E → vs.length = ps.length)
    (hbody : ∀ (f : Addr) (cdv : Value) (A : Around) (outer : List Env) (s : Shared) (H : Hp) (vs : List V) (Q : VK) (E : XK), Room k (A.deeper (envOfC x (defScope st) s.heap.objs.size f cdv)) → sp vs H Q E →
      ∃ t, PSs (cxOf CX P w K mg base N x (defScope st) f cdv A outer s H E).nox (defBody st) t ∧ t { nx := fun _ H' => Q .non H', rt := Q } (start N vs) H) : FnAt P w K mg base CX x (k + 1) ps sp := by
  obtain ⟨f, fd, F, hm⟩ := F
  have bd := F.binds hb
  have kp := F.kp
  obtain ⟨oc, od, kV, doc, pm, an, cdv, ct, osl, rfl, lk, hcd⟩ := F.ex
  refine ⟨f, _, fn_of lk hcd S len fun A outer s H vs Q E hr hsp => ?_, hm, kp, bd, oc, od, osl, lk⟩
  obtain ⟨t, h, q⟩ := hbody f cdv A outer s H vs Q E hr hsp
  exact ⟨t, h.nox, q⟩
end
section
variable {X : Cx} {CX : CXT} {k n : Nat} {ps : List Str} {sp : Sp} {x : Str} {p pos : Pos} {e : Expr} {es : List Expr} {t : TA}
theorem pe_fn [Quiet CX] (G : FnAt X.prog X.w X.K X.mg X.base CX x k ps sp) (hr : Room n X.A) (hk : k ≤ n) (hg : Gl X x) (ha : PA X (e :: es) t)
    (hdb : (x == ("__debug__" : Str)) = false := by decide) (he : starEach (e :: es) X.env = (false, eval e X.env) :: starEach es X.env := by rfl) (hpl : (backTo pos (starEach es X.env)).any (·.1) = false := by rfl) :
    PE X (.Call (.Name x p) (e :: es) [] pos) (tCall sp [] E0 t) := by
  obtain ⟨f, fd, F, hm, kp, b, _⟩ := G
  exact pe_call F (hr.mono hk) hg hm kp b .nil (Quiet.pass X) ha hdb he hpl
noncomputable def CstAt (mg : Str → Option Value) (x : Str) (v : V) : Prop := ∃ u, mg x = some u ∧ RelV v u
theorem pe_cst {v : V} (hg : Gl X x) (h : CstAt X.mg x v) (hd : (x == ("__debug__" : Str)) = false := by decide) : PE X (.Name x pos) (tC v) := by
  obtain ⟨u, hm, r⟩ := h
  exact pe_glob hg hm r hd
end

noncomputable def ItrS (lo c : Int) (n : Nat) : It := ⟨fun i _ => i < n, fun i H x H' => H' = H ∧ x = .int (lo + i * c), fun i _ => n ≤ i⟩
noncomputable def rcount (lo hi c : Int) : Nat := (Builtin.Range.rangeSize lo hi c).toNat
section
variable {X : Cx} {tg : Expr}
end
end L2


set_option maxRecDepth 100000
namespace L2
open PySem PySem.Spec PyProof.Rows

section
variable {g : Int → Int → V} {C : Int → Int → Prop} {i j : Int} {H : Hp} {Q : VK}
theorem rI0_int : rI0 g (.int i) (.int j) H Q = Q (g i j) H := by
  apply propext
  constructor
  · rintro ⟨a, b, e1, e2, q⟩
    cases e1; cases e2; exact q
  · intro q; exact ⟨i, j, rfl, rfl, q⟩
theorem rI_int : rI C g (.int i) (.int j) H Q = (C i j ∧ Q (g i j) H) := by
  apply propext
  constructor
  · rintro ⟨a, b, e1, e2, q⟩
    cases e1; cases e2; exact q
  · intro q; exact ⟨i, j, rfl, rfl, q⟩
theorem rU_int {f : Int → V} : rU f (.int i) H Q = Q (f i) H := by
  apply propext
  constructor
  · rintro ⟨a, e1, q⟩
    cases e1; exact q
  · intro q; exact ⟨i, rfl, q⟩
theorem ex_bl {b : Bool} {P : Bool → Prop} : (∃ k, V.bl b = .bl k ∧ P k) = P b := by
  apply propext
  constructor
  · rintro ⟨k, e, q⟩
    cases e; exact q
  · intro q; exact ⟨b, rfl, q⟩
theorem ex_sv {v : V} {P : V → Prop} : (∃ u, some (some v) = some (some u) ∧ P u) = P v := by
  apply propext
  constructor
  · rintro ⟨k, e, q⟩
    cases e; exact q
  · intro q; exact ⟨v, rfl, q⟩
theorem rEq_int : rEq (.int i) (.int j) H Q = Q (.bl (decide (i = j))) H := by
  have e : decide (V.int i = V.int j) = decide (i = j) := by
    by_cases h : i = j
    · subst h; simp
    · rw [decide_eq_false h, decide_eq_false (fun q => h (V.int.inj q))]
  unfold rEq
  rw [e]
  apply propext
  exact ⟨fun h => h.2, fun h => ⟨rfl, h⟩⟩
theorem rNe_int : rNe (.int i) (.int j) H Q = Q (.bl (!decide (i = j))) H := by
  have e : decide (V.int i = V.int j) = decide (i = j) := by
    by_cases h : i = j
    · subst h; simp
    · rw [decide_eq_false h, decide_eq_false (fun q => h (V.int.inj q))]
  unfold rNe
  rw [e]
  apply propext
  exact ⟨fun h => h.2, fun h => ⟨rfl, h⟩⟩
theorem rEq_str {a b : Str} : rEq (.str a) (.str b) H Q = Q (.bl (decide (a = b))) H := by
  have e : decide (V.str a = V.str b) = decide (a = b) := by
    by_cases h : a = b
    · subst h; simp
    · rw [decide_eq_false h, decide_eq_false (fun q => h (V.str.inj q))]
  unfold rEq
  rw [e]
  apply propext
  exact ⟨fun h => h.2, fun h => ⟨rfl, h⟩⟩
theorem rNe_str {a b : Str} : rNe (.str a) (.str b) H Q = Q (.bl (!decide (a = b))) H := by
  have e : decide (V.str a = V.str b) = decide (a = b) := by
    by_cases h : a = b
    · subst h; simp
    · rw [decide_eq_false h, decide_eq_false (fun q => h (V.str.inj q))]
  unfold rNe
  rw [e]
  apply propext
  exact ⟨fun h => h.2, fun h => ⟨rfl, h⟩⟩
theorem rEq_bl {a b : Bool} : rEq (.bl a) (.bl b) H Q = Q (.bl (decide (a = b))) H := by
  have e : decide (V.bl a = V.bl b) = decide (a = b) := by
    by_cases h : a = b
    · subst h; simp
    · rw [decide_eq_false h, decide_eq_false (fun q => h (V.bl.inj q))]
  unfold rEq
  rw [e]
  apply propext
  exact ⟨fun h => h.2, fun h => ⟨rfl, h⟩⟩
theorem rNe_bl {a b : Bool} : rNe (.bl a) (.bl b) H Q = Q (.bl (!decide (a = b))) H := by
  have e : decide (V.bl a = V.bl b) = decide (a = b) := by
    by_cases h : a = b
    · subst h; simp
    · rw [decide_eq_false h, decide_eq_false (fun q => h (V.bl.inj q))]
  unfold rNe
  rw [e]
  apply propext
  exact ⟨fun h => h.2, fun h => ⟨rfl, h⟩⟩
end

theorem OpR.imp {X : Cx} {f : Value → Value → Sem Value} {r r' : R2} (h : OpR X f r) (i : ∀ x y H Q, r' x y H Q → r x y H Q) : OpR X f r' :=
  fun pins s σ H x y v u Q I rx ry q => h pins s σ H x y v u Q I rx ry (i _ _ _ _ q)
theorem CallR.imp {X : Cx} {f : Value} {r r' : List V → Hp → VK → Prop} (h : CallR X f r) (i : ∀ xs H Q, r' xs H Q → r xs H Q) : CallR X f r' :=
  fun pins s σ H xs us Q I rs q => h pins s σ H xs us Q I rs (i _ _ _ q)
noncomputable def rAddA (K : PySem.W.Frag) : R2 := fun x y H Q => match x, y with
  | .int i, .int j => Q (.int (i + j)) H
  | .str a, .str b => a.length + b.length ≤ sizeLine ∧ Q (.str (a ++ b)) H
  | .ref l, .ref b => rCat (.ref l) (.ref b) H Q ∨ rCatT K (.ref l) (.ref b) H Q
  | _, _ => False
section
variable {X : Cx}
theorem op_addA : OpR X (binaryOp .Add) (rAddA X.K) := by
  refine OpR.imp (op_add.or (op_add_str.or (op_cat.or op_catT))) fun x y H Q h => ?_
  unfold rAddA at h
  split at h
  · exact .inl ⟨_, _, rfl, rfl, h⟩
  · exact .inr (.inl ⟨_, _, rfl, rfl, h⟩)
  · exact .inr (.inr h)
  · exact h.elim
end
noncomputable def CPowA (i j : Int) : Prop := (0 ≤ j ∧ j ≤ 1000000) ∧ -(2 ^ 64) < i ∧ i < 2 ^ 64
noncomputable def rLenA (K : PySem.W.Frag) : List V → Hp → VK → Prop := fun xs H Q => match xs with
  | [.str z] => z.length ≤ sizeLine ∧ Q (.int z.length) H
  | [.ref p] => ∃ ys, (SqL K H p ys ∨ SqT K H p ys) ∧ Q (.int ys.length) H
  | _ => False
section
variable {X : Cx}
theorem call_lenA : CallR X (.builtin "len") (rLenA X.K) := by
  refine CallR.imp (call_len_seq.or call_len_str) fun xs H Q h => ?_
  unfold rLenA at h
  split at h
  · exact .inr ⟨_, rfl, h.1, h.2⟩
  · obtain ⟨ys, h1, h2⟩ := h
    exact .inl ⟨_, ys, rfl, h1, h2⟩
  · exact h.elim
noncomputable def rMinA : List V → Hp → VK → Prop := fun xs H Q => match xs with
  | [.int i, .int j] => Q (.int (if j < i then j else i)) H
  | _ => False
noncomputable def rMaxA : List V → Hp → VK → Prop := fun xs H Q => match xs with
  | [.int i, .int j] => Q (.int (if i < j then j else i)) H
  | _ => False
theorem call_minA (hc : X.calm = true) : CallR X (.builtin "min") rMinA := by
  refine CallR.imp (call_min2 hc) fun xs H Q h => ?_
  unfold rMinA at h
  split at h
  · exact ⟨_, _, rfl, h⟩
  · exact h.elim
theorem call_maxA (hc : X.calm = true) : CallR X (.builtin "max") rMaxA := by
  refine CallR.imp (call_max2 hc) fun xs H Q h => ?_
  unfold rMaxA at h
  split at h
  · exact ⟨_, _, rfl, h⟩
  · exact h.elim
noncomputable def isiF : V → String → Option Bool
  | .int _, "int" => some true
  | .int _, "bool" => some false
  | .int _, "str" => some false
  | .bl _, "int" => some true
  | .bl _, "bool" => some true
  | .str _, "str" => some true
  | .str _, "int" => some false
  | _, _ => none
noncomputable def rIsi (K : PySem.W.Frag) : List V → Hp → VK → Prop := fun xs H Q => match xs with
  | [x, .ty T] => (match isiF x T with
    | some b => Q (.bl b) H
    | none => ∃ t b, TyOf K H x t ∧ PySem.W.kitOne K t (.type T) = some b ∧ Q (.bl b) H)
  | _ => False
theorem kit_ii (K : PySem.W.Frag) : PySem.W.kitOne K (.type "int") (.type "int") = some true := by first | rfl | kernel_rfl
theorem kit_ib (K : PySem.W.Frag) : PySem.W.kitOne K (.type "int") (.type "bool") = some false := by first | rfl | kernel_rfl
theorem kit_is (K : PySem.W.Frag) : PySem.W.kitOne K (.type "int") (.type "str") = some false := by first | rfl | kernel_rfl
theorem kit_bi (K : PySem.W.Frag) : PySem.W.kitOne K (.type "bool") (.type "int") = some true := by first | rfl | kernel_rfl
theorem kit_bb (K : PySem.W.Frag) : PySem.W.kitOne K (.type "bool") (.type "bool") = some true := by first | rfl | kernel_rfl
theorem kit_ss (K : PySem.W.Frag) : PySem.W.kitOne K (.type "str") (.type "str") = some true := by first | rfl | kernel_rfl
theorem kit_si (K : PySem.W.Frag) : PySem.W.kitOne K (.type "str") (.type "int") = some false := by first | rfl | kernel_rfl
theorem kit_ll (K : PySem.W.Frag) : PySem.W.kitOne K (.type "list") (.type "list") = some true := by first | rfl | kernel_rfl
theorem kit_tt (K : PySem.W.Frag) : PySem.W.kitOne K (.type "tuple") (.type "tuple") = some true := by first | rfl | kernel_rfl
theorem call_isi : CallR X (.builtin "isinstance") (rIsi X.K) := by
  intro pins s σ H xs us Q I rs q
  unfold rIsi at q
  split at q
  · rename_i x T
    obtain ⟨u, c, rfl, ru, rc⟩ := vals2 rs
    obtain rfl : c = Value.type T := rc
    have key : ∀ {t b}, TyOf X.K H x t → PySem.W.kitOne X.K t (.type T) = some b → Q (.bl b) H → wpAny (model X.prog X.w) X.A (call (.builtin "isinstance") [u, .type T]) (EP X pins σ Q) X.xe s := fun {t b} ty e h =>
      isinst_ok I ru ty e fun tk => ⟨.bl b, H, I.tok tk, rfl, h⟩
    split at q
    · rename_i b e
      have h := q
      unfold isiF at e
      split at e <;> cases e
      · exact key (.int _) (kit_ii _) h
      · exact key (.int _) (kit_ib _) h
      · exact key (.int _) (kit_is _) h
      · exact key (.bl _) (kit_bi _) h
      · exact key (.bl _) (kit_bb _) h
      · exact key (.str _) (kit_ss _) h
      · exact key (.str _) (kit_si _) h
    · obtain ⟨t, b, ty, e, h⟩ := q
      exact key ty e h
  · exact q.elim
theorem pe_ty {x : Str} {T : String} {pos : Pos} (hg : Gl X x) (hm : X.mg x = none) (hv : bootBuiltins x = some (.type T)) (hn : x ≠ "__name__" := by decide) (hd : (x == ("__debug__" : Str)) = false := by decide) : PE X (.Name x pos) (tC (.ty T)) :=
  pe_bltn hg hm hv rfl hn hd
end
theorem bt_len : bootBuiltins "len" = some (.builtin "len") := by decide +kernel
theorem bt_min : bootBuiltins "min" = some (.builtin "min") := by decide +kernel
theorem bt_max : bootBuiltins "max" = some (.builtin "max") := by decide +kernel
theorem bt_all : bootBuiltins "all" = some (.builtin "all") := by decide +kernel
theorem bt_isinstance : bootBuiltins "isinstance" = some (.builtin "isinstance") := by decide +kernel
theorem bt_int : bootBuiltins "int" = some (.type "int") := by decide +kernel
theorem bt_bool : bootBuiltins "bool" = some (.type "bool") := by decide +kernel
theorem bt_list : bootBuiltins "list" = some (.type "list") := by decide +kernel
theorem bt_tuple : bootBuiltins "tuple" = some (.type "tuple") := by decide +kernel
section
variable {K : PySem.W.Frag} {H : Hp} {Q : VK}
theorem rAddA_int {i j : Int} : rAddA K (.int i) (.int j) H Q = Q (.int (i + j)) H := rfl
theorem rAddA_str {i j : Str} : rAddA K (.str i) (.str j) H Q = (i.length + j.length ≤ sizeLine ∧ Q (.str (i ++ j)) H) := rfl
theorem rLenA_str {z : Str} : rLenA K [.str z] H Q = (z.length ≤ sizeLine ∧ Q (.int z.length) H) := rfl
theorem rLenA_ref {p : Addr} : rLenA K [.ref p] H Q = (∃ ys, (SqL K H p ys ∨ SqT K H p ys) ∧ Q (.int ys.length) H) := rfl
theorem rIsi_ii {i : Int} : rIsi K [.int i, .ty "int"] H Q = Q (.bl true) H := rfl
theorem rIsi_ib {i : Int} : rIsi K [.int i, .ty "bool"] H Q = Q (.bl false) H := rfl
theorem rIsi_is {i : Int} : rIsi K [.int i, .ty "str"] H Q = Q (.bl false) H := rfl
theorem rIsi_bi {i : Bool} : rIsi K [.bl i, .ty "int"] H Q = Q (.bl true) H := rfl
theorem rIsi_bb {i : Bool} : rIsi K [.bl i, .ty "bool"] H Q = Q (.bl true) H := rfl
theorem rIsi_ss {i : Str} : rIsi K [.str i, .ty "str"] H Q = Q (.bl true) H := rfl
theorem rIsi_si {i : Str} : rIsi K [.str i, .ty "int"] H Q = Q (.bl false) H := rfl
theorem rMinA_int {i j : Int} : rMinA [.int i, .int j] H Q = Q (.int (if j < i then j else i)) H := rfl
theorem rMaxA_int {i j : Int} : rMaxA [.int i, .int j] H Q = Q (.int (if i < j then j else i)) H := rfl
end
theorem cxOf_K {CX : CXT} {P : Program} {w : World} {K : PySem.W.Frag} {mg : Str → Option Value} {base : Heap} {N : List Str} {qual : Str} {scope : Scope} {f : Addr} {cd : Value} {A : Around} {outer : List Env} {s : Shared} {H : Hp} {E : XK} :
    (cxOf CX P w K mg base N qual scope f cd A outer s H E).K = K := rfl
end L2


set_option maxRecDepth 100000
namespace L2
open PySem PySem.Spec PyProof.Rows

section
variable {ta : TA} {tl : TE} {K : PySem.W.Frag} {g : TG} {tb : TS} {D : Ends} {σ : St} {H : Hp}
end
theorem law_fin {P : Program} {w : World} {K : PySem.W.Frag} {mg : Str → Option Value} {CX : CXT} {k : Nat} {fa : Addr} {x nm : Str} {st : Stmt} {sp : Sp} (hmg : mg nm = some (.ref fa)) (D : DefAt K mg nm st)
    (hb : ∀ (kV doc pm : Value) (an : Option Addr) (cdv ct : Value) (us : List Value), us.length = ([x] : List Str).length → bindArgs (PySem.W.fnOf nm nm (defArgs st) (defBody st) (defScope st) .none kV doc pm an cdv ct) ⟨us, []⟩ = pure (([x] : List Str).zip us))
    (ok : ∀ base : Heap, FnAt P w K mg base CX nm k [x] sp) :
    ∃ fd : FuncData, (∀ (s : Shared) (u : Value), BindsTo s fd ⟨[u], []⟩ [(x, u)]) ∧ ∀ base : Heap, K.In base → base.Ns mainGlobals mg → FnOk P w K mg base CX k fa fd [x] sp := by
  obtain ⟨f, fd, F, hm⟩ := D
  rw [hmg] at hm
  cases hm
  obtain ⟨oc, od, kV, doc, pm, an, cdv, ct, osl, e, lk, hcd⟩ := F.ex
  refine ⟨fd, fun s u => ?_, fun base _ _ => ?_⟩
  · rw [e]
    exact .of_eq (hb kV doc pm an cdv ct [u] rfl)
  · obtain ⟨f', fd', h, hm', _, _, oc', od', osl', lk'⟩ := ok base
    rw [hmg] at hm'
    cases hm'
    rw [lk] at lk'
    cases lk'
    exact h
noncomputable def spLaw (K : PySem.W.Frag) : Sp := fun vs H Q _ => match vs with
  | [.ref a] => ∃ ns : List Int, SqL K H a (ns.map V.int) ∧ ns.length ≤ 63 ∧ Only H ∧ ∀ H', Q (.bl true) H'
  | _ => False
theorem law_walk {l : PySem.W.OpenLaw} {k : Nat} {q : Program} {loose : List Str} {XP : (Str → Option Value) → Heap → Prop} {YP : World → Heap → Prop} {d : DefRec} {K : Params → PySem.W.Frag} {x : Str} (hn : l.most = some 63) (hdf : d.params.defaults = [])
    (hr : Room k callerA) (hY : ∀ (w : World) (h : Heap), YP w h → (K w.params).In h)
    (F : ∀ (w : World) (mg : Str → Option Value) (fa : Addr) (h : Heap), (K w.params).In h → h.Ns mainGlobals mg → mg d.name = some (.ref fa) →
      ∃ fd : FuncData, (∀ (s : Shared) (u : Value), BindsTo s fd ⟨[u], []⟩ [(x, u)]) ∧ ∀ base : Heap, (K w.params).In base → base.Ns mainGlobals mg → FnOk l.prog w (K w.params) mg base CX0 k fa fd [x] (spLaw (K w.params))) :
    PySem.W.WalkO q loose XP YP l.row.toRowW d [] (fun f vs => PySem.call f vs) :=
  L2.walk_ofK (n := 63) (CX := CX0) (sp := spLaw) hn (by decide) hdf hr hY F (fun K H a ns hl hO hS => ⟨ns, hS, hl, hO, fun _ => rfl⟩) fun _ _ _ _ z => z
end L2


set_option maxRecDepth 100000
namespace L2
open PySem PySem.Spec PyProof.Rows

noncomputable def Cx.comp (X : Cx) (scope : Scope) (cl : List (Str × Addr)) (C : Addr) (N : List Str) (s : Shared) (H : Hp) (ex : List Addr) : Cx :=
  { prog := X.prog, w := X.w, K := X.K, mg := X.mg, base := X.base, A := X.A, N := N, s₀ := s, H₀ := H, env := compEnvC scope cl C X.env, outer := X.stack, stack := X.stack, ex := ex, fn := fun _ => false, calm := X.calm, pn := [], xe := fun _ _ => False }

theorem closure_ok {env : Env} {scope : Scope} (h : ∀ y ∈ scope.names, y.2 = .free → ∃ c, env.cells.lookup y.1 = some c) :
    ∃ cl, closureFor scope env = pure cl ∧ (∀ y c, cl.lookup y = some c → env.cells.lookup y = some c) ∧ ∀ y ∈ scope.names, y.2 = .free → ∃ c, cl.lookup y.1 = some c := by
  have key : ∀ (l : List (Str × NameKind)) (acc : List (Str × Addr)), (∀ y ∈ l, y.2 = .free → ∃ c, env.cells.lookup y.1 = some c) → (∀ y c, acc.lookup y = some c → env.cells.lookup y = some c) →
      ∃ cl, (forIn l acc fun (x : Str × NameKind) (cs : List (Str × Addr)) => if (x.2 == NameKind.free) = true then do let a ← cellOf env x.1; pure (ForInStep.yield ((x.1, a) :: cs)) else pure (ForInStep.yield cs)) = (pure cl : Sem (List (Str × Addr))) ∧
        (∀ y c, cl.lookup y = some c → env.cells.lookup y = some c) ∧ (∀ y c, acc.lookup y = some c → ∃ c, cl.lookup y = some c) ∧ ∀ y ∈ l, y.2 = .free → ∃ c, cl.lookup y.1 = some c := by
    intro l
    induction l with
    | nil => intro acc _ ha; exact ⟨acc, rfl, ha, fun y c e => ⟨c, e⟩, fun y hy => nomatch hy⟩
    | cons x r ih =>
      intro acc hl ha
      obtain ⟨n, k⟩ := x
      by_cases hk : k = .free
      · subst hk
        obtain ⟨c, hc⟩ := hl (n, .free) List.mem_cons_self rfl
        have ha' : ∀ y d, ((n, c) :: acc).lookup y = some d → env.cells.lookup y = some d := fun y d e => by
          simp only [List.lookup_cons] at e
          cases q : y == n with
          | true => rw [q] at e; cases e; rw [beq_iff_eq.mp q]; exact hc
          | false => rw [q] at e; exact ha y d e
        obtain ⟨cl, e, h1, h2, h3⟩ := ih ((n, c) :: acc) (fun y hy => hl y (List.mem_cons_of_mem _ hy)) ha'
        have top : ∃ d, cl.lookup n = some d := h2 n c (by simp [List.lookup_cons])
        refine ⟨cl, ?_, h1, fun y d q => ?_, fun y hy hf => ?_⟩
        · rw [List.forIn_cons]
          have ec : cellOf env n = pure c := by unfold cellOf; rw [hc]
          show ((if (NameKind.free == NameKind.free) = true then (do let a ← cellOf env n; pure (ForInStep.yield ((n, a) :: acc))) else _) >>= _) = _
          rw [if_pos (by decide), ec]
          exact e
        · cases z : y == n with
          | true => rw [beq_iff_eq.mp z]; exact top
          | false => exact h2 y d (by simp only [List.lookup_cons, z]; exact q)
        · rcases List.mem_cons.mp hy with rfl | hy
          · exact top
          · exact h3 y hy hf
      · have hb : (k == NameKind.free) = false := by simpa using hk
        obtain ⟨cl, e, h1, h2, h3⟩ := ih acc (fun y hy => hl y (List.mem_cons_of_mem _ hy)) ha
        refine ⟨cl, ?_, h1, h2, fun y hy hf => ?_⟩
        · rw [List.forIn_cons]
          show ((if (k == NameKind.free) = true then _ else pure (ForInStep.yield acc)) >>= _) = _
          rw [hb, if_neg Bool.false_ne_true]
          exact e
        · rcases List.mem_cons.mp hy with rfl | hy
          · exact absurd hf hk
          · exact h3 y hy hf
  obtain ⟨cl, e, h1, _, h3⟩ := key scope.names [] h (fun y c q => by simp at q)
  refine ⟨cl, ?_, h1, h3⟩
  unfold closureFor
  exact (bind_congr (fun _ => rfl)).trans (by rw [e]; rfl)

theorem relabel_look {scope : Scope} {env : Env} {x : Str} {k : NameKind} (h : (relabel scope env).names.lookup x = some k) : scope.names.lookup x = some k ∨ (scope.names.lookup x = some .free ∧ k = .cell) := by
  unfold relabel at h
  have key : ∀ l : List (Str × NameKind), (l.map fun (n, k) => if (k == NameKind.free && env.scope.kind == .function && env.kindOf n == some .cell) then (n, NameKind.cell) else (n, k)).lookup x = some k → l.lookup x = some k ∨ (l.lookup x = some .free ∧ k = .cell) := by
    intro l
    induction l with
    | nil => intro h; simp at h
    | cons y r ih =>
      obtain ⟨n, j⟩ := y
      intro h
      rw [List.map_cons] at h
      simp only [List.lookup_cons]
      cases q : x == n with
      | true =>
        by_cases hc : (j == NameKind.free && env.scope.kind == .function && env.kindOf n == some .cell) = true
        · simp only [hc, if_true, List.lookup_cons, q] at h
          cases h
          have : j = .free := by
            simp only [Bool.and_eq_true, beq_iff_eq] at hc
            exact hc.1.1
          subst this
          exact .inr ⟨rfl, rfl⟩
        · have hc' : (j == NameKind.free && env.scope.kind == .function && env.kindOf n == some .cell) = false := by simpa using hc
          simp only [hc', Bool.false_eq_true, if_false, List.lookup_cons, q] at h
          exact .inl h
      | false =>
        by_cases hc : (j == NameKind.free && env.scope.kind == .function && env.kindOf n == some .cell) = true
        · simp only [hc, if_true, List.lookup_cons, q] at h
          exact ih h
        · have hc' : (j == NameKind.free && env.scope.kind == .function && env.kindOf n == some .cell) = false := by simpa using hc
          simp only [hc', Bool.false_eq_true, if_false, List.lookup_cons, q] at h
          exact ih h
  exact key _ h

theorem lt_ne {h : Heap} {b n : Addr} {o : Obj} (e : h.get? b = some o) (hn : h.objs.size ≤ n) : b ≠ n := Nat.ne_of_lt (Nat.lt_of_lt_of_le (Heap.lt_size e) hn)
structure CScope (X : Cx) (scope : Scope) (N : List Str) (nv : Nat) (ix : List Nat) : Prop where
  kind : scope.kind = .function
  nocell : ∀ y ∈ scope.names, y.2 ≠ .cell
  names : ∀ y ∈ scope.names, y.2 = .local → scope.names.lookup y.1 = some .local
  fre : ∀ y ∈ scope.names, y.2 = .free → X.env.kindOf y.1 = some .cell ∨ X.env.kindOf y.1 = some .free
  len : N.length = nv + ix.length
  at_ : ∀ j y, N[nv + j]? = some y → ∃ i, ix[j]? = some i ∧ X.N[i]? = some y ∧ (X.env.kindOf y = some .cell ∨ X.env.kindOf y = some .free) ∧ scope.names.lookup y = some .free
noncomputable def compSt (nv : Nat) (ix : List Nat) (σ : St) : St := List.replicate nv none ++ ix.map fun i => (σ[i]?).join

section
variable {X : Cx} {pins : List (Addr × Obj)} {σ : St} {H : Hp} {s : Shared} {scope : Scope} {N : List Str} {nv : Nat} {ix : List Nat}
theorem comp_start {h1 : Heap} {tk : Nat} {cl : List (Str × Addr)} {fp : List Addr} {C D : Addr} {oD : Obj} (S : CScope X scope N nv ix) (I : Inv X pins σ H s) (hcl : ∀ y c, cl.lookup y = some c → X.env.cells.lookup y = some c)
    (hcl2 : ∀ y ∈ scope.names, y.2 = .free → ∃ c, cl.lookup y.1 = some c) (hfp : ∀ b ∈ fp, FpOk X pins H b) (hob : ∀ b ∈ fp, b < s.heap.objs.size)
    (hC : s.heap.objs.size ≤ C) (hD : s.heap.objs.size ≤ D) (hDC : D ≠ C) (old : ∀ b o, s.heap.get? b = some o → h1.get? b = some o) {m : Str → Option Value} (hm : h1.Ns C m) (hoD : h1.get? D = some oD) (hdat : ∀ v, oD.data ≠ .cell v) :
    Inv (X.comp scope cl C N s H fp) [(D, oD)] (compSt nv ix σ) H { s with heap := h1, toks := tk } := by
  refine ⟨⟨I.ok.mod, S.kind, I.ok.glob, I.ok.blt, hC, fun x y c e1 e2 => I.ok.inj x y c (hcl x c e1) (hcl y c e2), fun x hx => ?_, fun _ _ z => absurd z Bool.false_ne_true, I.ok.hd, I.ok.frames, .inl rfl, fun b hb => ⟨fun z => ?_, fun x c e => (hfp b hb).2.2.2.2.1 x c (hcl x c e)⟩, I.bs,
    Nat.le_trans I.ok.bsz I.sz, fun b o e hb => ?_, fun b hb z => ?_, I.stack, I.stkFree⟩, rfl, I.bare, Un.kept old, ⟨m, hm, fun i x v e1 e2 e3 => ?_⟩, fun x c e => ?_, I.hok.fresh hC, fun x c e => I.freeC x c (hcl x c e), fun p hp => ?_, I.hok.kept old, ?_⟩
  · have hx' : (relabel scope X.env).names.lookup x = some .cell ∨ (relabel scope X.env).names.lookup x = some .free := hx
    have fr : scope.names.lookup x = some .free := by
      rcases hx' with z | z
      · rcases relabel_look z with q | q
        · exact absurd rfl (S.nocell _ (PySem.mem_of_lookup q))
        · exact q.1
      · rcases relabel_look z with q | q
        · exact q
        · cases q.2
    exact hcl2 (x, .free) (PySem.mem_of_lookup fr) rfl
  · exact Nat.ne_of_lt (Nat.lt_of_lt_of_le (hob b hb) hC) z
  · rcases (hfp b hb).2.2.2.1 with z | z
    · exact I.ok.noex b o e z
    · exact lt_ne e (Nat.le_trans I.ok.bsz z) rfl
  · rcases List.mem_cons.mp (I.stkSub b z) with q | q
    · exact (hfp b hb).2.1 q
    · exact (hfp b hb).2.2.1 q
  · have e1' : N[i]? = some x := e1
    by_cases hi : i < nv
    · have e2' : (compSt nv ix σ)[i]? = some (some v) := e2
      unfold compSt at e2'
      rw [List.getElem?_append_left (by simpa using hi), List.getElem?_replicate, if_pos hi] at e2'
      cases e2'
    · obtain ⟨j, rfl⟩ : ∃ j, i = nv + j := ⟨i - nv, by omega⟩
      obtain ⟨k, hk, hN, hkd, hsc⟩ := S.at_ j x e1'
      have e2' : (compSt nv ix σ)[nv + j]? = some (some v) := e2
      unfold compSt at e2'
      rw [List.getElem?_append_right (by simp), List.length_replicate, Nat.add_sub_cancel_left, List.getElem?_map, hk] at e2'
      have e4 : σ[k]? = some (some v) := by
        have e5 : (σ[k]?).join = some v := by simpa using e2'
        cases q : σ[k]? with
        | none => rw [q] at e5; cases e5
        | some z => rw [q] at e5; have : z = some v := e5; rw [this]
      obtain ⟨m0, _, hl⟩ := I.loc
      have vis : Vis X.env.scope x := by
        rcases hkd with z | z
        · exact .inr (.inl z)
        · exact .inr (.inr z)
      obtain ⟨u, r, l⟩ := hl k x v hN e4 vis
      refine ⟨u, r, ?_⟩
      rcases l with ⟨z, _⟩ | ⟨_, c, hc, hcell⟩
      · rcases hkd with q | q <;> rw [q] at z <;> cases z
      · obtain ⟨c', hc'⟩ := hcl2 (x, .free) (PySem.mem_of_lookup hsc) rfl
        have := hcl x c' hc'
        rw [hc] at this
        cases this
        refine .inr ⟨?_, c, hc', hcell.keeps old⟩
        rcases e3 with z | z | z
        · rcases relabel_look z with q | q
          · rw [hsc] at q; cases q
          · cases q.2
        · exact .inl z
        · exact .inr z
  · obtain ⟨v, q⟩ := I.cell x c (hcl x c e)
    exact ⟨v, q.keeps old⟩
  · have hp' : p ∈ [(D, oD)] := hp
    have e : p = (D, oD) := by simpa using hp'
    subst e
    refine ⟨hoD, I.hok.fresh hD, hDC, fun z => ?_, hdat⟩
    rcases List.mem_cons.mp (I.stkSub D z) with q | q
    · exact Nat.ne_of_gt (Nat.lt_of_lt_of_le I.lt hD) q
    · exact I.nofs hD q
  · show (compSt nv ix σ).length = N.length
    unfold compSt
    rw [List.length_append, List.length_replicate, List.length_map, S.len]
theorem comp_end {cl : List (Str × Addr)} {fp : List Addr} {C D : Addr} {its : List Value} {ys : List V} {n : Nat} {σ' : St} {H' : Hp} {s' : Shared} (I : Inv X pins σ H s) (hfp : ∀ b ∈ fp, FpOk X pins H b) (hD : s.heap.objs.size ≤ D)
    (J : Inv (X.comp scope cl C N s H fp) [(D, { cls := .type "list", data := .seq its.toArray n })] σ' H' s') (r : Vals ys its) (hl : ys.length ≤ sizeLine) : Inv X pins σ (upd H' D (.lst ys)) s' := by
  obtain ⟨eD, fD, _⟩ := J.pin (D, { cls := .type "list", data := .seq its.toArray n }) (by simp [Cx.comp])
  have U : Un (frs X.stack) fp H H' s.heap s'.heap := J.base
  have neD : ∀ b o, s.heap.get? b = some o → b ≠ D := fun b o e => lt_ne e hD
  refine I.call' (ch := fp) J.os ⟨U.keep, U.slot, fun b o e n hx => ?_, U.there, fun b xs e => ?_, fun b o xs e => ?_, fun b ps e => ?_⟩ (fun b u e => ?_) J.bare fun b hb => (hfp b hb).2.2.2 |> fun z => ⟨z.1, (hfp b hb).2.1, z.2.1, z.2.2⟩
  · rw [upd_ne (neD b o e)]; exact U.free b o e n hx
  · have q := U.tups b xs e
    rw [upd_ne (ne_of_none q fD)]; exact q
  · have q := U.frzs b o xs e
    rw [upd_ne (ne_of_none q fD)]; exact q
  · obtain ⟨more, q⟩ := U.tbls b ps e
    exact ⟨more, by rw [upd_ne (ne_of_none q fD)]; exact q⟩
  · by_cases hb : b = D
    · subst hb
      rw [upd_same] at e
      cases e
      exact ⟨hl, its, n, r, eD⟩
    · rw [upd_ne hb] at e
      exact (J.hok b u e).stay (fun c v _ q => q) (fun c q => by rw [upd_ne (ne_of_none q fD)]; exact q) fun c xs q => by rw [upd_ne (ne_of_none q fD)]; exact q
end

section
variable {prog : Program} {w : World} {A : Around} {E : Value → Shared → Prop} {R : Result → Shared → Prop} {s : Shared}
theorem compLoop_own {elt target iter : Expr} {ifs : List Expr} {scope : Scope} {pos : Pos} {it acc : Value} {env : Env} (I : Nat → Shared → Prop)
    (turn : ∀ n s, I n s → wpAny (model prog w) A (pyNext it) (fun r s₁ => match r with
      | none => R (.ok .next) s₁
      | some v => wpAny (model prog w) A (letOwnedTupleGo target it v) (fun _ s₀ => wpAny (model prog w) A (assign target env v) (fun _ s₂ =>
          wpAny (model prog w) A (forIn ifs true fun c r => if r = true then do let ok ← isTrue c env (eval c env); pure (ForInStep.yield ok) else pure (ForInStep.yield r)) (fun ok s₃ =>
            if ok = true then wpAny (model prog w) A (eval elt env) (fun x s₄ =>
              wpAny (model prog w) A (call (.builtin "list.append") [acc, x]) (fun _ s₅ => ∃ m, m < n ∧ I m s₅) (fun _ _ => False) s₄) (fun _ _ => False) s₃
            else ∃ m, m < n ∧ I m s₃) (fun _ _ => False) s₂) (fun _ _ => False) s₀) (fun _ _ => False) s₁) (fun _ _ => False) s)
    (n : Nat) (h : I n s) :
    codeAny (model prog w) A (.compLoop (.ListComp elt [⟨target, iter, ifs, 0⟩] scope pos) 0 it acc env) R s := by
  refine codeAny_loop rfl I (fun n s hI => ?_) n h
  show wpAny _ A ((compTurn (.ListComp elt [⟨target, iter, ifs, 0⟩] scope pos) 0 it acc env).onRaise (fun x => do noteFrame x env; theTreesLotGoes x)) _ _ s
  refine wpAny_noted ?_
  rw [compTurn_list]
  refine wpAny_bind (wpAny_standAt (wpAny_bind (wpAny_mono (turn n s hI) (fun r s₁ h₁ => ?_) fun _ _ h' => h'.elim)))
  cases r with
  | none => exact wpAny_pure h₁
  | some v =>
    refine wpAny_bind (wpAny_mono h₁ (fun _ s₀ h₀ => ?_) fun _ _ h' => h'.elim)
    refine wpAny_bind (wpAny_mono h₀ (fun _ s₂ h₂ => wpAny_bind (wpAny_mono h₂ (fun ok s₃ h₃ => ?_) fun _ _ h' => h'.elim)) fun _ _ h' => h'.elim)
    cases ok with
    | false => exact wpAny_pure ⟨rfl, h₃⟩
    | true =>
      exact wpAny_bind (wpAny_bind (wpAny_mono h₃ (fun x s₄ h₄ => wpAny_bind (wpAny_mono h₄ (fun _ s₅ h₅ => wpAny_pure (wpAny_pure ⟨rfl, h₅⟩)) fun _ _ h' => h'.elim)) fun _ _ h' => h'.elim))
end

noncomputable def tYes : TT := fun _ H Q => Q true H
noncomputable def compR (J : It) (g : TG) (tt : TT) (te : TE) (σ₀ : St) (H1 : Hp) (Q : List V → Hp → Prop) : Prop :=
  ∃ W : Nat → Nat → List V → St → Hp → Prop, (∃ m, W 0 m [] σ₀ H1) ∧ ∀ i m ys σ' H', W i m ys σ' H' →
    (J.stop i H' ∧ Q ys H') ∨ (J.go i H' ∧ ys.length < sizeLine ∧ ∃ N : List V → St → Hp → Prop, (∀ ys' σ'' H'', N ys' σ'' H'' → ∃ m', m' < m ∧ W (i + 1) m' ys' σ'' H'') ∧
      ∀ x H'', J.yld i H' x H'' → g x σ' H'' fun σ2 H2 => tt σ2 H2 fun b H3 => if b = true then te σ2 H3 fun y H4 => N (ys ++ [y]) σ2 H4 else N ys σ2 H3)
noncomputable def tComp (nv : Nat) (ix : List Nat) (wi : TI) (g : TG) (tt : TT) (te : TE) : TE := fun σ H Q => wi σ H fun J H1 => compR J g tt te (compSt nv ix σ) H1 fun ys H' => ys.length ≤ sizeLine ∧ ∀ D, H' D = none → Q (.ref D) (upd H' D (.lst ys))

section
variable {X : Cx} {tg elt iter : Expr} {ifs : List Expr} {scope : Scope} {N : List Str} {nv : Nat} {ix : List Nat} {pos spos : Pos} {wi : TI} {g : TG} {tt : TT} {te : TE}
noncomputable def PTs (X : Cx) (ifs : List Expr) (tt : TT) : Prop :=
  ∀ (pins : List (Addr × Obj)) (s : Shared) (σ : St) (H : Hp) (Q : Bool → Hp → Prop), Inv X pins σ H s → tt σ H Q →
    wpAny (model X.prog X.w) X.A (forIn ifs true fun c r => if r = true then do let ok ← isTrue c X.env (eval c X.env); pure (ForInStep.yield ok) else pure (ForInStep.yield r)) (TP X pins σ Q) X.xe s
theorem pts_nil : PTs X [] tYes := fun _ _ _ H _ I h => wpAny_tests_nil ⟨H, I, h⟩
theorem comp_core {use : Option (Value → Sem Unit)} {Qv : Value → Shared → Prop} {pins : List (Addr × Obj)} {s : Shared} {σ : St} {H : Hp} {Q : List V → Hp → Prop} (hc : X.calm = true) (S : CScope X scope N nv ix) (hi : PI X tg iter wi)
    (hg : ∀ cl C s H ex, PG (X.comp scope cl C N s H ex) tg g) (ht : ∀ cl C s H ex, PTs (X.comp scope cl C N s H ex) ifs tt) (he : ∀ cl C s H ex, PE (X.comp scope cl C N s H ex) elt te) (I : Inv X pins σ H s)
    (h : wi σ H fun J H1 => compR J g tt te (compSt nv ix σ) H1 fun ys H' => ys.length ≤ sizeLine ∧ Q ys H')
    (fin : ∀ ys D C H' s' (s2 : Shared) (σ2 : St), Q ys H' → H' D = none → D ≠ C → Inv X pins σ (upd H' D (.lst ys)) s' → (∃ m, s'.heap.Ns C m) → (∀ H'', H'' C = none → FpOk X pins H'' C) → H' C = none → compPost (model X.prog X.w) X.A X.xe use Qv (.ref D) C (.ok .next) s')
    (hs : ∀ x, foldedSetIterable iter X.env x = pure x) :
    wpAny (model X.prog X.w) X.A (comprehension (.ListComp elt [⟨tg, iter, ifs, 0⟩] scope pos) scope X.env (firstIterPos [⟨tg, iter, ifs, 0⟩] pos) (newList []) false (eval iter X.env) use) Qv X.xe s := by
  obtain ⟨cl, hclos, hcl, hcl2⟩ := closure_ok (env := X.env) (scope := scope) fun y hy hf => I.ok.has y.1 (S.fre y hy hf)
  refine wpAny_comprehension_free (use := use) rfl hs hclos S.kind S.names (thn (hi pins s σ H _ I h) fun v s1 h1 => thn h1 fun itv s2 h2 => ?_)
  obtain ⟨it, fp, tn, J, H2, e, I2, T, st2, f2, W, ⟨m0, w0⟩, turn⟩ := h2
  subst e
  refine wpAny_newObj_type (wpAny_newFunctionEnv S.nocell (by intro y hy; simp at hy) (fun h₁ hns₁ hsb₁ => ?_) S.kind)
  dsimp only at hns₁ hsb₁ ⊢
  generalize hH2 : s2.heap.push { cls := .type "list", dict := none, data := .seq ([] : List Value).toArray } = G2 at hns₁ hsb₁ ⊢
  have hC : G2.objs.size = s2.heap.objs.size + 1 := by rw [← hH2, Heap.size_push]
  have hDC : s2.heap.objs.size ≠ G2.objs.size := by rw [hC]; exact Nat.ne_of_lt (Nat.lt_succ_self _)
  have old : ∀ b o, s2.heap.get? b = some o → h₁.get? b = some o := fun b o e => hsb₁.extBut b o (lt_ne e (by rw [hC]; exact Nat.le_succ _)) (Heap.get?_push_of_some _ (hH2 ▸ Heap.get?_push_of_some _ e))
  have hacc : h₁.get? s2.heap.objs.size = some { cls := .type "list", data := .seq ([] : List Value).toArray 0 } := hsb₁.extBut _ _ hDC (Heap.get?_push_of_some _ (hH2 ▸ Heap.get?_push_size _ rfl))
  have hob : ∀ b ∈ fp, b < s2.heap.objs.size := fun b hb => by
    obtain ⟨o, e, _⟩ := T.obj _ _ st2 b hb
    exact Heap.lt_size e
  have hCle : s2.heap.objs.size ≤ G2.objs.size := by rw [hC]; exact Nat.le_succ _
  have I4 : ∀ tk, Inv (X.comp scope cl G2.objs.size N s2 H2 fp) [(s2.heap.objs.size, { cls := .type "list", data := .seq ([] : List Value).toArray 0 })] (compSt nv ix σ) H2 { s2 with heap := h₁, toks := tk } := fun tk =>
    comp_start S I2 hcl hcl2 f2 hob hCle (Nat.le_refl _) hDC old hns₁ hacc (fun v z => by cases z)
  have hst₁ : tn 0 h₁ := T.keep _ _ _ st2 fun b _ o e => old b o e
  have stat : ∀ {H' : Hp} {pns : List (Addr × Obj)}, (∀ p ∈ pns, p.1 = s2.heap.objs.size) → (∀ b ∈ fp, H' b = none) → ∀ b ∈ fp, FpOk (X.comp scope cl G2.objs.size N s2 H2 fp) pns H' b := fun {H' pns} hp hn b hb => by
    obtain ⟨f0, f1, f3, f4, f5, f6⟩ := f2 b hb
    have hlt := hob b hb
    refine ⟨hn b hb, fun z => ?_, fun z => ?_, .inl hb, fun x c e => f5 x c (hcl x c e), fun p hp' z => ?_⟩
    · exact Nat.ne_of_lt (Nat.lt_of_lt_of_le hlt hCle) z
    · rcases List.mem_cons.mp (I2.stkSub b z) with q | q
      · exact f1 q
      · exact f3 q
    · have hp'' : p ∈ pns := by simpa [Cx.comp] using hp'
      exact Nat.ne_of_gt (by rw [hp p hp'']; exact hlt) z
  have loop : ∀ s₃ : Shared, s₃ = { s2 with heap := h₁, toks := s2.toks + ([] : List (Str × Value)).length } →
      codeAny (model X.prog X.w) X.A (.compLoop (.ListComp elt [⟨tg, iter, ifs, 0⟩] scope pos) 0 (.ref it) (.ref s2.heap.objs.size) (compEnvC scope cl G2.objs.size X.env))
        (compPost (model X.prog X.w) X.A X.xe use Qv (.ref s2.heap.objs.size) G2.objs.size) s₃ := by
    rintro s₃ rfl
    refine compLoop_own (fun n s' => ∃ i ys its σ' H', Inv (X.comp scope cl G2.objs.size N s2 H2 fp) [(s2.heap.objs.size, { cls := .type "list", data := .seq its.toArray its.length })] σ' H' s' ∧ tn i s'.heap ∧ (∀ b ∈ fp, H' b = none) ∧ Vals ys its ∧ W i n ys σ' H') ?_ m0
      ⟨0, [], [], _, H2, I4 _, hst₁, fun b hb => (f2 b hb).1, .nil, w0⟩
    rintro n s' ⟨i, ys, its, σ', H', I', st', fr', rv, w'⟩
    have pin1 : ∀ {o : Obj}, ∀ p ∈ [(s2.heap.objs.size, o)], p.1 = s2.heap.objs.size := fun {o} p hp => by
      exact congrArg Prod.fst (List.mem_singleton.mp hp)
    rcases turn i n ys σ' H' w' with ⟨stop, hl, qn⟩ | ⟨go, hlen, Nx, hN, step⟩
    · refine thn (T.done (X.comp scope cl G2.objs.size N s2 H2 fp) rfl rfl rfl hc i _ s' σ' H' (fun _ _ => False) I' (stat pin1 fr') st' stop) fun r s4 ⟨hr, I5⟩ => ?_
      subst hr
      obtain ⟨m5, hm5, _⟩ := I5.loc
      have fD := (I5.pin (s2.heap.objs.size, { cls := .type "list", data := .seq its.toArray its.length }) (List.mem_append_right _ (by simp))).2.1
      exact fin ys _ _ H' s4 s2 σ' qn fD hDC (comp_end I2 f2 (Nat.le_refl _) I5 rv hl) ⟨m5, hm5⟩ (fun H'' hn => I2.fpOk hCle hn) I5.free
    · refine thn (T.item (X.comp scope cl G2.objs.size N s2 H2 fp) rfl rfl rfl hc i _ s' σ' H' (fun _ _ => False) I' (stat pin1 fr') st' go) fun r s4 ⟨u, hr, h4⟩ => ?_
      subst hr
      refine thn h4 fun _ s5 ⟨x, H5, I5, r5, y5, st5, fr5⟩ => ?_
      have I5' := I5.pinned (stat pin1 fr5) (T.obj _ _ st5)
      refine thn (hg _ _ _ _ _ _ s5 σ' H5 x u _ I5' r5 (step x H5 y5)) fun _ s6 ⟨σ6, H6, I6, q6⟩ => ?_
      refine thn (ht _ _ _ _ _ _ s6 σ6 H6 _ I6 q6) fun b s7 ⟨H7, I7, q7⟩ => ?_
      have back : ∀ {σ8 : St} {H8 : Hp} {s8 : Shared}, Inv (X.comp scope cl G2.objs.size N s2 H2 fp) ([(s2.heap.objs.size, { cls := .type "list", data := .seq its.toArray its.length })] ++ pinsAt fp s5.heap) σ8 H8 s8 → tn (i + 1) s8.heap ∧ ∀ b ∈ fp, H8 b = none := fun {σ8 H8 s8} J =>
        ⟨T.keep _ _ _ st5 fun b hb o e => (J.pin (b, o) (List.mem_append_right _ (List.mem_append_right _ (mem_pinsAt hb e)))).1, fun b hb => by
          obtain ⟨o, e, d⟩ := T.obj _ _ st5 b hb
          exact (J.pin (b, o) (List.mem_append_right _ (List.mem_append_right _ (mem_pinsAt hb e)))).2.1⟩
      cases b with
      | false =>
        rw [if_neg Bool.false_ne_true] at q7
        obtain ⟨m', hm, w7⟩ := hN _ _ _ q7
        exact ⟨m', hm, i + 1, ys, its, σ6, H7, I7.unpinned, (back I7).1, (back I7).2, rv, w7⟩
      | true =>
        rw [if_pos rfl] at q7
        refine thn (he _ _ _ _ _ _ s7 σ6 H7 _ I7 q7) fun y s8 ⟨yv, H8, I8, r8, q8⟩ => ?_
        obtain ⟨eD, fD, nD, nfD, dD⟩ := I8.pin (s2.heap.objs.size, { cls := .type "list", data := .seq its.toArray its.length }) (List.mem_append_right _ (by simp))
        refine append_at (hsz := by rw [List.size_toArray, ← rv.length]; exact Nat.le_of_lt hlen) eD fun h₅ hs₅ hD₅ => ?_
        obtain ⟨m', hm, w8⟩ := hN _ _ _ q8
        have fpD : s2.heap.objs.size ∉ fp := fun z => Nat.lt_irrefl _ (hob _ z)
        have I9 : Inv (X.comp scope cl G2.objs.size N s2 H2 fp) [] σ6 H8 s8 := I8.pins_of fun p hp => absurd hp (by simp)
        have fk := I2.fpOk (H' := H8) (Nat.le_refl _) fD
        have I10 : Inv (X.comp scope cl G2.objs.size N s2 H2 fp) [] σ6 H8 { s8 with heap := h₅, toks := s8.toks } :=
          I9.turned (it := s2.heap.objs.size) (fun b o hb e => hs₅.extBut b o hb e) fD nD (.inr (Nat.le_refl _)) (fun x c e => fk.2.2.2.2.1 x c (hcl x c e)) (fun p hp => absurd hp (by simp [Cx.comp]))
        refine ⟨m', hm, i + 1, ys ++ [yv], its ++ [y], σ6, H8, I10.pins_of fun p hp => ?_, ?_, (back I8).2, rv.append (.cons r8 .nil), w8⟩
        · have e : p = (s2.heap.objs.size, { cls := .type "list", data := .seq (its ++ [y]).toArray (its ++ [y]).length }) := by simpa using hp
          subst e
          refine ⟨?_, fD, nD, nfD, fun v z => by cases z⟩
          show h₅.get? s2.heap.objs.size = _
          rw [hD₅, List.push_toArray, List.length_append, List.length_singleton]
        · exact T.keep _ _ _ (back I8).1 fun b hb o e => hs₅.extBut b o (fun z => fpD (by have z' : b = s2.heap.objs.size := z; rw [← z']; exact hb)) e
  exact codeAny_compStart_list (loop _ rfl) (T.self _ 0 _ _ _ hst₁ (loop _ rfl))

theorem pe_comp (hc : X.calm = true) (S : CScope X scope N nv ix) (hi : PI X tg iter wi)
    (hg : ∀ cl C s H ex, PG (X.comp scope cl C N s H ex) tg g) (ht : ∀ cl C s H ex, PTs (X.comp scope cl C N s H ex) ifs tt) (he : ∀ cl C s H ex, PE (X.comp scope cl C N s H ex) elt te)
    (hs : ∀ x, foldedSetIterable iter X.env x = pure x := by intro _; rfl) : PE X (.ListComp elt [⟨tg, iter, ifs, 0⟩] scope pos) (tComp nv ix wi g tt te) := by
  intro pins s σ H Q I h
  rw [eval_ListComp]
  refine comp_core (Q := fun ys H' => ∀ D, H' D = none → Q (.ref D) (upd H' D (.lst ys))) (use := none) hc S hi hg ht he I ?_ (fun ys D C H' s' s2 σ2 q fD hDC J hm fk fC => ?_) hs
  · exact h
  · obtain ⟨m, hm⟩ := hm
    refine ⟨m, hm, fun h' sb => ⟨.ref D, _, ?_, rfl, q D fD⟩⟩
    have fC' : upd H' D (.lst ys) C = none := by rw [upd_ne (Ne.symm hDC)]; exact fC
    obtain ⟨f0, f1, f2, f3, f4, f5⟩ := fk _ fC'
    exact J.turned (t' := s'.toks) (it := C) (fun b o hb e => sb.extBut b o hb e) f0 f1 f3 f4 f5
end
end L2


set_option maxRecDepth 100000
namespace L2
open PySem PySem.Spec PyProof.Rows

noncomputable def Its (x : Str) : It := ⟨fun i _ => i < x.cps.size, fun i H v H' => H' = H ∧ ∃ c, x.cps[i]? = some c ∧ v = .str ⟨#[c]⟩, fun i _ => x.cps.size ≤ i⟩
theorem turn_str {P : Program} {w : World} {K : PySem.W.Frag} {tg : Expr} (it : Addr) (x : Str) (t : Tok) (T : String) (hT : T = "str_ascii_iterator" ∨ T = "str_iterator") : Turn P w K tg (Its x) [it] it (fun i h => h.IsStrIter it T x t i) where
  mem := by simp
  obj := fun i h st b hb => by
    have e : b = it := by simpa using hb
    subst e
    obtain ⟨o, e, c, d⟩ := st
    exact ⟨o, e, fun v z => by rw [d] at z; cases z⟩
  keep := fun i h h' st k => by
    obtain ⟨o, e, r⟩ := st
    exact ⟨o, k it (by simp) o e, r⟩
  item := by
    intro X hP hw hK hc i pins s σ H E I hf st hg
    subst hP hw hK
    obtain ⟨f0, f1, f2, f3, f4, f5⟩ := hf it (by simp)
    have hg' : i < x.cps.size := hg
    have W : Walks X.prog X.w X.A it [it] [it] x.cps.size (SignAt x) (fun i h => h.IsStrIter it T x t i) := by
      rcases hT with rfl | rfl
      · exact Walks.strAscii (I.ok.hd hc) it x t
      · exact Walks.strWide (I.ok.hd hc) it x t
    refine W.item i s _ _ hg' st fun v h' tk hv st' kk => ?_
    obtain ⟨c, u, hcx, rfl⟩ := hv
    have I1 : Inv X pins σ H { s with heap := h', toks := tk } := I.turned (fun b o hb e => kk b o (by simpa using hb) e) f0 f1 f3 f4 f5
    obtain ⟨o, e, c', d⟩ := id st'
    refine ⟨_, rfl, go_of (s := { s with heap := h', toks := tk }) e c' d (by rcases hT with rfl | rfl <;> decide) ⟨.str ⟨#[c]⟩, H, I1, ⟨u, rfl⟩, ⟨rfl, c, hcx, rfl⟩, st', fun b hb => (hf b hb).1⟩⟩
  done := by
    intro X hP hw hK hc i pins s σ H E I hf st hg
    subst hP hw hK
    obtain ⟨f0, f1, f2, f3, f4, f5⟩ := hf it (by simp)
    have hg' : x.cps.size ≤ i := hg
    have he : x.cps[i]? = none := by simp [hg']
    rcases hT with rfl | rfl
    · exact wpAny_pyNext_ascii_end (I.ok.hd hc) st he fun h' eb => ⟨rfl, I.turned (t' := s.toks) (fun b o hb e => eb b o hb e) f0 f1 f3 f4 f5⟩
    · exact wpAny_pyNext_wide_end (I.ok.hd hc) st he fun h' eb => ⟨rfl, I.turned (t' := s.toks) (fun b o hb e => eb b o hb e) f0 f1 f3 f4 f5⟩
  self := fun _ _ _ _ _ st h => by
    rcases hT with rfl | rfl
    · exact wpAny_pyIter_striter_ascii st h
    · exact wpAny_pyIter_striter_wide st h

noncomputable def seqR (K : PySem.W.Frag) (x : V) (H1 : Hp) (R : It → Hp → Prop) : Prop := match x with
  | .ref a => (∃ xs, SqL K H1 a xs ∧ R (Itl K a) H1) ∨ (∃ xs, SqT K H1 a xs ∧ R (Itt K a) H1)
  | .str z => R (Its z) H1
  | _ => False
noncomputable def iSeq (K : PySem.W.Frag) (tl : TE) : TI := fun σ H R => tl σ H fun x H1 => seqR K x H1 R
theorem pi_seq {X : Cx} {tg l : Expr} {tl : TE} (hl : PE X l tl) : PI X tg l (iSeq X.K tl) := by
  intro pins s σ H R I h
  refine thn (hl pins s σ H _ I h) fun v s1 ⟨x, H1, I1, r1, q1⟩ => ?_
  cases x with
  | ref a =>
    cases r1
    rcases q1 with ⟨xs, hq, q⟩ | ⟨xs, hq, q⟩
    · obtain ⟨its, rv, p, hz⟩ := I1.list hq
      refine wpAny_pyIter_list p.isList ?_
      refine ⟨s1.heap.objs.size, [s1.heap.objs.size], _, _, H1, rfl, I1.kept (t' := s1.toks) fun b o e => Heap.get?_push_of_some _ e, turn_list a _, ⟨_, Heap.get?_push_size _ rfl, rfl, rfl⟩, fun b hb => ?_, q⟩
      have e : b = s1.heap.objs.size := by simpa using hb
      subst e
      exact I1.fpOk (Nat.le_refl _) (I1.hok.fresh (Nat.le_refl _))
    · obtain ⟨its, rv, p, hz⟩ := I1.tuple hq
      refine wpAny_pyIter_tuple (show s1.heap.IsTuple a its.toArray from p) ?_
      refine ⟨s1.heap.objs.size, [s1.heap.objs.size], _, _, H1, rfl, I1.kept (t' := s1.toks) fun b o e => Heap.get?_push_of_some _ e, turn_tuple a _, ⟨_, Heap.get?_push_size _ rfl, rfl, rfl⟩, fun b hb => ?_, q⟩
      have e : b = s1.heap.objs.size := by simpa using hb
      subst e
      exact I1.fpOk (Nat.le_refl _) (I1.hok.fresh (Nat.le_refl _))
  | str z =>
    obtain ⟨t, rfl⟩ := r1
    have fp : ∀ b ∈ [s1.heap.objs.size], FpOk X pins H1 b := fun b hb => by
      have e : b = s1.heap.objs.size := by simpa using hb
      subst e
      exact I1.fpOk (Nat.le_refl _) (I1.hok.fresh (Nat.le_refl _))
    cases ha : z.cps.all (· < 128)
    · exact wpAny_pyIter_wide ha ⟨s1.heap.objs.size, [s1.heap.objs.size], _, _, H1, rfl, I1.kept (t' := s1.toks) fun b o e => Heap.get?_push_of_some _ e, turn_str _ z t _ (.inr rfl), ⟨_, Heap.get?_push_size _ rfl, rfl, rfl⟩, fp, q1⟩
    · exact wpAny_pyIter_ascii ha ⟨s1.heap.objs.size, [s1.heap.objs.size], _, _, H1, rfl, I1.kept (t' := s1.toks) fun b o e => Heap.get?_push_of_some _ e, turn_str _ z t _ (.inl rfl), ⟨_, Heap.get?_push_size _ rfl, rfl, rfl⟩, fp, q1⟩
  | _ => exact q1.elim

noncomputable def forR (J : It) (g : TG) (tb : TS) (D : Ends) (σ : St) (H : Hp) : Prop := ∃ W : Nat → Nat → St → Hp → Prop, (∃ m, W 0 m σ H) ∧ ∀ i m σ H, W i m σ H →
  (J.stop i H ∧ D.nx σ H) ∨ (J.go i H ∧ ∃ N : St → Hp → Prop, (∀ σ' H', N σ' H' → ∃ m', m' < m ∧ W (i + 1) m' σ' H') ∧ ∀ x H', J.yld i H x H' → g x σ H' fun σ2 H2 => tb { D with nx := N, ct := N, bk := D.nx } σ2 H2)
section
variable {K : PySem.W.Frag} {tl : TE} {g : TG} {tb : TS} {D : Ends} {σ : St} {H : Hp} {tt : TT} {te : TE} {nv : Nat} {ix : List Nat} {Q : VK} {ta : TA}
theorem tFor_seq : tFor (iSeq K tl) g tb D σ H = tl σ H fun x H1 => seqR K x H1 fun J H2 => forR J g tb D σ H2 := rfl
theorem tComp_seq : tComp nv ix (iSeq K tl) g tt te σ H Q = tl σ H fun x H1 => seqR K x H1 fun J H2 => compR J g tt te (compSt nv ix σ) H2 fun ys H' => ys.length ≤ sizeLine ∧ ∀ l, H' l = none → Q (.ref l) (upd H' l (.lst ys)) := rfl
noncomputable def rngR1 (vs : List V) (H1 : Hp) (R : It → Hp → Prop) : Prop := match vs with
  | [.int j] => (-(2 ^ 62) ≤ j ∧ j < 2 ^ 62) ∧ R (Itr 0 j.toNat) H1
  | _ => False
noncomputable def rngR2 (vs : List V) (H1 : Hp) (R : It → Hp → Prop) : Prop := match vs with
  | [.int i, .int j] => (-(2 ^ 62) ≤ i ∧ i < 2 ^ 62 ∧ -(2 ^ 62) ≤ j ∧ j < 2 ^ 62) ∧ R (Itr i (j - i).toNat) H1
  | _ => False
noncomputable def jRng1 (ta : TA) : TI := fun σ H R => ta σ H fun vs H1 => rngR1 vs H1 R
noncomputable def jRng2 (ta : TA) : TI := fun σ H R => ta σ H fun vs H1 => rngR2 vs H1 R
noncomputable def rngR3 (vs : List V) (H1 : Hp) (R : It → Hp → Prop) : Prop := match vs with
  | [.int i, .int j, .int c] => (-(2 ^ 61) ≤ i ∧ i < 2 ^ 61 ∧ -(2 ^ 61) ≤ j ∧ j < 2 ^ 61 ∧ 0 < c ∧ c < 1000000) ∧ R (ItrS i c (rcount i j c)) H1
  | _ => False
noncomputable def jRng3 (ta : TA) : TI := fun σ H R => ta σ H fun vs H1 => rngR3 vs H1 R
theorem tFor_rng1 : tFor (jRng1 ta) g tb D σ H = ta σ H fun vs H1 => rngR1 vs H1 fun J H2 => forR J g tb D σ H2 := rfl
theorem tFor_rng2 : tFor (jRng2 ta) g tb D σ H = ta σ H fun vs H1 => rngR2 vs H1 fun J H2 => forR J g tb D σ H2 := rfl
theorem tFor_rng3 : tFor (jRng3 ta) g tb D σ H = ta σ H fun vs H1 => rngR3 vs H1 fun J H2 => forR J g tb D σ H2 := rfl
theorem tComp_rng1 : tComp nv ix (jRng1 ta) g tt te σ H Q = ta σ H fun vs H1 => rngR1 vs H1 fun J H2 => compR J g tt te (compSt nv ix σ) H2 fun ys H' => ys.length ≤ sizeLine ∧ ∀ l, H' l = none → Q (.ref l) (upd H' l (.lst ys)) := rfl
theorem tComp_rng2 : tComp nv ix (jRng2 ta) g tt te σ H Q = ta σ H fun vs H1 => rngR2 vs H1 fun J H2 => compR J g tt te (compSt nv ix σ) H2 fun ys H' => ys.length ≤ sizeLine ∧ ∀ l, H' l = none → Q (.ref l) (upd H' l (.lst ys)) := rfl
theorem tComp_rng3 : tComp nv ix (jRng3 ta) g tt te σ H Q = ta σ H fun vs H1 => rngR3 vs H1 fun J H2 => compR J g tt te (compSt nv ix σ) H2 fun ys H' => ys.length ≤ sizeLine ∧ ∀ l, H' l = none → Q (.ref l) (upd H' l (.lst ys)) := rfl
theorem rngR1_int {j : Int} {R : It → Hp → Prop} : rngR1 [.int j] H R = ((-(2 ^ 62) ≤ j ∧ j < 2 ^ 62) ∧ R (Itr 0 j.toNat) H) := rfl
theorem rngR2_int {i j : Int} {R : It → Hp → Prop} : rngR2 [.int i, .int j] H R = ((-(2 ^ 62) ≤ i ∧ i < 2 ^ 62 ∧ -(2 ^ 62) ≤ j ∧ j < 2 ^ 62) ∧ R (Itr i (j - i).toNat) H) := rfl
theorem rngR3_int {i j c : Int} {R : It → Hp → Prop} : rngR3 [.int i, .int j, .int c] H R = ((-(2 ^ 61) ≤ i ∧ i < 2 ^ 61 ∧ -(2 ^ 61) ≤ j ∧ j < 2 ^ 61 ∧ 0 < c ∧ c < 1000000) ∧ R (ItrS i c (rcount i j c)) H) := rfl
end
section
variable {X : Cx} {tg : Expr}
theorem pj_range2 {a b : Expr} {ta : TA} {p pos : Pos} (hg : Gl X "range") (hm : X.mg "range" = none) (ha : PA X [a, b] ta) (hs : starEach [a, b] X.env = [(false, eval a X.env), (false, eval b X.env)] := by rfl) (hs2 : starEach [b] X.env = [(false, eval b X.env)] := by rfl) :
    PI X tg (.Call (.Name "range" p) [a, b] [] pos) (jRng2 ta) := by
  intro pins s σ H R I h
  refine Call_ (ld_blt I hg hm boot_range (PyProof.Rows.callWith_type1 (thn (ha pos pins s σ H _ I h) fun us s1 ⟨vs, H1, I1, r1, q1⟩ => ?_) (by rw [hs, hs2]) (by rw [hs2]; rfl)))
  replace q1 : rngR2 vs H1 R := q1
  unfold rngR2 at q1
  split at q1
  · obtain ⟨⟨q1, q2, q3, q4⟩, q⟩ := q1
    cases r1 with
    | cons r rr =>
      cases rr with
      | cons r' rr =>
        cases rr
        obtain ⟨t, rfl⟩ := r
        obtain ⟨t', rfl⟩ := r'
        exact call_range_2 (range_it I1 q1 q2 q3 q4 q)
  · exact q1.elim
end
section
variable {K : PySem.W.Frag} {g : TG} {tb : TS} {D : Ends} {σ : St} {H : Hp}
theorem fo_list {a : Addr} {xs : List V} (hS : SqL K H a xs) (Pv : Nat → St → Hp → Prop) (h0 : Pv 0 σ H) (hl : ∀ i σ H, i ≤ xs.length → Pv i σ H → SqL K H a xs)
    (hs : ∀ i x σ H, xs[i]? = some x → Pv i σ H → g x σ H fun σ2 H2 => tb { D with nx := Pv (i + 1), ct := Pv (i + 1), bk := D.nx } σ2 H2) (hd : ∀ σ H, Pv xs.length σ H → D.nx σ H) :
    seqR K (.ref a) H fun J H2 => forR J g tb D σ H2 := .inl ⟨xs, hS, for_list Pv h0 hl hs hd⟩
theorem fo_rng {lo : Int} {n : Nat} (Pv : Nat → St → Hp → Prop) (h0 : Pv 0 σ H)
    (hs : ∀ (i : Nat) σ H, i < n → Pv i σ H → g (.int (lo + i)) σ H fun σ2 H2 => tb { D with nx := Pv (i + 1), ct := Pv (i + 1), bk := D.nx } σ2 H2) (hd : ∀ σ H, Pv n σ H → D.nx σ H) :
    forR (Itr lo n) g tb D σ H := for_range Pv h0 hs hd
end

section
variable {K : PySem.W.Frag} {tt : TT} {te : TE} {H : Hp} {tail : St} {Q : List V → Hp → Prop} {p : V → Bool} {f : V → V}
theorem comp_pure {J : It} {n : Nat} {xs : List V} (hn : xs.length = n) (hz : n ≤ sizeLine) (go : ∀ i, i < n → J.go i H) (stop : J.stop n H) (yl : ∀ i x H', i < n → J.yld i H x H' → H' = H ∧ xs[i]? = some x)
    (ht : ∀ x ∈ xs, ∀ Q : Bool → Hp → Prop, Q (p x) H → tt (some x :: tail) H Q) (he : ∀ x ∈ xs, p x = true → ∀ Q : VK, Q (f x) H → te (some x :: tail) H Q) (q : Q ((xs.filter p).map f) H) :
    compR J (gName 0) tt te (none :: tail) H Q := by
  refine ⟨fun i m ys σ' H' => i ≤ n ∧ m = n - i ∧ ys = ((xs.take i).filter p).map f ∧ (∃ v, σ' = v :: tail) ∧ H' = H, ⟨n, Nat.zero_le _, rfl, by simp, ⟨_, rfl⟩, rfl⟩, ?_⟩
  rintro i m ys σ' H' ⟨hi, rfl, rfl, ⟨v, rfl⟩, rfl⟩
  by_cases e : i = n
  · subst e
    refine .inl ⟨stop, ?_⟩
    rw [List.take_of_length_le (by omega)]
    exact q
  · have hlt : i < n := by omega
    refine .inr ⟨go i hlt, ?_, fun ys' σ'' H'' => ys' = ((xs.take (i + 1)).filter p).map f ∧ (∃ v, σ'' = v :: tail) ∧ H'' = H', fun ys' σ'' H'' ⟨a, b, c⟩ => ⟨n - (i + 1), by omega, by omega, rfl, a, b, c⟩, fun x H'' y => ?_⟩
    · have h1 : (((xs.take i).filter p).map f).length ≤ i := by
        rw [List.length_map]
        exact Nat.le_trans (List.length_filter_le _ _) (by rw [List.length_take]; omega)
      omega
    · obtain ⟨rfl, hx⟩ := yl i x H'' hlt y
      have hm : x ∈ xs := List.mem_of_getElem? hx
      have tk : xs.take (i + 1) = xs.take i ++ [x] := by
        rw [List.take_succ, hx]; rfl
      show tt _ _ _
      refine ht x hm _ ?_
      cases hp : p x with
      | true =>
        rw [if_pos rfl]
        refine he x hm hp _ ⟨?_, ⟨_, rfl⟩, rfl⟩
        rw [tk, List.filter_append, List.map_append]
        simp [hp]
      | false =>
        rw [if_neg Bool.false_ne_true]
        refine ⟨?_, ⟨_, rfl⟩, rfl⟩
        rw [tk, List.filter_append, List.map_append]
        simp [hp]
theorem co_list {a : Addr} {xs : List V} (hS : SqL K H a xs) (hz : xs.length ≤ sizeLine) (ht : ∀ x ∈ xs, ∀ Q : Bool → Hp → Prop, Q (p x) H → tt (some x :: tail) H Q) (he : ∀ x ∈ xs, p x = true → ∀ Q : VK, Q (f x) H → te (some x :: tail) H Q) (q : Q ((xs.filter p).map f) H) :
    seqR K (.ref a) H fun J H2 => compR J (gName 0) tt te (none :: tail) H2 Q :=
  .inl ⟨xs, hS, comp_pure (n := xs.length) rfl hz (fun i hi => ⟨xs, xs[i], hS, by simp [hi]⟩) ⟨xs, hS, Nat.le_refl _⟩ (fun i x H' hi y => ⟨y.1, y.2 xs hS⟩) ht he q⟩
theorem compSt_one {ix : List Nat} {σ : St} : compSt 1 ix σ = none :: ix.map fun i => (σ[i]?).join := rfl
end
end L2


set_option maxRecDepth 100000
namespace L2
open PySem PySem.Spec PyProof.Rows

section
variable {X : Cx}
noncomputable def rIsB (neg : Bool) : R2 := fun x y H Q => match y with
  | .bl b => Q (.bl (if neg then !decide (x = .bl b) else decide (x = .bl b))) H
  | _ => False
theorem dec_blbl {a b : Bool} : decide (V.bl a = V.bl b) = decide (a = b) := by
  cases a <;> cases b <;> decide
theorem rIsB_bl {a b : Bool} {H : Hp} {Q : VK} : rIsB false (.bl a) (.bl b) H Q = Q (.bl (decide (a = b))) H := by
  show Q (.bl (if false = true then _ else decide (V.bl a = V.bl b))) H = _
  rw [if_neg Bool.false_ne_true, dec_blbl]
theorem rIsnotB_bl {a b : Bool} {H : Hp} {Q : VK} : rIsB true (.bl a) (.bl b) H Q = Q (.bl (!decide (a = b))) H := by
  show Q (.bl (if true = true then !decide (V.bl a = V.bl b) else _)) H = _
  rw [if_pos rfl, dec_blbl]

noncomputable def rIsN (neg : Bool) : R2 := fun x y H Q => match y with
  | .non => Q (.bl (if neg then !decide (x = .non) else decide (x = .non))) H
  | _ => False
theorem op_isNA : OpR X (compareOp .Is) (rIsN false) := OpR.imp op_isN fun x y H Q h => by
  unfold rIsN at h
  split at h
  · exact ⟨rfl, h⟩
  · exact h.elim
theorem op_notNA : OpR X (compareOp .IsNot) (rIsN true) := OpR.imp op_notN fun x y H Q h => by
  unfold rIsN at h
  split at h
  · exact ⟨rfl, h⟩
  · exact h.elim
theorem rIsN_f {x : V} {H : Hp} {Q : VK} : rIsN false x .non H Q = Q (.bl (decide (x = .non))) H := rfl
theorem rIsN_t {x : V} {H : Hp} {Q : VK} : rIsN true x .non H Q = Q (.bl (!decide (x = .non))) H := rfl

noncomputable def rBitlen : V → List V → Hp → VK → Prop := fun x vs H Q => match x, vs with
  | .int i, [] => Q (.int ((Builtin.Int.intBits i : Nat) : Int)) H
  | _, _ => False
theorem tyV_int {K : PySem.W.Frag} {i : Int} {H : Hp} : tyV K "int" (.int i) H = True := by
  show ("int" = "int") = True
  simp
theorem tyV_str {K : PySem.W.Frag} {z : Str} {H : Hp} : tyV K "str" (.str z) H = True := by
  show ("str" = "str") = True
  simp
theorem rBitlen_int {i : Int} {H : Hp} {Q : VK} : rBitlen (.int i) [] H Q = Q (.int ((Builtin.Int.intBits i : Nat) : Int)) H := rfl

noncomputable def rSlA (K : PySem.W.Frag) : V → Option Int → Option Int → Hp → VK → Prop := fun x lo hi H Q => match x with
  | .ref a => (∃ xs, SqL K H a xs ∧ ∀ p, H p = none → Q (.ref p) (upd H p (.lst (cutV xs lo hi)))) ∨ rSlT K (.ref a) lo hi H Q
  | .str z => z.length ≤ sizeLine ∧ Q (.str (Txt.slice z lo hi)) H
  | _ => False
theorem rSlA_str {K : PySem.W.Frag} {z : Str} {lo hi : Option Int} {H : Hp} {Q : VK} : rSlA K (.str z) lo hi H Q = (z.length ≤ sizeLine ∧ Q (.str (Txt.slice z lo hi)) H) := rfl
noncomputable def rInA (K : PySem.W.Frag) (neg : Bool) : R2 := fun x y H Q => match y with
  | .ref p => ∃ xs, (SqL K H p xs ∨ SqT K H p xs) ∧ flatV x = true ∧ xs.all flatV = true ∧ Q (.bl (if neg then !inV x xs else inV x xs)) H
  | .str j => (match x with
    | .str i => Q (.bl (if neg then !(!(Builtin.Str.occurrences j i 0 j.length 1).isEmpty) else !(Builtin.Str.occurrences j i 0 j.length 1).isEmpty)) H
    | _ => False)
  | _ => False
theorem rInA_ref {K : PySem.W.Frag} {neg : Bool} {x : V} {p : Addr} {H : Hp} {Q : VK} : rInA K neg x (.ref p) H Q = (∃ xs, (SqL K H p xs ∨ SqT K H p xs) ∧ flatV x = true ∧ xs.all flatV = true ∧ Q (.bl (if neg then !inV x xs else inV x xs)) H) := rfl
theorem rInA_str {K : PySem.W.Frag} {neg : Bool} {i j : Str} {H : Hp} {Q : VK} : rInA K neg (.str i) (.str j) H Q = Q (.bl (if neg then !(!(Builtin.Str.occurrences j i 0 j.length 1).isEmpty) else !(Builtin.Str.occurrences j i 0 j.length 1).isEmpty)) H := rfl
end

inductive Dt where
  | non | int (i : Int) | str (z : Str) | l (ds : List Dt) | t (ds : List Dt)
noncomputable def Den (K : PySem.W.Frag) (H : Hp) : Nat → V → Dt → Prop
  | 0, x, d => (x = .non ∧ d = .non) ∨ (∃ i, x = .int i ∧ d = .int i) ∨ (∃ z, x = .str z ∧ d = .str z)
  | n + 1, x, d => Den K H n x d ∨ (∃ a xs ds, x = .ref a ∧ d = .l ds ∧ SqL K H a xs ∧ Paired (Den K H n) xs ds) ∨ (∃ a xs ds, x = .ref a ∧ d = .t ds ∧ SqT K H a xs ∧ Paired (Den K H n) xs ds)
theorem Paired.get {α β : Type} {F : α → β → Prop} : ∀ {xs : List α} {ys : List β} {i : Nat} {x : α}, Paired F xs ys → xs[i]? = some x → ∃ y, ys[i]? = some y ∧ F x y
  | _, _, _, _, .nil, e => by simp at e
  | _, _, 0, _, .cons r _, e => by simp at e; subst e; exact ⟨_, rfl, r⟩
  | _, _, i + 1, x, .cons _ t, e => by
    obtain ⟨u, h1, h2⟩ := Paired.get (i := i) (x := x) t (by simpa using e)
    exact ⟨u, by simpa using h1, h2⟩
open Classical in
theorem all_range_eq {α : Type} {xs ys : List α} {e : Nat → Bool} (hl : xs.length = ys.length) (h : ∀ j a b, xs[j]? = some a → ys[j]? = some b → e j = decide (a = b)) : (List.range xs.length).all e = decide (xs = ys) := by
  rw [Bool.eq_iff_iff, List.all_eq_true, decide_eq_true_eq]
  constructor
  · intro q
    refine List.ext_getElem hl fun j h1 h2 => ?_
    have := q j (List.mem_range.mpr h1)
    rw [h j xs[j] ys[j] (by simp [h1]) (by simp [h2]), decide_eq_true_eq] at this
    exact this
  · rintro rfl j hj
    have hj' := List.mem_range.mp hj
    rw [h j xs[j] xs[j] (by simp [hj']) (by simp [hj']), decide_eq_true_eq]
section
variable {X : Cx} {pins : List (Addr × Obj)} {σ : St} {H : Hp} {s : Shared}
open Classical in
theorem paired_det {F G : V → Dt → Prop} : ∀ {xs : List V} {ds es : List Dt}, Paired F xs ds → Paired G xs es → (∀ x d e, F x d → G x e → d = e) → ds = es
  | _, _, _, .nil, .nil, _ => rfl
  | _, _, _, .cons r t, .cons r' t', f => by rw [f _ _ _ r r', paired_det t t' f]
theorem list_not_tuple {a : Addr} {xs ys : List V} (I : Inv X pins σ H s) (h : SqL X.K H a xs) (h' : SqT X.K H a ys) : False := by
  obtain ⟨its, _, p, _⟩ := I.list h
  obtain ⟨its', _, p', _⟩ := I.tuple h'
  obtain ⟨o, n, e, c, _⟩ := p
  obtain ⟨o', e', c', _⟩ := p'
  rw [e] at e'
  cases e'
  rw [c] at c'
  injection c' with z
  exact absurd z (by decide)
theorem size_ne {its its2 : List Value} (h : ¬ its.length = its2.length) : (its.toArray.size != its2.toArray.size) = true := by
  rw [List.size_toArray, List.size_toArray, bne_iff_ne]
  exact h
open Classical in
open Classical in
theorem all_items {ds es : List Dt} {n : Nat} (hn : n = ds.length) (hl : ds.length = es.length) : (List.range n).all (fun j => decide (ds[j]? = es[j]?)) = decide (ds = es) := by
  subst hn
  exact all_range_eq hl fun j a b ha hb => by
    rw [ha, hb, Bool.eq_iff_iff, decide_eq_true_eq, decide_eq_true_eq]
    exact ⟨fun q => Option.some.inj q, fun q => by rw [q]⟩
open Classical in
end

noncomputable def rEqA (K : PySem.W.Frag) (neg : Bool) : R2 := fun x y H Q => match x, y with
  | .ref a, .ref b => ∃ n d e, n ≤ 60 ∧ Den K H n (.ref a) d ∧ Den K H n (.ref b) e ∧ ((d = e ∧ Q (.bl (!neg)) H) ∨ (d ≠ e ∧ Q (.bl neg) H))
  | x, y => scal x y = true ∧ Q (.bl (if neg then !decide (x = y) else decide (x = y))) H
section
variable {X : Cx}
open Classical in
open Classical in
end
section
variable {K : PySem.W.Frag} {H : Hp} {Q : VK}
theorem rEqA_int {i j : Int} : rEqA K false (.int i) (.int j) H Q = Q (.bl (decide (i = j))) H := by
  show (scal (.int i) (.int j) = true ∧ Q (.bl (if false = true then _ else decide (V.int i = V.int j))) H) = _
  rw [if_neg Bool.false_ne_true]
  exact rEq_int
theorem rNeA_int {i j : Int} : rEqA K true (.int i) (.int j) H Q = Q (.bl (!decide (i = j))) H := by
  show (scal (.int i) (.int j) = true ∧ Q (.bl (if true = true then !decide (V.int i = V.int j) else _)) H) = _
  rw [if_pos rfl]
  exact rNe_int
theorem rEqA_str {i j : Str} : rEqA K false (.str i) (.str j) H Q = Q (.bl (decide (i = j))) H := by
  show (scal (.str i) (.str j) = true ∧ Q (.bl (if false = true then _ else decide (V.str i = V.str j))) H) = _
  rw [if_neg Bool.false_ne_true]
  exact rEq_str
theorem rNeA_str {i j : Str} : rEqA K true (.str i) (.str j) H Q = Q (.bl (!decide (i = j))) H := by
  show (scal (.str i) (.str j) = true ∧ Q (.bl (if true = true then !decide (V.str i = V.str j) else _)) H) = _
  rw [if_pos rfl]
  exact rNe_str
theorem rEqA_bl {i j : Bool} : rEqA K false (.bl i) (.bl j) H Q = Q (.bl (decide (i = j))) H := by
  show (scal (.bl i) (.bl j) = true ∧ Q (.bl (if false = true then _ else decide (V.bl i = V.bl j))) H) = _
  rw [if_neg Bool.false_ne_true]
  exact rEq_bl
theorem rNeA_bl {i j : Bool} : rEqA K true (.bl i) (.bl j) H Q = Q (.bl (!decide (i = j))) H := by
  show (scal (.bl i) (.bl j) = true ∧ Q (.bl (if true = true then !decide (V.bl i = V.bl j) else _)) H) = _
  rw [if_pos rfl]
  exact rNe_bl
end
end L2


set_option maxRecDepth 100000
namespace L2
open PySem PySem.Spec PyProof.Rows

noncomputable def csOk (osc scope : Scope) (ON N : List Str) (nv : Nat) (ix : List Nat) : Bool :=
  scope.kind == .function && scope.names.all (fun y => y.2 != .cell && (y.2 != .local || scope.names.lookup y.1 == some .local) && (y.2 != .free || (osc.names.lookup y.1 == some .cell || osc.names.lookup y.1 == some .free))) &&
    N.length == nv + ix.length && (List.range ix.length).all fun j => match N[nv + j]?, ix[j]? with
      | some y, some i => ON[i]? == some y && (osc.names.lookup y == some .cell || osc.names.lookup y == some .free) && scope.names.lookup y == some .free
      | _, _ => false
theorem cs_of {X : Cx} {scope : Scope} {N : List Str} {nv : Nat} {ix : List Nat} (h : csOk X.env.scope scope X.N N nv ix = true) : CScope X scope N nv ix := by
  unfold csOk at h
  simp only [Bool.and_eq_true, beq_iff_eq, List.all_eq_true, List.mem_range, Bool.or_eq_true, bne_iff_ne, ne_eq] at h
  obtain ⟨⟨⟨h1, h2⟩, h3⟩, h4⟩ := h
  refine ⟨h1, fun y hy => (h2 y hy).1.1, fun y hy hl => ?_, fun y hy hf => ?_, h3, fun j y e => ?_⟩
  · rcases (h2 y hy).1.2 with z | z
    · exact absurd hl z
    · exact z
  · rcases (h2 y hy).2 with z | z
    · exact absurd hf z
    · exact z
  · have hj : j < ix.length := by
      have := (List.getElem?_eq_some_iff.mp e).1
      omega
    have q := h4 j hj
    rw [e, List.getElem?_eq_getElem hj] at q
    simp only [Bool.and_eq_true, beq_iff_eq, Bool.or_eq_true] at q
    exact ⟨ix[j], List.getElem?_eq_getElem hj, q.1.1, q.1.2, q.2⟩

noncomputable def tTC (K : PySem.W.Frag) (vs : List V) : TE := fun _ H Q => ∀ a, (∀ H, SqT K H a vs) → (∀ H, tyV K "tuple" (.ref a) H) → Q (.ref a) H
theorem all_range_bools (bs : List Bool) : (List.range bs.length).all (fun i => bs.getD i false) = bs.all id := by
  rw [Bool.eq_iff_iff, List.all_eq_true, List.all_eq_true]
  constructor
  · intro h b hb
    obtain ⟨i, hi, rfl⟩ := List.getElem_of_mem hb
    have := h i (List.mem_range.mpr hi)
    simpa [List.getD, hi] using this
  · intro h i hi
    have hi' := List.mem_range.mp hi
    have := h bs[i] (List.getElem_mem hi')
    simpa [List.getD, hi'] using this
section
variable {X : Cx}
noncomputable def rAll (K : PySem.W.Frag) (any : Bool) : List V → Hp → VK → Prop := fun xs H Q => match xs with
  | [.ref p] => ∃ bs : List Bool, SqL K H p (bs.map V.bl) ∧ Q (.bl (if any then bs.any id else bs.all id)) H
  | _ => False
theorem truth_bools {prog : Program} {w : World} {A : Around} {bs : List Bool} {its : List Value} (r : Vals (bs.map V.bl) its) : TruthOf prog w A (fun i v => its.toArray[i]? = some v) (fun i => bs.getD i false) := by
  intro i v s Q E hP hQ
  have hP' : its[i]? = some v := by simpa using hP
  have hi : i < bs.length := by
    have := (List.getElem?_eq_some_iff.mp hP').1
    have l := r.length
    rw [List.length_map] at l
    omega
  obtain ⟨u, hu, ru⟩ := r.get (i := i) (x := .bl bs[i]) (by rw [List.getElem?_map, List.getElem?_eq_getElem hi]; rfl)
  rw [hP'] at hu
  cases hu
  cases ru
  have e : bs.getD i false = bs[i] := by simp [List.getD, hi]
  replace hQ : Q (bs.getD i false) s := hQ
  rw [e] at hQ
  exact wpAny_truthy_bool hQ
theorem call_all (hc : X.calm = true) : CallR X (.builtin "all") (rAll X.K false) := by
  intro pins s σ H xs us Q I rs q
  unfold rAll at q
  split at q
  · rename_i p
    obtain ⟨u, rfl, ru⟩ := vals1 rs
    cases ru
    obtain ⟨bs, hS, q⟩ := q
    obtain ⟨its, r, pl, hz⟩ := I.list hS
    have hlt : p < s.heap.objs.size := by obtain ⟨o, e, _⟩ := pl.isList; exact Heap.lt_size e
    have hlen := r.length
    rw [List.length_map] at hlen
    refine call_all_walk (wpAny_pyIter_list pl.isList ⟨s.heap.objs.size, _, _, _, _, _, _, rfl, Walks.list (A := X.A.in1) (I.ok.hd hc) s.heap.objs.size p (Nat.ne_of_lt hlt) its.toArray, ⟨⟨_, Heap.get?_push_size _ rfl, rfl, rfl⟩, pl.isList.push _⟩, truth_bools r, fun h' tk hk => ?_⟩)
    refine ⟨.bl _, H, I.kept (h' := h') (t' := tk) fun b o e => hk b o (fun z => lt_ne e (Nat.le_refl _) (List.mem_singleton.mp z)) (Heap.get?_push_of_some _ e), ?_, q⟩
    rw [List.size_toArray, ← hlen, all_range_bools]
    rfl
  · exact q.elim
noncomputable def rSum (K : PySem.W.Frag) : List V → Hp → VK → Prop := fun xs H Q => match xs with
  | [.ref p] => ∃ ns : List Int, SqL K H p (ns.map V.int) ∧ Q (.int ns.sum) H
  | _ => False
theorem rAll_ref {K : PySem.W.Frag} {p : Addr} {H : Hp} {Q : VK} : rAll K false [.ref p] H Q = (∃ bs : List Bool, SqL K H p (bs.map V.bl) ∧ Q (.bl (bs.all id)) H) := rfl
theorem rAny_ref {K : PySem.W.Frag} {p : Addr} {H : Hp} {Q : VK} : rAll K true [.ref p] H Q = (∃ bs : List Bool, SqL K H p (bs.map V.bl) ∧ Q (.bl (bs.any id)) H) := rfl
theorem rSum_ref {K : PySem.W.Frag} {p : Addr} {H : Hp} {Q : VK} : rSum K [.ref p] H Q = (∃ ns : List Int, SqL K H p (ns.map V.int) ∧ Q (.int ns.sum) H) := rfl

noncomputable def rListA (K : PySem.W.Frag) : List V → Hp → VK → Prop := fun xs H Q => match xs with
  | [.ref p] => ∃ ys, (SqL K H p ys ∨ SqT K H p ys) ∧ ∀ l, H l = none → Q (.ref l) (upd H l (.lst ys))
  | _ => False
theorem call_listA : CallR X (.type "list") (rListA X.K) := CallR.imp call_list_of fun xs H Q h => by
  unfold rListA at h
  split at h
  · obtain ⟨ys, h1, h2⟩ := h
    exact ⟨_, ys, rfl, h1, h2⟩
  · exact h.elim
noncomputable def rTupleA (K : PySem.W.Frag) : List V → Hp → VK → Prop := fun xs H Q => match xs with
  | [.ref p] => ∃ ys, (SqL K H p ys ∧ ∀ l, H l = none → Q (.ref l) (upd H l (.tup ys))) ∨ (SqT K H p ys ∧ Q (.ref p) H)
  | _ => False
theorem rListA_ref {K : PySem.W.Frag} {p : Addr} {H : Hp} {Q : VK} : rListA K [.ref p] H Q = (∃ ys, (SqL K H p ys ∨ SqT K H p ys) ∧ ∀ l, H l = none → Q (.ref l) (upd H l (.lst ys))) := rfl
theorem rTupleA_ref {K : PySem.W.Frag} {p : Addr} {H : Hp} {Q : VK} : rTupleA K [.ref p] H Q = (∃ ys, (SqL K H p ys ∧ ∀ l, H l = none → Q (.ref l) (upd H l (.tup ys))) ∨ (SqT K H p ys ∧ Q (.ref p) H)) := rfl
noncomputable def rDivmodA : List V → Hp → VK → Prop := fun xs H Q => match xs with
  | [.int i, .int j] => CDiv i j ∧ ∀ p, H p = none → Q (.ref p) (upd H p (.tup [.int (i / j), .int (i % j)]))
  | _ => False
theorem rDivmodA_int {i j : Int} {H : Hp} {Q : VK} : rDivmodA [.int i, .int j] H Q = (CDiv i j ∧ ∀ p, H p = none → Q (.ref p) (upd H p (.tup [.int (i / j), .int (i % j)]))) := rfl

noncomputable def rAppendA : V → List V → Hp → VK → Prop := fun x vs H Q => match x, vs with
  | .ref l, [y] => ∃ xs, H l = some (.lst xs) ∧ xs.length < sizeLine ∧ Q .non (upd H l (.lst (xs ++ [y])))
  | _, _ => False
theorem mt_appendA : MtR X "list.append" rAppendA := by
  intro pins s σ H x xs v us Q I rx rs q
  unfold rAppendA at q
  split at q
  · obtain ⟨ys, h1, h2, h3⟩ := q
    exact mt_append pins s σ H _ _ v us Q I rx rs ⟨_, ys, _, rfl, rfl, h1, h2, h3⟩
  · exact q.elim
theorem pe_append {o e : Expr} {to te : TE} {apos cpos : Pos} (ho : PE X o to) (he : PE X e te) (hbase : attributeBase o "append" X.env (eval o X.env) = eval o X.env := by rfl)
    (hfew : ((backTo cpos (starEach [e] X.env)).all (fun x => !x.1) && (backToKw cpos (keywordEach [] X.env)).all (fun x => x.1.isSome)
      && decide ([e].length + ([] : List Keyword).length + (if ([] : List Keyword).isEmpty then 0 else 1) < 30)) = true := by rfl)
    (hline : (apos.endLine == cpos.line) = true := by rfl) (hs : starEach [e] X.env = (false, eval e X.env) :: starEach [] X.env := by rfl) (hplain : (backTo cpos (starEach [] X.env)).any (·.1) = false := by rfl) :
    PE X (.Call (.Attribute o "append" apos) [e] [] cpos) (tBM X.K "list" rAppendA to (tCons te tNil)) :=
  pe_bm F.plainAttrs_list F.slot_list_append F.type_list_append mt_appendA ho (pa_cons he pa_nil hs) hbase hfew hline hs hplain
theorem tyV_list {K : PySem.W.Frag} {a : Addr} {xs : List V} {H : Hp} (h : SqL K H a xs) : tyV K "list" (.ref a) H := .inl ⟨rfl, xs, h⟩
theorem rAppendA_ref {l : Addr} {y : V} {H : Hp} {Q : VK} : rAppendA (.ref l) [y] H Q = (∃ xs, H l = some (.lst xs) ∧ xs.length < sizeLine ∧ Q .non (upd H l (.lst (xs ++ [y])))) := rfl
noncomputable def rSetA : V → V → V → Hp → (Hp → Prop) → Prop := fun o i v H Q => match o, i with
  | .ref p, .int k => ∃ xs j, H p = some (.lst xs) ∧ ixN xs.length k = some j ∧ Q (upd H p (.lst (xs.set j v)))
  | _, _ => False
theorem rSetA_ref {p : Addr} {k : Int} {v : V} {H : Hp} {Q : Hp → Prop} : rSetA (.ref p) (.int k) v H Q = (∃ xs j, H p = some (.lst xs) ∧ ixN xs.length k = some j ∧ Q (upd H p (.lst (xs.set j v)))) := rfl
noncomputable def rIxA (K : PySem.W.Frag) : R2 := fun x y H Q => match x, y with
  | .ref p, .int i => ∃ xs v, (SqL K H p xs ∨ SqT K H p xs) ∧ atI xs i = some v ∧ Q v H
  | .str z, .int i => ∃ c, z.length ≤ sizeLine ∧ atI z.cps.toList i = some c ∧ Q (.str ⟨#[c]⟩) H
  | _, _ => False
theorem IxR.imp {r r' : R2} (h : IxR X r) (i : ∀ x y H Q, r' x y H Q → r x y H Q) : IxR X r' := fun value slice pins s σ H x y v u Q I rx ry q hs => h value slice pins s σ H x y v u Q I rx ry (i _ _ _ _ q) hs
theorem ix_A : IxR X (rIxA X.K) := IxR.imp ix_seq fun x y H Q h => by
  unfold rIxA at h
  split at h
  · obtain ⟨xs, v, h1, h2, h3⟩ := h
    rcases h1 with h1 | h1
    · exact .inl ⟨_, xs, _, v, rfl, rfl, h1, h2, h3⟩
    · exact .inr (.inl ⟨_, xs, _, v, rfl, rfl, h1, h2, h3⟩)
  · obtain ⟨c, h1, h2, h3⟩ := h
    exact .inr (.inr ⟨_, _, c, rfl, rfl, h1, h2, h3⟩)
  · exact h.elim
theorem ixA_list {K : PySem.W.Frag} {p : Addr} {i : Int} {H : Hp} {Q : VK} {xs : List V} {v : V} (h : SqL K H p xs) (e : atI xs i = some v) (q : Q v H) : rIxA K (.ref p) (.int i) H Q := ⟨xs, v, .inl h, e, q⟩
theorem ixA_tup {K : PySem.W.Frag} {p : Addr} {i : Int} {H : Hp} {Q : VK} {xs : List V} {v : V} (h : SqT K H p xs) (e : atI xs i = some v) (q : Q v H) : rIxA K (.ref p) (.int i) H Q := ⟨xs, v, .inr h, e, q⟩
theorem ixA_ints {K : PySem.W.Frag} {H : Hp} {a : Addr} {ns : List Int} {k : Int} {Q : VK} (hS : SqL K H a (ns.map V.int)) (h0 : 0 ≤ k) (h1 : k < (ns.length : Int)) (q : Q (.int (ns.getD k.toNat 0)) H) : rIxA K (.ref a) (.int k) H Q := by
  refine ixA_list hS ?_ q
  obtain ⟨j, rfl⟩ : ∃ j : Nat, k = (j : Int) := ⟨k.toNat, by omega⟩
  refine atI_nat ?_
  have hj : j < ns.length := by omega
  rw [List.getElem?_map, List.getElem?_eq_getElem hj]
  simp [List.getD, hj]
end
section
variable {K : PySem.W.Frag} {H : Hp} {σ : St}
theorem gTup_ref {n : Nat} {t : TGs} {a : Addr} {Q : St → Hp → Prop} : gTup K n t (.ref a) σ H Q = (∃ xs, SqT K H a xs ∧ xs.length = n ∧ t xs σ H Q) := by
  apply propext
  constructor
  · rintro ⟨b, xs, e, h⟩
    cases e
    exact ⟨xs, h⟩
  · rintro ⟨xs, h⟩
    exact ⟨a, xs, rfl, h⟩
theorem gCons_cons {t : TG} {u : TGs} {v : V} {r : List V} {Q : St → Hp → Prop} : gCons t u (v :: r) σ H Q = t v σ H fun σ' H' => u r σ' H' Q := by
  apply propext
  constructor
  · rintro ⟨v', r', e, h⟩
    cases e
    exact h
  · intro h
    exact ⟨v, r, rfl, h⟩
theorem gNil_nil {Q : St → Hp → Prop} : gNil [] σ H Q = Q σ H := by
  apply propext
  exact ⟨fun h => h.2, fun h => ⟨rfl, h⟩⟩
theorem ex_int {i : Int} {P : Int → Prop} : (∃ k, V.int i = .int k ∧ P k) = P i := by
  apply propext
  constructor
  · rintro ⟨k, e, q⟩
    cases e; exact q
  · intro q; exact ⟨i, rfl, q⟩
theorem small_line {n : Nat} (h : n ≤ 1000) : (n ≤ sizeLine) = True := by
  have := sizeLine_eq
  simp only [eq_iff_iff, iff_true]
  omega
theorem small_lt {n : Nat} (h : n ≤ 1000) : (n < sizeLine) = True := by
  have := sizeLine_eq
  simp only [eq_iff_iff, iff_true]
  omega
end
end L2


set_option maxRecDepth 100000
namespace L2
open PySem PySem.Spec PyProof.Rows
section
variable {X : Cx} (K : PySem.W.Frag) (h : X.K = K)
theorem op_addK (h : X.K = K) : OpR X (binaryOp .Add) (rAddA K) := h ▸ op_addA
theorem call_lenK (h : X.K = K) : CallR X (.builtin "len") (rLenA K) := h ▸ call_lenA
theorem call_isiK (h : X.K = K) : CallR X (.builtin "isinstance") (rIsi K) := h ▸ call_isi
theorem ix_K (h : X.K = K) : IxR X (rIxA K) := h ▸ ix_A
theorem pi_seqK {tg l : Expr} {tl : TE} (h : X.K = K) (hl : PE X l tl) : PI X tg l (iSeq K tl) := h ▸ pi_seq hl
theorem call_allK (h : X.K = K) (hc : X.calm = true) : CallR X (.builtin "all") (rAll K false) := h ▸ call_all hc
theorem call_listK (h : X.K = K) : CallR X (.type "list") (rListA K) := h ▸ call_listA
theorem pg_tupK {es : List Expr} {k : Nat} {pos : Pos} {t : TGs} {n : Nat} (h : X.K = K) (hc : X.calm = true) (hh : PGs X es t)
    (hn : (assignEach es X.env).length = n := by rfl) (hst : (assignEach es X.env).findIdx? (·.1) = none := by rfl) : PG X (.Tuple es k pos) (gTup K n t) := h ▸ pg_tup hc hh hn hst
theorem pe_appendK {o e : Expr} {to te : TE} {apos cpos : Pos} (h : X.K = K) (ho : PE X o to) (he : PE X e te) (hbase : attributeBase o "append" X.env (eval o X.env) = eval o X.env := by rfl)
    (hfew : ((backTo cpos (starEach [e] X.env)).all (fun x => !x.1) && (backToKw cpos (keywordEach [] X.env)).all (fun x => x.1.isSome)
      && decide ([e].length + ([] : List Keyword).length + (if ([] : List Keyword).isEmpty then 0 else 1) < 30)) = true := by rfl)
    (hline : (apos.endLine == cpos.line) = true := by rfl) (hs : starEach [e] X.env = (false, eval e X.env) :: starEach [] X.env := by rfl) (hplain : (backTo cpos (starEach [] X.env)).any (·.1) = false := by rfl) :
    PE X (.Call (.Attribute o "append" apos) [e] [] cpos) (tBM K "list" rAppendA to (tCons te tNil)) := h ▸ pe_append ho he hbase hfew hline hs hplain
end
noncomputable def tMid (t u : TS) : TS := fun D σ H => ∃ M : St → Hp → Prop, t { D with nx := M } σ H ∧ ∀ σ' H', M σ' H' → u D σ' H'
theorem pss_mid {X : Cx} {st : Stmt} {rest : List Stmt} {t u : TS} (h1 : PS X st t) (h2 : PSs X rest u) : PSs X (st :: rest) (tMid t u) := by
  intro pins s σ H D I ⟨M, h, k⟩
  refine wpAny_execs_cons (thn (h1 pins s σ H { D with nx := M } I h) fun f s1 q => ?_)
  cases f with
  | next =>
    obtain ⟨σ', H', I', q⟩ := q
    exact h2 pins s1 σ' H' D I' (k σ' H' q)
  | ret v => exact q
  | brk => exact q
  | cont => exact q
end L2


set_option maxRecDepth 100000
namespace L2
open PySem PySem.Spec PyProof.Rows
noncomputable def isStar : Expr → Bool
  | .Starred .. => true
  | _ => false
theorem starEach_of {e : Expr} {es : List Expr} {env : Env} (h : isStar e = false) : starEach (e :: es) env = (false, eval e env) :: starEach es env := by
  cases e <;> first | rfl | exact absurd h (by simp [isStar])
theorem noStars {pos : Pos} {env : Env} : ∀ {es : List Expr}, es.any isStar = false → (backTo pos (starEach es env)).any (·.1) = false
  | [], _ => rfl
  | e :: es, h => by
    rw [List.any_cons, Bool.or_eq_false_iff] at h
    rw [starEach_of h.1]
    show (false || (backTo pos (starEach es env)).any (·.1)) = false
    rw [noStars h.2]
    rfl
theorem assignEach_of {e : Expr} {es : List Expr} {env : Env} (h : isStar e = false) : (assignEach (e :: es) env).map (·.2) = assign e env :: (assignEach es env).map (·.2) := by
  cases e <;> first | rfl | exact absurd h (by simp [isStar])
theorem assignEach_len {env : Env} : ∀ {es : List Expr}, (assignEach es env).length = es.length
  | [] => rfl
  | e :: es => by
    have ih := @assignEach_len env es
    cases e <;> (show (assignEach es env).length + 1 = es.length + 1; rw [ih])
theorem assignEach_nostar {env : Env} : ∀ {es : List Expr}, es.any isStar = false → (assignEach es env).findIdx? (·.1) = none
  | [], _ => rfl
  | e :: es, h => by
    rw [List.any_cons, Bool.or_eq_false_iff] at h
    have ih := assignEach_nostar (env := env) h.2
    have e1 : assignEach (e :: es) env = (false, assign e env) :: assignEach es env := by
      have := h.1
      cases e <;> first | rfl | exact absurd this (by simp [isStar])
    rw [e1, List.findIdx?_cons, ih]
    rfl
noncomputable def plainTest : Expr → Bool
  | .UnaryOp .Not _ _ => false
  | .BoolOp .. => false
  | .IfExp .. => false
  | .Compare .. => false
  | _ => true
theorem isTrue_of {e : Expr} {env : Env} (h : plainTest e = true) (whole : Sem Value) : isTrue e env whole = (do let v ← whole; standAt e.pos; holding [v] (truthy v)) := by
  cases e with
  | UnaryOp op a p => cases op <;> first | rfl | exact absurd h (by simp [plainTest])
  | BoolOp => exact absurd h (by simp [plainTest])
  | IfExp => exact absurd h (by simp [plainTest])
  | Compare => exact absurd h (by simp [plainTest])
  | _ => rfl
section
variable {X : Cx} {CX : CXT} {k n : Nat} {ps : List Str} {sp : Sp} {x : Str} {p pos : Pos} {e : Expr} {es : List Expr} {t : TA} {te : TE} {id T : String} {r : List V → Hp → VK → Prop}
theorem pa_q (ha : PE X e te) (hr : PA X es t) (h : isStar e = false := by rfl) : PA X (e :: es) (tCons te t) := pa_cons ha hr (starEach_of h)
theorem pe_fnQ [Quiet CX] (G : FnAt X.prog X.w X.K X.mg X.base CX x k ps sp) (hr : Room n X.A) (hk : k ≤ n) (hg : Gl X x) (ha : PA X (e :: es) t)
    (hdb : (x == ("__debug__" : Str)) = false := by decide) (h : (e :: es).any isStar = false := by rfl) : PE X (.Call (.Name x p) (e :: es) [] pos) (tCall sp [] E0 t) := by
  rw [List.any_cons, Bool.or_eq_false_iff] at h
  exact pe_fn G hr hk hg ha hdb (starEach_of h.1) (noStars h.2)
theorem pe_callBQ (hc : CallR X (.builtin id) r) (hg : Gl X x) (hm : X.mg x = none) (hv : bootBuiltins x = some (.builtin id)) (ha : PA X (e :: es) t) (hn : x ≠ "__name__" := by decide) (hdb : (x == ("__debug__" : Str)) = false := by decide)
    (h : (e :: es).any isStar = false := by rfl) : PE X (.Call (.Name x p) (e :: es) [] pos) (tCB r t) := by
  rw [List.any_cons, Bool.or_eq_false_iff] at h
  exact pe_callB hc hg hm hv ha hn hdb (starEach_of h.1) (noStars h.2)
theorem pe_callTyQ (hc : CallR X (.type T) r) (hg : Gl X x) (hm : X.mg x = none) (hv : bootBuiltins x = some (.type T)) (ha : PA X (e :: es) t) (hn : x ≠ "__name__" := by decide) (hdb : (x == ("__debug__" : Str)) = false := by decide)
    (h : (e :: es).any isStar = false := by rfl) : PE X (.Call (.Name x p) (e :: es) [] pos) (tCB r t) := by
  rw [List.any_cons, Bool.or_eq_false_iff] at h
  exact pe_callTy hc hg hm hv ha hn hdb (starEach_of h.1) (noStars h.2)
theorem pgs_q {g : TG} {u : TGs} (h1 : PG X e g) (h2 : PGs X es u) (h : isStar e = false := by rfl) : PGs X (e :: es) (gCons g u) := pgs_cons h1 h2 (assignEach_of h)
theorem pg_tupQ (K : PySem.W.Frag) {j n : Nat} {u : TGs} (hK : X.K = K) (hc : X.calm = true) (hh : PGs X es u) (hn : es.length = n := by rfl) (h : es.any isStar = false := by rfl) : PG X (.Tuple es j pos) (gTup K n u) :=
  pg_tupK K hK hc hh (by rw [assignEach_len]; exact hn) (assignEach_nostar h)
theorem pt_q (he : PE X e te) (h : plainTest e = true := by rfl) : PT X e (tB te) := pt_val he (isTrue_of h)
end
end L2
namespace L2
open PySem PySem.Spec PyProof.Rows
noncomputable def isComp : Expr → Bool
  | .ListComp .. => true
  | .SetComp .. => true
  | .DictComp .. => true
  | _ => false
noncomputable def isTup : Expr → Bool
  | .Tuple .. => true
  | _ => false
noncomputable def isSetE : Expr → Bool
  | .Set .. => true
  | _ => false
theorem swaps_of {e : Expr} {tg : Option Expr} {l : Nat} {env : Env} (h : isComp e = false) : swapsWith e tg l env = pure false := by
  cases e <;> first | rfl | exact absurd h (by simp [isComp])
theorem stores_of {tg e : Expr} {env : Env} (h : isTup e = false) : swappedStores [tg] e env = pure none := by
  cases e with
  | Tuple => simp [isTup] at h
  | _ => cases tg <;> rfl
theorem nomarkQ {op : CmpOp} {b : Expr} (h : isSetE b = false) : behindInMarks op b = false := by
  cases b <;> first | rfl | exact absurd h (by simp [isSetE])
section
variable {X : Cx} {pos : Pos}
theorem ps_asgQ {tg e : Expr} {te : TE} {g : TG} (he : PE X e te) (hg : PG X tg g) (h1 : isComp e = false := by rfl) (h2 : isTup e = false := by rfl) (h3 : isStar tg = false := by rfl) : PS X (.Assign [tg] e pos) (tAsg te g) :=
  ps_asg he hg (swaps_of h1) (stores_of h2) (assignEach_of h3)
theorem ps_setQ {i : Nat} {x : Str} {e : Expr} {te : TE} {pos' : Pos} (hN : X.N.Nodup) (hi : X.N[i]? = some x) (hx : Loc X.env.scope x) (he : PE X e te) (h : isComp e = false := by rfl) (hf : X.fn x = true ∨ X.env.scope.names.lookup x = some .local := by first | exact .inl rfl | exact .inr rfl | assumption) :
    PS X (.Assign [.Name x pos'] e pos) (tAsg te (gName i)) := ps_set hN hi hx he (swaps_of h) hf
theorem ps_exprQ {e : Expr} {te : TE} (he : PE X e te) (h : isComp e = false := by rfl) : PS X (.Expr e pos) (tDrop te) := ps_expr he (swaps_of h)
end
end L2
namespace L2
open PySem PySem.Spec PyProof.Rows
noncomputable def tCs (vs : List V) : TA := fun _ H Q => Q vs H
end L2
namespace L2
open PySem PySem.Spec PyProof.Rows
end L2


namespace BitM
end BitM


namespace Rem
end Rem


namespace BitI
open PySem L2
end BitI


namespace Com
open PySem L2
theorem same_upd {H : Hp} {p : Addr} {o : HO} (h : H p = none) : Same H (upd H p o) := fun b u e => by rw [upd_ne (ne_of_none e h)]; exact e
theorem upd_old {H : Hp} {p q : Addr} {o x : HO} (h : H p = some x) (hn : H q = none) : upd H q o p = some x := by rw [upd_ne (ne_of_none h hn)]; exact h
theorem addA_lists {K : PySem.W.Frag} {H : Hp} {Q : VK} {l b : Addr} {xs zs : List V} (h1 : H l = some (.lst xs)) (h2 : H b = some (.lst zs)) (hz : xs.length + zs.length ≤ sizeLine) (q : ∀ p, H p = none → Q (.ref p) (upd H p (.lst (xs ++ zs)))) : rAddA K (.ref l) (.ref b) H Q :=
  .inl ⟨l, b, xs, zs, rfl, rfl, h1, h2, hz, q⟩
theorem map_int_get {ns : List Int} {i : Nat} {x : V} (h : (ns.map V.int)[i]? = some x) : ∃ c, x = .int c ∧ ns[i]? = some c := by
  rw [List.getElem?_map] at h
  cases e : ns[i]? with
  | none => rw [e] at h; cases h
  | some c => rw [e] at h; cases h; exact ⟨c, rfl, rfl⟩
theorem small_ok {n : Nat} (h : n ≤ 1000) : n ≤ sizeLine := by rw [sizeLine_eq]; omega
theorem isi_list {K : PySem.W.Frag} {H : Hp} {a : Addr} {xs : List V} {Q : VK} (h : H a = some (.lst xs)) (q : Q (.bl true) H) : rIsi K [.ref a, .ty "list"] H Q := ⟨_, true, .lst h, kit_ll K, q⟩
theorem isi_tup {K : PySem.W.Frag} {H : Hp} {a : Addr} {xs : List V} {Q : VK} (h : H a = some (.tup xs)) (q : Q (.bl true) H) : rIsi K [.ref a, .ty "tuple"] H Q := ⟨_, true, .tup h, kit_tt K, q⟩
theorem map_true {xs : List V} : ((xs.filter fun _ => true).map fun _ => V.bl true) = (xs.map fun _ => true).map V.bl := by
  rw [List.filter_eq_self.mpr (fun _ _ => rfl), List.map_map]
  rfl
theorem all_true {α : Type} {xs : List α} : ((xs.map fun _ => true).all id) = true := by
  rw [List.all_eq_true]
  intro b hb
  obtain ⟨_, _, rfl⟩ := List.mem_map.mp hb
  rfl
theorem fresh_ne {H : Hp} {p q : Addr} {o : HO} (h : upd H p o q = none) : q ≠ p := fun e => by
  subst e
  rw [upd_same] at h
  cases h
end Com


set_option maxRecDepth 100000
namespace L2
open PySem PySem.Spec PyProof.Rows

structure KlsAt (K : PySem.W.Frag) (mg : Str → Option Value) (x : Str) (C : Addr) : Prop where
  mgC : mg x = some (.ref C)
  cl : Cls K C
  mks : PySem.W.makesIn K C = true
  kp : PySem.W.keepIn K (.ref C) = true
noncomputable def MethAt (K : PySem.W.Frag) (C : Addr) (m q : Str) (st : Stmt) : Prop := ∃ f fd, Fun K m q st f fd ∧ Meth K C m f
noncomputable def MtAt (P : Program) (w : World) (K : PySem.W.Frag) (mg : Str → Option Value) (base : Heap) (CX : CXT) (C : Addr) (m : Str) (k : Nat) (ps : List Str) (sp : Sp) : Prop :=
  ∃ f fd, FnOk P w K mg base CX k f fd ps sp ∧ Meth K C m f ∧ Binds K fd ps []
theorem klsat_mk {K : PySem.W.Frag} {h : Heap} {mg : Str → Option Value} {x : Str} {C : Addr} (X : K.In h) (G : h.Ns mainGlobals mg) (a : PySem.W.nsIn K mainGlobals x = some (some (.ref C)))
    (pg : PySem.W.plainGet K C Str.empty = true) (hd : PySem.W.hasDictIn K C = true) (po : PySem.W.plainOver K C = true) (sa : PySem.W.findIn K (.ref C) "__setattr__" = some (some (.builtin "object.__setattr__"))) (mk : PySem.W.makesIn K C = true) (kc : PySem.W.keepIn K (.ref C) = true) : KlsAt K mg x C :=
  ⟨PySem.W.mg_of X G a, ⟨pg, hd, po, sa⟩, mk, kc⟩
theorem methat_mk {K : PySem.W.Frag} {C : Addr} {m q : Str} {st : Stmt} {f : Addr} {oc : Value} {od an : Option Addr} {osl : Array (Option Value)} {kV doc pm cdv ct : Value}
    (a : PySem.W.findIn K (.ref C) m = some (some (.ref f))) (i : PySem.W.isFn K (.ref f) = true)
    (l : K.lookup f = some ⟨oc, od, .func (PySem.W.fnOf m q (defArgs st) (defBody st) (defScope st) .none kV doc pm an cdv ct), osl⟩) (c : PySem.W.codeIn K cdv q = true) (k : PySem.W.keepIn K (.ref f) = true) : MethAt K C m q st :=
  ⟨f, _, fun_mk l c k, ⟨a, i, k⟩⟩
section
variable {P : Program} {w : World} {K : PySem.W.Frag} {mg : Str → Option Value} {base : Heap} {CX : CXT}
theorem MethAt.fn {C : Addr} {m q : Str} {st : Stmt} {N ps : List Str} {k : Nat} {sp : Sp} (F : MethAt K C m q st) (S : FnScope N ps (defScope st))
    (hb : ∀ (kV doc pm : Value) (an : Option Addr) (cdv ct : Value) (us : List Value), us.length = ps.length → bindArgs (PySem.W.fnOf m q (defArgs st) (defBody st) (defScope st) .none kV doc pm an cdv ct) ⟨us, []⟩ = pure (ps.zip us))
    (len : ∀ vs H Q E, sp vs H Q E → vs.length = ps.length)
    (hbody : ∀ (f : Addr) (cdv : Value) (A : Around) (outer : List Env) (s : Shared) (H : Hp) (vs : List V) (Q : VK) (E : XK), Room k (A.deeper (envOfC q (defScope st) s.heap.objs.size f cdv)) → sp vs H Q E →
      ∃ t, PSs (cxOf CX P w K mg base N q (defScope st) f cdv A outer s H E).nox (defBody st) t ∧ t { nx := fun _ H' => Q .non H', rt := Q } (start N vs) H) : MtAt P w K mg base CX C m (k + 1) ps sp := by
  obtain ⟨f, fd, F, hm⟩ := F
  have bd := F.binds hb
  obtain ⟨oc, od, kV, doc, pm, an, cdv, ct, osl, rfl, lk, hcd⟩ := F.ex
  refine ⟨f, _, fn_of lk hcd S len fun A outer s H vs Q E hr hsp => ?_, hm, bd⟩
  obtain ⟨t, h, q⟩ := hbody f cdv A outer s H vs Q E hr hsp
  exact ⟨t, h.nox, q⟩
end

noncomputable def rFld (C : Addr) (f : Str) (x : V) (H : Hp) (Q : VK) : Prop := ∃ a, x = .ref a ∧ ∃ dx fs, H a = some (.ins C dx fs) ∧ ∃ v, fs.lookup f = some v ∧ Q v H
noncomputable def tFldC (C : Addr) (f : Str) (ta : TE) : TE := fun σ H Q => ta σ H fun x H1 => rFld C f x H1 Q
noncomputable def rSetF (C : Addr) (f : Str) (y x : V) (H : Hp) (N : Hp → Prop) : Prop := ∃ a, x = .ref a ∧ ∃ dx fs, H a = some (.ins C dx fs) ∧ fs.length < 1000 ∧ N (upd H a (.ins C dx (putF f y fs)))
noncomputable def sFldC (C : Addr) (f : Str) (ta tv : TE) : TS := fun D σ H => tv σ H fun y H1 => ta σ H1 fun x H2 => rSetF C f y x H2 (D.nx σ)
noncomputable def rAugF (C : Addr) (f : Str) (x : V) (H : Hp) (K : V → (V → Hp → Prop) → Prop) (N : Hp → Prop) : Prop := ∃ a, x = .ref a ∧ ∃ dx fs, H a = some (.ins C dx fs) ∧ ∃ v, fs.lookup f = some v ∧
  K v fun z H3 => ∃ dx' fs', H3 a = some (.ins C dx' fs') ∧ fs'.length < 1000 ∧ N (upd H3 a (.ins C dx' (putF f z fs')))
noncomputable def sAugC (C : Addr) (f : Str) (ta tv : TE) (rd : R2) : TS := fun D σ H => ta σ H fun x H1 => rAugF C f x H1 (fun v R => tv σ H1 fun y H2 => rd v y H2 R) (D.nx σ)
noncomputable def rMt (C : Addr) (m : Str) (x : V) (H : Hp) (N : Prop) : Prop := ∃ a, x = .ref a ∧ ∃ dx fs, H a = some (.ins C dx fs) ∧ fs.lookup m = none ∧ N
noncomputable def tMtC (C : Addr) (m : Str) (sp : Sp) (ta : TE) (t : TA) : TE := fun σ H Q => ta σ H fun x H1 => rMt C m x H1 (t σ H1 fun vs H2 => sp (x :: vs) H2 Q E0)
theorem rFld_ref {C a : Addr} {f : Str} {H : Hp} {Q : VK} : rFld C f (.ref a) H Q = ∃ dx fs, H a = some (.ins C dx fs) ∧ ∃ v, fs.lookup f = some v ∧ Q v H := by
  apply propext; unfold rFld; constructor
  · rintro ⟨b, e, h⟩; cases e; exact h
  · exact fun h => ⟨a, rfl, h⟩
theorem rSetF_ref {C a : Addr} {f : Str} {y : V} {H : Hp} {N : Hp → Prop} : rSetF C f y (.ref a) H N = ∃ dx fs, H a = some (.ins C dx fs) ∧ fs.length < 1000 ∧ N (upd H a (.ins C dx (putF f y fs))) := by
  apply propext; unfold rSetF; constructor
  · rintro ⟨b, e, h⟩; cases e; exact h
  · exact fun h => ⟨a, rfl, h⟩
theorem rAugF_ref {C a : Addr} {f : Str} {H : Hp} {K : V → (V → Hp → Prop) → Prop} {N : Hp → Prop} : rAugF C f (.ref a) H K N = ∃ dx fs, H a = some (.ins C dx fs) ∧ ∃ v, fs.lookup f = some v ∧
    K v fun z H3 => ∃ dx' fs', H3 a = some (.ins C dx' fs') ∧ fs'.length < 1000 ∧ N (upd H3 a (.ins C dx' (putF f z fs'))) := by
  apply propext; unfold rAugF; constructor
  · rintro ⟨b, e, h⟩; cases e; exact h
  · exact fun h => ⟨a, rfl, h⟩
theorem rMt_ref {C a : Addr} {m : Str} {H : Hp} {N : Prop} : rMt C m (.ref a) H N = ∃ dx fs, H a = some (.ins C dx fs) ∧ fs.lookup m = none ∧ N := by
  apply propext; unfold rMt; constructor
  · rintro ⟨b, e, h⟩; cases e; exact h
  · exact fun h => ⟨a, rfl, h⟩
theorem ex_ins {C d : Addr} {l : List (Str × V)} {N : Addr → List (Str × V) → Prop} : (∃ dx fs, some (HO.ins C d l) = some (HO.ins C dx fs) ∧ N dx fs) = N d l := by
  apply propext; constructor
  · rintro ⟨dx, fs, e, h⟩; cases e; exact h
  · exact fun h => ⟨d, l, rfl, h⟩
theorem ex_som {x : V} {N : V → Prop} : (∃ v, some x = some v ∧ N v) = N x := by
  apply propext; constructor
  · rintro ⟨v, e, h⟩; cases e; exact h
  · exact fun h => ⟨x, rfl, h⟩
theorem noattr_mk {K : PySem.W.Frag} {C : Addr} {f : Str} (h : PySem.W.findIn K (.ref C) f = some none) : NoAttr K C f := h
theorem same_new {H : Hp} {x dx C : Addr} {fs : List (Str × V)} (nx : H x = none) (nd : H dx = none) : Same H (upd (upd H dx (.own x)) x (.ins C dx fs)) := fun b o e => by
  rw [upd_ne (ne_of_none e nx), upd_ne (ne_of_none e nd)]; exact e
section
variable {X : Cx} {C : Addr} {o e value : Expr} {es : List Expr} {f m x : Str} {p pos pos' tpos apos : Pos} {ta tv : TE} {t : TA} {k n : Nat} {ps : List Str} {sp : Sp}
theorem pe_fldC (he : PE X e ta) (c : KlsAt X.K X.mg x C) (nn : NoAttr X.K C f) (hb : attributeBase e f X.env (eval e X.env) = eval e X.env) : PE X (.Attribute e f pos) (tFldC C f ta) := by
  intro pins s σ H Q I h
  refine attr_of hb (thn (he pins s σ H _ I h) fun u s1 ⟨x, H1, I1, rx, a, ex, dx, fs, ea, v, l, q⟩ => ?_)
  subst ex
  obtain rfl : u = Value.ref a := rx
  exact getattr_ok I1 ea c.cl nn l fun u' s2 I2 ru => ⟨v, H1, I2, ru, q⟩
theorem ps_fldC (ha : PE X o ta) (hv : PE X value tv) (c : KlsAt X.K X.mg x C) (nn : NoAttr X.K C f) (hs : isComp value = false := by rfl) : PS X (.Assign [.Attribute o f pos'] value pos) (sFldC C f ta tv) := by
  intro pins s σ H D I h
  refine plainObj_wpAny_Assign_Attribute (thn (hv pins s σ H _ I h) fun u s1 ⟨y, H1, I1, ry, q⟩ => thn (ha pins s1 σ H1 _ I1 q) fun ov s2 ⟨x, H2, I2, rx, a, ex, dx, fs, ea, l, q2⟩ => ?_) (swaps_of hs)
  subst ex
  obtain rfl : ov = Value.ref a := rx
  exact setattr_ok I2 ea c.cl nn l ry fun s3 I3 => ⟨σ, _, I3, q2⟩
theorem ps_augC {op : Operator} {rd : R2} (ha : PE X o ta) (hv : PE X value tv) (c : KlsAt X.K X.mg x C) (nn : NoAttr X.K C f) (hop : OpR X (inplaceOp op) rd) : PS X (.AugAssign (.Attribute o f tpos) op value pos) (sAugC C f ta tv rd) := by
  intro pins s σ H D I h
  refine wpAny_AugAssign_AttributeAny (thn (ha pins s σ H _ I h) fun ov s1 ⟨x, H1, I1, rx, a, ex, dx, fs, ea, v, l, q⟩ => ?_)
  subst ex
  obtain rfl : ov = Value.ref a := rx
  refine getattr_ok I1 ea c.cl nn l fun u s2 I2 ru => thn (hv pins s2 σ H1 _ I2 q) fun w3 s3 ⟨y, H2, I3, ry, q3⟩ => thn (hop pins s3 σ H2 v y u w3 _ I3 ru ry q3) fun w4 s4 ⟨z, H3, I4, rz, dx', fs', ea', l', q4⟩ => ?_
  exact setattr_ok I4 ea' c.cl nn l' rz fun s5 I5 => ⟨σ, _, I5, q4⟩
theorem pe_mtC {CX : CXT} [Quiet CX] {pl : Sem Bool} (he : PE X o ta) (c : KlsAt X.K X.mg x C) (G : MtAt X.prog X.w X.K X.mg X.base CX C m k ps sp) (hr : Room n X.A) (hk : k ≤ n) (ha : PA X (e :: es) t) (hst : (e :: es).any isStar = false := by rfl)
    (ht : eval (.Call (.Attribute o m apos) (e :: es) [] pos) X.env = (do
      let ov ← eval o X.env
      standAt apos.atName
      let (f, first) ← holding [ov] (getMethod ov m pl)
      callWith pos f first (backTo pos (starEach (e :: es) X.env)) (backToKw pos (keywordEach [] X.env))) := by rfl) :
    PE X (.Call (.Attribute o m apos) (e :: es) [] pos) (tMtC C m sp ta t) := by
  obtain ⟨f, fd, F, hm, b⟩ := G
  rw [List.any_cons, Bool.or_eq_false_iff] at hst
  intro pins s σ H Q I h
  refine PySem.W.methodCall_KW (pl := pl) (thn (he pins s σ H _ I h) fun u s1 ⟨x, H1, I1, rx, a, ex, dx, fs, ea, l, q⟩ => ?_) ht
  subst ex
  obtain rfl : u = Value.ref a := rx
  refine getmeth_ok I1 ea c.cl hm l ?_
  refine PySem.W.callWith_K (first := [.ref a]) (h₀ := X.base) I.ok.mod.kin hm.kp (thn (ha pos pins s1 σ H1 _ I1 q) fun us s2 ⟨vs, H2, I2, r, q2⟩ => ⟨I2.kIn, ?_⟩) (starEach_of hst.1) (noStars hst.2)
  exact run_fn (us := .ref a :: us) (vs := .ref a :: vs) F (hr.mono hk) b .nil (Quiet.pass X) I2 (.cons rfl r) (by rw [List.append_nil]; exact q2)
theorem pe_mkC {CX : CXT} [Quiet CX] (c : KlsAt X.K X.mg x C) (G : MtAt X.prog X.w X.K X.mg X.base CX C "__init__" k ps sp) (hr : Room n X.A) (hk : k + 1 ≤ n) (hg : Gl X x) (ha : PA X (e :: es) t)
    (hdb : (x == ("__debug__" : Str)) = false := by decide) (h : (e :: es).any isStar = false := by rfl) : PE X (.Call (.Name x p) (e :: es) [] pos) (tMake C sp [] E0 t) := by
  obtain ⟨f, fd, F, hm, b⟩ := G
  rw [List.any_cons, Bool.or_eq_false_iff] at h
  exact pe_make ⟨c.mks, hm.at_, hm.fn, c.kp⟩ F (hr.mono hk) hg c.mgC b .nil (Quiet.pass X) ha hdb (starEach_of h.1) (noStars h.2)
end
end L2


set_option maxRecDepth 100000
namespace L2
open PySem PySem.Spec PyProof.Rows
noncomputable def ixO (K : PySem.W.Frag) (p : Addr) (i : Int) (H : Hp) (Q : VK) : Option HO → Prop
  | some (.lst xs) => ∃ v, atI xs i = some v ∧ Q v H
  | some (.tup xs) => ∃ v, atI xs i = some v ∧ Q v H
  | _ => rIxA K (.ref p) (.int i) H Q
noncomputable def rIxB (K : PySem.W.Frag) : R2 := fun x y H Q => match x, y with
  | .ref p, .int i => ixO K p i H Q (H p)
  | x, y => rIxA K x y H Q
theorem rIxB_ref {K : PySem.W.Frag} {p : Addr} {i : Int} {H : Hp} {Q : VK} : rIxB K (.ref p) (.int i) H Q = ixO K p i H Q (H p) := rfl
theorem rIxB_str {K : PySem.W.Frag} {z : Str} {i : Int} {H : Hp} {Q : VK} : rIxB K (.str z) (.int i) H Q = rIxA K (.str z) (.int i) H Q := rfl
theorem ixO_lst {K : PySem.W.Frag} {p : Addr} {i : Int} {H : Hp} {Q : VK} {xs : List V} : ixO K p i H Q (some (.lst xs)) = ∃ v, atI xs i = some v ∧ Q v H := rfl
theorem ixO_tup {K : PySem.W.Frag} {p : Addr} {i : Int} {H : Hp} {Q : VK} {xs : List V} : ixO K p i H Q (some (.tup xs)) = ∃ v, atI xs i = some v ∧ Q v H := rfl
theorem ixO_imp {K : PySem.W.Frag} {p : Addr} {i : Int} {H : Hp} {Q : VK} (h : ixO K p i H Q (H p)) : rIxA K (.ref p) (.int i) H Q := by
  unfold ixO at h
  split at h
  · rename_i xs e; obtain ⟨v, a, b⟩ := h; exact ixA_list (SqL.of e) a b
  · rename_i xs e; obtain ⟨v, a, b⟩ := h; exact ixA_tup (SqT.of e) a b
  · exact h
theorem ix_B {X : Cx} (K : PySem.W.Frag) (h : X.K = K) : IxR X (rIxB K) := IxR.imp (ix_K K h) fun x y H Q h => by
  unfold rIxB at h
  split at h
  · exact ixO_imp h
  · exact h
theorem atI_n {α : Type} {xs : List α} {i : Nat} {x : α} (h : xs[i]? = some x) : atI xs (i : Int) = some x := by
  have hl : i < xs.length := (List.getElem?_eq_some_iff.mp h).1
  unfold atI ixN
  rw [if_pos (by omega), if_pos (by omega)]
  exact h
theorem atI_0 {α : Type} {a : α} {l : List α} : atI (a :: l) 0 = some a := atI_n (i := 0) rfl
theorem atI_1 {α : Type} {a b : α} {l : List α} : atI (a :: b :: l) 1 = some b := atI_n (i := 1) rfl
theorem atI_2 {α : Type} {a b c : α} {l : List α} : atI (a :: b :: c :: l) 2 = some c := atI_n (i := 2) rfl
theorem atI_3 {α : Type} {a b c d : α} {l : List α} : atI (a :: b :: c :: d :: l) 3 = some d := atI_n (i := 3) rfl
theorem atI_4 {α : Type} {a b c d e : α} {l : List α} : atI (a :: b :: c :: d :: e :: l) 4 = some e := atI_n (i := 4) rfl
theorem atI_5 {α : Type} {a b c d e f : α} {l : List α} : atI (a :: b :: c :: d :: e :: f :: l) 5 = some f := atI_n (i := 5) rfl
noncomputable def gO (K : PySem.W.Frag) (n : Nat) (t : TGs) (a : Addr) (σ : St) (H : Hp) (Q : St → Hp → Prop) : Option HO → Prop
  | some (.tup xs) => xs.length = n ∧ t xs σ H Q
  | _ => ∃ xs, SqT K H a xs ∧ xs.length = n ∧ t xs σ H Q
noncomputable def gTupB (K : PySem.W.Frag) (n : Nat) (t : TGs) : TG := fun v σ H Q => match v with
  | .ref a => gO K n t a σ H Q (H a)
  | _ => False
theorem gTupB_ref {K : PySem.W.Frag} {n : Nat} {t : TGs} {a : Addr} {σ : St} {H : Hp} {Q : St → Hp → Prop} : gTupB K n t (.ref a) σ H Q = gO K n t a σ H Q (H a) := rfl
theorem gO_tup {K : PySem.W.Frag} {n : Nat} {t : TGs} {a : Addr} {σ : St} {H : Hp} {Q : St → Hp → Prop} {xs : List V} : gO K n t a σ H Q (some (.tup xs)) = (xs.length = n ∧ t xs σ H Q) := rfl
noncomputable def lenO (K : PySem.W.Frag) (p : Addr) (H : Hp) (Q : VK) : Option HO → Prop
  | some (.lst xs) => Q (.int xs.length) H
  | some (.tup xs) => Q (.int xs.length) H
  | _ => rLenA K [.ref p] H Q
noncomputable def rLenB (K : PySem.W.Frag) : List V → Hp → VK → Prop := fun xs H Q => match xs with
  | [.ref p] => lenO K p H Q (H p)
  | xs => rLenA K xs H Q
theorem rLenB_ref {K : PySem.W.Frag} {p : Addr} {H : Hp} {Q : VK} : rLenB K [.ref p] H Q = lenO K p H Q (H p) := rfl
theorem rLenB_str {K : PySem.W.Frag} {z : Str} {H : Hp} {Q : VK} : rLenB K [.str z] H Q = rLenA K [.str z] H Q := rfl
theorem lenO_lst {K : PySem.W.Frag} {p : Addr} {H : Hp} {Q : VK} {xs : List V} : lenO K p H Q (some (.lst xs)) = Q (.int xs.length) H := rfl
theorem lenO_tup {K : PySem.W.Frag} {p : Addr} {H : Hp} {Q : VK} {xs : List V} : lenO K p H Q (some (.tup xs)) = Q (.int xs.length) H := rfl
theorem call_lenB {X : Cx} (K : PySem.W.Frag) (h : X.K = K) : CallR X (.builtin "len") (rLenB K) := CallR.imp (call_lenK K h) fun xs H Q h => by
  unfold rLenB at h
  split at h
  · rename_i p
    unfold lenO at h
    split at h
    · rename_i xs e; exact ⟨xs, .inl (SqL.of e), h⟩
    · rename_i xs e; exact ⟨xs, .inr (SqT.of e), h⟩
    · exact h
  · exact h
noncomputable def isiO (K : PySem.W.Frag) (p : Addr) (n : String) (H : Hp) (Q : VK) : Option HO → Prop
  | some (.lst _) => if n = "list" then Q (.bl true) H else rIsi K [.ref p, .ty n] H Q
  | some (.tup _) => if n = "tuple" then Q (.bl true) H else rIsi K [.ref p, .ty n] H Q
  | _ => rIsi K [.ref p, .ty n] H Q
noncomputable def rIsiB (K : PySem.W.Frag) : List V → Hp → VK → Prop := fun xs H Q => match xs with
  | [.ref p, .ty n] => isiO K p n H Q (H p)
  | xs => rIsi K xs H Q
theorem call_isiB {X : Cx} (K : PySem.W.Frag) (h : X.K = K) : CallR X (.builtin "isinstance") (rIsiB K) := CallR.imp (call_isiK K h) fun xs H Q h => by
  unfold rIsiB at h
  split at h
  · rename_i p n
    unfold isiO at h
    split at h
    · rename_i xs e
      split at h
      · rename_i c; subst c; exact Com.isi_list e h
      · exact h
    · rename_i xs e
      split at h
      · rename_i c; subst c; exact Com.isi_tup e h
      · exact h
    · exact h
  · exact h
theorem rIsiB_ref {K : PySem.W.Frag} {p : Addr} {n : String} {H : Hp} {Q : VK} : rIsiB K [.ref p, .ty n] H Q = isiO K p n H Q (H p) := rfl
theorem isiO_tup {K : PySem.W.Frag} {p : Addr} {H : Hp} {Q : VK} {xs : List V} : isiO K p "tuple" H Q (some (.tup xs)) = Q (.bl true) H := by simp [isiO]
theorem isiO_lst {K : PySem.W.Frag} {p : Addr} {H : Hp} {Q : VK} {xs : List V} : isiO K p "list" H Q (some (.lst xs)) = Q (.bl true) H := by simp [isiO]
theorem rIsiB_i {K : PySem.W.Frag} {i : Int} {n : String} {H : Hp} {Q : VK} : rIsiB K [.int i, .ty n] H Q = rIsi K [.int i, .ty n] H Q := rfl
theorem rIsiB_b {K : PySem.W.Frag} {i : Bool} {n : String} {H : Hp} {Q : VK} : rIsiB K [.bl i, .ty n] H Q = rIsi K [.bl i, .ty n] H Q := rfl
theorem rIsiB_s {K : PySem.W.Frag} {i : Str} {n : String} {H : Hp} {Q : VK} : rIsiB K [.str i, .ty n] H Q = rIsi K [.str i, .ty n] H Q := rfl
theorem ex_lst {l : List V} {N : List V → Prop} : (∃ xs, some (HO.lst l) = some (HO.lst xs) ∧ N xs) = N l := by
  apply propext; constructor
  · rintro ⟨xs, e, h⟩; cases e; exact h
  · exact fun h => ⟨l, rfl, h⟩
theorem ex_lst2 {l : List V} {k : Int} {N : List V → Nat → Prop} : (∃ xs j, some (HO.lst l) = some (HO.lst xs) ∧ ixN xs.length k = some j ∧ N xs j) = ∃ j, ixN l.length k = some j ∧ N l j := by
  apply propext; constructor
  · rintro ⟨xs, j, e, h⟩; cases e; exact ⟨j, h⟩
  · rintro ⟨j, h⟩; exact ⟨l, j, rfl, h⟩
noncomputable def But (p : Addr) (H H' : Hp) : Prop := ∀ b o, H b = some o → b ≠ p → H' b = some o
theorem But.upd {p : Addr} {H : Hp} {o : HO} : But p H (upd H p o) := fun b x hb hne => by rw [upd_ne hne]; exact hb
end L2


namespace MeterM
end MeterM
namespace MeterM
end MeterM


namespace WaysM
structure IsLow (t b t' b' s : Int) : Prop where
  s0 : 0 < s
  tt : t = s * t'
  bb : b = s * b'
  t0 : 0 ≤ t'
  b0 : 0 < b'
  od : ¬ (t' % 2 = 0 ∧ b' % 2 = 0)
  tl : t' ≤ t
  bl : b' ≤ b
end WaysM


set_option maxRecDepth 100000
namespace L2
open PySem PySem.Spec PyProof.Rows
end L2
namespace L2
end L2
namespace WaysI
open PySem L2
end WaysI


set_option maxRecDepth 100000
namespace L2
open PySem PySem.Spec PyProof.Rows
noncomputable def swO (i j : Nat) (D : Ends) (σ : St) (H : Hp) : Option HO → Prop
  | some (.tup [a, b]) => D.nx ((σ.set j (some b)).set i (some a)) H
  | _ => False
noncomputable def swV (i j : Nat) (D : Ends) (σ : St) (v : V) (H : Hp) : Prop := match v with
  | .ref p => swO i j D σ H (H p)
  | _ => False
noncomputable def tSw (i j : Nat) (te : TE) : TS := fun D σ H => te σ H fun v H1 => swV i j D σ v H1
theorem swV_ref {i j : Nat} {D : Ends} {σ : St} {p : Addr} {H : Hp} : swV i j D σ (.ref p) H = swO i j D σ H (H p) := rfl
theorem swO_tup {i j : Nat} {D : Ends} {σ : St} {H : Hp} {a b : V} : swO i j D σ H (some (.tup [a, b])) = D.nx ((σ.set j (some b)).set i (some a)) H := rfl
end L2


set_option maxRecDepth 100000
namespace L2
open PySem PySem.Spec PyProof.Rows
noncomputable def rMinB (K : PySem.W.Frag) : List V → Hp → VK → Prop := fun xs H Q => match xs with
  | [.int i, .int j] => Q (.int (if j < i then j else i)) H
  | [.ref p] => ∃ ns : List Int, SqL K H p (ns.map V.int) ∧ 0 < ns.length ∧ ∀ M, M ∈ ns → (∀ a, a ∈ ns → M ≤ a) → Q (.int M) H
  | _ => False
noncomputable def rMaxB (K : PySem.W.Frag) : List V → Hp → VK → Prop := fun xs H Q => match xs with
  | [.int i, .int j] => Q (.int (if i < j then j else i)) H
  | [.ref p] => ∃ ns : List Int, SqL K H p (ns.map V.int) ∧ 0 < ns.length ∧ ∀ M, M ∈ ns → (∀ a, a ∈ ns → a ≤ M) → Q (.int M) H
  | _ => False
theorem rMinB_ref {K : PySem.W.Frag} {p : Addr} {H : Hp} {Q : VK} : rMinB K [.ref p] H Q = ∃ ns : List Int, SqL K H p (ns.map V.int) ∧ 0 < ns.length ∧ ∀ M, M ∈ ns → (∀ a, a ∈ ns → M ≤ a) → Q (.int M) H := rfl
theorem rMaxB_ref {K : PySem.W.Frag} {p : Addr} {H : Hp} {Q : VK} : rMaxB K [.ref p] H Q = ∃ ns : List Int, SqL K H p (ns.map V.int) ∧ 0 < ns.length ∧ ∀ M, M ∈ ns → (∀ a, a ∈ ns → a ≤ M) → Q (.int M) H := rfl
end L2


set_option maxRecDepth 100000
namespace L2
open PySem PySem.Spec PyProof.Rows
noncomputable abbrev ik (i : Int) : Key := Sum.inl i
noncomputable def dinO (neg : Bool) (i : Int) (H : Hp) (Q : VK) : Option HO → Prop
  | some (.dK kvs) => Q (.bl (if neg then !(valV kvs (ik i)).isSome else (valV kvs (ik i)).isSome)) H
  | _ => False
noncomputable def rDIn (neg : Bool) : R2 := fun y x H Q => match y, x with
  | .int i, .ref a => dinO neg i H Q (H a)
  | _, _ => False
theorem rDIn_ref {neg : Bool} {i : Int} {a : Addr} {H : Hp} {Q : VK} : rDIn neg (.int i) (.ref a) H Q = dinO neg i H Q (H a) := rfl
theorem dinO_t {i : Int} {H : Hp} {Q : VK} {kvs : List (Key × V)} : dinO true i H Q (some (.dK kvs)) = Q (.bl (!(valV kvs (ik i)).isSome)) H := rfl
theorem dinO_f {i : Int} {H : Hp} {Q : VK} {kvs : List (Key × V)} : dinO false i H Q (some (.dK kvs)) = Q (.bl (valV kvs (ik i)).isSome) H := rfl
noncomputable def dgO (i : Int) (H : Hp) (Q : VK) : Option HO → Prop
  | some (.dK kvs) => ∃ v, valV kvs (ik i) = some v ∧ Q v H
  | _ => False
noncomputable def rDGet : R2 := fun x y H Q => match x, y with
  | .ref a, .int i => dgO i H Q (H a)
  | _, _ => False
theorem rDGet_ref {i : Int} {a : Addr} {H : Hp} {Q : VK} : rDGet (.ref a) (.int i) H Q = dgO i H Q (H a) := rfl
theorem dgO_k {i : Int} {H : Hp} {Q : VK} {kvs : List (Key × V)} : dgO i H Q (some (.dK kvs)) = ∃ v, valV kvs (ik i) = some v ∧ Q v H := rfl
noncomputable def dpO (a : Addr) (i : Int) (v : V) (H : Hp) (N : Hp → Prop) : Option HO → Prop
  | some (.dK kvs) => kvs.length < sizeLine ∧ N (upd H a (.dK (putK kvs (ik i) v)))
  | _ => False
noncomputable def rDPut (x y v : V) (H : Hp) (N : Hp → Prop) : Prop := match x, y with
  | .ref a, .int i => dpO a i v H N (H a)
  | _, _ => False
noncomputable def sDPutI (to ti tv : TE) : TS := fun D σ H => tv σ H fun v H1 => to σ H1 fun x H2 => ti σ H2 fun y H3 => rDPut x y v H3 (D.nx σ)
theorem rDPut_ref {i : Int} {a : Addr} {v : V} {H : Hp} {N : Hp → Prop} : rDPut (.ref a) (.int i) v H N = dpO a i v H N (H a) := rfl
theorem dpO_k {a : Addr} {i : Int} {v : V} {H : Hp} {N : Hp → Prop} {kvs : List (Key × V)} : dpO a i v H N (some (.dK kvs)) = (kvs.length < sizeLine ∧ N (upd H a (.dK (putK kvs (ik i) v)))) := rfl
noncomputable def isDO : Option HO → Prop
  | some (.dK _) => True
  | _ => False
noncomputable def dopO (a : Addr) (i : Int) (H : Hp) (Q : VK) : Option HO → Prop
  | some (.dK kvs) => ∃ v, valV kvs (ik i) = some v ∧ Q v (upd H a (.dK (dropK kvs (ik i))))
  | _ => False
noncomputable def rDPop (x y : V) (H : Hp) (Q : VK) : Prop := match x, y with
  | .ref a, .int i => dopO a i H Q (H a)
  | _, _ => False
noncomputable def rIsD (x : V) (H : Hp) : Prop := match x with
  | .ref a => isDO (H a)
  | _ => False
noncomputable def tDPopI (to ti : TE) : TE := fun σ H Q => to σ H fun x H1 => rIsD x H1 ∧ ti σ H1 fun y H2 => rDPop x y H2 Q
theorem rIsD_ref {a : Addr} {H : Hp} : rIsD (.ref a) H = isDO (H a) := rfl
theorem isDO_k {kvs : List (Key × V)} : isDO (some (.dK kvs)) = True := rfl
theorem rDPop_ref {i : Int} {a : Addr} {H : Hp} {Q : VK} : rDPop (.ref a) (.int i) H Q = dopO a i H Q (H a) := rfl
theorem dopO_k {a : Addr} {i : Int} {H : Hp} {Q : VK} {kvs : List (Key × V)} : dopO a i H Q (some (.dK kvs)) = ∃ v, valV kvs (ik i) = some v ∧ Q v (upd H a (.dK (dropK kvs (ik i)))) := rfl
section
variable {X : Cx} {i o e value : Expr} {ti to te tv : TE} {pos pos' apos cpos : Pos}
theorem din_split {neg : Bool} {y x : V} {H : Hp} {Q : VK} (q : rDIn neg y x H Q) : ∃ j a kvs, y = .int j ∧ x = .ref a ∧ H a = some (.dK kvs) ∧ Q (.bl (if neg then !(valV kvs (ik j)).isSome else (valV kvs (ik j)).isSome)) H := by
  unfold rDIn at q
  split at q
  · rename_i j a
    unfold dinO at q
    split at q
    · rename_i kvs e1; exact ⟨j, a, kvs, rfl, rfl, e1, q⟩
    · exact q.elim
  · exact q.elim
theorem pc_dI (hu : X.A.units + 64 < cLine) (hi : PE X i ti) (ho : PE X o to) : PC X .In i o (tOp (rDIn false) ti to) := by
  intro pins s σ H Q I h
  have hu' : X.A.units + 1 < cLine := by omega
  refine thn (hi pins s σ H _ I h) fun iv s1 ⟨y, H1, I1, ry, q1⟩ => thn (ho pins s1 σ H1 _ I1 q1) fun u s2 ⟨x, H2, I2, rx, q2⟩ => ?_
  obtain ⟨j, a, kvs, rfl, rfl, e1, q⟩ := din_split q2
  obtain rfl : u = Value.ref a := rx
  exact d_in hu' I2 (DGet.k (k := ik j) e1) ry fun s' I' => ⟨.bl _, H2, I', rfl, q⟩
theorem dg_split {x y : V} {H : Hp} {Q : VK} (q : rDGet x y H Q) : ∃ j a kvs v, y = .int j ∧ x = .ref a ∧ H a = some (.dK kvs) ∧ valV kvs (ik j) = some v ∧ Q v H := by
  unfold rDGet at q
  split at q
  · rename_i a j
    unfold dgO at q
    split at q
    · rename_i kvs e1; obtain ⟨v, h1, h2⟩ := q; exact ⟨j, a, kvs, v, rfl, rfl, e1, h1, h2⟩
    · exact q.elim
  · exact q.elim
theorem pe_dgI (hu : X.A.units + 64 < cLine) (ho : PE X o to) (hi : PE X i ti) (hs : NoSl i) : PE X (.Subscript o i pos) (tOp rDGet to ti) := by
  intro pins s σ H Q I h
  have hu' : X.A.units + 1 < cLine := by omega
  refine subD_of PySem.F.slot_dict_getitem.lookup hs (thn (ho pins s σ H _ I h) fun u s1 ⟨x, H1, I1, rx, q1⟩ => thn (hi pins s1 σ H1 _ I1 q1) fun iv s2 ⟨y, H2, I2, ry, q2⟩ => ?_)
  obtain ⟨j, a, kvs, v, rfl, rfl, e1, e2, q⟩ := dg_split q2
  obtain rfl : u = Value.ref a := rx
  have g : DGet H2 a (.int j) (some v) := e2 ▸ DGet.k (k := ik j) e1
  exact ⟨dict_typeIs I2 g, d_getItem hu' I2 g ry fun w' s3 I3 rw' => ⟨v, H2, I3, rw', q⟩⟩
theorem dp_split {x y v : V} {H : Hp} {N : Hp → Prop} (q : rDPut x y v H N) : ∃ j a kvs, y = .int j ∧ x = .ref a ∧ H a = some (.dK kvs) ∧ kvs.length < sizeLine ∧ N (upd H a (.dK (putK kvs (ik j) v))) := by
  unfold rDPut at q
  split at q
  · rename_i a j
    unfold dpO at q
    split at q
    · rename_i kvs e1; exact ⟨j, a, kvs, rfl, rfl, e1, q⟩
    · exact q.elim
  · exact q.elim
theorem ps_dpI (hu : X.A.units + 64 < cLine) (ho : PE X o to) (hi : PE X i ti) (hv : PE X value tv) (hs : isComp value = false := by rfl) : PS X (.Assign [.Subscript o i pos'] value pos) (sDPutI to ti tv) := by
  intro pins s σ H D I h
  have hu' : X.A.units + 1 < cLine := by omega
  refine wpAny_Assign_Subscript (thn (hv pins s σ H _ I h) fun r s1 ⟨v, H1, I1, rv, q1⟩ => thn (ho pins s1 σ H1 _ I1 q1) fun u s2 ⟨x, H2, I2, rx, q2⟩ => thn (hi pins s2 σ H2 _ I2 q2) fun iv s3 ⟨y, H3, I3, ry, q3⟩ => ?_) (swaps_of hs)
  obtain ⟨j, a, kvs, rfl, rfl, e1, hl, q⟩ := dp_split q3
  obtain rfl : u = Value.ref a := rx
  exact d_setItem hu' I3 (DPut.k (k := ik j) e1 hl) ry rv fun s4 I4 => ⟨σ, _, I4, q⟩
theorem ps_augN {j : Nat} {x : Str} {op : Operator} {r : R2} (hN : X.N.Nodup) (hi : X.N[j]? = some x) (hx : Loc X.env.scope x) (he : PE X e te) (ho : OpR X (inplaceOp op) r) (hf : X.fn x = true ∨ X.env.scope.names.lookup x = some .local := by first | exact .inl rfl | exact .inr rfl | assumption) :
    PS X (.AugAssign (.Name x pos') op e pos) (tAug j te r) := ps_aug hN hi hx he ho hf
end
end L2


set_option maxRecDepth 100000
namespace L2
open PySem PySem.Spec PyProof.Rows
end L2


set_option maxRecDepth 100000
namespace L2
open PySem PySem.Spec PyProof.Rows
end L2


set_option maxRecDepth 100000
namespace L2
open PySem PySem.Spec PyProof.Rows
section
variable {X : Cx} {K : PySem.W.Frag}
end
end L2


set_option maxRecDepth 100000
namespace L2
open PySem PySem.Spec PyProof.Rows
section
variable {X : Cx} {a b c d : Expr} {ta tb tc td : TE} {pos : Pos}
end
end L2


set_option maxRecDepth 100000
namespace L2
open PySem PySem.Spec PyProof.Rows
section
variable {X : Cx} {i o e value : Expr} {ti to te tv : TE} {pos pos' apos cpos : Pos}
end
end L2


set_option maxRecDepth 100000
namespace L2
open PySem PySem.Spec PyProof.Rows
section
variable {X : Cx} {pins : List (Addr × Obj)} {σ : St} {H : Hp} {s : Shared} {h' : Heap}
theorem Inv.tupd {t' : Nat} {p : Addr} {ch : List Addr} {xs : List V} (I : Inv X pins σ H s) (k : ∀ b o, b ∉ ch → s.heap.get? b = some o → h'.get? b = some o) (f : ∀ b ∈ ch, FpOk X pins H b)
    (hp : s.heap.objs.size ≤ p) (new : ObjOk X.prog X.w (upd H p (.tup xs)) h' p (.tup xs)) : Inv X pins σ (upd H p (.tup xs)) { s with heap := h', toks := t' } := by
  have hn := I.hok.fresh hp
  have nit : ∀ b u, H b = some u → b ∉ ch := fun b u q z => by rw [(f b z).1] at q; cases q
  refine I.step (g' := s.gens) (d' := s.drawn) (ch := ch) (fun b hb => ?_) (fun b o _ _ hc q _ => k b o hc q) (fun b o _ _ hc q _ => ⟨o.slots, k b o hc q⟩)
    (fun b o _ q n => by rw [upd_ne (Nat.ne_of_lt (Nat.lt_of_lt_of_le (Heap.lt_size q) hp))]; exact n)
    (fun b o hc q => ⟨o, k b o hc q⟩) (fun b xs q => by rw [upd_ne (ne_of_none q hn)]; exact q) (fun b u xs q => by rw [upd_ne (ne_of_none q hn)]; exact q) (fun b ps q => ⟨#[], by rw [upd_ne (ne_of_none q hn), q]; simp⟩) (fun m hm => ?_) (fun b u q => ?_) I.bare
  · obtain ⟨e0, e1, e2, e3, e4, e5⟩ := f b hb
    exact ⟨e3, e1, e4, e5⟩
  · obtain ⟨o, es, ep, ho, r⟩ := hm
    exact ⟨o, es, ep, k _ o (fun z => (f _ z).2.1 rfl) ho, r⟩
  · by_cases hb : b = p
    · subst hb; rw [upd_same] at q; cases q; exact new
    · rw [upd_ne hb] at q
      refine (I.hok b u q).stay (fun c v hc q2 => ?_) (fun c q => by rw [upd_ne (ne_of_none q hn)]; exact q) fun c xs q => by rw [upd_ne (ne_of_none q hn)]; exact q
      rcases hc with z | z
      · subst z; exact k _ v (nit _ u q) q2
      · exact k c v (nit c _ z) q2
theorem Inv.turnedL {t' : Nat} {ch : List Addr} (I : Inv X pins σ H s) (k : ∀ b o, b ∉ ch → s.heap.get? b = some o → h'.get? b = some o) (f : ∀ b ∈ ch, FpOk X pins H b) : Inv X pins σ H { s with heap := h', toks := t' } := by
  have nit : ∀ b u, H b = some u → b ∉ ch := fun b u q z => by rw [(f b z).1] at q; cases q
  refine I.step (g' := s.gens) (d' := s.drawn) (ch := ch) (fun b hb => ?_) (fun b o _ _ hc q _ => k b o hc q) (fun b o _ _ hc q _ => ⟨o.slots, k b o hc q⟩)
    (fun b o _ q n => n) (fun b o hc q => ⟨o, k b o hc q⟩) (fun b xs q => q) (fun b u xs q => q) (fun b ps q => ⟨#[], by rw [q]; simp⟩) (fun m hm => ?_) (fun b u q => ?_) I.bare
  · obtain ⟨e0, e1, e2, e3, e4, e5⟩ := f b hb
    exact ⟨e3, e1, e4, e5⟩
  · obtain ⟨o, es, ep, ho, r⟩ := hm
    exact ⟨o, es, ep, k _ o (fun z => (f _ z).2.1 rfl) ho, r⟩
  · refine (I.hok b u q).stay (fun c v hc q2 => ?_) (fun c q => q) fun c xs q => q
    rcases hc with z | z
    · subst z; exact k _ v (nit _ u q) q2
    · exact k c v (nit c _ z) q2
end
section
variable {X : Cx} {elts : List Expr} {x1 : _} {tpos : Pos}
end
section
variable {K : PySem.W.Frag} {g : TG} {tb : TS} {D : Ends} {σ : St} {H : Hp} {ta : TA}
end
end L2


set_option maxRecDepth 100000
namespace L2
open PySem PySem.Spec PyProof.Rows
section
variable {X : Cx} {o e f : Expr} {to te tf : TE} {apos cpos : Pos}
end
section
variable {X : Cx} {pos : Pos}
structure QE (X : Cx) (e : Expr) (t : TE) : Prop where
  h : PE X e t
structure QS (X : Cx) (st : Stmt) (t : TS) : Prop where
  h : PS X st t
structure QSs (X : Cx) (l : List Stmt) (t : TS) : Prop where
  h : PSs X l t
theorem qss_one {st : Stmt} {t : TS} (h1 : QS X st t) : QSs X [st] t := ⟨pss_one h1.h⟩
theorem qss_cons {st : Stmt} {rest : List Stmt} {t u : TS} (h1 : QS X st t) (h2 : QSs X rest u) : QSs X (st :: rest) (tSeq t u) := ⟨pss_cons h1.h h2.h⟩
theorem qs_setQ {i : Nat} {x : Str} {e : Expr} {te : TE} {pos' : Pos} (hN : X.N.Nodup) (hi : X.N[i]? = some x) (hx : Loc X.env.scope x) (he : QE X e te) (h : isComp e = false := by rfl) (hf : X.fn x = true ∨ X.env.scope.names.lookup x = some .local := by first | exact .inl rfl | exact .inr rfl | assumption) :
    QS X (.Assign [.Name x pos'] e pos) (tAsg te (gName i)) := ⟨ps_setQ hN hi hx he.h h hf⟩
end
end L2


set_option maxRecDepth 100000
namespace L2
open PySem PySem.Spec PyProof.Rows
noncomputable def Itz (a b : Addr) : It :=
  ⟨fun i H => ∃ xs ys x y, H a = some (.lst xs) ∧ H b = some (.lst ys) ∧ xs[i]? = some x ∧ ys[i]? = some y,
   fun i H v H' => ∃ p x y, (∀ xs, H a = some (.lst xs) → xs[i]? = some x) ∧ (∀ ys, H b = some (.lst ys) → ys[i]? = some y) ∧ H p = none ∧ v = .ref p ∧ H' = upd H p (.tup [x, y]),
   fun i H => ∃ xs ys, H a = some (.lst xs) ∧ H b = some (.lst ys) ∧ (xs.length ≤ i ∨ ys.length ≤ i)⟩
noncomputable def TnZ (z TI TO i1 i2 a b : Addr) (i : Nat) (h : Heap) : Prop := IsZip h z TI TO .none ∧ IsPair h TI (.ref i1) (.ref i2) ∧ (∃ u v, IsPair h TO u v) ∧ h.IsListIter i1 a i ∧ h.IsListIter i2 b i
theorem turn_zip {P : Program} {w : World} {K : PySem.W.Frag} {elts : List Expr} {x1} {pos : Pos} (a b z TI TO i1 i2 : Addr) (D : ZipApart z TI TO i1 i2 a b) : Turn P w K (.Tuple elts x1 pos) (Itz a b) [z, TI, TO, i1, i2] z (TnZ z TI TO i1 i2 a b) where
  mem := by simp
  obj := fun i h st c hb => by
    obtain ⟨hz, hTI, ⟨u, v, hTO⟩, ⟨o1, ho1, c1, d1⟩, ⟨o2, ho2, c2, d2⟩⟩ := st
    have q : c = z ∨ c = TI ∨ c = TO ∨ c = i1 ∨ c = i2 := by simpa using hb
    rcases q with rfl | rfl | rfl | rfl | rfl
    · exact ⟨_, hz, fun v z => by cases z⟩
    · exact ⟨_, hTI, fun v z => by cases z⟩
    · exact ⟨_, hTO, fun v z => by cases z⟩
    · exact ⟨o1, ho1, fun v z => by rw [d1] at z; cases z⟩
    · exact ⟨o2, ho2, fun v z => by rw [d2] at z; cases z⟩
  keep := fun i h h' st k => by
    obtain ⟨hz, hTI, ⟨u, v, hTO⟩, h1, h2⟩ := st
    exact ⟨k z (by simp) _ hz, k TI (by simp) _ hTI, ⟨u, v, k TO (by simp) _ hTO⟩, h1.at fun o q => k i1 (by simp) o q, h2.at fun o q => k i2 (by simp) o q⟩
  item := by
    intro X hP hw hK hc i pins s σ H E I hf st hg
    subst hP hw hK
    obtain ⟨hz, hTI, ⟨u, v, hTO⟩, h1, h2⟩ := st
    obtain ⟨xs, ys, x, y, hqa, hqb, hx, hy⟩ := hg
    obtain ⟨_, its1, n1, r1, eo1⟩ := I.hok a _ hqa
    obtain ⟨_, its2, n2, r2, eo2⟩ := I.hok b _ hqb
    obtain ⟨u1, hu1, ru1⟩ := r1.get hx
    obtain ⟨u2, hu2, ru2⟩ := r2.get hy
    have hp := I.hok.fresh (Nat.le_refl s.heap.objs.size)
    have zs : z < s.heap.objs.size := Heap.lt_size hz
    refine wpAny_pyNext_zip_item D hz hTI hTO h1 h2 ⟨_, eo1, rfl, n1, rfl⟩ ⟨_, eo2, rfl, n2, rfl⟩ (x := u1) (y := u2) (by simpa using hu1) (by simpa using hu2) fun h' hz' hTO' h1' h2' hT' hs' hk' => ⟨_, rfl, wpAny_letOwnedTupleGo_zip hz' fun h'' hz'' hs'' => ?_⟩
    replace hs'' : Heap.SameBut z h' h'' := hs''
    have ht2 : h''.get? s.heap.objs.size = some { cls := .type "tuple", data := .seq #[u1, u2] } := (hs''.2 _ (Nat.ne_of_gt zs)).trans hT'
    have hTI' : IsPair h' TI (.ref i1) (.ref i2) := hk' _ _ D.TIz D.TITO D.TIi1 D.TIi2 hTI
    refine ⟨.ref s.heap.objs.size, upd H s.heap.objs.size (.tup [x, y]), ?_, rfl, ⟨_, x, y, fun zs hzs => by rw [hqa] at hzs; cases hzs; exact hx, fun zs hzs => by rw [hqb] at hzs; cases hzs; exact hy, hp, rfl, rfl⟩, ⟨hz'', (hs''.2 _ D.TIz).trans hTI', ⟨_, _, (hs''.2 _ D.TOz).trans hTO'⟩, h1'.extBut hs''.extBut D.i1z, h2'.extBut hs''.extBut D.i2z⟩, fun c hb => ?_⟩
    · refine I.tupd (t' := s.toks) (ch := [z, TI, TO, i1, i2]) (fun c o bn q => (hs''.2 c (fun e => bn (by simp [e]))).trans (hk' c o (fun e => bn (by simp [e])) (fun e => bn (by simp [e])) (fun e => bn (by simp [e])) (fun e => bn (by simp [e])) q)) hf (Nat.le_refl _) ⟨by show 2 ≤ sizeLine; rw [sizeLine_eq]; decide, [u1, u2], .cons ru1 (.cons ru2 .nil), ?_⟩
      exact ⟨_, ht2, rfl, _, rfl⟩
    · have fo := (hf c hb).1
      have cs : c < s.heap.objs.size := by
        have q : c = z ∨ c = TI ∨ c = TO ∨ c = i1 ∨ c = i2 := by simpa using hb
        obtain ⟨_, q1, _⟩ := h1
        obtain ⟨_, q2, _⟩ := h2
        rcases q with rfl | rfl | rfl | rfl | rfl
        · exact zs
        · exact Heap.lt_size hTI
        · exact Heap.lt_size hTO
        · exact Heap.lt_size q1
        · exact Heap.lt_size q2
      rw [upd_ne (Nat.ne_of_lt cs)]; exact fo
  done := by
    intro X hP hw hK hc i pins s σ H E I hf st hg
    subst hP hw hK
    obtain ⟨hz, hTI, ⟨u, v, hTO⟩, h1, h2⟩ := st
    obtain ⟨xs, ys, hqa, hqb, hlen⟩ := hg
    obtain ⟨_, its1, n1, r1, eo1⟩ := I.hok a _ hqa
    obtain ⟨_, its2, n2, r2, eo2⟩ := I.hok b _ hqb
    have l1 := r1.length
    have l2 := r2.length
    refine wpAny_pyNext_zip_end (I.ok.hd hc) D hz hTI hTO h1 h2 ⟨_, eo1, rfl, n1, rfl⟩ ⟨_, eo2, rfl, n2, rfl⟩ ?_ fun h' hk => ⟨rfl, I.turnedL (t' := s.toks) (ch := [z, TI, TO, i1, i2]) (fun c o bn q => hk c o (fun e => bn (by simp [e])) (fun e => bn (by simp [e])) (fun e => bn (by simp [e])) (fun e => bn (by simp [e])) q) hf⟩
    rcases hlen with q | q
    · exact .inl (by simp; omega)
    · exact .inr (by simp; omega)
  self := fun _ _ _ _ _ st h => wpAny_pyIter_zip st.1 h
theorem boot_zip : bootBuiltins "zip" = some (.type "zip") := by decide +kernel
noncomputable def znR (x y : V) (H1 : Hp) (R : It → Hp → Prop) : Prop := match x, y with
  | .ref a, .ref b => ∃ xs ys, H1 a = some (.lst xs) ∧ H1 b = some (.lst ys) ∧ R (Itz a b) H1
  | _, _ => False
noncomputable def jZip (ta : TA) : TI := fun σ H R => ta σ H fun vs H1 => match vs with
  | [x, y] => znR x y H1 R
  | _ => False
section
variable {X : Cx} {elts : List Expr} {x1 : _} {tpos : Pos}
theorem pj_zip {a b : Expr} {ta : TA} {p pos : Pos} (hg : Gl X "zip") (hm : X.mg "zip" = none) (ha : PA X [a, b] ta) (hs : starEach [a, b] X.env = (false, eval a X.env) :: starEach [b] X.env := by rfl) (hs2 : starEach [b] X.env = [(false, eval b X.env)] := by rfl) : PI X (.Tuple elts x1 tpos) (.Call (.Name "zip" p) [a, b] [] pos) (jZip ta) := by
  intro pins s σ H R I h
  refine Call_ (ld_blt I hg hm boot_zip (PyProof.Rows.callWith_type1 (thn (ha pos pins s σ H _ I h) fun us s1 ⟨vs, H1, I1, r1, q1⟩ => ?_) hs (by rw [hs2]; rfl)))
  cases r1 with
  | nil => exact q1.elim
  | @cons x u xs us r rr =>
    cases rr with
    | nil => exact q1.elim
    | @cons y v ys vs r' rr' =>
      cases rr' with
      | cons _ _ => exact q1.elim
      | nil =>
        replace q1 : znR x y H1 R := q1
        unfold znR at q1
        split at q1
        · rename_i c d
          obtain ⟨as, bs, hc, hd, q⟩ := q1
          cases r
          cases r'
          obtain ⟨_, its1, n1, rv1, eo1⟩ := I1.hok c _ hc
          obtain ⟨_, its2, n2, rv2, eo2⟩ := I1.hok d _ hd
          refine call_zip_2 ⟨_, eo1, rfl, n1, rfl⟩ ⟨_, eo2, rfl, n2, rfl⟩ fun h' hz hTI hTO hi1 hi2 hsz hk => ?_
          refine wpAny_pyIter_zip hz ?_
          refine ⟨_, [s1.heap.objs.size + 4, s1.heap.objs.size + 2, s1.heap.objs.size + 3, s1.heap.objs.size, s1.heap.objs.size + 1], _, _, H1, rfl, I1.kept (t' := s1.toks) fun b o e => hk b o e, turn_zip c d _ _ _ _ _ (zipApart_new (Heap.lt_size eo1) (Heap.lt_size eo2)), ⟨hz, hTI, ⟨_, _, hTO⟩, hi1, hi2⟩, fun e he => ?_, q⟩
          have ee : e = s1.heap.objs.size + 4 ∨ e = s1.heap.objs.size + 2 ∨ e = s1.heap.objs.size + 3 ∨ e = s1.heap.objs.size ∨ e = s1.heap.objs.size + 1 := by simpa using he
          have le : s1.heap.objs.size ≤ e := by
            rcases ee with rfl | rfl | rfl | rfl | rfl
            · exact Nat.le_add_right _ _
            · exact Nat.le_add_right _ _
            · exact Nat.le_add_right _ _
            · exact Nat.le_refl _
            · exact Nat.le_add_right _ _
          exact I1.fpOk le (I1.hok.fresh le)
        · exact q1.elim
end
section
variable {nv : Nat} {ix : List Nat} {g : TG} {tt : TT} {te : TE} {tb : TS} {D : Ends} {σ : St} {H : Hp} {ta : TA} {Q : VK}
theorem tFor_zip : tFor (jZip ta) g tb D σ H = ta σ H fun vs H1 => match vs with
  | [x, y] => znR x y H1 fun J H2 => forR J g tb D σ H2
  | _ => False := by
  unfold tFor jZip
  rfl
end
section
variable {K : PySem.W.Frag} {g : TG} {tt : TT} {te : TE} {H : Hp} {σ : St} {Q : List V → Hp → Prop}
end
end L2


set_option maxRecDepth 100000
namespace L2
open PySem PySem.Spec PyProof.Rows
noncomputable def ExO (h : Heap) (e : Addr) (cls : Value) (dx tb : Option Addr) : Prop :=
  ∃ oe vs, h.get? e = some oe ∧ oe.cls = cls ∧ oe.dict = dx ∧ oe.data = .fields vs ∧ 1 < vs.size ∧ (match tb with
    | none => vs[1]? = some .none
    | some T => vs[1]? = some (.ref T) ∧ T ≠ e ∧ ∃ oT ts, h.get? T = some oT ∧ oT.data = .fields ts ∧ ts[3]? = some .none)
structure Lft (S : List Addr) (e : Addr) (tb : Option Addr) (h h' : Heap) : Prop where
  keep : ∀ b o, b ∉ S → b ≠ e → (∀ T, tb = some T → b ≠ T) → h.get? b = some o → h'.get? b = some o
  slot : ∀ b o, b ∈ S → h.get? b = some o → ∃ sl, h'.get? b = some { o with slots := sl }
  there : ∀ b o, h.get? b = some o → ∃ o', h'.get? b = some o'
section
variable {M : Model} {A : Around} {E : Value → Shared → Prop} {s : Shared}
theorem dict_mapFields (f : Array Value → Array Value) (o : Obj) : (Obj.mapFields f o).dict = o.dict := by
  unfold Obj.mapFields
  split <;> rfl
noncomputable abbrev rowO (top : Value) (L : Addr) (ps : List Value) : Obj := { cls := .type "traceback", dict := none, data := .fields ([top, .ref L, .none, rawInt L, .none] ++ (if ps.isEmpty then List.replicate 6 Value.none else ps)).toArray }
theorem entry_x {base : Heap} {env : Env} {outer : List Env} {L e : Addr} {oe : Obj} {vs : Array Value} {top : Value} {had : Bool} {Q : Unit → Shared → Prop}
    (hfr : A.frames = some (env :: outer)) (hl : s.heap.FunFrames base (env :: outer)) (hf : env.frame = some L)
    (he : s.heap.get? e = some oe) (hd : oe.data = .fields vs) (hsz : 1 < vs.size)
    (h : ∀ h', ExO h' e oe.cls oe.dict (some s.heap.objs.size) → Lft ((env :: outer).filterMap (·.frame)) e none s.heap h' → Q () { s with heap := h' }) :
    wpAny M A (do let a ← frameOf env; let pl ← entryPlaceOf L had; let b ← EntryCells.newEntry top a .none (rawInt L) .none pl; setField (.ref e) 1 b) (fun _ s' => wpAny M A (setFlight (.ref e) none) Q E s') E s := by
  have out : e ∉ (env :: outer).filterMap (·.frame) := fun hm => by
    obtain ⟨_, o', ho', no⟩ := hl.mem hm
    cases he.symm.trans ho'
    exact no vs hd
  refine wpAny_bind (wpAny_frameOf_fun hfr hl hf fun k ks => wpAny_bind (wpAny_entryPlaceOf fun ps hps => ?_))
  unfold EntryCells.newEntry newFields
  refine wpAny_bind (wpAny_newObj_type ?_ (hps.sizeOk5 _ _ _ _ _))
  have ke : k.get? e = some oe := (ks.2.1 e out).trans he
  have far : k.objs.size ≠ e := Nat.ne_of_gt (Heap.lt_size ke)
  have esz : k.objs.size = s.heap.objs.size := ks.1
  have de := Obj.data_mapFields hd (·.setIfInBounds 1 (Value.ref k.objs.size))
  have e1 := Heap.get?_push_of_some (h := k) (rowO top L ps) ke
  have e2 := Heap.get?_update_self (Obj.mapFields (·.setIfInBounds 1 (Value.ref k.objs.size))) e1 (Obj.isFreed_of_fields de)
  have r2 := (Heap.get?_update_other (k.push (rowO top L ps)) (Obj.mapFields (·.setIfInBounds 1 (Value.ref k.objs.size))) (Ne.symm far)).trans (Heap.get?_push_size k rfl)
  refine wpAny_setField e1 hd hsz ?_
  unfold setFlight
  refine wpAny_bind (wpAny_field e2 de (x := .ref k.objs.size) (by simp [hsz]) ?_)
  rw [if_pos (by simp)]
  have r3 := Heap.get?_update_self (Obj.mapFields (·.setIfInBounds 3 ((none : Option Addr).elim Value.none fun f => rawInt f))) r2 (Obj.isFreed_of_fields (Obj.data_mapFields rfl _))
  refine wpAny_setField r2 rfl (by simp only [List.size_toArray, List.length_append, List.length_cons, List.length_nil] <;> omega) (h _ ?_ ?_)
  · rw [← esz]
    refine ⟨_, _, ?_, Obj.cls_mapFields _ _, dict_mapFields _ _, de, by simp [hsz], by simp [hsz], far, _, _, r3, Obj.data_mapFields rfl _, ?_⟩
    · rw [Heap.get?_update_other _ _ far]; exact e2
    · first | (simp; done) | (rcases hps with rfl | ⟨_, _, _, _, _, _, _, rfl⟩ <;> simp)
  · have keep : ∀ b o, b ≠ e → k.get? b = some o → (((k.push (rowO top L ps)).update e (Obj.mapFields (·.setIfInBounds 1 (Value.ref k.objs.size)))).update k.objs.size (Obj.mapFields (·.setIfInBounds 3 ((none : Option Addr).elim Value.none fun f => rawInt f)))).get? b = some o := fun b o ne hb => by
      rw [Heap.get?_update_other _ _ (Nat.ne_of_gt (Heap.lt_size hb)), Heap.get?_update_other _ _ (Ne.symm ne)]
      exact Heap.get?_push_of_some _ hb
    refine ⟨fun b o hS ne _ hb => keep b o ne ((ks.2.1 b hS).trans hb), fun b o hS hb => ?_, fun b o hb => ?_⟩
    · obtain ⟨sl, q⟩ := ks.2.2 b o hb
      exact ⟨sl, keep b _ (fun z => out (z ▸ hS)) q⟩
    · by_cases z : b = e
      · subst z
        rw [Heap.get?_update_other _ _ far]
        exact ⟨_, e2⟩
      · obtain ⟨sl, q⟩ := ks.2.2 b o hb
        exact ⟨_, keep b _ z q⟩
theorem note_x {base : Heap} {env : Env} {outer : List Env} {L e : Addr} {cls : Value} {dx tb : Option Addr} {Q : Unit → Shared → Prop}
    (hfr : A.frames = some (env :: outer)) (hl : s.heap.FunFrames base (env :: outer)) (hf : env.frame = some L) (hx : ExO s.heap e cls dx tb)
    (h : ∀ h', ExO h' e cls dx (some s.heap.objs.size) → Lft ((env :: outer).filterMap (·.frame)) e tb s.heap h' → Q () { s with heap := h' }) : wpAny M A (noteFrame (.ref e) env) (fun _ s' => wpAny M A (setFlight (.ref e) none) Q E s') E s := by
  obtain ⟨oe, vs, he, rfl, rfl, hd, hsz, ht⟩ := hx
  unfold noteFrame
  simp only [hf]
  cases tb with
  | none =>
    refine wpAny_bind (wpAny_field he hd ht ?_)
    rw [if_neg (by decide)]
    exact entry_x hfr hl hf he hd hsz h
  | some T =>
    obtain ⟨h1, ne, oT, ts, hT, dT, h3⟩ := ht
    have apart : ∀ b o, s.heap.get? b = some o → (∀ ws, o.data ≠ .fields ws) → b ≠ T := fun b o hb no z => by
      subst z
      cases hb.symm.trans hT
      exact no ts dT
    have out : T ∉ (env :: outer).filterMap (·.frame) := fun hm => by
      obtain ⟨_, o', ho', no⟩ := hl.mem hm
      exact apart T o' ho' no rfl
    refine wpAny_bind (wpAny_field he hd h1 ?_)
    rw [if_pos (by simp)]
    refine wpAny_bind (wpAny_field hT dT h3 ?_)
    rw [if_neg (by simp [rawInt])]
    refine wpAny_bind (wpAny_setField hT dT (Array.getElem?_eq_some_iff.mp h3).1 ?_)
    have oth : ∀ b, b ≠ T → (s.heap.update T (Obj.mapFields (·.setIfInBounds 3 Value.none))).get? b = s.heap.get? b := fun b z => Heap.get?_update_other _ _ (Ne.symm z)
    have self := Heap.get?_update_self (Obj.mapFields (·.setIfInBounds 3 Value.none)) hT (Obj.isFreed_of_fields (Obj.data_mapFields dT _))
    have fr := hl.of_keeps (h' := s.heap.update T (Obj.mapFields (·.setIfInBounds 3 Value.none))) fun b o hb no => ⟨o, (oth b (apart b o hb no)).trans hb, rfl⟩
    refine entry_x (oe := oe) (vs := vs) hfr fr hf ((oth e (Ne.symm ne)).trans he) hd hsz fun h' x k => ?_
    have sz : (s.heap.update T (Obj.mapFields (·.setIfInBounds 3 Value.none))).objs.size = s.heap.objs.size := Heap.size_update ..
    change ExO h' e oe.cls oe.dict (some (s.heap.update T (Obj.mapFields (·.setIfInBounds 3 Value.none))).objs.size) at x
    rw [sz] at x
    refine h h' x ⟨fun b o hS z zT hb => k.keep b o hS z (fun _ q => by cases q) ((oth b (zT T rfl)).trans hb), fun b o hS hb => k.slot b o hS ((oth b (fun q => out (q ▸ hS))).trans hb), fun b o hb => ?_⟩
    by_cases q : b = T
    · exact q ▸ k.there _ _ self
    · exact k.there b o ((oth b q).trans hb)
theorem leaving_x {base : Heap} {env : Env} {outer : List Env} {L e : Addr} {cls : Value} {dx tb : Option Addr} {Q : Unit → Shared → Prop}
    (hfr : A.frames = some (env :: outer)) (hl : s.heap.FunFrames base (env :: outer)) (hf : env.frame = some L) (hx : ExO s.heap e cls dx tb)
    (h : ∀ h', ExO h' e cls dx (some s.heap.objs.size) → Lft ((env :: outer).filterMap (·.frame)) e tb s.heap h' → Q () { s with heap := h' }) : wpAny M A (leaving env (.ref e)) Q E s := wpAny_bind (note_x hfr hl hf hx h)
end
noncomputable def CX1 (P : Program) (w : World) : CXT := fun outer H s E e s' => ∃ ea cls dx T H', e = .ref ea ∧ s'.os = s.os ∧ AllBare s'.gens ∧ Un (frs outer) [] H H' s.heap s'.heap ∧ HOk P w H' s'.heap ∧ ExO s'.heap ea cls dx (some T) ∧
  (s.heap.get? ea = none ∧ s.heap.get? T = none ∧ H' ea = none ∧ H' T = none) ∧ E cls dx H'
noncomputable instance {P : Program} {w : World} : Quiet (CX1 P w) := ⟨fun X pins σ H s e s' I h => by
  obtain ⟨_, _, _, _, _, _, _, _, _, _, _, _, h⟩ := h
  exact h.elim⟩
structure Fly (X : Cx) (pins : List (Addr × Obj)) (σ : St) (H : Hp) (s : Shared) (ea : Addr) (cls : Value) (dx tb : Option Addr) : Prop where
  inv : Inv X pins σ H s
  ex : ExO s.heap ea cls dx tb
  n0 : X.s₀.heap.get? ea = none
  nH : H ea = none
  tbs : ∀ T, tb = some T → X.s₀.heap.get? T = none ∧ H T = none
  apart : ∀ p ∈ X.pn ++ pins, p.1 ≠ ea ∧ ∀ T, tb = some T → p.1 ≠ T
noncomputable def Rz (X : Cx) (E : XK) : Prop := ∀ pins σ H s ea cls dx tb, Fly X pins σ H s ea cls dx tb → E cls dx H → X.xe (.ref ea) s
section
variable {P : Program} {w : World} {K : PySem.W.Frag} {mg : Str → Option Value} {base : Heap} {N : List Str} {qual : Str} {scope : Scope} {f : Addr} {cd : Value} {A : Around} {outer : List Env} {s : Shared} {H : Hp} {E : XK}
theorem rz_fn : Rz (cxOf (CX1 P w) P w K mg base N qual scope f cd A outer s H E) E := by
  intro pins σ H1 s1 ea cls dx tb F hE
  have I := F.inv
  have hst : (cxOf (CX1 P w) P w K mg base N qual scope f cd A outer s H E).stack = envOfC qual scope s.heap.objs.size f cd :: outer := rfl
  show wpAny (model P w) (A.deeper (envOfC qual scope s.heap.objs.size f cd)) (leaving (envOfC qual scope s.heap.objs.size f cd) (.ref ea)) _ _ s1
  refine leaving_x (base := base) (L := s.heap.objs.size) (by have := I.ok.frames; exact this) (by have := I.stack; exact this) rfl F.ex fun h' hx hk => ?_
  have hfree : ∀ b ∈ frs (envOfC qual scope s.heap.objs.size f cd :: outer), H1 b = none := I.stkFree
  have hin : ∀ b, b ∈ (envOfC qual scope s.heap.objs.size f cd :: outer).filterMap (·.frame) → b = s.heap.objs.size ∨ b ∈ frs outer := fun b hb => by
    rw [List.filterMap_cons] at hb
    exact (List.mem_cons.mp hb).elim .inl .inr
  have hne : ∀ b o, s.heap.get? b = some o → b ≠ ea ∧ (∀ T, tb = some T → b ≠ T) ∧ b ≠ s.heap.objs.size := fun b o e =>
    ⟨fun q => (by have h1 : s.heap.get? ea = none := F.n0; rw [q, h1] at e; cases e),
     fun T hT q => (by have h1 : s.heap.get? T = none := (F.tbs T hT).1; rw [q, h1] at e; cases e),
     Nat.ne_of_lt (Heap.lt_size e)⟩
  have B : Un (frs outer) [] H H1 s.heap s1.heap := I.base
  refine ⟨ea, cls, dx, _, H1, rfl, I.os, I.bare, ⟨fun b o q n hb hx => ?_, fun b o q n hb hx => ?_, B.free, fun b o q hx => ?_, B.tups, B.frzs, B.tbls⟩, fun b o q => ?_, hx, ⟨F.n0, ?_, F.nH, I.hok.fresh (Nat.le_refl _)⟩, hE⟩
  · obtain ⟨n1, n2, n3⟩ := hne b o q
    exact hk.keep b o (fun hm => (hin b hm).elim n3 hb) n1 n2 (B.keep b o q n hb hx)
  · obtain ⟨sl, e⟩ := B.slot b o q n hb hx
    obtain ⟨sl', e'⟩ := hk.slot b _ (by rw [List.filterMap_cons]; exact List.mem_cons_of_mem _ hb) e
    exact ⟨sl', e'⟩
  · obtain ⟨o', e⟩ := B.there b o q hx
    exact hk.there b o' e
  · have some_ne : ∀ c u, H1 c = some u → c ∉ (envOfC qual scope s.heap.objs.size f cd :: outer).filterMap (·.frame) ∧ c ≠ ea ∧ ∀ T, tb = some T → c ≠ T := fun c u e =>
      ⟨fun hm => (by rw [hfree c hm] at e; cases e), fun z => (by rw [z, F.nH] at e; cases e), fun T hT z => (by rw [z, (F.tbs T hT).2] at e; cases e)⟩
    refine (I.hok b o q).stay (fun c u hc e => ?_) (fun c e => e) (fun c xs e => e)
    rcases hc with z | z
    · obtain ⟨m1, m2, m3⟩ := some_ne b o q
      subst z
      exact hk.keep _ u m1 m2 m3 e
    · obtain ⟨m1, m2, m3⟩ := some_ne c _ z
      exact hk.keep c u m1 m2 m3 e
  · exact Heap.get?_none_of_le I.sz
end
section
variable {X : Cx} {E : XK}
theorem fly_of {pins : List (Addr × Obj)} {σ : St} {H : Hp} {s s' : Shared} {e : Value} (hex : X.ex = []) (I : Inv X pins σ H s) (h : CX1 X.prog X.w X.stack H s E e s') : ∃ ea cls dx T H', e = .ref ea ∧ Fly X pins σ H' s' ea cls dx (some T) ∧ E cls dx H' := by
  obtain ⟨ea, cls, dx, T, H', rfl, os, bare, un, hok, hx, ⟨n1, n2, n3, n4⟩, hE⟩ := h
  have I' := I.call' (ch := []) os un hok bare (fun b z => absurd z (by simp))
  have old : ∀ b, s.heap.get? b = none → X.s₀.heap.get? b = none := fun b hb => by
    cases q : X.s₀.heap.get? b with
    | none => rfl
    | some o =>
      obtain ⟨o', e⟩ := I.base.there b o q (by rw [hex]; simp)
      rw [hb] at e; cases e
  refine ⟨ea, cls, dx, T, H', rfl, ⟨I', hx, old ea n1, n3, (fun T' e => by cases e; exact ⟨old T n2, n4⟩), fun p hp => ⟨fun z => ?_, fun T' e z => ?_⟩⟩, hE⟩
  · have q := (I.pin p hp).1
    rw [z, n1] at q; cases q
  · cases e
    have q := (I.pin p hp).1
    rw [z, n2] at q; cases q
theorem Rz.passes (hex : X.ex = []) (h : Rz X E) : Passes (CX1 X.prog X.w) X E := fun pins σ H s e s' I q => by
  obtain ⟨ea, cls, dx, T, H', rfl, F, hE⟩ := fly_of hex I q
  exact h _ _ _ _ _ _ _ _ F hE
end
theorem DefAt.fnX {P : Program} {w : World} {K : PySem.W.Frag} {mg : Str → Option Value} {base : Heap} {CX : CXT} {x : Str} {st : Stmt} {N ps : List Str} {k : Nat} {sp : Sp} (F : DefAt K mg x st) (S : FnScope N ps (defScope st))
    (hb : ∀ (kV doc pm : Value) (an : Option Addr) (cdv ct : Value) (us : List Value), us.length = ps.length → bindArgs (PySem.W.fnOf x x (defArgs st) (defBody st) (defScope st) .none kV doc pm an cdv ct) ⟨us, []⟩ = pure (ps.zip us))
    (len : ∀ vs H Q E, sp vs H Q E → vs.length = ps.length)
    (hbody : ∀ (f : Addr) (cdv : Value) (A : Around) (outer : List Env) (s : Shared) (H : Hp) (vs : List V) (Q : VK) (E : XK), Room k (A.deeper (envOfC x (defScope st) s.heap.objs.size f cdv)) → sp vs H Q E →
      ∃ t, PSs (cxOf CX P w K mg base N x (defScope st) f cdv A outer s H E) (defBody st) t ∧ t { nx := fun _ H' => Q .non H', rt := Q } (start N vs) H) : FnAt P w K mg base CX x (k + 1) ps sp := by
  obtain ⟨f, fd, F, hm⟩ := F
  have bd := F.binds hb
  have kp := F.kp
  obtain ⟨oc, od, kV, doc, pm, an, cdv, ct, osl, rfl, lk, hcd⟩ := F.ex
  exact ⟨f, _, fn_of lk hcd S len fun A outer s H vs Q E hr hsp => hbody f cdv A outer s H vs Q E hr hsp, hm, kp, bd, oc, od, osl, lk⟩
theorem ObjOk.there {P : Program} {w : World} {H : Hp} {h : Heap} {a : Addr} {o : HO} (x : ObjOk P w H h a o) : ∃ u, h.get? a = some u := by
  cases o with
  | lst xs => obtain ⟨_, _, _, _, e⟩ := x; exact ⟨_, e⟩
  | tup xs => obtain ⟨_, _, _, ⟨o, e, _⟩⟩ := x; exact ⟨_, e⟩
  | dK kvs => obtain ⟨_, _, _, _, o, _, _, e, _⟩ := x; exact ⟨_, e⟩
  | dT kvs => obtain ⟨_, _, _, _, o, _, _, e, _⟩ := x; exact ⟨_, e⟩
  | set S n => obtain ⟨o, _, _, _, e, _⟩ := x; exact ⟨_, e⟩
  | ins C dx fs => obtain ⟨_, _, _, e, _⟩ := x; exact ⟨_, e⟩
  | own y => obtain ⟨_, e⟩ := x; exact ⟨_, e⟩
  | xd fs => obtain ⟨_, ⟨_, _, _, e, _⟩, _⟩ := x; exact ⟨_, e⟩
  | rng lo hi => obtain ⟨_, _, _, e⟩ := x; exact ⟨_, e⟩
  | frz ob u => obtain ⟨e, _⟩ := x; exact ⟨_, e⟩
  | tbl ps => exact ⟨_, (show h.get? a = some _ from x)⟩
  | met f y => exact ⟨_, (show h.get? a = some _ from x)⟩
  | ext φ => obtain ⟨_, e, _⟩ := x; exact e
noncomputable abbrev vErr : List Value := [.type "ValueError", .type "Exception", .type "BaseException", .type "object"]
structure XcAt (K : PySem.W.Frag) (mg : Str → Option Value) (x : Str) (C R : Addr) (ini : Option Value) : Prop where
  mgC : mg x = some (.ref C)
  cls : ∃ N nm q bs sn sub ab col dd k0 k1 k2 k3 k5, K.lookup C = some (excClassObj nm q C N bs (.ref R :: vErr) true sn sub ab col dd k0 k1 k2 k3 k5 "ValueError.__new__") ∧ PySem.W.nsOkIn K N = true ∧ PySem.W.nsIn K N "__init__" = some ini ∧ PySem.W.nsIn K N "__setattr__" = some none
  road : ∃ c0 dd cd sl, K.lookup R = some { cls := c0, dict := dd, data := .cls cd, slots := sl } ∧ PySem.W.nsOkIn K cd.ns = true ∧ PySem.W.nsIn K cd.ns "__init__" = some none ∧ PySem.W.nsIn K cd.ns "__setattr__" = some none
theorem xcat_mk {K : PySem.W.Frag} {h : Heap} {mg : Str → Option Value} {x : Str} {C R N : Addr} {ini : Option Value} {nm q : Str} {bs : List Value} {sn : List Str} {sub : List Value} {ab : Bool} {col : Option Bool} {dd ddR : Option Addr} {k0 k1 k2 k3 k5 : Option Value} {c0 : Value} {cd : ClassData} {sl : Array (Option Value)} (X : K.In h) (G : h.Ns mainGlobals mg)
    (a : PySem.W.nsIn K mainGlobals x = some (some (.ref C))) (l : K.lookup C = some (excClassObj nm q C N bs (.ref R :: vErr) true sn sub ab col dd k0 k1 k2 k3 k5 "ValueError.__new__")) (o : PySem.W.nsOkIn K N = true) (i : PySem.W.nsIn K N "__init__" = some ini) (t : PySem.W.nsIn K N "__setattr__" = some none)
    (l' : K.lookup R = some { cls := c0, dict := ddR, data := .cls cd, slots := sl }) (o' : PySem.W.nsOkIn K cd.ns = true) (i' : PySem.W.nsIn K cd.ns "__init__" = some none) (t' : PySem.W.nsIn K cd.ns "__setattr__" = some none) : XcAt K mg x C R ini :=
  ⟨PySem.W.mg_of X G a, ⟨N, nm, q, bs, sn, sub, ab, col, dd, k0, k1, k2, k3, k5, l, o, i, t⟩, ⟨c0, ddR, cd, sl, l', o', i', t'⟩⟩
theorem XcAt.tail {K : PySem.W.Frag} {mg : Str → Option Value} {x : Str} {C R : Addr} {ini : Option Value} (c : XcAt K mg x C R ini) {h : Heap} (X : K.In h) : OwnTail h vErr (.ref R :: vErr) := by
  obtain ⟨c0, dd, cd, sl, l, o, i, _⟩ := c.road
  exact .own (X _ _ l) (.of_isNs (PySem.W.isNs_of_in X o)) (PySem.W.nsMap_none_of_in X o i) .base
section
variable {X : Cx} {E : XK}
theorem fly_new {pins : List (Addr × Obj)} {σ : St} {H : Hp} {s : Shared} {h' : Heap} {e : Addr} {cls : Value} {args : List Value} (hex : X.ex = []) (I : Inv X pins σ H s) (hm : Heap.MadeExcOf s.heap h' e cls args) : Fly X pins σ H { s with heap := h' } e cls none none := by
  have hn := hm.new
  obtain ⟨t, he, _, _⟩ := hm.there
  refine ⟨I.kept (t' := s.toks) hm.keeps, ⟨_, _, he, rfl, rfl, rfl, by show 1 < 6; decide, rfl⟩, ?_, ?_, (fun T q => by cases q), fun p hp => ⟨fun z => ?_, fun T q => by cases q⟩⟩
  · cases q : X.s₀.heap.get? e with
    | none => rfl
    | some o =>
      obtain ⟨o', e'⟩ := I.base.there e o q (by rw [hex]; simp)
      rw [hn] at e'; cases e'
  · cases q : H e with
    | none => rfl
    | some u =>
      obtain ⟨o', e'⟩ := (I.hok e u q).there
      rw [hn] at e'; cases e'
  · have q := (I.pin p hp).1
    rw [z, hn] at q; cases q
noncomputable def tRaise0 (E : XK) (C : Addr) : TS := fun _ _ H => E (.ref C) none H
theorem ps_raise0 {x : Str} {C R : Addr} {np cpos pos : Pos} (c : XcAt X.K X.mg x C R none) (hz : Rz X E) (hc : X.calm = true) (hex : X.ex = []) (hg : Gl X x) (hdb : (x == ("__debug__" : Str)) = false := by decide) :
    PS X (.Raise (some (.Call (.Name x np) [] [] cpos)) none pos) (tRaise0 E C) := by
  intro pins s σ H D I h
  obtain ⟨N, nm, q, bs, sn, sub, ab, col, dd, k0, k1, k2, k3, k5, l, o, i, _⟩ := c.cls
  have T := c.tail I.kIn
  refine wpAny_Raise_call_subT PySem.F.excBase_ValueError (T.hasType (by decide +kernel)) (I.ok.hd hc) rfl (PySem.W.nsMap_none_of_in I.kIn o i) (ld_glob I hg c.mgC ⟨rfl, evalArgs_nil3 ⟨rfl, Nat.zero_le _, I.kIn _ _ l, .of_isNs (PySem.W.isNs_of_in I.kIn o), T, fun h' e hx => ?_⟩⟩ hdb)
  exact hz _ _ _ _ _ _ _ _ (fly_new hex I hx) h
end
end L2


set_option maxRecDepth 100000
set_option maxHeartbeats 1000000
namespace L2
open PySem PySem.Spec PyProof.Rows
section
variable {prog : Program} {w : World} {A : Around} {s : Shared} {K : PySem.W.Frag} {x C R : Addr} {cd : ClassData} {name : Str} {v : Value}
theorem set_x {E : Value → Shared → Prop} {vs : Array Value} {Q : Unit → Shared → Prop} (X : K.In s.heap) (hx : s.heap.get? x = some ⟨.ref C, none, .fields vs, #[]⟩) (hc : PySem.W.clsIn K C = some cd) (hm : cd.mro = .ref C :: .ref R :: vErr) (hd : cd.hasDict = true)
    (hs : PySem.W.findIn K (.ref C) "__setattr__" = some (some (.builtin "object.__setattr__"))) (ha : PySem.W.findIn K (.ref C) name = some none)
    (h : ∀ h' t', h'.get? x = some ⟨.ref C, some s.heap.objs.size, .fields vs, #[]⟩ → h'.Ns1 s.heap.objs.size (fun y => if y = name then some v else none) → (∀ b o, b ≠ x → s.heap.get? b = some o → h'.get? b = some o) → Q () { s with heap := h', toks := t' }) :
    wpAny (model prog w) A (setAttr (.ref x) name v) Q E s := by
  have I : PySem.W.InstAt s.heap x ⟨.ref C, none, .fields vs, #[]⟩ C none := ⟨hx, rfl, rfl, True.intro⟩
  have F := PySem.F.store_object
  have lc : PySem.W.Looks (model prog w) s.heap (classData C) cd := PySem.W.looks_clsIn X hc
  have sub : PySem.W.Looks (model prog w) s.heap (isInstance (.ref x) (.type "object")) true := I.type.andThen (PySem.W.looks_mroIn X (by unfold PySem.W.mroIn; rw [hc, Option.bind_some, hm]; rfl))
  have mro : PySem.W.Looks (model prog w) s.heap (mroOf (.ref C)) cd.mro := lc.andThen .now
  refine PySem.W.set_plain X I hs ?_
  refine codeAny_call_builtin F.slot.plain F.entry ?_
  refine @PySem.W.check_slot (model prog w) _ _ { s with toks := s.toks + 1 } "object.__setattr__" "object" "__setattr__" (.ref x) [.str name s.toks, v] [] _ F.kind F.split sub (F.args (.ref x) (.str name s.toks) v) ?_
  rw [PySem.W.osa_eq, refuse_eq]
  refine wpAny_bind (wpAny_bind (I.type.here (s := { s with toks := s.toks + 1 }) (wpAny_bind (mro.here (s := { s with toks := s.toks + 1 }) ?_))))
  rw [hm, refuseLoop_ref, refuseLoop_ref, PySem.F.store_ValueError.passes]
  refine wpAny_pure (wpAny_bind (I.type.here (s := { s with toks := s.toks + 1 }) (wpAny_bind ((PySem.W.looks_findIn X ha).here (s := { s with toks := s.toks + 1 }) (wpAny_bind (wpAny_pure ?_))))))
  refine wpAny_bind (wpAny_pure (wpAny_bind (wpAny_bind (wpAny_loadPart (s := { s with toks := s.toks + 1 }) hx (wpAny_bind (lc.here (s := { s with toks := s.toks + 1 }) ?_))))))
  rw [hd, if_neg (by decide)]
  have sx : x ≠ s.heap.objs.size := Nat.ne_of_lt (Heap.lt_size hx)
  have h1 : (s.heap.push { cls := .type "dict", data := .dict #[] }).get? x = some ⟨.ref C, none, .fields vs, #[]⟩ := Heap.get?_push_of_some _ hx
  have h2 := Heap.get?_update_self (fun o : Obj => { cls := o.cls, dict := some s.heap.objs.size, data := o.data, slots := o.slots }) h1 rfl
  have h3 : ((s.heap.push { cls := .type "dict", data := .dict #[] }).update x fun o => { cls := o.cls, dict := some s.heap.objs.size, data := o.data, slots := o.slots }).get? s.heap.objs.size = some { cls := .type "dict", data := .dict #[] } :=
    (Heap.get?_update_other _ _ sx).trans (Heap.get?_push_size _ rfl)
  have hn : ((s.heap.push { cls := .type "dict", data := .dict #[] }).update x fun o => { cls := o.cls, dict := some s.heap.objs.size, data := o.data, slots := o.slots }).Ns s.heap.objs.size (fun _ => none) :=
    ⟨_, #[], _, h3, rfl, fun e he => absurd he (by simp), fun _ => rfl⟩
  show wpAny _ _ (alloc { cls := .type "dict", data := .dict #[] } >>= fun d => update x (fun o => { cls := o.cls, dict := some d, data := o.data, slots := o.slots }) >>= fun _ => dictMade (.ref C) x d) _ _ _
  refine wpAny_bind (wpAny_alloc ?_)
  refine wpAny_bind (wpAny_update (s := { s with heap := s.heap.push { cls := .type "dict", data := .dict #[] }, toks := s.toks + 1 }) h1 ?_)
  refine wpAny_pure ?_
  show wpAny _ _ (Builtin.ObjectAttr.storeInDict s.heap.objs.size (.str name s.toks) name v) _ _ _
  unfold Builtin.ObjectAttr.storeInDict Builtin.ObjectAttr.newKeyGuard
  refine wpAny_bind (wpAny_pure (wpAny_bind (wpAny_nsSet1 (Heap.Ns1.of_empty hn) fun h' n' sb => ?_)))
  obtain ⟨oD, esD, epD, hoD, hdD, hcD⟩ := n'.count (PySem.Within.cons name v PySem.Within.nil)
  refine wpAny_bind (wpAny_lookBehind hoD (by rw [hdD]; exact pastItsLine_dict (Nat.le_trans hcD (by rw [List.length_cons, List.length_nil, sizeLine_eq]; omega))) ?_)
  refine wpAny_pure (h h' _ ((sb.2 x sx).trans h2) ?_ fun b o ne hb => ?_)
  · obtain ⟨o', es, ep, e1, e2, e3, eu, e4⟩ := n'
    exact ⟨o', es, ep, e1, e2, e3, eu, fun y => by rw [e4 y]⟩
  · exact (sb.2 b (Nat.ne_of_lt (Heap.lt_size hb))).trans ((Heap.get?_update_other _ _ (Ne.symm ne)).trans (Heap.get?_push_of_some _ hb))
end
section
variable {prog : Program} {w : World} {A : Around} {E : Value → Shared → Prop} {h : Heap} {g : Array GenState} {d : Drawn} {t : Nat} {os : OsState} {K : PySem.W.Frag}
variable {nm q : Str} {C N : Addr} {bs bm : List Value} {hdct : Bool} {sn : List Str} {sub : List Value} {ab : Bool} {col : Option Bool} {dd : Option Addr} {k0 k1 k2 k3 k5 : Option Value}
theorem tcall_x {rest : List Value} {fI : Addr} {Q : Fin → Shared → Prop} (X : K.In h) (T : OwnTail h vErr bm)
    (hC : h.get? C = some (excClassObj nm q C N bs bm hdct sn sub ab col dd k0 k1 k2 k3 k5 "ValueError.__new__")) (hi : PySem.W.findIn K (.ref C) "__init__" = some (some (.ref fI))) (hf : PySem.W.typeIn K (.ref fI) = some (.type "function"))
    (hr : rest.length ≤ sizeLine)
    (hq : ∀ h' e, Heap.MadeExcOf h h' e (.ref C) rest → wpAny (model prog w) A (call (.ref fI) (.ref e :: rest)) (fun r s' => r = .none ∧ Q (.done (.ret (.ref e))) s') E ⟨h', g, d, t, os⟩) :
    wpAny (model prog w) A (Builtin.«type.__call__» ⟨.ref C :: rest, []⟩) Q E ⟨h, g, d, t, os⟩ := by
  have F := PySem.F.excBase_ValueError
  repeat (first | with_reducible refine wpAny_loadPart_at hC ?_ | with_reducible refine wpAny_madeBy_exc hC ?_ | wp_step)
  refine codeAny_call_builtin_code (Code.quiet_builtin _ F.quiet) (wpAny_check_new_subT F T hC ?_)
  refine codeAny_exc_new_subT F T hC ?_ hr
  show wpAny _ _ _ _ _ _
  have up : ∀ b o, h.get? b = some o → ((h.push { cls := .type "tuple", data := .seq rest.toArray }).push { cls := .ref C, data := .fields #[.ref h.objs.size, .none, .none, .none, .bool false, .none] }).get? b = some o := fun b o e => Heap.get?_push_of_some _ (Heap.get?_push_of_some _ e)
  have C2 := up _ _ hC
  have X2 := X.keeps up
  have e2 : ((h.push { cls := .type "tuple", data := .seq rest.toArray }).push { cls := .ref C, data := .fields #[.ref h.objs.size, .none, .none, .none, .bool false, .none] }).get? (h.objs.size + 1) = some { cls := .ref C, data := .fields #[.ref h.objs.size, .none, .none, .none, .bool false, .none] } := by heap_get
  have t2 : ((h.push { cls := .type "tuple", data := .seq rest.toArray }).push { cls := .ref C, data := .fields #[.ref h.objs.size, .none, .none, .none, .bool false, .none] }).get? h.objs.size = some { cls := .type "tuple", data := .seq rest.toArray } := Heap.get?_push_of_some _ (Heap.get?_push_at rfl rfl)
  have made : Heap.MadeExcOf h ((h.push { cls := .type "tuple", data := .seq rest.toArray }).push { cls := .ref C, data := .fields #[.ref h.objs.size, .none, .none, .none, .bool false, .none] }) (h.objs.size + 1) (.ref C) rest :=
    ⟨up, Heap.get?_none_of_le (Nat.le_succ _), h.objs.size, e2, Heap.get?_none_of_le (Nat.le_refl _), t2⟩
  have q2 := hq _ _ made
  have me : (Value.ref C :: bm).contains (.ref C) = true := by simp
  generalize (h.push { cls := .type "tuple", data := .seq rest.toArray }).push { cls := .ref C, data := .fields #[.ref h.objs.size, .none, .none, .none, .bool false, .none] } = h2 at *
  unfold isInstance
  repeat (first | with_reducible refine wpAny_loadPart_at e2 ?_ | (with_reducible refine wpAny_isSubtype_exc C2 ?_; rw [me]) | wp_step)
  show wpAny _ _ (typeLookup (.ref C) _) _ _ _
  refine (PySem.W.looks_findIn X2 hi).here (s := ⟨h2, g, d, t, os⟩) ?_
  refine wpAny_holding (wpAny_bind ((PySem.W.bind_fn X2 _ hf).here (s := ⟨h2, g, d, t, os⟩) (wpAny_bind (wpAny_mono q2 (fun r s' hr => ?_) fun _ _ z => z))))
  obtain ⟨rfl, hQ⟩ := hr
  wp_walk
  exact hQ
theorem call_x {rest : List Value} {fI : Addr} {Q : Value → Shared → Prop} (X : K.In h) (T : OwnTail h vErr bm)
    (hC : h.get? C = some (excClassObj nm q C N bs bm hdct sn sub ab col dd k0 k1 k2 k3 k5 "ValueError.__new__")) (hi : PySem.W.findIn K (.ref C) "__init__" = some (some (.ref fI))) (hf : PySem.W.typeIn K (.ref fI) = some (.type "function"))
    (hr : rest.length ≤ sizeLine)
    (hq : ∀ h' e, Heap.MadeExcOf h h' e (.ref C) rest → wpAny (model prog w) (A.under (.builtin "type.__call__" ⟨.ref C :: rest, []⟩)) (call (.ref fI) (.ref e :: rest)) (fun r s' => r = .none ∧ Q (.ref e) s') E ⟨h', g, d, t, os⟩) :
    wpAny (model prog w) A (call (.ref C) rest) Q E ⟨h, g, d, t, os⟩ := by
  have f1 := tc_lookup
  have f2 := tc_bind (.ref C)
  have hT : (⟨h, g, d, t, os⟩ : Shared).TypeIs (.ref C) "type" := ⟨_, hC, rfl⟩
  refine wpAny_call (codeAny_of_tree ?_)
  show wpAny _ _ (callAny (.ref C) _) _ _ _
  repeat (any_goals (first | assumption | with_reducible refine wpAny_loadPart_at hC ?_ | wp_step))
  refine ⟨rfl, ?_⟩
  refine codeAny_call_builtin_at (Code.quiet_builtin _ (by decide +kernel)) entry_typeCall (wpAny_check_type_call_sub hC (tcall_x X T hC hi hf hr fun h' e hm => ?_))
  exact hq h' e hm
theorem raise_x {s : Shared} {env : Env} {x : Sem Value} {Q : Flow → Shared → Prop} (hbase : bm.contains (.type "BaseException") = true) (hh : A.handled = none)
    (hx : wpAny (model prog w) A x (fun v s₁ => ∃ e dx vs, v = .ref e ∧ s₁.heap.get? C = some (excClassObj nm q C N bs bm hdct sn sub ab col dd k0 k1 k2 k3 k5 "ValueError.__new__") ∧ s₁.heap.get? e = some ⟨.ref C, dx, .fields vs, #[]⟩ ∧ vs[1]? = some .none ∧ E (.ref e) s₁) E s) :
    wpAny (model prog w) A (raiseStmt env (some x) none) Q E s := by
  have me : (Value.ref C :: bm).contains (.type "BaseException") = true := by rw [List.contains_cons, hbase, Bool.or_true]
  unfold raiseStmt
  refine wpAny_bind (wpAny_mono hx (fun v s₁ h₁ => ?_) fun _ _ x => x)
  obtain ⟨e, dx, vs, rfl, hC, he, h1, hE⟩ := h₁
  obtain ⟨hp, g, d, tk, os⟩ := s₁
  repeat (first | with_reducible refine wpAny_loadPart_at he ?_ | with_reducible refine wpAny_loadPart_at hC ?_ | (with_reducible refine wpAny_isSubtype_exc hC ?_; rw [me]) | wp_step)
  rw [h1]
  refine wpAny_pure ?_
  rw [if_neg (by decide)]
  exact wpAny_pure (wpAny_raiseNew_none hh hE)
end
end L2


set_option maxRecDepth 100000
set_option maxHeartbeats 1000000
namespace L2
open PySem PySem.Spec PyProof.Rows
noncomputable def exN (e C : Addr) (dx : Option Addr) : Heap → Prop := fun h => ∃ vs : Array Value, h.get? e = some ⟨.ref C, dx, .fields vs, #[]⟩ ∧ 1 < vs.size ∧ vs[1]? = some .none
theorem exN_ok {P : Program} {w : World} {H : Hp} {h : Heap} {e C : Addr} {dx : Option Addr} (x : exN e C dx h) : ObjOk P w H h e (.ext (exN e C dx)) :=
  ⟨x, x.elim fun vs q => ⟨_, q.1⟩, fun h1 h2 x1 k => by obtain ⟨vs, q, r⟩ := x1; exact ⟨vs, k _ q, r⟩⟩
noncomputable def dropH (H : Hp) (e : Addr) : Hp := fun b => if b = e then none else H b
theorem dropH_ne {H : Hp} {e b : Addr} (n : b ≠ e) : dropH H e b = H b := by unfold dropH; rw [if_neg n]
theorem dropH_same {H : Hp} {e : Addr} : dropH H e e = none := by unfold dropH; rw [if_pos rfl]
section
variable {X : Cx} {pins : List (Addr × Obj)} {σ : St} {H : Hp} {s : Shared} {h' : Heap} {e C : Addr}
theorem Inv.drop {φ : Heap → Prop} (I : Inv X pins σ H s) (h : H e = some (.ext φ)) : Inv X pins σ (dropH H e) s := by
  have ne : ∀ {b : Addr} {o : HO}, H b = some o → (∀ ψ, o ≠ .ext ψ) → b ≠ e := fun {b o} q n z => by
    subst z
    rw [h] at q
    injection q with q
    exact n φ q.symm
  refine I.un (t' := s.toks) (h' := s.heap) ⟨fun b o q n _ _ => q, fun b o q n _ _ => ⟨o.slots, q⟩, fun b o q n _ => ?_, fun b o q _ => ⟨o, q⟩, fun b xs q => ?_, fun b o u q => ?_, fun b ps q => ⟨#[], ?_⟩⟩ fun b o q => ?_
  · unfold dropH
    split
    · rfl
    · exact n
  · rw [dropH_ne (ne q (by simp))]; exact q
  · rw [dropH_ne (ne q (by simp))]; exact q
  · rw [dropH_ne (ne q (by simp)), q]; simp
  · have nb : b ≠ e := fun z => by rw [z, dropH_same] at q; cases q
    rw [dropH_ne nb] at q
    exact (I.hok b o q).stay (fun c u _ z => z) (fun c z => by rw [dropH_ne (ne z (by simp))]; exact z) fun c xs z => by rw [dropH_ne (ne z (by simp))]; exact z
theorem Inv.setx {vs : Array Value} {y : V} {u : Value} {f : Str} {t' : Nat} (I : Inv X pins σ H s) (hH : H e = some (.ext (exN e C none))) (he : h'.get? e = some ⟨.ref C, some s.heap.objs.size, .fields vs, #[]⟩) (v1 : 1 < vs.size) (v2 : vs[1]? = some .none)
    (hn : h'.Ns1 s.heap.objs.size (fun z => if z = f then some u else none)) (k : ∀ b o, b ≠ e → s.heap.get? b = some o → h'.get? b = some o) (ry : RelV y u) :
    Inv X pins σ (upd (upd H s.heap.objs.size (.xd [(f, y)])) e (.ext (exN e C (some s.heap.objs.size)))) { s with heap := h', toks := t' } := by
  have eN : e ≠ s.heap.objs.size := Nat.ne_of_lt (I.hok e _ hH).lt
  have hN : H s.heap.objs.size = none := I.hok.fresh (Nat.le_refl _)
  have nn : ∀ {b : Addr} {o : HO}, H b = some o → b ≠ s.heap.objs.size := fun {b o} q z => by rw [z, hN] at q; cases q
  have ne : ∀ {b : Addr} {o : HO}, H b = some o → (∀ ψ, o ≠ .ext ψ) → b ≠ e := fun {b o} q n z => by
    subst z
    rw [hH] at q
    injection q with q
    exact n _ q.symm
  have fr : ∀ b, H b = none → b ≠ e := fun b q z => by rw [z, hH] at q; cases q
  refine I.un (t' := t') ⟨fun b o q n _ _ => k b o (fr b n) q, fun b o q n _ _ => ⟨o.slots, k b o (fr b n) q⟩, fun b o q n _ => ?_, fun b o q _ => ?_, fun b xs q => ?_, fun b o u q => ?_, fun b ps q => ⟨#[], ?_⟩⟩ fun b o q => ?_
  · rw [upd_ne (fr b n), upd_ne (Nat.ne_of_lt (Heap.lt_size q))]; exact n
  · by_cases z : b = e
    · exact ⟨_, z ▸ he⟩
    · exact ⟨o, k b o z q⟩
  · rw [upd_ne (ne q (by simp)), upd_ne (nn q)]; exact q
  · rw [upd_ne (ne q (by simp)), upd_ne (nn q)]; exact q
  · rw [upd_ne (ne q (by simp)), upd_ne (nn q), q]; simp
  · by_cases z : b = e
    · subst z
      rw [upd_same] at q
      cases q
      exact exN_ok ⟨vs, he, v1, v2⟩
    · rw [upd_ne z] at q
      by_cases z2 : b = s.heap.objs.size
      · subst z2
        rw [upd_same] at q
        cases q
        refine ⟨_, hn, fun g => ?_⟩
        show RelO (List.lookup g [(f, y)]) (if g = f then some u else none)
        by_cases c : g = f
        · rw [if_pos c, c]
          simp only [List.lookup, BEq.rfl]
          exact ry
        · rw [if_neg c]
          have : (g == f) = false := beq_eq_false_iff_ne.mpr c
          simp only [List.lookup, this]
          exact True.intro
      · rw [upd_ne z2] at q
        refine (I.hok b o q).stay (fun c u hc g => ?_) (fun c g => by rw [upd_ne (ne g (by simp)), upd_ne (nn g)]; exact g) fun c xs g => by rw [upd_ne (ne g (by simp)), upd_ne (nn g)]; exact g
        rcases hc with r | r
        · exact k c u (r ▸ z) g
        · exact k c u (ne r (by simp)) g
end
structure XfAt (K : PySem.W.Frag) (C : Addr) (f : Str) : Prop where
  sa : PySem.W.findIn K (.ref C) "__setattr__" = some (some (.builtin "object.__setattr__"))
  no : PySem.W.findIn K (.ref C) f = some none
noncomputable def sFldX (C : Addr) (ta tv : TE) (f : Str) : TS := fun D σ H => tv σ H fun y H1 => ta σ H1 fun x H2 => ∃ e, x = .ref e ∧ H2 e = some (.ext (exN e C none)) ∧ ∀ dx, H2 dx = none → D.nx σ (upd (upd H2 dx (.xd [(f, y)])) e (.ext (exN e C (some dx))))
section
variable {X : Cx} {E : XK}
theorem XcAt.cd {K : PySem.W.Frag} {mg : Str → Option Value} {x : Str} {C R : Addr} {ini : Option Value} (c : XcAt K mg x C R ini) : ∃ cd : ClassData, PySem.W.clsIn K C = some cd ∧ cd.mro = .ref C :: .ref R :: vErr ∧ cd.hasDict = true := by
  obtain ⟨N, nm, q, bs, sn, sub, ab, col, dd, k0, k1, k2, k3, k5, l, _⟩ := c.cls
  unfold PySem.W.clsIn
  rw [l]
  exact ⟨_, rfl, rfl, rfl⟩
theorem ps_fldX {o value : Expr} {f x : Str} {C R : Addr} {ini : Option Value} {pos pos' : Pos} {ta tv : TE} (c : XcAt X.K X.mg x C R ini) (m : XfAt X.K C f) (ha : PE X o ta) (hv : PE X value tv) (hs : isComp value = false := by rfl) : PS X (.Assign [.Attribute o f pos'] value pos) (sFldX C ta tv f) := by
  intro pins s σ H D I h
  obtain ⟨cd, hc, hm, hd⟩ := c.cd
  refine plainObj_wpAny_Assign_Attribute (thn (hv pins s σ H _ I h) fun u s1 ⟨y, H1, I1, ry, q⟩ => thn (ha pins s1 σ H1 _ I1 q) fun ov s2 ⟨x, H2, I2, rx, e, ex, eH, q2⟩ => ?_) (swaps_of hs)
  subst ex
  obtain rfl : ov = Value.ref e := rx
  obtain ⟨⟨vs, he, v1, v2⟩, _⟩ := I2.hok e _ eH
  refine set_x I2.kIn he hc hm hd m.sa m.no fun h' t' g1 g2 g3 => ⟨σ, _, I2.setx eH g1 v1 v2 g2 g3 ry, q2 _ (I2.hok.fresh (Nat.le_refl _))⟩
end
noncomputable def tRaiseI (C : Addr) (sp : Sp) (E : XK) (ta : TA) : TS := fun _ σ H => ta σ H fun vs H1 => ∀ e, H1 e = none → sp (.ref e :: vs) (upd H1 e (.ext (exN e C none))) (fun v H2 => v = .non ∧ ∃ dx, H2 e = some (.ext (exN e C dx)) ∧ E (.ref C) dx (dropH H2 e)) E0
section
variable {X : Cx} {E : XK}
theorem Inv.newx {pins : List (Addr × Obj)} {σ : St} {H : Hp} {s : Shared} {h' : Heap} {e C : Addr} {args : List Value} (I : Inv X pins σ H s) (he : H e = none) (hm : Heap.MadeExcOf s.heap h' e (.ref C) args) : Inv X pins σ (upd H e (.ext (exN e C none))) { s with heap := h' } := by
  obtain ⟨t, oe, _, _⟩ := hm.there
  have ne : ∀ {b : Addr} {o : HO}, H b = some o → b ≠ e := fun {b o} q z => by rw [z, he] at q; cases q
  refine I.un (t' := s.toks) ⟨fun b o q n _ _ => hm.keeps b o q, fun b o q n _ _ => ⟨o.slots, hm.keeps b o q⟩, fun b o q n _ => ?_, fun b o q _ => ⟨o, hm.keeps b o q⟩, fun b xs q => ?_, fun b o u q => ?_, fun b ps q => ⟨#[], ?_⟩⟩ fun b o q => ?_
  · rw [upd_ne (fun z => by rw [z, hm.new] at q; cases q)]; exact n
  · rw [upd_ne (ne q)]; exact q
  · rw [upd_ne (ne q)]; exact q
  · rw [upd_ne (ne q), q]; simp
  · by_cases z : b = e
    · subst z
      rw [upd_same] at q
      cases q
      exact exN_ok ⟨_, oe, by show 1 < 6; decide, rfl⟩
    · rw [upd_ne z] at q
      exact (I.hok b o q).stay (fun c u _ g => hm.keeps c u g) (fun c g => by rw [upd_ne (ne g)]; exact g) fun c xs g => by rw [upd_ne (ne g)]; exact g
theorem ps_raiseI {CX : CXT} [Quiet CX] {x : Str} {C R : Addr} {ini : Option Value} {k : Nat} {ps : List Str} {sp : Sp} {a : Expr} {es : List Expr} {ta : TA} {np cpos pos : Pos} (c : XcAt X.K X.mg x C R ini) (G : MtAt X.prog X.w X.K X.mg X.base CX C "__init__" k ps sp) (kp : PySem.W.keepIn X.K (.ref C) = true)
    (hr : Room (k + 1) X.A) (hz : Rz X E) (hc : X.calm = true) (hex : X.ex = []) (hg : Gl X x) (ha : PA X (a :: es) ta) (hdb : (x == ("__debug__" : Str)) = false := by decide)
    (he : starEach (a :: es) X.env = (false, eval a X.env) :: starEach es X.env := by rfl) (hpl : (backTo cpos (starEach es X.env)).any (·.1) = false := by rfl) (hlen : ∀ us : List Value, us.length + 1 = ps.length → us.length ≤ sizeLine := by intro us h; simp at h; rw [sizeLine_eq]; omega) :
    PS X (.Raise (some (.Call (.Name x np) (a :: es) [] cpos)) none pos) (tRaiseI C sp E ta) := by
  intro pins s σ H D I h
  obtain ⟨f, fd, F, M, hb⟩ := G
  obtain ⟨N, nm, q, bs, sn, sub, ab, col, dd, k0, k1, k2, k3, k5, l, _⟩ := c.cls
  rw [arm_exec_Raise]
  refine wpAny_bind (wpAny_standAt ?_)
  refine raise_x (nm := nm) (q := q) (C := C) (N := N) (bs := bs) (bm := .ref R :: vErr) (hdct := true) (sn := sn) (sub := sub) (ab := ab) (col := col) (dd := dd) (k0 := k0) (k1 := k1) (k2 := k2) (k3 := k3) (k5 := k5) ((c.tail I.kIn).hasType (by decide +kernel)) (I.ok.hd hc) ?_
  refine wpAny_bind (wpAny_mono (wpAny_Call_Name_kw (ld_glob I hg c.mgC (PySem.W.callWith_K (h₀ := X.base) I.ok.mod.kin kp (thn (ha cpos pins s σ H _ I h) fun us s1 ⟨vs, H1, I1, r, q1⟩ => ⟨I1.kIn, ?_⟩) he hpl) hdb)) (fun v s₃ h₃ => wpAny_bind (wpAny_standAt (wpAny_pure h₃))) fun _ _ z => z)
  have T := c.tail I1.kIn
  have hC := I1.kIn _ _ l
  have hl1 : us.length ≤ sizeLine := by
    have e0 := (q1 s1.heap.objs.size (I1.hok.fresh (Nat.le_refl _)))
    have e1 := F.len _ _ _ _ e0
    have e2 := r.length
    rw [List.length_cons] at e1
    exact hlen us (by omega)
  obtain ⟨hp, g, d, t, os⟩ := s1
  refine call_x I1.kIn T hC M.at_ (beq_iff_eq.mp M.fn) hl1 fun h' e hm => ?_
  have e0 : H1 e = none := by
    cases z : H1 e with
    | none => rfl
    | some u =>
      obtain ⟨o', e'⟩ := (I1.hok e u z).there
      rw [hm.new] at e'; cases e'
  have n0 : X.s₀.heap.get? e = none := by
    cases z : X.s₀.heap.get? e with
    | none => rfl
    | some o =>
      obtain ⟨o', e'⟩ := I1.base.there e o z (by rw [hex]; simp)
      rw [hm.new] at e'; cases e'
  have I2 := I1.newx e0 hm
  have hq := q1 e e0
  have r2 : Vals (V.ref e :: vs) (Value.ref e :: us) := .cons rfl r
  have hl : (Value.ref e :: us ++ []).length = ps.length := by
    have z := F.len _ _ _ _ hq
    rw [List.append_nil, ← r2.length]
    exact z
  refine wpAny_call (codeAny_mono (F.run _ X.stack _ _ ⟨Value.ref e :: us, []⟩ (Value.ref e :: us) _ _ E0 (hr.make C us []) (I2.env0.make C us []) (by have z := hb { heap := h', gens := g, drawn := d, toks := t, os := os } (Value.ref e :: us) I2.kIn hl; rw [List.append_nil] at z; exact z) r2 hq) fun r s' hq' => ?_)
  cases r with
  | error x => exact Quiet.pass X pins σ _ _ x s' I2 hq'
  | ok fl =>
    cases fl with
    | ret u =>
      obtain ⟨v, H', I3, rv, ev, dx, eH, hE⟩ := I2.after hq'
      subst ev
      obtain ⟨⟨ws, oe, w1, w2⟩, _⟩ := I3.hok e _ eH
      exact ⟨rv, e, dx, ws, rfl, I3.kIn _ _ l, oe, w2, hz _ _ _ _ _ _ _ none ⟨I3.drop eH, ⟨_, ws, oe, rfl, rfl, rfl, w1, w2⟩, n0, dropH_same, (fun T z => by cases z), fun p hp => ⟨fun z => (by have q := (I1.pin p hp).1; rw [z, hm.new] at q; cases q), fun T z => by cases z⟩⟩ hE⟩
    | next => exact False.elim hq'
    | brk => exact False.elim hq'
    | cont => exact False.elim hq'
end
end L2


set_option maxRecDepth 100000
set_option maxHeartbeats 1000000
namespace L2
open PySem PySem.Spec PyProof.Rows
noncomputable def exF (e : Addr) (cls : Value) (dx : Option Addr) : Heap → Prop := fun h => ∃ oe vs, h.get? e = some oe ∧ oe.cls = cls ∧ oe.dict = dx ∧ oe.data = .fields vs
section
variable {X : Cx} {pins : List (Addr × Obj)} {σ : St} {H : Hp} {s : Shared} {h' : Heap} {ea : Addr} {cls : Value} {dx tb : Option Addr}
end
section
variable {X : Cx} {pins pn : List (Addr × Obj)} {σ σ0 : St} {H : Hp} {s : Shared} {E : XK}
end
end L2


set_option maxRecDepth 100000
set_option maxHeartbeats 1000000
namespace L2
open PySem PySem.Spec PyProof.Rows
noncomputable def tCallS (σ0 : St) (sp : Sp) (E : XK) (t : TA) : TE := fun σ H Q => σ = σ0 ∧ t σ H fun vs H1 => sp vs H1 Q E
noncomputable def tMakeS (σ0 : St) (C : Addr) (sp : Sp) (E : XK) (t : TA) : TE := fun σ H Q => σ = σ0 ∧ t σ H fun vs H1 => ∀ x dx, H1 x = none → H1 dx = none → dx ≠ x →
  sp (.ref x :: vs) (upd (upd H1 dx (.own x)) x (.ins C dx [])) (fun v H2 => v = .non ∧ Q (.ref x) H2) E
noncomputable def tMtS (σ0 : St) (C : Addr) (m : Str) (sp : Sp) (E : XK) (ta : TE) (t : TA) : TE := fun σ H Q => σ = σ0 ∧ ta σ H fun x H1 => rMt C m x H1 (t σ H1 fun vs H2 => sp (x :: vs) H2 Q E)
section
variable {X : Cx} {CX : CXT} {k n : Nat} {f C : Addr} {fd : FuncData} {ps : List Str} {sp : Sp} {E : XK} {x m : Str} {p pos apos : Pos} {e o : Expr} {es : List Expr} {ta : TE} {t : TA} {σ0 : St}
end
structure XmAt (K : PySem.W.Frag) (mg : Str → Option Value) (x : Str) (C : Addr) : Prop where
  mgC : mg x = some (.ref C)
  ty : PySem.W.typeIn K (.ref C) = some (.type "type")
  ex : PySem.W.mroIn K C (.type "BaseException") = some true
noncomputable def isx (K : PySem.W.Frag) (cls : Value) (C : Addr) : Option Bool := match cls with
  | .ref D => PySem.W.mroIn K D (.ref C)
  | _ => none
noncomputable def hx2 (o : Option Bool) (p q : Prop) : Prop := match o with
  | some true => p
  | some false => q
  | none => False
theorem hx2_t {p q : Prop} : hx2 (some true) p q = p := rfl
theorem hx2_f {p q : Prop} : hx2 (some false) p q = q := rfl
section
variable {prog : Program} {w : World} {A : Around} {E : Value → Shared → Prop} {s : Shared} {K : PySem.W.Frag}
end
section
variable {X : Cx} {pins : List (Addr × Obj)} {σ : St} {H : Hp} {s : Shared} {M : Model} {A : Around} {E : Value → Shared → Prop}
end
noncomputable abbrev TH := Ends → St → Value → Option Addr → Hp → Prop
noncomputable def Ends.un (D : Ends) (i : Nat) : Ends := { nx := fun σ H => D.nx (σ.set i none) H, rt := D.rt, bk := fun σ H => D.bk (σ.set i none) H, ct := fun σ H => D.ct (σ.set i none) H }
noncomputable def tH0 : TH := fun _ _ _ _ _ => False
noncomputable def tHc (K : PySem.W.Frag) (C : Addr) (i : Nat) (th : TS) (tr : TH) : TH := fun D σ cls dx H => hx2 (isx K cls C) (∀ ea, H ea = none → th (D.un i) (σ.set i (some (.ref ea))) (upd H ea (.ext (exF ea cls dx)))) (tr D σ cls dx H)
noncomputable def tTry (tb : St → XK → TS) (th : TH) : TS := fun D σ H => tb σ (fun cls dx H' => th D σ cls dx H') D σ H
section
variable {X : Cx}
end
end L2


set_option maxRecDepth 100000
set_option maxHeartbeats 1000000
namespace L2
open PySem PySem.Spec PyProof.Rows
structure XgAt (K : PySem.W.Frag) (C : Addr) : Prop where
  ga : PySem.W.findIn K (.ref C) "__getattribute__" = some (some (.builtin "BaseException.__getattribute__"))
  gh : PySem.W.findIn K (.ref C) "__getattr__" = some none
  bx : PySem.W.mroIn K C (.type "BaseException") = some true
  ob : PySem.W.mroIn K C (.type "object") = some true
  hd : PySem.W.hasDictIn K C = true
  kc : PySem.W.findIn K (.ref C) "__class__" = some (some (.builtin "object.__class__"))
  kg : PySem.W.specialIn K (.builtin "object.__class__") "__get__" = some (some (.builtin "getset_descriptor.__get__"))
  kt : PySem.W.takesIn K (.builtin "object.__class__") = some true
section
variable {prog : Program} {w : World} {A : Around} {s : Shared} {K : PySem.W.Frag} {x C : Addr} {ox : Obj} {od : Option Obj} {name : Str}
end
theorem exF_inj {a : Addr} {c c' : Value} {d d' : Option Addr} (e : exF a c d = exF a c' d') : c = c' ∧ d = d' := by
  have h1 : exF a c d { objs := Array.replicate (a + 1) ⟨c, d, .fields #[], #[]⟩ } := ⟨⟨c, d, .fields #[], #[]⟩, #[], by unfold Heap.get?; simp, rfl, rfl, rfl⟩
  rw [e] at h1
  obtain ⟨oe, vs, e1, e2, e3, _⟩ := h1
  have e0 : Heap.get? { objs := Array.replicate (a + 1) ⟨c, d, .fields #[], #[]⟩ } a = some ⟨c, d, .fields #[], #[]⟩ := by unfold Heap.get?; simp
  rw [e0] at e1
  cases e1
  exact ⟨e2, e3⟩
theorem ex_exf {a : Addr} {c : Value} {d : Addr} {N : Addr → Prop} : (∃ dx, some (HO.ext (exF a c (some d))) = some (HO.ext (exF a c (some dx))) ∧ N dx) = N d := by
  apply propext; constructor
  · rintro ⟨dx, e, h⟩
    have e1 := Option.some.inj e
    injection e1 with e2
    obtain ⟨_, e3⟩ := exF_inj e2
    cases e3
    exact h
  · exact fun h => ⟨d, rfl, h⟩
theorem ex_exc {a : Addr} {C : Addr} {d : Option Addr} {N : Addr → Option Addr → Prop} : (∃ D dx, some (HO.ext (exF a (.ref C) d)) = some (HO.ext (exF a (.ref D) dx)) ∧ N D dx) = N C d := by
  apply propext; constructor
  · rintro ⟨D, dx, e, h⟩
    have e1 := Option.some.inj e
    injection e1 with e2
    obtain ⟨e3, e4⟩ := exF_inj e2
    cases e3; cases e4
    exact h
  · exact fun h => ⟨C, d, rfl, h⟩
theorem ex_xd {l : List (Str × V)} {N : List (Str × V) → Prop} : (∃ fs, some (HO.xd l) = some (HO.xd fs) ∧ N fs) = N l := by
  apply propext; constructor
  · rintro ⟨fs, e, h⟩; cases e; exact h
  · exact fun h => ⟨l, rfl, h⟩
noncomputable def rFldX (C : Addr) (f : Str) (x : V) (H : Hp) (Q : VK) : Prop := ∃ a, x = .ref a ∧ ∃ dx, H a = some (.ext (exF a (.ref C) (some dx))) ∧ ∃ fs, H dx = some (.xd fs) ∧ ∃ v, fs.lookup f = some v ∧ Q v H
noncomputable def tFldX (C : Addr) (f : Str) (ta : TE) : TE := fun σ H Q => ta σ H fun x H1 => rFldX C f x H1 Q
theorem rFldX_ref {C a : Addr} {f : Str} {H : Hp} {Q : VK} : rFldX C f (.ref a) H Q = ∃ dx, H a = some (.ext (exF a (.ref C) (some dx))) ∧ ∃ fs, H dx = some (.xd fs) ∧ ∃ v, fs.lookup f = some v ∧ Q v H := by
  apply propext; unfold rFldX; constructor
  · rintro ⟨b, e, h⟩; cases e; exact h
  · exact fun h => ⟨a, rfl, h⟩
noncomputable def isbO (o : Option Bool) (N : Bool → Prop) : Prop := match o with
  | some b => N b
  | none => False
theorem isbO_some {b : Bool} {N : Bool → Prop} : isbO (some b) N = N b := rfl
noncomputable def xdOk (H : Hp) : Option Addr → Prop
  | none => True
  | some d => ∃ fs, H d = some (.xd fs)
theorem xdOk_n {H : Hp} : xdOk H none = True := rfl
theorem xdOk_s {H : Hp} {d : Addr} : xdOk H (some d) = ∃ fs, H d = some (.xd fs) := rfl
theorem ex_xd1 {l : List (Str × V)} : (∃ fs, some (HO.xd l) = some (HO.xd fs)) = True := eq_true ⟨l, rfl⟩
noncomputable def rIsiX (K : PySem.W.Frag) : List V → Hp → VK → Prop := fun xs H Q => match xs with
  | [.ref p, .ref C] => ∃ D dx, H p = some (.ext (exF p (.ref D) dx)) ∧ XgAt K D ∧ xdOk H dx ∧ isbO (PySem.W.kitOne K (.ref D) (.ref C)) fun b => Q (.bl b) H
  | [.ref p, .ty n] => ∃ D dx, H p = some (.ext (exF p (.ref D) dx)) ∧ XgAt K D ∧ xdOk H dx ∧ isbO (PySem.W.kitOne K (.ref D) (.type n)) fun b => Q (.bl b) H
  | _ => False
theorem rIsiX_ref {K : PySem.W.Frag} {p C : Addr} {H : Hp} {Q : VK} : rIsiX K [.ref p, .ref C] H Q = ∃ D dx, H p = some (.ext (exF p (.ref D) dx)) ∧ XgAt K D ∧ xdOk H dx ∧ isbO (PySem.W.kitOne K (.ref D) (.ref C)) fun b => Q (.bl b) H := rfl
theorem rIsiX_ty {K : PySem.W.Frag} {p : Addr} {n : String} {H : Hp} {Q : VK} : rIsiX K [.ref p, .ty n] H Q = ∃ D dx, H p = some (.ext (exF p (.ref D) dx)) ∧ XgAt K D ∧ xdOk H dx ∧ isbO (PySem.W.kitOne K (.ref D) (.type n)) fun b => Q (.bl b) H := rfl
section
variable {X : Cx} {e : Expr} {f x : Str} {C : Addr} {ta : TE} {pos : Pos}
end
section
variable {X : Cx} {CX : CXT} {k n : Nat} {C R : Addr} {ps : List Str} {sp : Sp} {E : XK} {x m : Str} {p pos apos : Pos} {e o : Expr} {es : List Expr} {ta : TE} {t : TA} {st : Stmt} {ts : TS}
theorem PS.nox (h : PS X.nox st ts) : PS X st ts := fun pins s σ H D I hw =>
  wpAny_mono (h pins s σ H D (I.wish _) hw) (fun _ _ q => q.unwish) fun _ _ z => False.elim z
theorem pe_fnE (G : FnAt X.prog X.w X.K X.mg X.base (CX1 X.prog X.w) x k ps sp) (hr : Room n X.A) (hk : k ≤ n) (hg : Gl X x) (hz : Rz X E) (hex : X.ex = []) (ha : PA X (e :: es) t)
    (hdb : (x == ("__debug__" : Str)) = false := by decide) (h : (e :: es).any isStar = false := by rfl) : PE X (.Call (.Name x p) (e :: es) [] pos) (tCall sp [] E t) := by
  obtain ⟨f, fd, F, hm, kp, b, _⟩ := G
  rw [List.any_cons, Bool.or_eq_false_iff] at h
  exact pe_call F (hr.mono hk) hg hm kp b .nil (hz.passes hex) ha hdb (starEach_of h.1) (noStars h.2)
noncomputable def XcI (K : PySem.W.Frag) (mg : Str → Option Value) (x : Str) (C R : Addr) : Prop := ∃ ini, XcAt K mg x C R ini
theorem ps_raiseIQ {CX : CXT} [Quiet CX] (c : XcI X.K X.mg x C R) (G : MtAt X.prog X.w X.K X.mg X.base CX C "__init__" k ps sp) (kp : PySem.W.keepIn X.K (.ref C) = true) (hr : Room n X.A) (hk : k + 1 ≤ n) (hz : Rz X E) (hc : X.calm = true) (hex : X.ex = []) (hg : Gl X x) (ha : PA X (e :: es) t)
    (hdb : (x == ("__debug__" : Str)) = false := by decide) (h : (e :: es).any isStar = false := by rfl) (hlen : ∀ us : List Value, us.length + 1 = ps.length → us.length ≤ sizeLine := by intro us h; simp at h; rw [sizeLine_eq]; omega) :
    PS X (.Raise (some (.Call (.Name x p) (e :: es) [] apos)) none pos) (tRaiseI C sp E t) := by
  obtain ⟨ini, c⟩ := c
  rw [List.any_cons, Bool.or_eq_false_iff] at h
  exact ps_raiseI c G kp (hr.mono hk) hz hc hex hg ha hdb (starEach_of h.1) (noStars h.2) hlen
theorem ps_fldXQ {value : Expr} {f : Str} {pos' : Pos} {tv : TE} (c : XcI X.K X.mg x C R) (m : XfAt X.K C f) (ha : PE X o ta) (hv : PE X value tv) (hs : isComp value = false := by rfl) : PS X (.Assign [.Attribute o f pos'] value pos) (sFldX C ta tv f) := by
  obtain ⟨ini, c⟩ := c
  exact ps_fldX c m ha hv hs
end
theorem MethAt.fnX {P : Program} {w : World} {K : PySem.W.Frag} {mg : Str → Option Value} {base : Heap} {CX : CXT} {C : Addr} {m q : Str} {st : Stmt} {N ps : List Str} {k : Nat} {sp : Sp} (F : MethAt K C m q st) (S : FnScope N ps (defScope st))
    (hb : ∀ (kV doc pm : Value) (an : Option Addr) (cdv ct : Value) (us : List Value), us.length = ps.length → bindArgs (PySem.W.fnOf m q (defArgs st) (defBody st) (defScope st) .none kV doc pm an cdv ct) ⟨us, []⟩ = pure (ps.zip us))
    (len : ∀ vs H Q E, sp vs H Q E → vs.length = ps.length)
    (hbody : ∀ (f : Addr) (cdv : Value) (A : Around) (outer : List Env) (s : Shared) (H : Hp) (vs : List V) (Q : VK) (E : XK), Room k (A.deeper (envOfC q (defScope st) s.heap.objs.size f cdv)) → sp vs H Q E →
      ∃ t, PSs (cxOf CX P w K mg base N q (defScope st) f cdv A outer s H E) (defBody st) t ∧ t { nx := fun _ H' => Q .non H', rt := Q } (start N vs) H) : MtAt P w K mg base CX C m (k + 1) ps sp := by
  obtain ⟨f, fd, F, hm⟩ := F
  have bd := F.binds hb
  obtain ⟨oc, od, kV, doc, pm, an, cdv, ct, osl, rfl, lk, hcd⟩ := F.ex
  exact ⟨f, _, fn_of lk hcd S len fun A outer s H vs Q E hr hsp => hbody f cdv A outer s H vs Q E hr hsp, hm, bd⟩
theorem xgat_mk {K : PySem.W.Frag} {C : Addr} (ga : PySem.W.findIn K (.ref C) "__getattribute__" = some (some (.builtin "BaseException.__getattribute__"))) (gh : PySem.W.findIn K (.ref C) "__getattr__" = some none) (bx : PySem.W.mroIn K C (.type "BaseException") = some true)
    (ob : PySem.W.mroIn K C (.type "object") = some true) (hd : PySem.W.hasDictIn K C = true) (kc : PySem.W.findIn K (.ref C) "__class__" = some (some (.builtin "object.__class__"))) (kg : PySem.W.specialIn K (.builtin "object.__class__") "__get__" = some (some (.builtin "getset_descriptor.__get__")))
    (kt : PySem.W.takesIn K (.builtin "object.__class__") = some true) : XgAt K C := ⟨ga, gh, bx, ob, hd, kc, kg, kt⟩
theorem xmat_mk {K : PySem.W.Frag} {h : Heap} {mg : Str → Option Value} {x : Str} {C : Addr} (X : K.In h) (G : h.Ns mainGlobals mg) (a : PySem.W.nsIn K mainGlobals x = some (some (.ref C))) (t : PySem.W.typeIn K (.ref C) = some (.type "type")) (b : PySem.W.mroIn K C (.type "BaseException") = some true) : XmAt K mg x C :=
  ⟨PySem.W.mg_of X G a, t, b⟩
end L2


set_option maxRecDepth 100000
set_option maxHeartbeats 1000000
namespace L2
open PySem PySem.Spec PyProof.Rows
noncomputable def Dn (K : PySem.W.Frag) (H : Hp) : Nat → V → Dt → Prop
  | 0, x, d => (x = .non ∧ d = .non) ∨ (∃ i, x = .int i ∧ d = .int i) ∨ (∃ z, x = .str z ∧ d = .str z) ∨ (∃ b, x = .bl b ∧ d = .int (if b then 1 else 0))
  | n + 1, x, d => Dn K H n x d ∨ (∃ a xs ds, x = .ref a ∧ d = .l ds ∧ SqL K H a xs ∧ Paired (Dn K H n) xs ds) ∨ (∃ a xs ds, x = .ref a ∧ d = .t ds ∧ SqT K H a xs ∧ Paired (Dn K H n) xs ds)
section
variable {X : Cx} {pins : List (Addr × Obj)} {σ : St} {H : Hp} {s : Shared}
open Classical in
theorem decD_int {i j : Int} : decide (Dt.int i = Dt.int j) = (i == j) := by
  rw [Bool.eq_iff_iff, decide_eq_true_eq, beq_iff_eq]
  exact ⟨fun q => Dt.int.inj q, fun q => by rw [q]⟩
theorem bl_eq (a b : Bool) : ((if a then (1 : Int) else 0) == (if b then 1 else 0)) = (a == b) := by cases a <;> cases b <;> rfl
open Classical in
theorem dn_scal {A : Around} {x y : V} {u v : Value} {d e : Dt} (rx : RelV x u) (ry : RelV y v) (hx : Dn X.K H 0 x d) (hy : Dn X.K H 0 y e) : SeqAt.EqAt A s u v (decide (d = e)) := by
  rcases hx with ⟨rfl, rfl⟩ | ⟨i, rfl, rfl⟩ | ⟨i, rfl, rfl⟩ | ⟨i, rfl, rfl⟩ <;> rcases hy with ⟨rfl, rfl⟩ | ⟨j, rfl, rfl⟩ | ⟨j, rfl, rfl⟩ | ⟨j, rfl, rfl⟩
  · cases rx; cases ry; rw [decide_eq_true rfl]; exact SeqAt.EqAt.same _
  · cases rx; obtain ⟨t, rfl⟩ := ry; rw [decide_eq_false (fun z => nomatch z)]; exact SeqAt.EqAt.none_int _ _
  · cases rx; obtain ⟨t, rfl⟩ := ry; rw [decide_eq_false (fun z => nomatch z)]; exact SeqAt.EqAt.none_str _ _
  · cases rx; cases ry; rw [decide_eq_false (fun z => nomatch z)]; exact SeqAt.EqAt.none_bool _
  · obtain ⟨t, rfl⟩ := rx; cases ry; rw [decide_eq_false (fun z => nomatch z)]; exact SeqAt.EqAt.int_none _ _
  · obtain ⟨t, rfl⟩ := rx; obtain ⟨t', rfl⟩ := ry; rw [decD_int]; exact SeqAt.EqAt.int_int _ _ _ _
  · obtain ⟨t, rfl⟩ := rx; obtain ⟨t', rfl⟩ := ry; rw [decide_eq_false (fun z => nomatch z)]; exact SeqAt.EqAt.int_str _ _ _ _
  · obtain ⟨t, rfl⟩ := rx; cases ry; rw [decD_int]; exact SeqAt.EqAt.int_bool _ _ _
  · obtain ⟨t, rfl⟩ := rx; cases ry; rw [decide_eq_false (fun z => nomatch z)]; exact SeqAt.EqAt.str_none _ _
  · obtain ⟨t, rfl⟩ := rx; obtain ⟨t', rfl⟩ := ry; rw [decide_eq_false (fun z => nomatch z)]; exact SeqAt.EqAt.str_int _ _ _ _
  · obtain ⟨t, rfl⟩ := rx; obtain ⟨t', rfl⟩ := ry
    have e : decide (Dt.str i = Dt.str j) = (i == j) := by
      rw [Bool.eq_iff_iff, decide_eq_true_eq, beq_iff_eq]
      exact ⟨fun q => Dt.str.inj q, fun q => by rw [q]⟩
    rw [e]; exact SeqAt.EqAt.str_str _ _ _ _
  · obtain ⟨t, rfl⟩ := rx; cases ry; rw [decide_eq_false (fun z => nomatch z)]; exact SeqAt.EqAt.str_bool _ _ _
  · cases rx; cases ry; rw [decide_eq_false (fun z => nomatch z)]; exact SeqAt.EqAt.bool_none _
  · cases rx; obtain ⟨t, rfl⟩ := ry; rw [decD_int]; exact SeqAt.EqAt.bool_int _ _ _
  · cases rx; obtain ⟨t, rfl⟩ := ry; rw [decide_eq_false (fun z => nomatch z)]; exact SeqAt.EqAt.bool_str _ _ _
  · cases rx; cases ry; rw [decD_int, bl_eq]; exact SeqAt.EqAt.bool_bool _ _
theorem Dn.cases {K : PySem.W.Frag} {H : Hp} : ∀ {n : Nat} {x : V} {d : Dt}, Dn K H n x d → Dn K H 0 x d ∨ (∃ m, m < n ∧ ∃ a xs ds, x = .ref a ∧ d = .l ds ∧ SqL K H a xs ∧ Paired (Dn K H m) xs ds) ∨ (∃ m, m < n ∧ ∃ a xs ds, x = .ref a ∧ d = .t ds ∧ SqT K H a xs ∧ Paired (Dn K H m) xs ds)
  | 0, _, _, h => .inl h
  | n + 1, _, _, h => by
    rcases h with h | h | h
    · rcases Dn.cases h with q | ⟨m, hm, q⟩ | ⟨m, hm, q⟩
      · exact .inl q
      · exact .inr (.inl ⟨m, by omega, q⟩)
      · exact .inr (.inr ⟨m, by omega, q⟩)
    · exact .inr (.inl ⟨n, by omega, h⟩)
    · exact .inr (.inr ⟨n, by omega, h⟩)
theorem Dn.up {K : PySem.W.Frag} {H : Hp} {n m : Nat} {x : V} {d : Dt} (h : Dn K H n x d) (hm : n ≤ m) : Dn K H m x d := by
  induction m with
  | zero => have : n = 0 := by omega
            subst this; exact h
  | succ m ih =>
    by_cases e : n = m + 1
    · subst e; exact h
    · exact .inl (ih (by omega))
theorem dn_det (n : Nat) : ∀ {m : Nat} {x : V} {d e : Dt}, Inv X pins σ H s → Dn X.K H n x d → Dn X.K H m x e → d = e := by
  induction n using Nat.strongRecOn with
  | _ n ih =>
  intro m x d e I hx hy
  rcases hx.cases with hx | ⟨m1, hm, a, xs, ds, rfl, rfl, ha, pa⟩ | ⟨m1, hm, a, xs, ds, rfl, rfl, ha, pa⟩
  · rcases hy.cases with hy | ⟨k, hk, b, ys, es, rfl, rfl, hb, pb⟩ | ⟨k, hk, b, ys, es, rfl, rfl, hb, pb⟩
    · rcases hx with ⟨rfl, rfl⟩ | ⟨i, rfl, rfl⟩ | ⟨i, rfl, rfl⟩ | ⟨i, rfl, rfl⟩ <;> rcases hy with ⟨z, rfl⟩ | ⟨j, z, rfl⟩ | ⟨j, z, rfl⟩ | ⟨j, z, rfl⟩ <;> first | rfl | (cases z; rfl) | cases z
    · rcases hx with ⟨z, _⟩ | ⟨i, z, _⟩ | ⟨i, z, _⟩ | ⟨i, z, _⟩ <;> cases z
    · rcases hx with ⟨z, _⟩ | ⟨i, z, _⟩ | ⟨i, z, _⟩ | ⟨i, z, _⟩ <;> cases z
  · rcases hy.cases with hy | ⟨k, hk, b, ys, es, e1, rfl, hb, pb⟩ | ⟨k, hk, b, ys, es, e1, rfl, hb, pb⟩
    · rcases hy with ⟨z, _⟩ | ⟨i, z, _⟩ | ⟨i, z, _⟩ | ⟨i, z, _⟩ <;> cases z
    · cases e1
      have := I.list_inj ha hb
      subst this
      rw [paired_det pa pb fun x d e h1 h2 => ih m1 hm I h1 h2]
    · cases e1
      exact (list_not_tuple I ha hb).elim
  · rcases hy.cases with hy | ⟨k, hk, b, ys, es, e1, rfl, hb, pb⟩ | ⟨k, hk, b, ys, es, e1, rfl, hb, pb⟩
    · rcases hy with ⟨z, _⟩ | ⟨i, z, _⟩ | ⟨i, z, _⟩ | ⟨i, z, _⟩ <;> cases z
    · cases e1
      exact (list_not_tuple I hb ha).elim
    · cases e1
      have := I.tuple_inj ha hb
      subst this
      rw [paired_det pa pb fun x d e h1 h2 => ih m1 hm I h1 h2]
open Classical in
theorem dn_items {n : Nat} {A : Around} {xs ys : List V} {its its2 : List Value} {ds es : List Dt} {m k : Nat} (r1 : Vals xs its) (r2 : Vals ys its2) (pa : Paired (Dn X.K H m) xs ds) (pb : Paired (Dn X.K H k) ys es)
    (ih : ∀ x y u v d e, RelV x u → RelV y v → Dn X.K H m x d → Dn X.K H k y e → SeqAt.EqAt A s u v (decide (d = e))) :
    ∀ j (h1 : j < its.toArray.size) (h2 : j < its2.toArray.size), SeqAt.EqAt A s its.toArray[j] its2.toArray[j] (decide (ds[j]? = es[j]?)) := by
  intro j h1 h2
  have h1' : j < its.length := by simpa using h1
  have h2' : j < its2.length := by simpa using h2
  have l1 := r1.length
  have l2 := r2.length
  have x1 : xs[j]? = some xs[j] := by simp
  have y1 : ys[j]? = some ys[j] := by simp
  obtain ⟨d', hd', pd⟩ := Paired.get pa x1
  obtain ⟨e', he', pe⟩ := Paired.get pb y1
  obtain ⟨u', hu1, ru⟩ := r1.get x1
  obtain ⟨v', hv1, rv⟩ := r2.get y1
  have e1 : its.toArray[j] = u' := by
    have : its[j]? = some its[j] := by simp
    rw [hu1] at this
    simpa using (Option.some.inj this).symm
  have e2 : its2.toArray[j] = v' := by
    have : its2[j]? = some its2[j] := by simp
    rw [hv1] at this
    simpa using (Option.some.inj this).symm
  have e3 : decide (ds[j]? = es[j]?) = decide (d' = e') := by
    rw [hd', he', Bool.eq_iff_iff, decide_eq_true_eq, decide_eq_true_eq]
    exact ⟨fun q => Option.some.inj q, fun q => by rw [q]⟩
  rw [e1, e2, e3]
  exact ih _ _ _ _ _ _ ru rv pd pe
open Classical in
theorem dn_rc (n : Nat) : ∀ {A : Around} {x y : V} {u v : Value} {d e : Dt}, Inv X pins σ H s → A.units + n < cLine → RelV x u → RelV y v → Dn X.K H n x d → Dn X.K H n y e → SeqAt.EqAt A s u v (decide (d = e)) ∧ ∀ a b, x = .ref a → y = .ref b → SeqAt.RcAt A s (.ref a) (.ref b) (decide (d = e)) := by
  induction n using Nat.strongRecOn with
  | _ n ih =>
  intro A x y u v d e I hu rx ry hx hy
  have lift : ∀ {a b : Addr}, x = .ref a → y = .ref b → SeqAt.RcAt A s (.ref a) (.ref b) (decide (d = e)) → SeqAt.EqAt A s (.ref a) (.ref b) (decide (d = e)) := fun {a b} ea eb q => by
    by_cases hab : a = b
    · subst hab
      subst ea
      subst eb
      rw [decide_eq_true (dn_det n I hx hy)]
      exact SeqAt.EqAt.same _
    · exact SeqAt.EqAt.of_refs hab q
  have hu' : A.units < cLine := by omega
  rcases hx.cases with hx' | ⟨m, hm, a, xs, ds, rfl, rfl, ha, pa⟩ | ⟨m, hm, a, xs, ds, rfl, rfl, ha, pa⟩
  · rcases hy.cases with hy' | ⟨k, hk, b, ys, es, rfl, rfl, hb, pb⟩ | ⟨k, hk, b, ys, es, rfl, rfl, hb, pb⟩
    · refine ⟨dn_scal rx ry hx' hy', fun a b e1 e2 => ?_⟩
      subst e1
      rcases hx' with ⟨z, _⟩ | ⟨i, z, _⟩ | ⟨i, z, _⟩ | ⟨i, z, _⟩ <;> cases z
    · cases ry
      obtain ⟨its, _, p, _⟩ := I.list hb
      rcases hx' with ⟨rfl, rfl⟩ | ⟨i, rfl, rfl⟩ | ⟨i, rfl, rfl⟩ | ⟨i, rfl, rfl⟩
      · cases rx; rw [decide_eq_false (fun z => nomatch z)]; exact ⟨SeqAt.EqAt.none_list p.isList hu', fun a b z => nomatch z⟩
      · obtain ⟨t, rfl⟩ := rx; rw [decide_eq_false (fun z => nomatch z)]; exact ⟨SeqAt.EqAt.int_list _ _ p.isList hu', fun a b z => nomatch z⟩
      · obtain ⟨t, rfl⟩ := rx; rw [decide_eq_false (fun z => nomatch z)]; exact ⟨SeqAt.EqAt.str_list _ _ p.isList hu', fun a b z => nomatch z⟩
      · cases rx; rw [decide_eq_false (fun z => nomatch z)]; exact ⟨SeqAt.EqAt.bool_list _ p.isList hu', fun a b z => nomatch z⟩
    · cases ry
      obtain ⟨its, _, p, _⟩ := I.tuple hb
      rcases hx' with ⟨rfl, rfl⟩ | ⟨i, rfl, rfl⟩ | ⟨i, rfl, rfl⟩ | ⟨i, rfl, rfl⟩
      · cases rx; rw [decide_eq_false (fun z => nomatch z)]; exact ⟨SeqAt.EqAt.none_tuple p hu', fun a b z => nomatch z⟩
      · obtain ⟨t, rfl⟩ := rx; rw [decide_eq_false (fun z => nomatch z)]; exact ⟨SeqAt.EqAt.int_tuple _ _ p hu', fun a b z => nomatch z⟩
      · obtain ⟨t, rfl⟩ := rx; rw [decide_eq_false (fun z => nomatch z)]; exact ⟨SeqAt.EqAt.str_tuple _ _ p hu', fun a b z => nomatch z⟩
      · cases rx; rw [decide_eq_false (fun z => nomatch z)]; exact ⟨SeqAt.EqAt.bool_tuple _ p hu', fun a b z => nomatch z⟩
  · cases rx
    obtain ⟨its, r1, p, hz⟩ := I.list ha
    rcases hy.cases with hy' | ⟨k, hk, b, ys, es, rfl, rfl, hb, pb⟩ | ⟨k, hk, b, ys, es, rfl, rfl, hb, pb⟩
    · rcases hy' with ⟨rfl, rfl⟩ | ⟨i, rfl, rfl⟩ | ⟨i, rfl, rfl⟩ | ⟨i, rfl, rfl⟩
      · cases ry; rw [decide_eq_false (fun z => nomatch z)]; exact ⟨SeqAt.EqAt.list_none p.isList hu', fun a b _ z => nomatch z⟩
      · obtain ⟨t, rfl⟩ := ry; rw [decide_eq_false (fun z => nomatch z)]; exact ⟨SeqAt.EqAt.list_int _ _ p.isList hu', fun a b _ z => nomatch z⟩
      · obtain ⟨t, rfl⟩ := ry; rw [decide_eq_false (fun z => nomatch z)]; exact ⟨SeqAt.EqAt.list_str _ _ p.isList hu', fun a b _ z => nomatch z⟩
      · cases ry; rw [decide_eq_false (fun z => nomatch z)]; exact ⟨SeqAt.EqAt.list_bool _ p.isList hu', fun a b _ z => nomatch z⟩
    · cases ry
      obtain ⟨its2, r2, p2, hz2⟩ := I.list hb
      have l1 := r1.length
      have l2 := r2.length
      have l3 := Paired.length pa
      have l4 := Paired.length pb
      have eqd : decide (Dt.l ds = Dt.l es) = decide (ds = es) := by
        rw [Bool.eq_iff_iff, decide_eq_true_eq, decide_eq_true_eq]
        exact ⟨fun q => Dt.l.inj q, fun q => by rw [q]⟩
      have rc : SeqAt.RcAt A s (.ref a) (.ref b) (decide (Dt.l ds = Dt.l es)) := by
        rw [eqd]
        by_cases hl : its.length = its2.length
        · have key := SeqAt.RcAt.lists (e := fun j => decide (ds[j]? = es[j]?)) p.isList p2.isList (by simpa using hl) hu' (dn_items (n := n) r1 r2 pa pb fun x y u v d e rx ry h1 h2 =>
            (ih (max m k) (by omega) (A := A.in1) I (by show A.units + 1 + max m k < cLine; omega) rx ry (h1.up (Nat.le_max_left _ _)) (h2.up (Nat.le_max_right _ _))).1)
          rw [all_items (by rw [List.size_toArray]; omega) (by omega)] at key
          exact key
        · have hne : ds ≠ es := fun q => hl (by rw [q] at l3; omega)
          rw [decide_eq_false hne]
          exact SeqAt.RcAt.lists_lengths p.isList p2.isList (size_ne hl) hu'
      exact ⟨lift rfl rfl rc, fun a' b' e1 e2 => by cases e1; cases e2; exact rc⟩
    · cases ry
      obtain ⟨its2, r2, p2, _⟩ := I.tuple hb
      rw [decide_eq_false (fun z => nomatch z)]
      exact ⟨SeqAt.EqAt.list_tuple p.isList p2 hu', fun a' b' e1 e2 => by cases e1; cases e2; exact SeqAt.RcAt.list_tuple p.isList p2 hu'⟩
  · cases rx
    obtain ⟨its, r1, p, hz⟩ := I.tuple ha
    rcases hy.cases with hy' | ⟨k, hk, b, ys, es, rfl, rfl, hb, pb⟩ | ⟨k, hk, b, ys, es, rfl, rfl, hb, pb⟩
    · rcases hy' with ⟨rfl, rfl⟩ | ⟨i, rfl, rfl⟩ | ⟨i, rfl, rfl⟩ | ⟨i, rfl, rfl⟩
      · cases ry; rw [decide_eq_false (fun z => nomatch z)]; exact ⟨SeqAt.EqAt.tuple_none p hu', fun a b _ z => nomatch z⟩
      · obtain ⟨t, rfl⟩ := ry; rw [decide_eq_false (fun z => nomatch z)]; exact ⟨SeqAt.EqAt.tuple_int _ _ p hu', fun a b _ z => nomatch z⟩
      · obtain ⟨t, rfl⟩ := ry; rw [decide_eq_false (fun z => nomatch z)]; exact ⟨SeqAt.EqAt.tuple_str _ _ p hu', fun a b _ z => nomatch z⟩
      · cases ry; rw [decide_eq_false (fun z => nomatch z)]; exact ⟨SeqAt.EqAt.tuple_bool _ p hu', fun a b _ z => nomatch z⟩
    · cases ry
      obtain ⟨its2, r2, p2, _⟩ := I.list hb
      rw [decide_eq_false (fun z => nomatch z)]
      exact ⟨SeqAt.EqAt.tuple_list p p2.isList hu', fun a' b' e1 e2 => by cases e1; cases e2; exact SeqAt.RcAt.tuple_list p p2.isList hu'⟩
    · cases ry
      obtain ⟨its2, r2, p2, hz2⟩ := I.tuple hb
      have l1 := r1.length
      have l2 := r2.length
      have l3 := Paired.length pa
      have l4 := Paired.length pb
      have eqd : decide (Dt.t ds = Dt.t es) = decide (ds = es) := by
        rw [Bool.eq_iff_iff, decide_eq_true_eq, decide_eq_true_eq]
        exact ⟨fun q => Dt.t.inj q, fun q => by rw [q]⟩
      have rc : SeqAt.RcAt A s (.ref a) (.ref b) (decide (Dt.t ds = Dt.t es)) := by
        rw [eqd]
        have key := SeqAt.RcAt.tuples (e := fun j => decide (ds[j]? = es[j]?)) p p2 hu' (dn_items (n := n) r1 r2 pa pb fun x y u v d e rx ry h1 h2 =>
            (ih (max m k) (by omega) (A := A.in1) I (by show A.units + 1 + max m k < cLine; omega) rx ry (h1.up (Nat.le_max_left _ _)) (h2.up (Nat.le_max_right _ _))).1)
        by_cases hl : its.length = its2.length
        · rw [show min its.toArray.size its2.toArray.size = ds.length by rw [List.size_toArray, List.size_toArray]; omega, all_items rfl (by omega), show (its.toArray.size == its2.toArray.size) = true by rw [List.size_toArray, List.size_toArray, beq_iff_eq]; exact hl, Bool.and_true] at key
          exact key
        · have hne : ds ≠ es := fun q => hl (by rw [q] at l3; omega)
          rw [decide_eq_false hne]
          rw [show (its.toArray.size == its2.toArray.size) = false by rw [List.size_toArray, List.size_toArray, beq_eq_false_iff_ne]; exact hl, Bool.and_false] at key
          exact key
      exact ⟨lift rfl rfl rc, fun a' b' e1 e2 => by cases e1; cases e2; exact rc⟩
end

noncomputable def rEqX (K : PySem.W.Frag) (neg : Bool) : R2 := fun x y H Q => match x, y with
  | .ref a, .ref b => ∃ n d e, n ≤ 60 ∧ Dn K H n (.ref a) d ∧ Dn K H n (.ref b) e ∧ ((d = e ∧ Q (.bl (!neg)) H) ∨ (d ≠ e ∧ Q (.bl neg) H))
  | x, y => scal x y = true ∧ Q (.bl (if neg then !decide (x = y) else decide (x = y))) H
section
variable {X : Cx}
open Classical in
theorem op_eqX (hu : X.A.units + 64 < cLine) : OpR X (compareOp .Eq) (rEqX X.K false) := by
  intro pins s σ H x y v u Q I rx ry h
  unfold rEqX at h
  split at h
  · obtain ⟨n, d, e, hn, hd, he, q⟩ := h
    obtain ⟨_, rc⟩ := dn_rc n (A := X.A) I (by omega) rx ry hd he
    cases rx
    cases ry
    have := rc _ _ rfl rfl
    refine (this X.prog X.w _ _ ?_ : wpAny (model X.prog X.w) X.A (richCompare .Eq _ _) (EP X pins σ Q) X.xe s)
    rcases q with ⟨c, q⟩ | ⟨c, q⟩
    · rw [decide_eq_true c]; exact ⟨.bl true, H, I, rfl, q⟩
    · rw [decide_eq_false c]; exact ⟨.bl false, H, I, rfl, q⟩
  · exact op_eq pins s σ H _ _ v u Q I rx ry ⟨h.1, by simpa using h.2⟩
open Classical in
theorem op_neX (hu : X.A.units + 64 < cLine) : OpR X (compareOp .NotEq) (rEqX X.K true) := by
  intro pins s σ H x y v u Q I rx ry h
  unfold rEqX at h
  split at h
  · rename_i a b
    obtain ⟨n, d, e, hn, hd, he, q⟩ := h
    cases rx
    cases ry
    have hu' : X.A.units < cLine := by omega
    have fin : SeqAt.RcNeAt X.A s (.ref a) (.ref b) (!decide (d = e)) → wpAny (model X.prog X.w) X.A (compareOp .NotEq (.ref a) (.ref b)) (EP X pins σ Q) X.xe s := fun rc => by
      refine (rc X.prog X.w _ _ ?_ : wpAny (model X.prog X.w) X.A (richCompare .NotEq _ _) (EP X pins σ Q) X.xe s)
      rcases q with ⟨c, q⟩ | ⟨c, q⟩
      · rw [decide_eq_true c]; exact ⟨.bl false, H, I, rfl, q⟩
      · rw [decide_eq_false c]; exact ⟨.bl true, H, I, rfl, q⟩
    apply fin
    clear fin q
    rcases hd.cases with hx' | ⟨m, hm, a', xs, ds, e1, rfl, ha, pa⟩ | ⟨m, hm, a', xs, ds, e1, rfl, ha, pa⟩
    · rcases hx' with ⟨z, _⟩ | ⟨i, z, _⟩ | ⟨i, z, _⟩ | ⟨i, z, _⟩ <;> cases z
    · cases e1
      obtain ⟨its, r1, p, hz⟩ := I.list ha
      rcases he.cases with hy' | ⟨k, hk, b', ys, es, e2, rfl, hb, pb⟩ | ⟨k, hk, b', ys, es, e2, rfl, hb, pb⟩
      · rcases hy' with ⟨z, _⟩ | ⟨i, z, _⟩ | ⟨i, z, _⟩ | ⟨i, z, _⟩ <;> cases z
      · cases e2
        obtain ⟨its2, r2, p2, hz2⟩ := I.list hb
        have l1 := r1.length
        have l2 := r2.length
        have l3 := Paired.length pa
        have l4 := Paired.length pb
        have eqd : decide (Dt.l ds = Dt.l es) = decide (ds = es) := by
          rw [Bool.eq_iff_iff, decide_eq_true_eq, decide_eq_true_eq]
          exact ⟨fun q => Dt.l.inj q, fun q => by rw [q]⟩
        rw [eqd]
        by_cases hl : its.length = its2.length
        · have key := SeqAt.RcNeAt.lists (e := fun j => decide (ds[j]? = es[j]?)) p.isList p2.isList (by simpa using hl) hu' (dn_items (n := n) r1 r2 pa pb fun x y u v d e rx ry h1 h2 =>
            (dn_rc (max m k) (A := X.A.in1) I (by show X.A.units + 1 + max m k < cLine; omega) rx ry (h1.up (Nat.le_max_left _ _)) (h2.up (Nat.le_max_right _ _))).1)
          rw [all_items (by rw [List.size_toArray]; omega) (by omega)] at key
          exact key
        · have hne : ds ≠ es := fun q => hl (by rw [q] at l3; omega)
          rw [decide_eq_false hne]
          exact SeqAt.RcNeAt.lists_lengths p.isList p2.isList (size_ne hl) hu'
      · cases e2
        obtain ⟨its2, r2, p2, _⟩ := I.tuple hb
        rw [decide_eq_false (fun z => nomatch z)]
        exact SeqAt.RcNeAt.list_tuple p.isList p2 hu'
    · cases e1
      obtain ⟨its, r1, p, hz⟩ := I.tuple ha
      rcases he.cases with hy' | ⟨k, hk, b', ys, es, e2, rfl, hb, pb⟩ | ⟨k, hk, b', ys, es, e2, rfl, hb, pb⟩
      · rcases hy' with ⟨z, _⟩ | ⟨i, z, _⟩ | ⟨i, z, _⟩ | ⟨i, z, _⟩ <;> cases z
      · cases e2
        obtain ⟨its2, r2, p2, _⟩ := I.list hb
        rw [decide_eq_false (fun z => nomatch z)]
        exact SeqAt.RcNeAt.tuple_list p p2.isList hu'
      · cases e2
        obtain ⟨its2, r2, p2, hz2⟩ := I.tuple hb
        have l1 := r1.length
        have l2 := r2.length
        have l3 := Paired.length pa
        have l4 := Paired.length pb
        have eqd : decide (Dt.t ds = Dt.t es) = decide (ds = es) := by
          rw [Bool.eq_iff_iff, decide_eq_true_eq, decide_eq_true_eq]
          exact ⟨fun q => Dt.t.inj q, fun q => by rw [q]⟩
        rw [eqd]
        have key := SeqAt.RcNeAt.tuples (e := fun j => decide (ds[j]? = es[j]?)) p p2 hu' (dn_items (n := n) r1 r2 pa pb fun x y u v d e rx ry h1 h2 =>
            (dn_rc (max m k) (A := X.A.in1) I (by show X.A.units + 1 + max m k < cLine; omega) rx ry (h1.up (Nat.le_max_left _ _)) (h2.up (Nat.le_max_right _ _))).1)
        by_cases hl : its.length = its2.length
        · rw [show min its.toArray.size its2.toArray.size = ds.length by rw [List.size_toArray, List.size_toArray]; omega, all_items rfl (by omega), show (its.toArray.size == its2.toArray.size) = true by rw [List.size_toArray, List.size_toArray, beq_iff_eq]; exact hl, Bool.and_true] at key
          exact key
        · have hne : ds ≠ es := fun q => hl (by rw [q] at l3; omega)
          rw [decide_eq_false hne]
          rw [show (its.toArray.size == its2.toArray.size) = false by rw [List.size_toArray, List.size_toArray, beq_eq_false_iff_ne]; exact hl, Bool.and_false] at key
          exact key
  · exact op_ne pins s σ H _ _ v u Q I rx ry ⟨h.1, by simpa using h.2⟩
end
section
variable {K : PySem.W.Frag} {H : Hp} {Q : VK}
theorem op_eqXK {X : Cx} (K : PySem.W.Frag) (h : X.K = K) (hu : X.A.units + 64 < cLine) : OpR X (compareOp .Eq) (rEqX K false) := h ▸ op_eqX hu
theorem op_neXK {X : Cx} (K : PySem.W.Frag) (h : X.K = K) (hu : X.A.units + 64 < cLine) : OpR X (compareOp .NotEq) (rEqX K true) := h ▸ op_neX hu
theorem rEqX_int {i j : Int} : rEqX K false (.int i) (.int j) H Q = Q (.bl (decide (i = j))) H := by
  show (scal (.int i) (.int j) = true ∧ Q (.bl (if false = true then _ else decide (V.int i = V.int j))) H) = _
  rw [if_neg Bool.false_ne_true]
  exact rEq_int
theorem rNeX_int {i j : Int} : rEqX K true (.int i) (.int j) H Q = Q (.bl (!decide (i = j))) H := by
  show (scal (.int i) (.int j) = true ∧ Q (.bl (if true = true then !decide (V.int i = V.int j) else _)) H) = _
  rw [if_pos rfl]
  exact rNe_int
theorem rEqX_str {i j : Str} : rEqX K false (.str i) (.str j) H Q = Q (.bl (decide (i = j))) H := by
  show (scal (.str i) (.str j) = true ∧ Q (.bl (if false = true then _ else decide (V.str i = V.str j))) H) = _
  rw [if_neg Bool.false_ne_true]
  exact rEq_str
theorem rNeX_str {i j : Str} : rEqX K true (.str i) (.str j) H Q = Q (.bl (!decide (i = j))) H := by
  show (scal (.str i) (.str j) = true ∧ Q (.bl (if true = true then !decide (V.str i = V.str j) else _)) H) = _
  rw [if_pos rfl]
  exact rNe_str
theorem rEqX_bl {i j : Bool} : rEqX K false (.bl i) (.bl j) H Q = Q (.bl (decide (i = j))) H := by
  show (scal (.bl i) (.bl j) = true ∧ Q (.bl (if false = true then _ else decide (V.bl i = V.bl j))) H) = _
  rw [if_neg Bool.false_ne_true]
  exact rEq_bl
theorem rNeX_bl {i j : Bool} : rEqX K true (.bl i) (.bl j) H Q = Q (.bl (!decide (i = j))) H := by
  show (scal (.bl i) (.bl j) = true ∧ Q (.bl (if true = true then !decide (V.bl i = V.bl j) else _)) H) = _
  rw [if_pos rfl]
  exact rNe_bl
theorem dn_int {n : Nat} {i : Int} : Dn K H n (.int i) (.int i) := Dn.up (n := 0) (.inr (.inl ⟨i, rfl, rfl⟩)) (Nat.zero_le _)
theorem dn_lst {n : Nat} {a : Addr} {xs : List V} {ds : List Dt} (h : H a = some (.lst xs)) (p : Paired (Dn K H n) xs ds) : Dn K H (n + 1) (.ref a) (.l ds) := .inr (.inl ⟨a, xs, ds, rfl, rfl, SqL.of h, p⟩)
theorem dn_tup {n : Nat} {a : Addr} {xs : List V} {ds : List Dt} (h : H a = some (.tup xs)) (p : Paired (Dn K H n) xs ds) : Dn K H (n + 1) (.ref a) (.t ds) := .inr (.inr ⟨a, xs, ds, rfl, rfl, SqT.of h, p⟩)
end
end L2


set_option maxRecDepth 100000
set_option maxHeartbeats 1000000
namespace L2
open PySem PySem.Spec PyProof.Rows
theorem pg_lst {X : Cx} {es : List Expr} {pos : Pos} {k : Nat} {t : TGs} {n : Nat} {a : Addr} {xs : List V} (hc : X.calm = true) (h : PGs X es t) (hn : es.length = n) (hst : es.any isStar = false)
    {pins : List (Addr × Obj)} {s : Shared} {σ : St} {H : Hp} {Q : St → Hp → Prop} (I : Inv X pins σ H s) (hq : SqL X.K H a xs) (hl : xs.length = n) (hw : t xs σ H Q) :
    wpAny (model X.prog X.w) X.A (assign (.Tuple es k pos) X.env (.ref a)) (fun _ s' => ∃ σ' H', Inv X pins σ' H' s' ∧ Q σ' H') X.xe s := by
  obtain ⟨its, rv, hp, hz⟩ := I.list hq
  rw [arm_assign_Tuple]
  refine wpAny_bind (wpAny_standAt ?_)
  unfold unpack
  rw [show (assignEach es X.env).length = its.toArray.size by rw [assignEach_len, hn, ← hl, List.size_toArray, rv.length], assignEach_nostar hst]
  refine wpAny_bind (wpAny_holding (PySem.W.kun_itemsOf (I.ok.hd hc) hp.isList fun h' hx => ?_))
  have I1 : Inv X pins σ H { s with heap := h' } := I.kept (t' := s.toks) fun b o e => hx b o (Nat.ne_of_lt (Heap.lt_size e)) e
  exact h pins _ σ H xs _ Q I1 (by simpa using rv) hw
noncomputable def gOx (K : PySem.W.Frag) (n : Nat) (t : TGs) (a : Addr) (σ : St) (H : Hp) (Q : St → Hp → Prop) : Option HO → Prop
  | some (.tup xs) => xs.length = n ∧ t xs σ H Q
  | some (.lst xs) => xs.length = n ∧ t xs σ H Q
  | _ => ∃ xs, SqT K H a xs ∧ xs.length = n ∧ t xs σ H Q
noncomputable def gTupX (K : PySem.W.Frag) (n : Nat) (t : TGs) : TG := fun v σ H Q => match v with
  | .ref a => gOx K n t a σ H Q (H a)
  | _ => False
theorem gTupX_ref {K : PySem.W.Frag} {n : Nat} {t : TGs} {a : Addr} {σ : St} {H : Hp} {Q : St → Hp → Prop} : gTupX K n t (.ref a) σ H Q = gOx K n t a σ H Q (H a) := rfl
theorem gOx_tup {K : PySem.W.Frag} {n : Nat} {t : TGs} {a : Addr} {σ : St} {H : Hp} {Q : St → Hp → Prop} {xs : List V} : gOx K n t a σ H Q (some (.tup xs)) = (xs.length = n ∧ t xs σ H Q) := rfl
theorem gOx_lst {K : PySem.W.Frag} {n : Nat} {t : TGs} {a : Addr} {σ : St} {H : Hp} {Q : St → Hp → Prop} {xs : List V} : gOx K n t a σ H Q (some (.lst xs)) = (xs.length = n ∧ t xs σ H Q) := rfl
theorem pg_tupX {X : Cx} {es : List Expr} {pos : Pos} (K : PySem.W.Frag) {j n : Nat} {u : TGs} (hK : X.K = K) (hc : X.calm = true) (hh : PGs X es u) (hn : es.length = n := by rfl) (h : es.any isStar = false := by rfl) : PG X (.Tuple es j pos) (gTupX K n u) := by
  intro pins s σ H v w Q I r q
  unfold gTupX at q
  split at q
  · rename_i a
    unfold gOx at q
    split at q
    · rename_i xs e; exact pg_tupQ K (j := j) hK hc hh hn h pins s σ H _ w Q I r ⟨a, xs, rfl, SqT.of e, q⟩
    · rename_i xs e
      obtain rfl : w = Value.ref a := r
      exact pg_lst hc hh hn h I (SqL.of e) q.1 q.2
    · obtain ⟨xs, h1, h2⟩ := q; exact pg_tupQ K (j := j) hK hc hh hn h pins s σ H _ w Q I r ⟨a, xs, rfl, h1, h2⟩
  · exact q.elim
end L2


set_option maxRecDepth 100000
set_option maxHeartbeats 1000000
namespace L2
open PySem PySem.Spec PyProof.Rows
structure QA (X : Cx) (es : List Expr) (t : TA) : Prop where
  h : PA X es t
section
variable {X : Cx}
theorem qa_nil : QA X [] tNil := ⟨pa_nil⟩
theorem qa_q {e : Expr} {es : List Expr} {te : TE} {t : TA} (ha : QE X e te) (hr : QA X es t) (h : isStar e = false := by rfl) : QA X (e :: es) (tCons te t) := ⟨pa_q ha.h hr.h h⟩
theorem qe_tup {es : List Expr} {t : TA} {k : Nat} {pos : Pos} (h : QA X es t) : QE X (.Tuple es k pos) (tTup t) := ⟨pe_tup h.h⟩
theorem qe_lst {es : List Expr} {t : TA} {pos : Pos} (h : QA X es t) : QE X (.List es pos) (tLst t) := ⟨pe_lst h.h⟩
end
end L2


set_option maxRecDepth 100000
set_option maxHeartbeats 1000000
namespace L2
open PySem PySem.Spec PyProof.Rows
section
variable {X : Cx}
end
section
variable {X : Cx}
end
section
variable {X : Cx} {e : Expr} {f : Str} {ta : TE} {pos : Pos}
end
section
variable {K : PySem.W.Frag} {H : Hp} {Q : VK} {z y : Str} {p : Addr} {i : Int}
end
section
variable {X : Cx} (K : PySem.W.Frag)
end
end L2


set_option maxRecDepth 100000
set_option maxHeartbeats 1000000
namespace L2
open PySem PySem.Spec PyProof.Rows
section
variable {K : PySem.W.Frag} {g : TG} {tb : TS} {D : Ends} {σ : St} {H : Hp}
theorem fo_zip {a b : Addr} {xs zs : List V} (hS : H a = some (.lst xs)) (hS' : H b = some (.lst zs)) (hn : zs.length = xs.length) (Pv : Nat → St → Hp → Prop) (h0 : Pv 0 σ H) (hk : ∀ i σ H, Pv i σ H → H a = some (.lst xs) ∧ H b = some (.lst zs))
    (hs : ∀ i x z p σ H, xs[i]? = some x → zs[i]? = some z → Pv i σ H → H p = none → g (.ref p) σ (upd H p (.tup [x, z])) fun σ2 H2 => tb { D with nx := Pv (i + 1), ct := Pv (i + 1), bk := D.nx } σ2 H2) (hd : ∀ σ H, Pv xs.length σ H → D.nx σ H) :
    znR (.ref a) (.ref b) H fun J H2 => forR J g tb D σ H2 := by
  refine ⟨xs, zs, hS, hS', fun i m σ H => m = xs.length - i ∧ i ≤ xs.length ∧ Pv i σ H, ⟨_, rfl, Nat.zero_le _, h0⟩, ?_⟩
  rintro i m σ H ⟨rfl, hi, p⟩
  by_cases hlt : i < xs.length
  · refine .inr ⟨⟨xs, zs, _, _, (hk i σ H p).1, (hk i σ H p).2, List.getElem?_eq_getElem hlt, List.getElem?_eq_getElem (by omega)⟩, Pv (i + 1), fun σ' H' p' => ⟨xs.length - (i + 1), by omega, rfl, hlt, p'⟩, fun v H' y => ?_⟩
    obtain ⟨q, x, z, hx, hz, hq, rfl, rfl⟩ := y
    exact hs i x z q σ H (hx xs (hk i σ H p).1) (hz zs (hk i σ H p).2) p hq
  · have e : i = xs.length := by omega
    subst e
    exact .inl ⟨⟨xs, zs, (hk _ σ H p).1, (hk _ σ H p).2, .inl (Nat.le_refl _)⟩, hd σ H p⟩
end
end L2


set_option maxRecDepth 100000
set_option maxHeartbeats 1000000
namespace L2
open PySem PySem.Spec PyProof.Rows
section
variable {K : PySem.W.Frag} {g : TG} {tb : TS} {D : Ends} {σ : St} {H : Hp} {ta : TA}
end
section
variable {X : Cx} {K : PySem.W.Frag}
end
end L2


set_option maxRecDepth 100000
set_option maxHeartbeats 1000000
namespace L2
open PySem PySem.Spec PyProof.Rows
section
variable {X : Cx} {CX : CXT} {C : Addr} {x m : Str} {p pos apos : Pos} {o : Expr} {ta : TE} {k n : Nat} {sp : Sp} {E : XK}
end
structure OgAt (K : PySem.W.Frag) (D : Addr) : Prop where
  hg : PySem.W.plainGet K D "__class__" = true
  hd : PySem.W.hasDictIn K D = true
  ha : PySem.W.findIn K (.ref D) "__class__" = some (some (.builtin "object.__class__"))
  hn : PySem.W.specialIn K (.builtin "object.__class__") "__get__" = some (some (.builtin "getset_descriptor.__get__"))
  htk : PySem.W.takesIn K (.builtin "object.__class__") = some true
  hm : PySem.W.mroIn K D (.type "object") = some true
section
variable {prog : Program} {w : World} {A : Around} {s : Shared} {K : PySem.W.Frag} {x C R dx : Addr} {cd : ClassData} {name : Str} {v : Value}
end
section
variable {X : Cx} {pins : List (Addr × Obj)} {σ : St} {H : Hp} {s : Shared} {h' : Heap} {dx : Addr}
end
section
variable {X : Cx} {E : XK}
end
section
variable {X : Cx} {a b : Expr} {ta tb : TE} {op : Operator} {r : R2} {pos : Pos}
end
theorem qex {X : Cx} {l : List Stmt} {D : Ends} {σ : St} {H : Hp} {t : TS} (h : QSs X l t) (z : t D σ H) : ∃ t, PSs X l t ∧ t D σ H := ⟨t, h.h, z⟩
end L2


set_option maxRecDepth 100000
set_option maxHeartbeats 4000000
namespace K36
open PySem L2 Com
noncomputable def tHold (u : TS) : TS := u
theorem pss_hold {X : Cx} {l : List Stmt} {u : TS} (h : PSs X l u) : PSs X l (tHold u) := h
theorem qss_hold {X : Cx} {l : List Stmt} {u : TS} (h : QSs X l u) : QSs X l (tHold u) := ⟨h.h⟩
noncomputable def top (i : Nat) : Stmt := PySem.Challenge.pw_slowroad_k36_whole_fooled.main.body.getD i (.Pass ⟨0, 0, 0, 0⟩)
theorem len_1 {α : Type} {us : List α} (h : us.length = 1) : ∃ a0, us = [a0] := List.length_eq_one_iff.mp h
theorem len_2 {α : Type} {us : List α} (h : us.length = 2) : ∃ a0 a1, us = [a0, a1] := by
  obtain ⟨a, t, rfl⟩ := List.exists_cons_of_length_eq_add_one h
  obtain ⟨b0, rfl⟩ := len_1 (Nat.succ.inj h)
  exact ⟨a, b0, rfl⟩
theorem len_3 {α : Type} {us : List α} (h : us.length = 3) : ∃ a0 a1 a2, us = [a0, a1, a2] := by
  obtain ⟨a, t, rfl⟩ := List.exists_cons_of_length_eq_add_one h
  obtain ⟨b0, b1, rfl⟩ := len_2 (Nat.succ.inj h)
  exact ⟨a, b0, b1, rfl⟩
theorem len_4 {α : Type} {us : List α} (h : us.length = 4) : ∃ a0 a1 a2 a3, us = [a0, a1, a2, a3] := by
  obtain ⟨a, t, rfl⟩ := List.exists_cons_of_length_eq_add_one h
  obtain ⟨b0, b1, b2, rfl⟩ := len_3 (Nat.succ.inj h)
  exact ⟨a, b0, b1, b2, rfl⟩
theorem len_5 {α : Type} {us : List α} (h : us.length = 5) : ∃ a0 a1 a2 a3 a4, us = [a0, a1, a2, a3, a4] := by
  obtain ⟨a, t, rfl⟩ := List.exists_cons_of_length_eq_add_one h
  obtain ⟨b0, b1, b2, b3, rfl⟩ := len_4 (Nat.succ.inj h)
  exact ⟨a, b0, b1, b2, b3, rfl⟩
noncomputable abbrev s_is_from : Stmt := top 1
theorem sc_is_from : FnScope ["value", "low", "high"] ["value", "low", "high"] (defScope s_is_from) := ⟨rfl, rfl, rfl, by decide +kernel, rfl, by decide +kernel, by decide +kernel⟩
theorem bd_is_from : ∀ (kV doc pm : Value) (an : Option Addr) (cdv ct : Value) (us : List Value), us.length = (["value", "low", "high"] : List Str).length → bindArgs (PySem.W.fnOf "is_from" "is_from" (defArgs s_is_from) (defBody s_is_from) (defScope s_is_from) .none kV doc pm an cdv ct) ⟨us, []⟩ = pure ((["value", "low", "high"] : List Str).zip us) := by
  intro _ _ _ _ _ _ us hl; obtain ⟨_, _, _, rfl⟩ := len_3 hl; rfl
noncomputable abbrev s_BadTurn___init__ : Stmt := inClass (top 5) 0
theorem sc_BadTurn___init__ : FnScope ["self", "turn"] ["self", "turn"] (defScope s_BadTurn___init__) := ⟨rfl, rfl, rfl, by decide +kernel, rfl, by decide +kernel, by decide +kernel⟩
theorem bd_BadTurn___init__ : ∀ (kV doc pm : Value) (an : Option Addr) (cdv ct : Value) (us : List Value), us.length = (["self", "turn"] : List Str).length → bindArgs (PySem.W.fnOf "__init__" "BadTurn.__init__" (defArgs s_BadTurn___init__) (defBody s_BadTurn___init__) (defScope s_BadTurn___init__) .none kV doc pm an cdv ct) ⟨us, []⟩ = pure ((["self", "turn"] : List Str).zip us) := by
  intro _ _ _ _ _ _ us hl; obtain ⟨_, _, rfl⟩ := len_2 hl; rfl
noncomputable abbrev s_ahead : Stmt := top 7
theorem sc_ahead : FnScope ["ring", "one", "other"] ["ring", "one", "other"] (defScope s_ahead) := ⟨rfl, rfl, rfl, by decide +kernel, rfl, by decide +kernel, by decide +kernel⟩
theorem bd_ahead : ∀ (kV doc pm : Value) (an : Option Addr) (cdv ct : Value) (us : List Value), us.length = (["ring", "one", "other"] : List Str).length → bindArgs (PySem.W.fnOf "ahead" "ahead" (defArgs s_ahead) (defBody s_ahead) (defScope s_ahead) .none kV doc pm an cdv ct) ⟨us, []⟩ = pure ((["ring", "one", "other"] : List Str).zip us) := by
  intro _ _ _ _ _ _ us hl; obtain ⟨_, _, _, rfl⟩ := len_3 hl; rfl
noncomputable abbrev s_check_pair : Stmt := top 12
theorem sc_check_pair : FnScope ["ring", "room", "lag"] ["ring", "room", "lag"] (defScope s_check_pair) := ⟨rfl, rfl, rfl, by decide +kernel, rfl, by decide +kernel, by decide +kernel⟩
theorem bd_check_pair : ∀ (kV doc pm : Value) (an : Option Addr) (cdv ct : Value) (us : List Value), us.length = (["ring", "room", "lag"] : List Str).length → bindArgs (PySem.W.fnOf "check_pair" "check_pair" (defArgs s_check_pair) (defBody s_check_pair) (defScope s_check_pair) .none kV doc pm an cdv ct) ⟨us, []⟩ = pure ((["ring", "room", "lag"] : List Str).zip us) := by
  intro _ _ _ _ _ _ us hl; obtain ⟨_, _, _, rfl⟩ := len_3 hl; rfl
noncomputable abbrev s_Pair___init__ : Stmt := inClass (top 13) 0
theorem sc_Pair___init__ : FnScope ["self", "ring", "room", "lag"] ["self", "ring", "room", "lag"] (defScope s_Pair___init__) := ⟨rfl, rfl, rfl, by decide +kernel, rfl, by decide +kernel, by decide +kernel⟩
theorem bd_Pair___init__ : ∀ (kV doc pm : Value) (an : Option Addr) (cdv ct : Value) (us : List Value), us.length = (["self", "ring", "room", "lag"] : List Str).length → bindArgs (PySem.W.fnOf "__init__" "Pair.__init__" (defArgs s_Pair___init__) (defBody s_Pair___init__) (defScope s_Pair___init__) .none kV doc pm an cdv ct) ⟨us, []⟩ = pure ((["self", "ring", "room", "lag"] : List Str).zip us) := by
  intro _ _ _ _ _ _ us hl; obtain ⟨_, _, _, _, rfl⟩ := len_4 hl; rfl
noncomputable abbrev s_Pair_play : Stmt := inClass (top 13) 1
theorem sc_Pair_play : FnScope ["self", "comings", "answers", "item", "base", "places", "coming"] ["self", "comings", "answers", "item"] (defScope s_Pair_play) := ⟨rfl, rfl, rfl, by decide +kernel, rfl, by decide +kernel, by decide +kernel⟩
theorem bd_Pair_play : ∀ (kV doc pm : Value) (an : Option Addr) (cdv ct : Value) (us : List Value), us.length = (["self", "comings", "answers", "item"] : List Str).length → bindArgs (PySem.W.fnOf "play" "Pair.play" (defArgs s_Pair_play) (defBody s_Pair_play) (defScope s_Pair_play) .none kV doc pm an cdv ct) ⟨us, []⟩ = pure ((["self", "comings", "answers", "item"] : List Str).zip us) := by
  intro _ _ _ _ _ _ us hl; obtain ⟨_, _, _, _, rfl⟩ := len_4 hl; rfl
noncomputable abbrev s_Pair_is_earlier : Stmt := inClass (top 13) 2
theorem sc_Pair_is_earlier : FnScope ["self", "turn"] ["self", "turn"] (defScope s_Pair_is_earlier) := ⟨rfl, rfl, rfl, by decide +kernel, rfl, by decide +kernel, by decide +kernel⟩
theorem bd_Pair_is_earlier : ∀ (kV doc pm : Value) (an : Option Addr) (cdv ct : Value) (us : List Value), us.length = (["self", "turn"] : List Str).length → bindArgs (PySem.W.fnOf "is_earlier" "Pair.is_earlier" (defArgs s_Pair_is_earlier) (defBody s_Pair_is_earlier) (defScope s_Pair_is_earlier) .none kV doc pm an cdv ct) ⟨us, []⟩ = pure ((["self", "turn"] : List Str).zip us) := by
  intro _ _ _ _ _ _ us hl; obtain ⟨_, _, rfl⟩ := len_2 hl; rfl
noncomputable abbrev s_Pair_may_come : Stmt := inClass (top 13) 3
theorem sc_Pair_may_come : FnScope ["self", "turn"] ["self", "turn"] (defScope s_Pair_may_come) := ⟨rfl, rfl, rfl, by decide +kernel, rfl, by decide +kernel, by decide +kernel⟩
theorem bd_Pair_may_come : ∀ (kV doc pm : Value) (an : Option Addr) (cdv ct : Value) (us : List Value), us.length = (["self", "turn"] : List Str).length → bindArgs (PySem.W.fnOf "may_come" "Pair.may_come" (defArgs s_Pair_may_come) (defBody s_Pair_may_come) (defScope s_Pair_may_come) .none kV doc pm an cdv ct) ⟨us, []⟩ = pure ((["self", "turn"] : List Str).zip us) := by
  intro _ _ _ _ _ _ us hl; obtain ⟨_, _, rfl⟩ := len_2 hl; rfl
noncomputable abbrev s_Pair_base_behind : Stmt := inClass (top 13) 4
theorem sc_Pair_base_behind : FnScope ["self", "answers", "base", "answer", "steps"] ["self", "answers"] (defScope s_Pair_base_behind) := ⟨rfl, rfl, rfl, by decide +kernel, rfl, by decide +kernel, by decide +kernel⟩
theorem bd_Pair_base_behind : ∀ (kV doc pm : Value) (an : Option Addr) (cdv ct : Value) (us : List Value), us.length = (["self", "answers"] : List Str).length → bindArgs (PySem.W.fnOf "base_behind" "Pair.base_behind" (defArgs s_Pair_base_behind) (defBody s_Pair_base_behind) (defScope s_Pair_base_behind) .none kV doc pm an cdv ct) ⟨us, []⟩ = pure ((["self", "answers"] : List Str).zip us) := by
  intro _ _ _ _ _ _ us hl; obtain ⟨_, _, rfl⟩ := len_2 hl; rfl
noncomputable abbrev s_Pair_file_coming : Stmt := inClass (top 13) 5
theorem sc_Pair_file_coming : FnScope ["self", "turn", "number", "steps", "place"] ["self", "turn"] (defScope s_Pair_file_coming) := ⟨rfl, rfl, rfl, by decide +kernel, rfl, by decide +kernel, by decide +kernel⟩
theorem bd_Pair_file_coming : ∀ (kV doc pm : Value) (an : Option Addr) (cdv ct : Value) (us : List Value), us.length = (["self", "turn"] : List Str).length → bindArgs (PySem.W.fnOf "file_coming" "Pair.file_coming" (defArgs s_Pair_file_coming) (defBody s_Pair_file_coming) (defScope s_Pair_file_coming) .none kV doc pm an cdv ct) ⟨us, []⟩ = pure ((["self", "turn"] : List Str).zip us) := by
  intro _ _ _ _ _ _ us hl; obtain ⟨_, _, rfl⟩ := len_2 hl; rfl
noncomputable abbrev s_Pair_note_sending : Stmt := inClass (top 13) 6
theorem sc_Pair_note_sending : FnScope ["self", "place"] ["self", "place"] (defScope s_Pair_note_sending) := ⟨rfl, rfl, rfl, by decide +kernel, rfl, by decide +kernel, by decide +kernel⟩
theorem bd_Pair_note_sending : ∀ (kV doc pm : Value) (an : Option Addr) (cdv ct : Value) (us : List Value), us.length = (["self", "place"] : List Str).length → bindArgs (PySem.W.fnOf "note_sending" "Pair.note_sending" (defArgs s_Pair_note_sending) (defBody s_Pair_note_sending) (defScope s_Pair_note_sending) .none kV doc pm an cdv ct) ⟨us, []⟩ = pure ((["self", "place"] : List Str).zip us) := by
  intro _ _ _ _ _ _ us hl; obtain ⟨_, _, rfl⟩ := len_2 hl; rfl
noncomputable abbrev s_need : Stmt := top 15
theorem sc_need : FnScope ["room", "lag"] ["room", "lag"] (defScope s_need) := ⟨rfl, rfl, rfl, by decide +kernel, rfl, by decide +kernel, by decide +kernel⟩
theorem bd_need : ∀ (kV doc pm : Value) (an : Option Addr) (cdv ct : Value) (us : List Value), us.length = (["room", "lag"] : List Str).length → bindArgs (PySem.W.fnOf "need" "need" (defArgs s_need) (defBody s_need) (defScope s_need) .none kV doc pm an cdv ct) ⟨us, []⟩ = pure ((["room", "lag"] : List Str).zip us) := by
  intro _ _ _ _ _ _ us hl; obtain ⟨_, _, rfl⟩ := len_2 hl; rfl
noncomputable abbrev s_fooling : Stmt := top 16
theorem sc_fooling : FnScope ["ring", "room", "lag"] ["ring", "room", "lag"] (defScope s_fooling) := ⟨rfl, rfl, rfl, by decide +kernel, rfl, by decide +kernel, by decide +kernel⟩
theorem bd_fooling : ∀ (kV doc pm : Value) (an : Option Addr) (cdv ct : Value) (us : List Value), us.length = (["ring", "room", "lag"] : List Str).length → bindArgs (PySem.W.fnOf "fooling" "fooling" (defArgs s_fooling) (defBody s_fooling) (defScope s_fooling) .none kV doc pm an cdv ct) ⟨us, []⟩ = pure ((["ring", "room", "lag"] : List Str).zip us) := by
  intro _ _ _ _ _ _ us hl; obtain ⟨_, _, _, rfl⟩ := len_3 hl; rfl
noncomputable abbrev s_fooling_one : Stmt := top 17
theorem sc_fooling_one : FnScope ["ring", "turns", "place"] ["ring"] (defScope s_fooling_one) := ⟨rfl, rfl, rfl, by decide +kernel, rfl, by decide +kernel, by decide +kernel⟩
theorem bd_fooling_one : ∀ (kV doc pm : Value) (an : Option Addr) (cdv ct : Value) (us : List Value), us.length = (["ring"] : List Str).length → bindArgs (PySem.W.fnOf "fooling_one" "fooling_one" (defArgs s_fooling_one) (defBody s_fooling_one) (defScope s_fooling_one) .none kV doc pm an cdv ct) ⟨us, []⟩ = pure ((["ring"] : List Str).zip us) := by
  intro _ _ _ _ _ _ us hl; obtain ⟨_, rfl⟩ := len_1 hl; rfl
noncomputable abbrev s_fooling_many : Stmt := top 18
theorem sc_fooling_many : FnScope ["ring", "room", "goal", "again", "turns", "turn"] ["ring", "room"] (defScope s_fooling_many) := ⟨rfl, rfl, rfl, by decide +kernel, rfl, by decide +kernel, by decide +kernel⟩
theorem bd_fooling_many : ∀ (kV doc pm : Value) (an : Option Addr) (cdv ct : Value) (us : List Value), us.length = (["ring", "room"] : List Str).length → bindArgs (PySem.W.fnOf "fooling_many" "fooling_many" (defArgs s_fooling_many) (defBody s_fooling_many) (defScope s_fooling_many) .none kV doc pm an cdv ct) ⟨us, []⟩ = pure ((["ring", "room"] : List Str).zip us) := by
  intro _ _ _ _ _ _ us hl; obtain ⟨_, _, rfl⟩ := len_2 hl; rfl
noncomputable abbrev s_coming_ahead_of : Stmt := top 19
theorem sc_coming_ahead_of : FnScope ["turn", "kept_back"] ["turn", "kept_back"] (defScope s_coming_ahead_of) := ⟨rfl, rfl, rfl, by decide +kernel, rfl, by decide +kernel, by decide +kernel⟩
theorem bd_coming_ahead_of : ∀ (kV doc pm : Value) (an : Option Addr) (cdv ct : Value) (us : List Value), us.length = (["turn", "kept_back"] : List Str).length → bindArgs (PySem.W.fnOf "coming_ahead_of" "coming_ahead_of" (defArgs s_coming_ahead_of) (defBody s_coming_ahead_of) (defScope s_coming_ahead_of) .none kV doc pm an cdv ct) ⟨us, []⟩ = pure ((["turn", "kept_back"] : List Str).zip us) := by
  intro _ _ _ _ _ _ us hl; obtain ⟨_, _, rfl⟩ := len_2 hl; rfl
noncomputable abbrev s__law_whole : Stmt := top 21
theorem sc__law_whole : FnScope ["_law_found"] ["_law_found"] (defScope s__law_whole) := ⟨rfl, rfl, rfl, by decide +kernel, rfl, by decide +kernel, by decide +kernel⟩
theorem bd__law_whole : ∀ (kV doc pm : Value) (an : Option Addr) (cdv ct : Value) (us : List Value), us.length = (["_law_found"] : List Str).length → bindArgs (PySem.W.fnOf "_law_whole" "_law_whole" (defArgs s__law_whole) (defBody s__law_whole) (defScope s__law_whole) .none kV doc pm an cdv ct) ⟨us, []⟩ = pure ((["_law_found"] : List Str).zip us) := by
  intro _ _ _ _ _ _ us hl; obtain ⟨_, rfl⟩ := len_1 hl; rfl
noncomputable abbrev s__law_cell_at : Stmt := top 22
theorem sc__law_cell_at : FnScope ["_law_script", "_law_k"] ["_law_script", "_law_k"] (defScope s__law_cell_at) := ⟨rfl, rfl, rfl, by decide +kernel, rfl, by decide +kernel, by decide +kernel⟩
theorem bd__law_cell_at : ∀ (kV doc pm : Value) (an : Option Addr) (cdv ct : Value) (us : List Value), us.length = (["_law_script", "_law_k"] : List Str).length → bindArgs (PySem.W.fnOf "_law_cell_at" "_law_cell_at" (defArgs s__law_cell_at) (defBody s__law_cell_at) (defScope s__law_cell_at) .none kV doc pm an cdv ct) ⟨us, []⟩ = pure ((["_law_script", "_law_k"] : List Str).zip us) := by
  intro _ _ _ _ _ _ us hl; obtain ⟨_, _, rfl⟩ := len_2 hl; rfl
noncomputable abbrev s__law_need : Stmt := top 23
theorem sc__law_need : FnScope ["_law_room", "_law_lag"] ["_law_room", "_law_lag"] (defScope s__law_need) := ⟨rfl, rfl, rfl, by decide +kernel, rfl, by decide +kernel, by decide +kernel⟩
theorem bd__law_need : ∀ (kV doc pm : Value) (an : Option Addr) (cdv ct : Value) (us : List Value), us.length = (["_law_room", "_law_lag"] : List Str).length → bindArgs (PySem.W.fnOf "_law_need" "_law_need" (defArgs s__law_need) (defBody s__law_need) (defScope s__law_need) .none kV doc pm an cdv ct) ⟨us, []⟩ = pure ((["_law_room", "_law_lag"] : List Str).zip us) := by
  intro _ _ _ _ _ _ us hl; obtain ⟨_, _, rfl⟩ := len_2 hl; rfl
noncomputable abbrev s__law_row : Stmt := top 24
theorem sc__law_row : FnScope ["_law_found"] ["_law_found"] (defScope s__law_row) := ⟨rfl, rfl, rfl, by decide +kernel, rfl, by decide +kernel, by decide +kernel⟩
theorem bd__law_row : ∀ (kV doc pm : Value) (an : Option Addr) (cdv ct : Value) (us : List Value), us.length = (["_law_found"] : List Str).length → bindArgs (PySem.W.fnOf "_law_row" "_law_row" (defArgs s__law_row) (defBody s__law_row) (defScope s__law_row) .none kV doc pm an cdv ct) ⟨us, []⟩ = pure ((["_law_found"] : List Str).zip us) := by
  intro _ _ _ _ _ _ us hl; obtain ⟨_, rfl⟩ := len_1 hl; rfl
noncomputable abbrev s__law_formed : Stmt := top 25
theorem sc__law_formed : FnScope ["_law_turns", "_law_turn"] ["_law_turns"] (defScope s__law_formed) := ⟨rfl, rfl, rfl, by decide +kernel, rfl, by decide +kernel, by decide +kernel⟩
theorem bd__law_formed : ∀ (kV doc pm : Value) (an : Option Addr) (cdv ct : Value) (us : List Value), us.length = (["_law_turns"] : List Str).length → bindArgs (PySem.W.fnOf "_law_formed" "_law_formed" (defArgs s__law_formed) (defBody s__law_formed) (defScope s__law_formed) .none kV doc pm an cdv ct) ⟨us, []⟩ = pure ((["_law_turns"] : List Str).zip us) := by
  intro _ _ _ _ _ _ us hl; obtain ⟨_, rfl⟩ := len_1 hl; rfl
noncomputable abbrev s__law_may_come : Stmt := top 26
theorem sc__law_may_come : FnScope ["_law_births", "_law_now", "_law_lag", "_law_birth"] ["_law_births", "_law_now", "_law_lag"] (defScope s__law_may_come) := ⟨rfl, rfl, rfl, by decide +kernel, rfl, by decide +kernel, by decide +kernel⟩
theorem bd__law_may_come : ∀ (kV doc pm : Value) (an : Option Addr) (cdv ct : Value) (us : List Value), us.length = (["_law_births", "_law_now", "_law_lag"] : List Str).length → bindArgs (PySem.W.fnOf "_law_may_come" "_law_may_come" (defArgs s__law_may_come) (defBody s__law_may_come) (defScope s__law_may_come) .none kV doc pm an cdv ct) ⟨us, []⟩ = pure ((["_law_births", "_law_now", "_law_lag"] : List Str).zip us) := by
  intro _ _ _ _ _ _ us hl; obtain ⟨_, _, _, rfl⟩ := len_3 hl; rfl
noncomputable abbrev s__law_file : Stmt := top 27
theorem sc__law_file : FnScope ["_law_ring", "_law_room", "_law_got", "_law_filed", "_law_number", "_law_far", "_law_place"] ["_law_ring", "_law_room", "_law_got", "_law_filed", "_law_number"] (defScope s__law_file) := ⟨rfl, rfl, rfl, by decide +kernel, rfl, by decide +kernel, by decide +kernel⟩
theorem bd__law_file : ∀ (kV doc pm : Value) (an : Option Addr) (cdv ct : Value) (us : List Value), us.length = (["_law_ring", "_law_room", "_law_got", "_law_filed", "_law_number"] : List Str).length → bindArgs (PySem.W.fnOf "_law_file" "_law_file" (defArgs s__law_file) (defBody s__law_file) (defScope s__law_file) .none kV doc pm an cdv ct) ⟨us, []⟩ = pure ((["_law_ring", "_law_room", "_law_got", "_law_filed", "_law_number"] : List Str).zip us) := by
  intro _ _ _ _ _ _ us hl; obtain ⟨_, _, _, _, _, rfl⟩ := len_5 hl; rfl
noncomputable abbrev s__law_walked : Stmt := top 28
theorem sc__law_walked : FnScope ["_law_turns", "_law_ring", "_law_room", "_law_lag", "_law_base", "_law_top", "_law_got", "_law_filed", "_law_sent", "_law_told", "_law_wrong", "_law_comings", "_law_answers", "_law_item", "_law_birth", "_law_place"] ["_law_turns", "_law_ring", "_law_room", "_law_lag"] (defScope s__law_walked) := ⟨rfl, rfl, rfl, by decide +kernel, rfl, by decide +kernel, by decide +kernel⟩
theorem bd__law_walked : ∀ (kV doc pm : Value) (an : Option Addr) (cdv ct : Value) (us : List Value), us.length = (["_law_turns", "_law_ring", "_law_room", "_law_lag"] : List Str).length → bindArgs (PySem.W.fnOf "_law_walked" "_law_walked" (defArgs s__law_walked) (defBody s__law_walked) (defScope s__law_walked) .none kV doc pm an cdv ct) ⟨us, []⟩ = pure ((["_law_turns", "_law_ring", "_law_room", "_law_lag"] : List Str).zip us) := by
  intro _ _ _ _ _ _ us hl; obtain ⟨_, _, _, _, rfl⟩ := len_4 hl; rfl
noncomputable abbrev s__law_played : Stmt := top 29
theorem sc__law_played : FnScope ["_law_turns", "_law_ring", "_law_room", "_law_lag", "_law_pair", "_law_found", "_law_comings", "_law_answers", "_law_item", "_law_birth", "_law_place"] ["_law_turns", "_law_ring", "_law_room", "_law_lag"] (defScope s__law_played) := ⟨rfl, rfl, rfl, by decide +kernel, rfl, by decide +kernel, by decide +kernel⟩
theorem bd__law_played : ∀ (kV doc pm : Value) (an : Option Addr) (cdv ct : Value) (us : List Value), us.length = (["_law_turns", "_law_ring", "_law_room", "_law_lag"] : List Str).length → bindArgs (PySem.W.fnOf "_law_played" "_law_played" (defArgs s__law_played) (defBody s__law_played) (defScope s__law_played) .none kV doc pm an cdv ct) ⟨us, []⟩ = pure ((["_law_turns", "_law_ring", "_law_room", "_law_lag"] : List Str).zip us) := by
  intro _ _ _ _ _ _ us hl; obtain ⟨_, _, _, _, rfl⟩ := len_4 hl; rfl
noncomputable abbrev s_law : Stmt := top 30
theorem sc_law : FnScope ["_law_script", "_law_room", "_law_lag", "_law_least", "_law_way", "_law_ring", "_law_turns", "_law_again"] ["_law_script"] (defScope s_law) := ⟨rfl, rfl, rfl, by decide +kernel, rfl, by decide +kernel, by decide +kernel⟩
theorem bd_law : ∀ (kV doc pm : Value) (an : Option Addr) (cdv ct : Value) (us : List Value), us.length = (["_law_script"] : List Str).length → bindArgs (PySem.W.fnOf "law" "law" (defArgs s_law) (defBody s_law) (defScope s_law) .none kV doc pm an cdv ct) ⟨us, []⟩ = pure ((["_law_script"] : List Str).zip us) := by
  intro _ _ _ _ _ _ us hl; obtain ⟨_, rfl⟩ := len_1 hl; rfl
noncomputable def fl_Pair_1 (v0 : V) : List (Str × V) := [("ring", v0)]
theorem fl_Pair_1_len {v0 : V} : (fl_Pair_1 v0).length < 1000 := by show 1 < 1000; decide
theorem fl_Pair_1_new {v0 : V} : putF "ring" v0 [] = fl_Pair_1 v0 := by kernel_rfl
noncomputable def fl_Pair_2 (v0 v1 : V) : List (Str × V) := [("ring", v0), ("room", v1)]
theorem fl_Pair_2_len {v0 v1 : V} : (fl_Pair_2 v0 v1).length < 1000 := by show 2 < 1000; decide
theorem fl_Pair_2_new {v0 v1 : V} : putF "room" v1 (fl_Pair_1 v0) = fl_Pair_2 v0 v1 := by kernel_rfl
noncomputable def fl_Pair_3 (v0 v1 v2 : V) : List (Str × V) := [("ring", v0), ("room", v1), ("lag", v2)]
theorem fl_Pair_3_len {v0 v1 v2 : V} : (fl_Pair_3 v0 v1 v2).length < 1000 := by show 3 < 1000; decide
theorem fl_Pair_3_new {v0 v1 v2 : V} : putF "lag" v2 (fl_Pair_2 v0 v1) = fl_Pair_3 v0 v1 v2 := by kernel_rfl
noncomputable def fl_Pair_4 (v0 v1 v2 v3 : V) : List (Str × V) := [("ring", v0), ("room", v1), ("lag", v2), ("base", v3)]
theorem fl_Pair_4_len {v0 v1 v2 v3 : V} : (fl_Pair_4 v0 v1 v2 v3).length < 1000 := by show 4 < 1000; decide
theorem fl_Pair_4_new {v0 v1 v2 v3 : V} : putF "base" v3 (fl_Pair_3 v0 v1 v2) = fl_Pair_4 v0 v1 v2 v3 := by kernel_rfl
noncomputable def fl_Pair_5 (v0 v1 v2 v3 v4 : V) : List (Str × V) := [("ring", v0), ("room", v1), ("lag", v2), ("base", v3), ("top", v4)]
theorem fl_Pair_5_len {v0 v1 v2 v3 v4 : V} : (fl_Pair_5 v0 v1 v2 v3 v4).length < 1000 := by show 5 < 1000; decide
theorem fl_Pair_5_new {v0 v1 v2 v3 v4 : V} : putF "top" v4 (fl_Pair_4 v0 v1 v2 v3) = fl_Pair_5 v0 v1 v2 v3 v4 := by kernel_rfl
noncomputable def fl_Pair_6 (v0 v1 v2 v3 v4 v5 : V) : List (Str × V) := [("ring", v0), ("room", v1), ("lag", v2), ("base", v3), ("top", v4), ("got", v5)]
theorem fl_Pair_6_len {v0 v1 v2 v3 v4 v5 : V} : (fl_Pair_6 v0 v1 v2 v3 v4 v5).length < 1000 := by show 6 < 1000; decide
theorem fl_Pair_6_new {v0 v1 v2 v3 v4 v5 : V} : putF "got" v5 (fl_Pair_5 v0 v1 v2 v3 v4) = fl_Pair_6 v0 v1 v2 v3 v4 v5 := by kernel_rfl
noncomputable def fl_Pair_7 (v0 v1 v2 v3 v4 v5 v6 : V) : List (Str × V) := [("ring", v0), ("room", v1), ("lag", v2), ("base", v3), ("top", v4), ("got", v5), ("turn", v6)]
theorem fl_Pair_7_len {v0 v1 v2 v3 v4 v5 v6 : V} : (fl_Pair_7 v0 v1 v2 v3 v4 v5 v6).length < 1000 := by show 7 < 1000; decide
theorem fl_Pair_7_new {v0 v1 v2 v3 v4 v5 v6 : V} : putF "turn" v6 (fl_Pair_6 v0 v1 v2 v3 v4 v5) = fl_Pair_7 v0 v1 v2 v3 v4 v5 v6 := by kernel_rfl
noncomputable def fl_Pair_8 (v0 v1 v2 v3 v4 v5 v6 v7 : V) : List (Str × V) := [("ring", v0), ("room", v1), ("lag", v2), ("base", v3), ("top", v4), ("got", v5), ("turn", v6), ("sent_places", v7)]
theorem fl_Pair_8_len {v0 v1 v2 v3 v4 v5 v6 v7 : V} : (fl_Pair_8 v0 v1 v2 v3 v4 v5 v6 v7).length < 1000 := by show 8 < 1000; decide
theorem fl_Pair_8_new {v0 v1 v2 v3 v4 v5 v6 v7 : V} : putF "sent_places" v7 (fl_Pair_7 v0 v1 v2 v3 v4 v5 v6) = fl_Pair_8 v0 v1 v2 v3 v4 v5 v6 v7 := by kernel_rfl
noncomputable def fl_Pair_9 (v0 v1 v2 v3 v4 v5 v6 v7 v8 : V) : List (Str × V) := [("ring", v0), ("room", v1), ("lag", v2), ("base", v3), ("top", v4), ("got", v5), ("turn", v6), ("sent_places", v7), ("told_answers", v8)]
theorem fl_Pair_9_len {v0 v1 v2 v3 v4 v5 v6 v7 v8 : V} : (fl_Pair_9 v0 v1 v2 v3 v4 v5 v6 v7 v8).length < 1000 := by show 9 < 1000; decide
theorem fl_Pair_9_new {v0 v1 v2 v3 v4 v5 v6 v7 v8 : V} : putF "told_answers" v8 (fl_Pair_8 v0 v1 v2 v3 v4 v5 v6 v7) = fl_Pair_9 v0 v1 v2 v3 v4 v5 v6 v7 v8 := by kernel_rfl
noncomputable def fl_Pair (v0 v1 v2 v3 v4 v5 v6 v7 v8 v9 : V) : List (Str × V) := [("ring", v0), ("room", v1), ("lag", v2), ("base", v3), ("top", v4), ("got", v5), ("turn", v6), ("sent_places", v7), ("told_answers", v8), ("filed_places", v9)]
theorem fl_Pair_len {v0 v1 v2 v3 v4 v5 v6 v7 v8 v9 : V} : (fl_Pair v0 v1 v2 v3 v4 v5 v6 v7 v8 v9).length < 1000 := by show 10 < 1000; decide
theorem fl_Pair_new {v0 v1 v2 v3 v4 v5 v6 v7 v8 v9 : V} : putF "filed_places" v9 (fl_Pair_9 v0 v1 v2 v3 v4 v5 v6 v7 v8) = fl_Pair v0 v1 v2 v3 v4 v5 v6 v7 v8 v9 := by kernel_rfl
theorem fl_Pair_get_ring {v0 v1 v2 v3 v4 v5 v6 v7 v8 v9 : V} : (fl_Pair v0 v1 v2 v3 v4 v5 v6 v7 v8 v9).lookup ("ring" : Str) = some v0 := by kernel_rfl
theorem fl_Pair_get_room {v0 v1 v2 v3 v4 v5 v6 v7 v8 v9 : V} : (fl_Pair v0 v1 v2 v3 v4 v5 v6 v7 v8 v9).lookup ("room" : Str) = some v1 := by kernel_rfl
theorem fl_Pair_get_lag {v0 v1 v2 v3 v4 v5 v6 v7 v8 v9 : V} : (fl_Pair v0 v1 v2 v3 v4 v5 v6 v7 v8 v9).lookup ("lag" : Str) = some v2 := by kernel_rfl
theorem fl_Pair_get_base {v0 v1 v2 v3 v4 v5 v6 v7 v8 v9 : V} : (fl_Pair v0 v1 v2 v3 v4 v5 v6 v7 v8 v9).lookup ("base" : Str) = some v3 := by kernel_rfl
theorem fl_Pair_get_top {v0 v1 v2 v3 v4 v5 v6 v7 v8 v9 : V} : (fl_Pair v0 v1 v2 v3 v4 v5 v6 v7 v8 v9).lookup ("top" : Str) = some v4 := by kernel_rfl
theorem fl_Pair_get_got {v0 v1 v2 v3 v4 v5 v6 v7 v8 v9 : V} : (fl_Pair v0 v1 v2 v3 v4 v5 v6 v7 v8 v9).lookup ("got" : Str) = some v5 := by kernel_rfl
theorem fl_Pair_get_turn {v0 v1 v2 v3 v4 v5 v6 v7 v8 v9 : V} : (fl_Pair v0 v1 v2 v3 v4 v5 v6 v7 v8 v9).lookup ("turn" : Str) = some v6 := by kernel_rfl
theorem fl_Pair_get_sent_places {v0 v1 v2 v3 v4 v5 v6 v7 v8 v9 : V} : (fl_Pair v0 v1 v2 v3 v4 v5 v6 v7 v8 v9).lookup ("sent_places" : Str) = some v7 := by kernel_rfl
theorem fl_Pair_get_told_answers {v0 v1 v2 v3 v4 v5 v6 v7 v8 v9 : V} : (fl_Pair v0 v1 v2 v3 v4 v5 v6 v7 v8 v9).lookup ("told_answers" : Str) = some v8 := by kernel_rfl
theorem fl_Pair_get_filed_places {v0 v1 v2 v3 v4 v5 v6 v7 v8 v9 : V} : (fl_Pair v0 v1 v2 v3 v4 v5 v6 v7 v8 v9).lookup ("filed_places" : Str) = some v9 := by kernel_rfl
theorem fl_Pair_put_base {x v0 v1 v2 v3 v4 v5 v6 v7 v8 v9 : V} : putF "base" x (fl_Pair v0 v1 v2 v3 v4 v5 v6 v7 v8 v9) = fl_Pair v0 v1 v2 x v4 v5 v6 v7 v8 v9 := by kernel_rfl
theorem fl_Pair_put_top {x v0 v1 v2 v3 v4 v5 v6 v7 v8 v9 : V} : putF "top" x (fl_Pair v0 v1 v2 v3 v4 v5 v6 v7 v8 v9) = fl_Pair v0 v1 v2 v3 x v5 v6 v7 v8 v9 := by kernel_rfl
theorem fl_Pair_put_got {x v0 v1 v2 v3 v4 v5 v6 v7 v8 v9 : V} : putF "got" x (fl_Pair v0 v1 v2 v3 v4 v5 v6 v7 v8 v9) = fl_Pair v0 v1 v2 v3 v4 x v6 v7 v8 v9 := by kernel_rfl
theorem fl_Pair_put_turn {x v0 v1 v2 v3 v4 v5 v6 v7 v8 v9 : V} : putF "turn" x (fl_Pair v0 v1 v2 v3 v4 v5 v6 v7 v8 v9) = fl_Pair v0 v1 v2 v3 v4 v5 x v7 v8 v9 := by kernel_rfl
theorem fl_Pair_no_play {v0 v1 v2 v3 v4 v5 v6 v7 v8 v9 : V} : (fl_Pair v0 v1 v2 v3 v4 v5 v6 v7 v8 v9).lookup ("play" : Str) = none := by kernel_rfl
theorem fl_Pair_no_is_earlier {v0 v1 v2 v3 v4 v5 v6 v7 v8 v9 : V} : (fl_Pair v0 v1 v2 v3 v4 v5 v6 v7 v8 v9).lookup ("is_earlier" : Str) = none := by kernel_rfl
theorem fl_Pair_no_may_come {v0 v1 v2 v3 v4 v5 v6 v7 v8 v9 : V} : (fl_Pair v0 v1 v2 v3 v4 v5 v6 v7 v8 v9).lookup ("may_come" : Str) = none := by kernel_rfl
theorem fl_Pair_no_base_behind {v0 v1 v2 v3 v4 v5 v6 v7 v8 v9 : V} : (fl_Pair v0 v1 v2 v3 v4 v5 v6 v7 v8 v9).lookup ("base_behind" : Str) = none := by kernel_rfl
theorem fl_Pair_no_file_coming {v0 v1 v2 v3 v4 v5 v6 v7 v8 v9 : V} : (fl_Pair v0 v1 v2 v3 v4 v5 v6 v7 v8 v9).lookup ("file_coming" : Str) = none := by kernel_rfl
theorem fl_Pair_no_note_sending {v0 v1 v2 v3 v4 v5 v6 v7 v8 v9 : V} : (fl_Pair v0 v1 v2 v3 v4 v5 v6 v7 v8 v9).lookup ("note_sending" : Str) = none := by kernel_rfl
structure Txt (K : PySem.W.Frag) (mg : Str → Option Value) (C_Pair C_RoadError C_BadPair C_BadTurn : Addr) : Prop where
  k_Pair : KlsAt K mg "Pair" C_Pair
  n_Pair_ring : NoAttr K C_Pair "ring"
  n_Pair_room : NoAttr K C_Pair "room"
  n_Pair_lag : NoAttr K C_Pair "lag"
  n_Pair_base : NoAttr K C_Pair "base"
  n_Pair_top : NoAttr K C_Pair "top"
  n_Pair_got : NoAttr K C_Pair "got"
  n_Pair_turn : NoAttr K C_Pair "turn"
  n_Pair_sent_places : NoAttr K C_Pair "sent_places"
  n_Pair_told_answers : NoAttr K C_Pair "told_answers"
  n_Pair_filed_places : NoAttr K C_Pair "filed_places"
  xm_RoadError : XmAt K mg "RoadError" C_RoadError
  xm_BadPair : XmAt K mg "BadPair" C_BadPair
  xm_BadTurn : XmAt K mg "BadTurn" C_BadTurn
  x_BadPair : XcAt K mg "BadPair" C_BadPair C_RoadError none
  g_BadPair : XgAt K C_BadPair
  qv_BadPair : PySem.W.kitOne K (.ref C_BadPair) (.type "ValueError") = some true
  q_BadPair_RoadError : PySem.W.kitOne K (.ref C_BadPair) (.ref C_RoadError) = some true
  m_BadPair_RoadError : isx K (.ref C_BadPair) C_RoadError = some true
  q_BadPair_BadPair : PySem.W.kitOne K (.ref C_BadPair) (.ref C_BadPair) = some true
  m_BadPair_BadPair : isx K (.ref C_BadPair) C_BadPair = some true
  q_BadPair_BadTurn : PySem.W.kitOne K (.ref C_BadPair) (.ref C_BadTurn) = some false
  m_BadPair_BadTurn : isx K (.ref C_BadPair) C_BadTurn = some false
  x_BadTurn : XcI K mg "BadTurn" C_BadTurn C_RoadError
  g_BadTurn : XgAt K C_BadTurn
  kp_BadTurn : PySem.W.keepIn K (.ref C_BadTurn) = true
  xf_BadTurn_turn : XfAt K C_BadTurn "turn"
  qv_BadTurn : PySem.W.kitOne K (.ref C_BadTurn) (.type "ValueError") = some true
  q_BadTurn_RoadError : PySem.W.kitOne K (.ref C_BadTurn) (.ref C_RoadError) = some true
  m_BadTurn_RoadError : isx K (.ref C_BadTurn) C_RoadError = some true
  q_BadTurn_BadPair : PySem.W.kitOne K (.ref C_BadTurn) (.ref C_BadPair) = some false
  m_BadTurn_BadPair : isx K (.ref C_BadTurn) C_BadPair = some false
  q_BadTurn_BadTurn : PySem.W.kitOne K (.ref C_BadTurn) (.ref C_BadTurn) = some true
  m_BadTurn_BadTurn : isx K (.ref C_BadTurn) C_BadTurn = some true
  d_is_from : DefAt K mg "is_from" s_is_from
  d_BadTurn___init__ : MethAt K C_BadTurn "__init__" "BadTurn.__init__" s_BadTurn___init__
  d_ahead : DefAt K mg "ahead" s_ahead
  d_check_pair : DefAt K mg "check_pair" s_check_pair
  d_Pair___init__ : MethAt K C_Pair "__init__" "Pair.__init__" s_Pair___init__
  d_Pair_play : MethAt K C_Pair "play" "Pair.play" s_Pair_play
  d_Pair_is_earlier : MethAt K C_Pair "is_earlier" "Pair.is_earlier" s_Pair_is_earlier
  d_Pair_may_come : MethAt K C_Pair "may_come" "Pair.may_come" s_Pair_may_come
  d_Pair_base_behind : MethAt K C_Pair "base_behind" "Pair.base_behind" s_Pair_base_behind
  d_Pair_file_coming : MethAt K C_Pair "file_coming" "Pair.file_coming" s_Pair_file_coming
  d_Pair_note_sending : MethAt K C_Pair "note_sending" "Pair.note_sending" s_Pair_note_sending
  d_need : DefAt K mg "need" s_need
  d_fooling : DefAt K mg "fooling" s_fooling
  d_fooling_one : DefAt K mg "fooling_one" s_fooling_one
  d_fooling_many : DefAt K mg "fooling_many" s_fooling_many
  d_coming_ahead_of : DefAt K mg "coming_ahead_of" s_coming_ahead_of
  d__law_whole : DefAt K mg "_law_whole" s__law_whole
  d__law_cell_at : DefAt K mg "_law_cell_at" s__law_cell_at
  d__law_need : DefAt K mg "_law_need" s__law_need
  d__law_row : DefAt K mg "_law_row" s__law_row
  d__law_formed : DefAt K mg "_law_formed" s__law_formed
  d__law_may_come : DefAt K mg "_law_may_come" s__law_may_come
  d__law_file : DefAt K mg "_law_file" s__law_file
  d__law_walked : DefAt K mg "_law_walked" s__law_walked
  d__law_played : DefAt K mg "_law_played" s__law_played
  d_law : DefAt K mg "law" s_law
  b_ValueError : mg "ValueError" = none
  b_all : mg "all" = none
  b_bool : mg "bool" = none
  b_int : mg "int" = none
  b_isinstance : mg "isinstance" = none
  b_len : mg "len" = none
  b_list : mg "list" = none
  b_max : mg "max" = none
  b_min : mg "min" = none
  b_range : mg "range" = none
  b_tuple : mg "tuple" = none
  b_zip : mg "zip" = none
  c_ROOM_MOST : CstAt mg "ROOM_MOST" (.int 60)
  c_RING_MOST : CstAt mg "RING_MOST" (.int 1000000)
  c_LAG_MOST : CstAt mg "LAG_MOST" (.int 60)
structure Pr where
  R : Int
  M : Int
  G : Int
  b : Int
  t : Int
  g : Int
  n : Int
  S : List (Key × V)
  A : List Int
  F : List (Key × V)
structure PairAt (C : Addr) (H : Hp) (x dx ps pa pf : Addr) (z : Pr) : Prop where
  hx : H x = some (.ins C dx (fl_Pair (.int z.R) (.int z.M) (.int z.G) (.int z.b) (.int z.t) (.int z.g) (.int z.n) (.ref ps) (.ref pa) (.ref pf)))
  hS : H ps = some (.dK z.S)
  hA : H pa = some (.lst (z.A.map V.int))
  hF : H pf = some (.dK z.F)
  ne : ps ≠ pf
theorem PairAt.n1 {C x dx ps pa pf : Addr} {H : Hp} {z : Pr} (h : PairAt C H x dx ps pa pf z) : ps ≠ x := ne_of h.hS h.hx (by simp)
theorem PairAt.n2 {C x dx ps pa pf : Addr} {H : Hp} {z : Pr} (h : PairAt C H x dx ps pa pf z) : pa ≠ x := ne_of h.hA h.hx (by simp)
theorem PairAt.n3 {C x dx ps pa pf : Addr} {H : Hp} {z : Pr} (h : PairAt C H x dx ps pa pf z) : pf ≠ x := ne_of h.hF h.hx (by simp)
theorem PairAt.n4 {C x dx ps pa pf : Addr} {H : Hp} {z : Pr} (h : PairAt C H x dx ps pa pf z) : pa ≠ ps := ne_of h.hA h.hS (by simp)
theorem PairAt.n5 {C x dx ps pa pf : Addr} {H : Hp} {z : Pr} (h : PairAt C H x dx ps pa pf z) : pa ≠ pf := ne_of h.hA h.hF (by simp)
theorem PairAt.same {C x dx ps pa pf : Addr} {H H' : Hp} {z : Pr} (h : PairAt C H x dx ps pa pf z) (e : Same H H') : PairAt C H' x dx ps pa pf z := ⟨e _ _ h.hx, e _ _ h.hS, e _ _ h.hA, e _ _ h.hF, h.ne⟩
noncomputable def Fr4 (x ps pa pf : Addr) (H H' : Hp) : Prop := ∀ b o, H b = some o → b ≠ x → b ≠ ps → b ≠ pa → b ≠ pf → H' b = some o
noncomputable def earl (z : Pr) (t : Int) : Bool := decide ((if 0 < z.n - z.G then z.n - z.G else 0) ≤ t) && decide (t < z.n)
theorem atI_getI {xs : List Int} {x : Int} (h0 : 0 ≤ x) (h1 : x < xs.length) : atI (xs.map V.int) x = some (.int (xs.getD x.toNat 0)) := by
  obtain ⟨j, rfl⟩ : ∃ j : Nat, x = (j : Int) := ⟨x.toNat, by omega⟩
  apply atI_n
  rw [List.getElem?_map, Int.toNat_natCast, List.getD_eq_getElem?_getD, List.getElem?_eq_getElem (by omega)]
  rfl
theorem PairAt.put {C x dx ps pa pf : Addr} {H : Hp} {z : Pr} (h : PairAt C H x dx ps pa pf z) (R M G b t g n : Int) : PairAt C (upd H x (.ins C dx (fl_Pair (.int R) (.int M) (.int G) (.int b) (.int t) (.int g) (.int n) (.ref ps) (.ref pa) (.ref pf)))) x dx ps pa pf ⟨R, M, G, b, t, g, n, z.S, z.A, z.F⟩ :=
  ⟨upd_same, by rw [upd_ne h.n1]; exact h.hS, by rw [upd_ne h.n2]; exact h.hA, by rw [upd_ne h.n3]; exact h.hF, h.ne⟩
theorem PairAt.new {C x dx ps pa pf q : Addr} {H : Hp} {z : Pr} {o : HO} (h : PairAt C H x dx ps pa pf z) (hq : H q = none) : PairAt C (upd H q o) x dx ps pa pf z := h.same (same_upd hq)
theorem PairAt.lst {C x dx ps pa pf q : Addr} {H : Hp} {z : Pr} {o : HO} (h : PairAt C H x dx ps pa pf z) {l : List V} (hq : H q = some (.lst l)) (n : q ≠ pa) : PairAt C (upd H q o) x dx ps pa pf z :=
  ⟨by rw [upd_ne (ne_of h.hx hq (by simp))]; exact h.hx, by rw [upd_ne (ne_of h.hS hq (by simp))]; exact h.hS, by rw [upd_ne n.symm]; exact h.hA, by rw [upd_ne (ne_of h.hF hq (by simp))]; exact h.hF, h.ne⟩
noncomputable def Top (F : List (Key × V)) (g g' : Int) : Prop := g ≤ g' ∧ (∀ i, g ≤ i → i < g' → (valV F (ik i)).isSome = true) ∧ (valV F (ik g')).isSome = false
theorem Top.uniq {F : List (Key × V)} {g a b : Int} : Top F g a → Top F g b → a = b := by
  rintro ⟨a1, a2, a3⟩ ⟨b1, b2, b3⟩
  rcases Int.lt_trichotomy a b with h | h | h
  · have := b2 a a1 h; rw [a3] at this; cases this
  · exact h
  · have := a2 b b1 h; rw [b3] at this; cases this
theorem top_ex {F : List (Key × V)} {B : Int} (h : ∀ i : Int, (valV F (ik i)).isSome = true → i < B) : ∀ (n : Nat) (g : Int), (B - g).toNat ≤ n → ∃ g', Top F g g' := by
  intro n
  induction n with
  | zero =>
    intro g hg
    refine ⟨g, Int.le_refl _, fun i h1 h2 => by omega, ?_⟩
    cases e : (valV F (ik g)).isSome
    · rfl
    · have := h g e; omega
  | succ n ih =>
    intro g hg
    cases e : (valV F (ik g)).isSome
    · exact ⟨g, Int.le_refl _, fun i h1 h2 => by omega, e⟩
    · obtain ⟨g', t1, t2, t3⟩ := ih (g + 1) (by omega)
      refine ⟨g', by omega, fun i h1 h2 => ?_, t3⟩
      by_cases c : i = g
      · rw [c]; exact e
      · exact t2 i (by omega) h2
noncomputable def clm (F : List (Key × V)) (g : Int) : Int := Classical.epsilon (Top F g)
theorem clm_of {F : List (Key × V)} {g a : Int} (h : Top F g a) : clm F g = a := Top.uniq (Classical.epsilon_spec ⟨a, h⟩) h
theorem clm_top {F : List (Key × V)} {g B : Int} (h : ∀ i : Int, (valV F (ik i)).isSome = true → i < B) : Top F g (clm F g) := Classical.epsilon_spec (top_ex h _ g (Nat.le_refl _))
structure Fok (R M g : Int) (F : List (Key × V)) : Prop where
  m0 : 0 < M
  mr : M < R
  g0 : 0 ≤ g
  ks : ∀ i : Int, (valV F (ik i)).isSome = true → i < g + M
noncomputable def stp (R : Int) (g p : Int) : Int := (p % R - g) % R
theorem Fok.put {R M g s : Int} {F : List (Key × V)} (h : Fok R M g F) (hs : s < M) : ∀ i : Int, (valV (putK F (ik (g + s)) (.bl true)) (ik i)).isSome = true → i < g + M := fun i hi => by
  rw [valV_put] at hi
  split at hi
  · rename_i c
    have : i = g + s := by injection c
    omega
  · exact h.ks i hi
noncomputable def fil1 (R M : Int) (s : Int × List (Key × V)) (p : Int) : V × Int × List (Key × V) :=
  if M ≤ stp R s.1 p then (.non, s) else (.int (s.1 + stp R s.1 p), clm (putK s.2 (ik (s.1 + stp R s.1 p)) (.bl true)) s.1, putK s.2 (ik (s.1 + stp R s.1 p)) (.bl true))
theorem fil1_ok {R M p : Int} {s : Int × List (Key × V)} (h : Fok R M s.1 s.2) : Fok R M (fil1 R M s p).2.1 (fil1 R M s p).2.2 ∧ (fil1 R M s p).2.2.length ≤ s.2.length + 1 ∧ s.1 ≤ (fil1 R M s p).2.1 := by
  unfold fil1
  split
  · exact ⟨h, by simp, by simp⟩
  · rename_i c
    have k := h.put (s := stp R s.1 p) (by omega)
    obtain ⟨t1, _⟩ := clm_top (g := s.1) k
    have := h.g0
    exact ⟨⟨h.m0, h.mr, by show 0 ≤ clm _ _; omega, fun i hi => by have := k i hi; show i < clm _ _ + M; omega⟩, length_putK _ _ _, t1⟩
noncomputable def filS (R M : Int) : List Int → Int × List (Key × V) → Int × List (Key × V)
  | [], s => s
  | p :: l, s => filS R M l (fil1 R M s p).2
noncomputable def filV (R M : Int) : List Int → Int × List (Key × V) → List V
  | [], _ => []
  | p :: l, s => (fil1 R M s p).1 :: filV R M l (fil1 R M s p).2
theorem filS_snoc {R M p : Int} : ∀ {l : List Int} {s : Int × List (Key × V)}, filS R M (l ++ [p]) s = (fil1 R M (filS R M l s) p).2
  | [], _ => rfl
  | _ :: l, _ => filS_snoc (l := l)
theorem filV_snoc {R M p : Int} : ∀ {l : List Int} {s : Int × List (Key × V)}, filV R M (l ++ [p]) s = filV R M l s ++ [(fil1 R M (filS R M l s) p).1]
  | [], _ => rfl
  | q :: l, s => by show (fil1 R M s q).1 :: filV R M (l ++ [p]) _ = _; rw [filV_snoc]; rfl
theorem filV_len {R M : Int} : ∀ {l : List Int} {s : Int × List (Key × V)}, (filV R M l s).length = l.length
  | [], _ => rfl
  | _ :: l, _ => by show (filV R M l _).length + 1 = _; rw [filV_len]; rfl
theorem filS_ok {R M : Int} : ∀ {l : List Int} {s : Int × List (Key × V)}, Fok R M s.1 s.2 → Fok R M (filS R M l s).1 (filS R M l s).2 ∧ (filS R M l s).2.length ≤ s.2.length + l.length
  | [], _, h => ⟨h, Nat.le_refl _⟩
  | p :: l, s, h => by
    have k := fil1_ok (p := p) h
    have m := filS_ok (l := l) k.1
    exact ⟨m.1, by have := m.2; have := k.2.1; simp only [List.length_cons]; show (filS R M l _).2.length ≤ _; omega⟩
theorem fil1_sc {R M p : Int} {s : Int × List (Key × V)} : (fil1 R M s p).1 = .non ∨ ∃ i, (fil1 R M s p).1 = .int i := by
  unfold fil1
  split
  · exact .inl rfl
  · exact .inr ⟨_, rfl⟩
noncomputable def bb1 (R t b a : Int) : Int := if (a - b) % R ≤ t - b then b + (a - b) % R else b
noncomputable def bbs (R t b : Int) (l : List Int) : Int := l.foldl (bb1 R t) b
theorem bbs_snoc {R t b a : Int} {l : List Int} : bbs R t b (l ++ [a]) = bb1 R t (bbs R t b l) a := by unfold bbs; rw [List.foldl_append]; rfl
theorem take_snoc {α : Type} {l : List α} {i : Nat} {a : α} (h : l[i]? = some a) : l.take (i + 1) = l.take i ++ [a] := by
  rw [List.take_add_one, h]; rfl
noncomputable def plc (S : List (Key × V)) (c : Int) : Int := match valV S (ik c) with | some (.int p) => p | _ => 0
theorem plc_of {S : List (Key × V)} {c p : Int} (h : valV S (ik c) = some (.int p)) : plc S c = p := by unfold plc; rw [h]
noncomputable def sp_is_from  : Sp := fun vs H Q E => match vs with
  | [.int v, .int lo, .int hi] => Q (.bl (decide (lo ≤ v) && decide (v ≤ hi))) H
  | _ => False
noncomputable def sp_ahead  : Sp := fun vs H Q E => match vs with
  | [.int r, .int a, .int b] => 0 < r ∧ Q (.int ((b - a) % r)) H
  | _ => False
noncomputable def okP (r m g : Int) : Prop := 1 ≤ m ∧ m ≤ 60 ∧ m < r ∧ r ≤ 1000000 ∧ 1 ≤ g ∧ g ≤ 60
noncomputable def sp_check_pair  (C_BadPair : Addr) : Sp := fun vs H Q E => match vs with
  | [.int r, .int m, .int g] => (okP r m g → Q .non H) ∧ (¬ okP r m g → E (.ref C_BadPair) none H)
  | _ => False
noncomputable def sp_Pair___init__  (C_Pair : Addr) (C_BadPair : Addr) : Sp := fun vs H Q E => match vs with
  | [.ref x, .int r, .int m, .int g] => ∃ dx, H x = some (.ins C_Pair dx []) ∧ (okP r m g → ∀ ps pa pf H', But x H H' → PairAt C_Pair H' x dx ps pa pf ⟨r, m, g, 0, 0, 0, 0, [], [], []⟩ → H ps = none → H pa = none → H pf = none → Q .non H') ∧ (¬ okP r m g → E (.ref C_BadPair) none H)
  | _ => False
noncomputable def sp_Pair_is_earlier  (C_Pair : Addr) : Sp := fun vs H Q E => match vs with
  | [.ref x, .int t] => ∃ dx ps pa pf z, PairAt C_Pair H x dx ps pa pf z ∧ Q (.bl (earl z t)) H
  | _ => False
noncomputable def sp_Pair_may_come  (C_Pair : Addr) : Sp := fun vs H Q E => match vs with
  | [.ref x, .int t] => ∃ dx ps pa pf z, PairAt C_Pair H x dx ps pa pf z ∧ Q (.bl (earl z t && (valV z.S (ik t)).isSome)) H
  | _ => False
noncomputable def sp_Pair_note_sending  (C_Pair : Addr) : Sp := fun vs H Q E => match vs with
  | [.ref x, .int p] => ∃ dx ps pa pf z, PairAt C_Pair H x dx ps pa pf z ∧ z.S.length < 1000 ∧ ∀ H', Fr4 x ps pa pf H H' → PairAt C_Pair H' x dx ps pa pf { z with S := putK z.S (ik z.n) (.int p), t := if p = z.t then z.t + 1 else z.t } → Q .non H'
  | _ => False
noncomputable def sp_Pair_file_coming  (C_Pair : Addr) : Sp := fun vs H Q E => match vs with
  | [.ref x, .int c] => ∃ dx ps pa pf z, ∃ p : Int, PairAt C_Pair H x dx ps pa pf z ∧ Fok z.R z.M z.g z.F ∧ z.F.length < 100000 ∧ valV z.S (ik c) = some (.int p) ∧ ∀ H', Fr4 x ps pa pf H H' → PairAt C_Pair H' x dx ps pa pf { z with g := (fil1 z.R z.M (z.g, z.F) p).2.1, F := (fil1 z.R z.M (z.g, z.F) p).2.2 } → Q (fil1 z.R z.M (z.g, z.F) p).1 H'
  | _ => False
noncomputable def sp_Pair_base_behind  (C_Pair : Addr) (K : PySem.W.Frag) : Sp := fun vs H Q E => match vs with
  | [.ref x, .ref l] => ∃ dx ps pa pf z, ∃ as : List Int, PairAt C_Pair H x dx ps pa pf z ∧ 0 < z.R ∧ H l = some (.lst (as.map V.int)) ∧ (∀ a ∈ as, 0 ≤ a ∧ a < z.A.length) ∧ Q (.int (bbs z.R z.t z.b (as.map fun a => z.A.getD a.toNat 0))) H
  | _ => False
structure PlayOk (z : Pr) (cs as : List Int) (it : V) : Prop where
  fok : Fok z.R z.M z.g z.F
  lF : z.F.length < 90000
  lS : z.S.length < 1000
  lA : z.A.length < 1000
  lc : cs.length ≤ 1000
  la : as.length ≤ 1000
  hc : ∀ c ∈ cs, earl z c = true ∧ ∃ p, valV z.S (ik c) = some (.int p)
  ha : ∀ a ∈ as, earl z a = true ∧ 0 ≤ a ∧ a < z.A.length
  hi : it = .non ∨ ∃ p, it = .int p ∧ bbs z.R z.t z.b (as.map fun a => z.A.getD a.toNat 0) ≤ p ∧ p ≤ bbs z.R z.t z.b (as.map fun a => z.A.getD a.toNat 0) + z.M - 1 ∧ p ≤ z.t
noncomputable def sAft (z : Pr) (it : V) : List (Key × V) := match it with | .int p => putK z.S (ik z.n) (.int p) | _ => z.S
noncomputable def after (z : Pr) (cs as : List Int) (it : V) : Pr := { z with b := bbs z.R z.t z.b (as.map fun a => z.A.getD a.toNat 0), t := if it = .int z.t then z.t + 1 else z.t, g := (filS z.R z.M (cs.map (plc z.S)) (z.g, z.F)).1, n := z.n + 1, S := sAft z it, A := z.A ++ [(filS z.R z.M (cs.map (plc z.S)) (z.g, z.F)).1 % z.R], F := (filS z.R z.M (cs.map (plc z.S)) (z.g, z.F)).2 }
noncomputable def Fine (z : Pr) (cs as : List Int) (it : V) : Prop := (∀ c ∈ cs, (earl z c && (valV z.S (ik c)).isSome) = true) ∧ (∀ a ∈ as, earl z a = true) ∧ (it = .non ∨ ∃ p, it = .int p ∧ bbs z.R z.t z.b (as.map fun a => z.A.getD a.toNat 0) ≤ p ∧ p ≤ bbs z.R z.t z.b (as.map fun a => z.A.getD a.toNat 0) + z.M - 1 ∧ p ≤ z.t)
structure PlayW (z : Pr) (cs as : List Int) (it : V) : Prop where
  fok : Fok z.R z.M z.g z.F
  lF : z.F.length < 90000
  lS : z.S.length < 1000
  lA : z.A.length < 1000
  lc : cs.length ≤ 1000
  la : as.length ≤ 1000
  hS : ∀ (c : Int) v, valV z.S (ik c) = some v → ∃ p, v = .int p
  hn : z.n = z.A.length
  sc : it = .non ∨ ∃ p, it = .int p
theorem earl_in {z : Pr} {a : Int} (h : earl z a = true) : 0 ≤ a ∧ a < z.n := by
  unfold earl at h
  rw [Bool.and_eq_true, decide_eq_true_eq, decide_eq_true_eq] at h
  obtain ⟨h1, h2⟩ := h
  split at h1 <;> omega
theorem PlayW.ok {z : Pr} {cs as : List Int} {it : V} (w : PlayW z cs as it) (f : Fine z cs as it) : PlayOk z cs as it := by
  obtain ⟨f1, f2, f3⟩ := f
  refine ⟨w.fok, w.lF, w.lS, w.lA, w.lc, w.la, fun c hc => ?_, fun a ha => ?_, f3⟩
  · have := f1 c hc
    rw [Bool.and_eq_true] at this
    obtain ⟨v, hv⟩ := Option.isSome_iff_exists.mp this.2
    obtain ⟨p, rfl⟩ := w.hS c v hv
    exact ⟨this.1, p, hv⟩
  · have h1 := f2 a ha
    have h2 := earl_in h1
    have := w.hn
    exact ⟨h1, h2.1, by omega⟩
noncomputable def sp_BadTurn___init__  (C_BadTurn : Addr) : Sp := fun vs H Q E => match vs with
  | [.ref e, .int l] => H e = some (.ext (exN e C_BadTurn none)) ∧ ∀ d, H d = none → Q .non (upd (upd H d (.xd [("turn", .int l)])) e (.ext (exN e C_BadTurn (some d))))
  | _ => False
noncomputable def sp_Pair_play  (C_Pair : Addr) (C_BadTurn : Addr) (K : PySem.W.Frag) : Sp := fun vs H Q E => match vs with
  | [.ref x, .ref cl, .ref al, it] => ∃ dx ps pa pf z, ∃ cs as : List Int, PairAt C_Pair H x dx ps pa pf z ∧ PlayW z cs as it ∧ cl ≠ pa ∧ H cl = some (.lst (cs.map V.int)) ∧ H al = some (.lst (as.map V.int)) ∧ (Fine z cs as it → ∀ p' H', H p' = none → Fr4 x ps pa pf H H' → PairAt C_Pair H' x dx ps pa pf (after z cs as it) → H' p' = some (.lst (filV z.R z.M (cs.map (plc z.S)) (z.g, z.F))) → Q (.ref p') H') ∧ (¬ Fine z cs as it → ∀ H' d, Same H H' → H' d = some (.xd [("turn", .int z.n)]) → E (.ref C_BadTurn) (some d) H')
  | _ => False
theorem dropx {H H1 : Hp} {e d C : Addr} {o : HO} {f : Str} {v : V} (S : Same H H1) (he : H1 e = none) (hd : upd H1 e o d = none) : Same H (dropH (upd (upd (upd H1 e o) d (.xd [(f, v)])) e (.ext (exN e C (some d)))) e) ∧ dropH (upd (upd (upd H1 e o) d (.xd [(f, v)])) e (.ext (exN e C (some d)))) e d = some (.xd [(f, v)]) := by
  have nd : d ≠ e := fun z => by rw [z, upd_same] at hd; cases hd
  refine ⟨fun b u hb => ?_, ?_⟩
  · have h1 := S b u hb
    have nb : b ≠ e := ne_of_none h1 he
    rw [dropH_ne nb, upd_ne nb, upd_ne (fun z => ?_), upd_ne nb]; exact h1
    rw [z] at h1
    rw [upd_ne nd] at hd
    rw [h1] at hd; cases hd
  · rw [dropH_ne nd, upd_ne nd, upd_same]
theorem filt_bl {xs : List Int} (f : Int → Bool) : (((xs.map V.int).filter fun _ => true).map fun v => match v with | .int c => V.bl (f c) | _ => .non) = (xs.map f).map V.bl := by
  rw [List.filter_eq_self.mpr (by simp), List.map_map, List.map_map]; rfl
noncomputable def sp__law_whole  : Sp := fun vs H Q E => match vs with
  | [.int _] => Q (.bl true) H
  | _ => False
noncomputable def sp__law_cell_at  (K : PySem.W.Frag) (a₀ : Addr) (ns : List Int) : Sp := fun vs H Q E => match vs with
  | [.ref a, .int k] => a = a₀ ∧ SqL K H a₀ (ns.map V.int) ∧ 0 ≤ k ∧ ∀ n, Q (.int n) H
  | _ => False
theorem free_of {H H' : Hp} (e : Same H H') {p : Addr} (h : H' p = none) : H p = none := by
  cases q : H p with
  | none => rfl
  | some o => rw [e _ _ q] at h; cases h
noncomputable def needF (r l : Int) : Int := if r = 1 then 2 + l / 2 else 2 * r + l - 1
structure Trn where
  cs : List Int
  as : List Int
  it : V
structure TAt (H : Hp) (p q c a : Addr) (t : Trn) : Prop where
  hq : H q = some (.tup [.ref c, .ref a, t.it])
  hc : H c = some (.lst (t.cs.map V.int))
  ha : H a = some (.lst (t.as.map V.int))
  nc : c ≠ p
  na : a ≠ p
theorem TAt.same {H H' : Hp} {p q c a : Addr} {t : Trn} (h : TAt H p q c a t) (e : Same H H') : TAt H' p q c a t := ⟨e _ _ h.hq, e _ _ h.hc, e _ _ h.ha, h.nc, h.na⟩
noncomputable def TsAt (H : Hp) (p : Addr) (N : Nat) (f : Nat → Trn) : Prop := ∃ vs : List V, H p = some (.lst vs) ∧ vs.length = N ∧ ∀ (i : Nat) (v : V), vs[i]? = some v → ∃ q c a, v = .ref q ∧ TAt H p q c a (f i)
theorem TsAt.same {H H' : Hp} {p : Addr} {N : Nat} {f : Nat → Trn} (h : TsAt H p N f) (e : Same H H') : TsAt H' p N f := by
  obtain ⟨vs, h1, h2, h3⟩ := h
  refine ⟨vs, e _ _ h1, h2, fun i v hv => ?_⟩
  obtain ⟨q, c, a, rfl, k⟩ := h3 i v hv
  exact ⟨q, c, a, rfl, k.same e⟩
theorem ts_push {H : Hp} {p q c a : Addr} {N : Nat} {f : Nat → Trn} {vs : List V} (h1 : H p = some (.lst vs)) (h2 : vs.length = N) (h3 : ∀ (i : Nat) (v : V), vs[i]? = some v → ∃ q c a, v = .ref q ∧ TAt H p q c a (f i)) (k : TAt H p q c a (f N)) : TsAt (upd H p (.lst (vs ++ [.ref q]))) p (N + 1) f := by
  have keep : ∀ {q c a : Addr} {t : Trn}, TAt H p q c a t → TAt (upd H p (.lst (vs ++ [V.ref q]))) p q c a t ∧ ∀ o, TAt (upd H p o) p q c a t := fun {q c a t} k =>
    have e : ∀ o, TAt (upd H p o) p q c a t := fun o => ⟨by rw [upd_ne (ne_of k.hq h1 (by simp))]; exact k.hq, by rw [upd_ne k.nc]; exact k.hc, by rw [upd_ne k.na]; exact k.ha, k.nc, k.na⟩
    ⟨e _, e⟩
  refine ⟨_, upd_same, by rw [List.length_append, h2]; rfl, fun i v hv => ?_⟩
  by_cases ci : i < N
  · rw [List.getElem?_append_left (by omega)] at hv
    obtain ⟨q', c', a', rfl, k'⟩ := h3 i v hv
    exact ⟨q', c', a', rfl, (keep k').2 _⟩
  · have hi := (List.getElem?_eq_some_iff.mp hv).1
    rw [List.length_append, h2] at hi
    obtain rfl : i = N := by simp at hi; omega
    rw [List.getElem?_append_right (by omega), h2, Nat.sub_self] at hv
    obtain rfl : V.ref q = v := by simpa using hv
    exact ⟨q, c, a, rfl, (keep k).2 _⟩
theorem ts_app {H0 H : Hp} {p q c a : Addr} {N : Nat} {f : Nat → Trn} {vs : List V} {oc oa oq : HO} (S : Same H0 H) (f0 : H0 p = none) (h1 : H p = some (.lst vs)) (h2 : vs.length = N) (h3 : ∀ (i : Nat) (v : V), vs[i]? = some v → ∃ q c a, v = .ref q ∧ TAt H p q c a (f i))
    (nc : H c = none) (na : upd H c oc a = none) (nq : upd (upd H c oc) a oa q = none) (ec : oc = .lst ((f N).cs.map V.int)) (ea : oa = .lst ((f N).as.map V.int)) (eq : oq = .tup [.ref c, .ref a, (f N).it]) :
    upd (upd (upd H c oc) a oa) q oq p = some (.lst vs) ∧ Same H0 (upd (upd (upd (upd H c oc) a oa) q oq) p (.lst (vs ++ [.ref q]))) ∧ TsAt (upd (upd (upd (upd H c oc) a oa) q oq) p (.lst (vs ++ [.ref q]))) p (N + 1) f := by
  have s1 : Same H (upd (upd (upd H c oc) a oa) q oq) := fun b o e => upd_old (upd_old (upd_old e nc) na) nq
  have e1 := s1 _ _ h1
  have n1 : c ≠ p := (ne_of_none h1 nc).symm
  have n2 : a ≠ p := (ne_of_none (upd_old (o := oc) h1 nc) na).symm
  refine ⟨e1, fun b o e => ?_, ts_push (q := q) (c := c) (a := a) e1 h2 (fun i v hv => ?_) ⟨?_, ?_, ?_, n1, n2⟩⟩
  · rw [upd_ne (ne_of_none e f0)]; exact s1 _ _ (S _ _ e)
  · obtain ⟨q', c', a', rfl, k⟩ := h3 i v hv
    exact ⟨q', c', a', rfl, k.same s1⟩
  · rw [upd_same, eq]
  · exact upd_old (upd_old (by rw [upd_same, ec]) na) nq
  · exact upd_old (by rw [upd_same, ea]) nq
theorem paired_ex {α β : Type} {R : α → β → Prop} : ∀ {xs : List α}, (∀ x ∈ xs, ∃ y, R x y) → ∃ ys, Paired R xs ys
  | [], _ => ⟨[], .nil⟩
  | x :: xs, h => by
    obtain ⟨y, hy⟩ := h x (List.mem_cons_self ..)
    obtain ⟨ys, hs⟩ := paired_ex fun x hx => h x (List.mem_cons_of_mem _ hx)
    exact ⟨y :: ys, .cons hy hs⟩
theorem dn_ints {K : PySem.W.Frag} {H : Hp} {n : Nat} : ∀ {ns : List Int}, Paired (Dn K H n) (ns.map V.int) (ns.map Dt.int)
  | [] => .nil
  | _ :: _ => .cons dn_int dn_ints
theorem TsAt.dn {K : PySem.W.Frag} {H : Hp} {p : Addr} {N : Nat} {f : Nat → Trn} (h : TsAt H p N f) (hs : ∀ i, (f i).it = .non ∨ ∃ q, (f i).it = .int q) : ∃ ds : List Dt, ds.length = N ∧ Dn K H 3 (.ref p) (.l ds) := by
  obtain ⟨vs, h1, h2, h3⟩ := h
  obtain ⟨ds, hd⟩ : ∃ ds, Paired (Dn K H 2) vs ds := paired_ex fun v hv => by
    obtain ⟨i, hi⟩ := List.getElem?_of_mem hv
    obtain ⟨q, c, a, rfl, k⟩ := h3 i v hi
    rcases hs i with e | ⟨w, e⟩
    · exact ⟨_, dn_tup k.hq (.cons (dn_lst k.hc dn_ints) (.cons (dn_lst k.ha dn_ints) (.cons (by rw [e]; exact Dn.up (n := 0) (.inl ⟨rfl, rfl⟩) (Nat.zero_le _)) .nil)))⟩
    · exact ⟨_, dn_tup k.hq (.cons (dn_lst k.hc dn_ints) (.cons (dn_lst k.ha dn_ints) (.cons (by rw [e]; exact dn_int) .nil)))⟩
  exact ⟨ds, by rw [← h2, Paired.length hd], dn_lst h1 hd⟩
noncomputable def comA (i kb : Int) : List Int := if i - 1 = kb then [] else [i - 1]
noncomputable def fOne (R : Int) (i : Nat) : Trn := if i = 0 then ⟨[], [], .int 0⟩ else if i = 1 then ⟨[0], [], .int 0⟩ else if i % 2 = 0 then ⟨[], [2 * ((i / 2 : Nat) : Int) - 1], .int ((i / 2 : Nat) : Int)⟩ else ⟨if ((i / 2 : Nat) : Int) < R - 1 then [2 * ((i / 2 : Nat) : Int)] else [2 * ((i / 2 : Nat) : Int), 1], [], .non⟩
noncomputable def fMany (goal again : Int) (i : Nat) : Trn := if i = 0 then ⟨[], [], .int 0⟩ else if (i : Int) < again then ⟨[(i : Int) - 1], [], .int i⟩ else if (i : Int) = again then ⟨[again - 1], [], .int 0⟩ else if (i : Int) ≤ goal then ⟨comA i again, [(i : Int) - 1], .int ((i : Int) - 1)⟩ else ⟨comA (goal + 1) again ++ [again], [], .non⟩
noncomputable def nOf (R M : Int) : Nat := if M = 1 then (2 * R).toNat else (R - M + 3).toNat
noncomputable def agn (R M : Int) : Int := if M < R - M + 1 then M else R - M + 1
noncomputable def fOf (R M : Int) : Nat → Trn := if M = 1 then fOne R else fMany (R - M + 1) (agn R M)
noncomputable def itm (t : Trn) : Option V := match t.it with | .int p => some (.int p) | _ => none
structure Plan (R M G : Int) (N : Nat) (f : Nat → Trn) (b t g : Nat → Int) : Prop where
  N0 : 1 < N
  N2 : N ≤ 200
  m0 : 0 < M
  mr : M < R
  s0 : b 0 = 0 ∧ t 0 = 0 ∧ g 0 = 0
  sc : ∀ i, (f i).it = .non ∨ ∃ p, (f i).it = .int p
  lc : ∀ i, (f i).cs.length ≤ 2 ∧ (f i).as.length ≤ 1
  sc1 : ∀ i, i + 1 < N → ((f i).cs = [] ∧ g (i + 1) = g i) ∨ (∃ c : Nat, (f i).cs = [(c : Int)] ∧ c < i ∧ (i : Int) - c ≤ G ∧ (f c).it = .int (g i) ∧ g (i + 1) = g i + 1)
  sa1 : ∀ i, i + 1 < N → ((f i).as = [] ∧ b (i + 1) = b i) ∨ (∃ a : Nat, (f i).as = [(a : Int)] ∧ a < i ∧ (i : Int) - a ≤ G ∧ b i ≤ g (a + 1) ∧ g (a + 1) ≤ t i ∧ g (a + 1) - b i < R ∧ b (i + 1) = g (a + 1))
  st1 : ∀ i, i + 1 < N → ((f i).it = .non ∧ t (i + 1) = t i) ∨ ∃ p, (f i).it = .int p ∧ b (i + 1) ≤ p ∧ p ≤ b (i + 1) + M - 1 ∧ p ≤ t i ∧ t (i + 1) = if p = t i then t i + 1 else t i
  la : (f (N - 1)).as = []
  li : (f (N - 1)).it = .non
  lcs : ∃ c0 : Nat, c0 < N - 1 ∧ ((N - 1 : Nat) : Int) - c0 ≤ G ∧ (f c0).it = .int 0 ∧ (((f (N - 1)).cs = [(c0 : Int)] ∧ g (N - 1) = R - M + 1) ∨ ∃ c1 : Nat, (f (N - 1)).cs = [(c1 : Int), (c0 : Int)] ∧ c1 < N - 1 ∧ ((N - 1 : Nat) : Int) - c1 ≤ G ∧ (f c1).it = .int (g (N - 1)) ∧ g (N - 1) + 1 = R - M + 1)
structure Lw (H0 H : Hp) (pF pS pT : Addr) (F : List (Key × V)) (sv : List V) (ts : List Int) : Prop where
  hF : H pF = some (.dK F)
  hS : H pS = some (.lst sv)
  hT : H pT = some (.lst (ts.map V.int))
  sm : Same H0 H
  nF : H0 pF = none
  nS : H0 pS = none
  nT : H0 pT = none
  ne : pS ≠ pT
theorem Lw.same {H0 H H' : Hp} {pF pS pT : Addr} {F : List (Key × V)} {sv : List V} {ts : List Int} (h : Lw H0 H pF pS pT F sv ts) (e : Same H H') : Lw H0 H' pF pS pT F sv ts := ⟨e _ _ h.hF, e _ _ h.hS, e _ _ h.hT, fun b o k => e _ _ (h.sm b o k), h.nF, h.nS, h.nT, h.ne⟩
theorem Lw.but {H0 H H' : Hp} {pF pS pT : Addr} {F F' : List (Key × V)} {sv : List V} {ts : List Int} (h : Lw H0 H pF pS pT F sv ts) (e : But pF H H') (k : H' pF = some (.dK F')) : Lw H0 H' pF pS pT F' sv ts :=
  ⟨k, e _ _ h.hS (ne_of h.hS h.hF (by simp)), e _ _ h.hT (ne_of h.hT h.hF (by simp)), fun b o k => e _ _ (h.sm b o k) (ne_of_none k h.nF), h.nF, h.nS, h.nT, h.ne⟩
theorem Lw.app {H0 H : Hp} {pF pS pT : Addr} {F : List (Key × V)} {sv : List V} {ts : List Int} {v : V} {i : Int} (h : Lw H0 H pF pS pT F sv ts) : upd H pS (.lst (sv ++ [v])) pT = some (.lst (ts.map V.int)) ∧ Lw H0 (upd (upd H pS (.lst (sv ++ [v]))) pT (.lst (ts.map V.int ++ [.int i]))) pF pS pT F (sv ++ [v]) (ts ++ [i]) := by
  refine ⟨by rw [upd_ne h.ne.symm]; exact h.hT, ?_, ?_, ?_, fun b o k => ?_, h.nF, h.nS, h.nT, h.ne⟩
  · rw [upd_ne (ne_of h.hF h.hT (by simp)), upd_ne (ne_of h.hF h.hS (by simp))]; exact h.hF
  · rw [upd_ne h.ne, upd_same]
  · rw [upd_same, List.map_append]; rfl
  · rw [upd_ne (ne_of_none k h.nT), upd_ne (ne_of_none k h.nS)]; exact h.sm b o k
noncomputable def svOf (f : Nat → Trn) (i : Nat) : List V := (List.range i).map fun j => (f j).it
theorem svOf_at {f : Nat → Trn} {i c : Nat} (h : c < i) : atI (svOf f i) (c : Int) = some (f c).it := by
  apply atI_n
  unfold svOf
  rw [List.getElem?_map, List.getElem?_range h]; rfl
theorem svOf_succ {f : Nat → Trn} {i : Nat} : svOf f (i + 1) = svOf f i ++ [(f i).it] := by
  unfold svOf
  rw [List.range_succ, List.map_append]; rfl
theorem atI_end {α : Type} {xs : List α} {x : α} (h : xs[xs.length - 1]? = some x) : atI xs (-1) = some x := by
  have hl := (List.getElem?_eq_some_iff.mp h).1
  unfold atI ixN
  rw [if_neg (by omega), if_pos (by omega)]
  show xs[((-1 : Int) + xs.length).toNat]? = _
  rw [show ((-1 : Int) + xs.length).toNat = xs.length - 1 by omega]
  exact h
theorem plan_one {R G : Int} (h0 : 1 < R) (h1 : R < 2 + G / 2) (h2 : G ≤ 60) : Plan R 1 G (2 * R).toNat (fOne R) (fun i => (((i - 1) / 2 : Nat) : Int)) (fun i => (((i + 1) / 2 : Nat) : Int)) (fun i => ((i / 2 : Nat) : Int)) := by
  refine ⟨by omega, by omega, by omega, h0, ⟨rfl, rfl, rfl⟩, fun i => ?_, fun i => ?_, fun i hi => ?_, fun i hi => ?_, fun i hi => ?_, ?_, ?_, ?_⟩
  · unfold fOne; split
    · exact .inr ⟨_, rfl⟩
    · split
      · exact .inr ⟨_, rfl⟩
      · split
        · exact .inr ⟨_, rfl⟩
        · exact .inl rfl
  · unfold fOne; split
    · simp
    · split
      · simp
      · split
        · simp
        · (try dsimp only)
          split <;> simp
  · by_cases c0 : i = 0
    · subst c0; exact .inl ⟨rfl, rfl⟩
    by_cases c1 : i = 1
    · subst c1
      exact .inr ⟨0, rfl, by omega, by omega, rfl, rfl⟩
    by_cases c2 : i % 2 = 0
    · refine .inl ⟨by unfold fOne; rw [if_neg c0, if_neg c1, if_pos c2], ?_⟩
      show (((i + 1) / 2 : Nat) : Int) = ((i / 2 : Nat) : Int)
      omega
    · refine .inr ⟨2 * (i / 2), ?_, by omega, by omega, ?_, ?_⟩
      · unfold fOne; rw [if_neg c0, if_neg c1, if_neg c2]
        (try dsimp only)
        rw [if_pos (by omega)]
        congr 1
      · unfold fOne
        rw [if_neg (by omega), if_neg (by omega), if_pos (by omega)]
        (try dsimp only)
        rw [show 2 * (i / 2) / 2 = i / 2 by omega]
      · show (((i + 1) / 2 : Nat) : Int) = ((i / 2 : Nat) : Int) + 1
        omega
  · by_cases c0 : i = 0
    · subst c0; exact .inl ⟨rfl, rfl⟩
    by_cases c1 : i = 1
    · subst c1; exact .inl ⟨rfl, rfl⟩
    by_cases c2 : i % 2 = 0
    · refine .inr ⟨i - 1, ?_, by omega, by omega, ?_, ?_, ?_, ?_⟩
      · unfold fOne; rw [if_neg c0, if_neg c1, if_pos c2]
        (try dsimp only)
        congr 1
        omega
      · show (((i - 1) / 2 : Nat) : Int) ≤ (((i - 1 + 1) / 2 : Nat) : Int)
        omega
      · show (((i - 1 + 1) / 2 : Nat) : Int) ≤ (((i + 1) / 2 : Nat) : Int)
        omega
      · show (((i - 1 + 1) / 2 : Nat) : Int) - (((i - 1) / 2 : Nat) : Int) < R
        omega
      · show (((i + 1 - 1) / 2 : Nat) : Int) = (((i - 1 + 1) / 2 : Nat) : Int)
        omega
    · refine .inl ⟨by unfold fOne; rw [if_neg c0, if_neg c1, if_neg c2], ?_⟩
      show (((i + 1 - 1) / 2 : Nat) : Int) = (((i - 1) / 2 : Nat) : Int)
      omega
  · by_cases c0 : i = 0
    · subst c0; exact .inr ⟨0, rfl, Int.le_refl _, by decide, by decide, rfl⟩
    by_cases c1 : i = 1
    · subst c1; exact .inr ⟨0, rfl, by decide, by decide, by decide, rfl⟩
    by_cases c2 : i % 2 = 0
    · refine .inr ⟨((i / 2 : Nat) : Int), by unfold fOne; rw [if_neg c0, if_neg c1, if_pos c2], ?_, ?_, ?_, ?_⟩
      · show (((i + 1 - 1) / 2 : Nat) : Int) ≤ _
        omega
      · show _ ≤ (((i + 1 - 1) / 2 : Nat) : Int) + 1 - 1
        omega
      · show _ ≤ (((i + 1) / 2 : Nat) : Int)
        omega
      · show (((i + 1 + 1) / 2 : Nat) : Int) = _
        rw [if_pos (by show ((i / 2 : Nat) : Int) = (((i + 1) / 2 : Nat) : Int); omega)]
        show (((i + 1 + 1) / 2 : Nat) : Int) = (((i + 1) / 2 : Nat) : Int) + 1
        omega
    · refine .inl ⟨by unfold fOne; rw [if_neg c0, if_neg c1, if_neg c2], ?_⟩
      show (((i + 1 + 1) / 2 : Nat) : Int) = (((i + 1) / 2 : Nat) : Int)
      omega
  · unfold fOne; rw [if_neg (by omega), if_neg (by omega), if_neg (by omega)]
  · unfold fOne; rw [if_neg (by omega), if_neg (by omega), if_neg (by omega)]
  · refine ⟨1, by omega, by omega, rfl, .inr ⟨(2 * R).toNat - 2, ?_, by omega, by omega, ?_, ?_⟩⟩
    · unfold fOne; rw [if_neg (by omega), if_neg (by omega), if_neg (by omega)]
      (try dsimp only)
      rw [if_neg (by omega), show 2 * ((((2 * R).toNat - 1) / 2 : Nat) : Int) = (((2 * R).toNat - 2 : Nat) : Int) by omega]
      rfl
    · unfold fOne
      by_cases e : (2 * R).toNat - 2 = 0
      · omega
      rw [if_neg e, if_neg (by omega), if_pos (by omega)]
      (try dsimp only)
      congr 1
      omega
    · show ((((2 * R).toNat - 1) / 2 : Nat) : Int) + 1 = _
      omega
theorem plan_many {R M G : Int} (h0 : 2 ≤ M) (h3 : M ≤ 60) (hr : M < R) (h1 : R < 2 * M + G - 1) (h2 : G ≤ 60) (hg : 1 ≤ G) :
    Plan R M G (R - M + 3).toNat (fMany (R - M + 1) (agn R M)) (fun i => if (i : Int) ≤ agn R M + 1 then 0 else if agn R M < (i : Int) - 3 then (i : Int) - 3 else agn R M) (fun i => if (i : Int) ≤ agn R M then i else (i : Int) - 1) (fun i => if i = 0 then 0 else if (i : Int) ≤ agn R M + 1 then (i : Int) - 1 else (i : Int) - 2) := by
  have a1 : 2 ≤ agn R M ∧ agn R M ≤ M ∧ agn R M ≤ R - M + 1 ∧ (agn R M = M ∨ agn R M = R - M + 1) := by unfold agn; split <;> omega
  generalize agn R M = A at *
  obtain ⟨a1, a2, a3, a4⟩ := a1
  generalize hgo : R - M + 1 = goal at *
  have hN : (R - M + 3).toNat = goal.toNat + 2 := by omega
  rw [hN]
  refine ⟨by omega, by omega, by omega, hr, ⟨?_, ?_, rfl⟩, fun i => ?_, fun i => ?_, fun i hi => ?_, fun i hi => ?_, fun i hi => ?_, ?_, ?_, ?_⟩
  · exact if_pos (by omega)
  · exact if_pos (by omega)
  · unfold fMany; split
    · exact .inr ⟨_, rfl⟩
    · split
      · exact .inr ⟨_, rfl⟩
      · split
        · exact .inr ⟨_, rfl⟩
        · split
          · exact .inr ⟨_, rfl⟩
          · exact .inl rfl
  · unfold fMany comA; split
    · simp
    · split
      · simp
      · split
        · simp
        · split
          · (try dsimp only); split <;> simp
          · (try dsimp only); split <;> simp
  · by_cases c0 : i = 0
    · subst c0
      refine .inl ⟨rfl, ?_⟩
      show (if (0 + 1 : Nat) = 0 then (0 : Int) else if ((0 + 1 : Nat) : Int) ≤ A + 1 then ((0 + 1 : Nat) : Int) - 1 else ((0 + 1 : Nat) : Int) - 2) = if (0 : Nat) = 0 then 0 else _
      rw [if_neg (by omega), if_pos (by omega), if_pos rfl]; rfl
    by_cases c1 : (i : Int) < A
    · refine .inr ⟨i - 1, ?_, by omega, by omega, ?_, ?_⟩
      · unfold fMany; rw [if_neg c0, if_pos c1]; (try dsimp only); congr 1; omega
      · unfold fMany
        by_cases e : i - 1 = 0
        · rw [if_pos e]
          show V.int 0 = V.int (if i = 0 then 0 else if (i : Int) ≤ A + 1 then (i : Int) - 1 else (i : Int) - 2)
          rw [if_neg c0, if_pos (by omega)]; congr 1; omega
        · rw [if_neg e, if_pos (by omega)]
          show V.int ((i - 1 : Nat) : Int) = V.int (if i = 0 then 0 else if (i : Int) ≤ A + 1 then (i : Int) - 1 else (i : Int) - 2)
          rw [if_neg c0, if_pos (by omega)]; congr 1; omega
      · (try dsimp only)
        rw [if_neg (by omega), if_pos (by omega), if_neg c0, if_pos (by omega)]; omega
    by_cases c2 : (i : Int) = A
    · refine .inr ⟨i - 1, ?_, by omega, by omega, ?_, ?_⟩
      · unfold fMany; rw [if_neg c0, if_neg c1, if_pos c2]; (try dsimp only); congr 1; omega
      · unfold fMany
        rw [if_neg (by omega), if_pos (by omega)]
        show V.int ((i - 1 : Nat) : Int) = V.int (if i = 0 then 0 else if (i : Int) ≤ A + 1 then (i : Int) - 1 else (i : Int) - 2)
        rw [if_neg c0, if_pos (by omega)]; congr 1; omega
      · (try dsimp only)
        rw [if_neg (by omega), if_pos (by omega), if_neg c0, if_pos (by omega)]; omega
    have ef : fMany goal A i = ⟨comA i A, [(i : Int) - 1], .int ((i : Int) - 1)⟩ := by unfold fMany; rw [if_neg c0, if_neg c1, if_neg c2, if_pos (by omega)]
    by_cases c3 : (i : Int) - 1 = A
    · refine .inl ⟨by rw [ef]; exact if_pos c3, ?_⟩
      (try dsimp only)
      rw [if_neg (by omega), if_neg (by omega), if_neg c0, if_pos (by omega)]; omega
    · refine .inr ⟨i - 1, ?_, by omega, by omega, ?_, ?_⟩
      · rw [ef]; show comA i A = _; unfold comA; rw [if_neg c3]; congr 1; omega
      · unfold fMany
        rw [if_neg (by omega), if_neg (by omega), if_neg (by omega), if_pos (by omega)]
        (try dsimp only)
        rw [if_neg c0, if_neg (by omega)]; congr 1; omega
      · (try dsimp only)
        rw [if_neg (by omega), if_neg (by omega), if_neg c0, if_neg (by omega)]; omega
  · by_cases c0 : i = 0
    · subst c0
      exact .inl ⟨rfl, by (try dsimp only); rw [if_pos (by omega), if_pos (by omega)]⟩
    by_cases c1 : (i : Int) < A
    · exact .inl ⟨by unfold fMany; rw [if_neg c0, if_pos c1], by (try dsimp only); rw [if_pos (by omega), if_pos (by omega)]⟩
    by_cases c2 : (i : Int) = A
    · exact .inl ⟨by unfold fMany; rw [if_neg c0, if_neg c1, if_pos c2], by (try dsimp only); rw [if_pos (by omega), if_pos (by omega)]⟩
    have ef : fMany goal A i = ⟨comA i A, [(i : Int) - 1], .int ((i : Int) - 1)⟩ := by unfold fMany; rw [if_neg c0, if_neg c1, if_neg c2, if_pos (by omega)]
    refine .inr ⟨i - 1, by rw [ef]; (try dsimp only); congr 1; omega, by omega, by omega, ?_, ?_, ?_, ?_⟩
    all_goals ((try dsimp only); repeat' split)
    all_goals omega
  · by_cases c0 : i = 0
    · subst c0
      refine .inr ⟨0, rfl, ?_, ?_, ?_, ?_⟩
      all_goals ((try dsimp only); repeat' split)
      all_goals omega
    by_cases c1 : (i : Int) < A
    · refine .inr ⟨i, by unfold fMany; rw [if_neg c0, if_pos c1], ?_, ?_, ?_, ?_⟩
      all_goals ((try dsimp only); repeat' split)
      all_goals omega
    by_cases c2 : (i : Int) = A
    · refine .inr ⟨0, by unfold fMany; rw [if_neg c0, if_neg c1, if_pos c2], ?_, ?_, ?_, ?_⟩
      all_goals ((try dsimp only); repeat' split)
      all_goals omega
    have ef : fMany goal A i = ⟨comA i A, [(i : Int) - 1], .int ((i : Int) - 1)⟩ := by unfold fMany; rw [if_neg c0, if_neg c1, if_neg c2, if_pos (by omega)]
    refine .inr ⟨(i : Int) - 1, by rw [ef], ?_, ?_, ?_, ?_⟩
    all_goals ((try dsimp only); repeat' split)
    all_goals omega
  · unfold fMany; rw [if_neg (by omega), if_neg (by omega), if_neg (by omega), if_neg (by omega)]
  · unfold fMany; rw [if_neg (by omega), if_neg (by omega), if_neg (by omega), if_neg (by omega)]
  · have ef : fMany goal A (goal.toNat + 2 - 1) = ⟨comA (goal + 1) A ++ [A], [], .non⟩ := by unfold fMany; rw [if_neg (by omega), if_neg (by omega), if_neg (by omega), if_neg (by omega)]
    refine ⟨A.toNat, by omega, by omega, by unfold fMany; rw [if_neg (by omega), if_neg (by omega), if_pos (by omega)], ?_⟩
    rw [ef]
    unfold comA
    by_cases c : goal + 1 - 1 = A
    · refine .inl ⟨?_, ?_⟩
      · rw [if_pos c]; (try dsimp only); rw [List.nil_append]; congr 1; omega
      · (try dsimp only); rw [if_neg (by omega), if_pos (by omega)]; omega
    · refine .inr ⟨goal.toNat, ?_, by omega, by omega, ?_, ?_⟩
      · rw [if_neg c]; (try dsimp only)
        show [goal + 1 - 1, A] = _
        rw [show goal + 1 - 1 = (goal.toNat : Int) by omega, show A = (A.toNat : Int) by omega]; rfl
      · unfold fMany; rw [if_neg (by omega), if_neg (by omega), if_neg (by omega), if_pos (by omega)]; (try dsimp only)
        rw [if_neg (by omega), if_neg (by omega)]; congr 1; omega
      · (try dsimp only); rw [if_neg (by omega), if_neg (by omega)]; omega
theorem plan_of {R M G : Int} (h : okP R M G) (hn : R < needF M G) : ∃ b t g, Plan R M G (nOf R M) (fOf R M) b t g := by
  obtain ⟨h1, h2, h3, h4, h5, h6⟩ := h
  unfold needF at hn
  unfold nOf fOf
  by_cases c : M = 1
  · subst c
    rw [if_pos rfl] at hn
    rw [if_pos rfl, if_pos rfl]
    exact ⟨_, _, _, plan_one h3 hn h6⟩
  · rw [if_neg c] at hn
    rw [if_neg c, if_neg c]
    exact ⟨_, _, _, plan_many (by omega) h2 h3 hn h6 h5⟩
structure Jf (R M G : Int) (f : Nat → Trn) (b t g : Nat → Int) (i : Nat) (z : Pr) : Prop where
  zR : z.R = R
  zM : z.M = M
  zG : z.G = G
  zn : z.n = i
  zb : z.b = b i
  zt : z.t = t i
  zg : z.g = g i
  fok : Fok R M (g i) z.F
  F : ∀ j : Int, (valV z.F (ik j)).isSome = decide (0 ≤ j ∧ j < g i)
  lF : z.F.length ≤ 2 * i
  S : ∀ j : Nat, j < i → valV z.S (ik (j : Int)) = itm (f j)
  S2 : ∀ (c : Int) v, valV z.S (ik c) = some v → ∃ p, v = .int p
  S3 : ∀ j : Nat, i ≤ j → valV z.S (ik (j : Int)) = none
  lS : z.S.length ≤ i
  A : z.A = (List.range i).map fun j => g (j + 1) % R
theorem jf0 {R M G : Int} {N : Nat} {f : Nat → Trn} {b t g : Nat → Int} (p : Plan R M G N f b t g) : Jf R M G f b t g 0 ⟨R, M, G, 0, 0, 0, 0, [], [], []⟩ := by
  obtain ⟨h1, h2, h3⟩ := p.s0
  refine ⟨rfl, rfl, rfl, rfl, h1.symm, h2.symm, h3.symm, ⟨p.m0, p.mr, by omega, fun i h => by rw [valV_nil] at h; cases h⟩, fun j => ?_, Nat.le_refl _, fun j h => absurd h (Nat.not_lt_zero _), (fun c v h => by rw [valV_nil] at h; cases h), fun j _ => valV_nil, Nat.le_refl _, rfl⟩
  rw [valV_nil, h3, decide_eq_false (by omega)]; rfl
theorem Jf.fokz {R M G : Int} {f : Nat → Trn} {b t g : Nat → Int} {i : Nat} {z : Pr} (h : Jf R M G f b t g i z) : Fok z.R z.M z.g z.F := by rw [h.zR, h.zM, h.zg]; exact h.fok
theorem some_put {F : List (Key × V)} {p i : Int} {v : V} : (valV (putK F (ik p) v) (ik i)).isSome = (decide (i = p) || (valV F (ik i)).isSome) := by
  rw [valV_put]
  by_cases c : i = p
  · subst c; rw [if_pos rfl]; simp
  · rw [if_neg (by intro h; exact c (by injection h))]; simp [c]
theorem fil_next {R M g : Int} {F : List (Key × V)} (fk : Fok R M g F) (hF : ∀ j : Int, (valV F (ik j)).isSome = decide (0 ≤ j ∧ j < g)) : fil1 R M (g, F) g = (.int g, g + 1, putK F (ik g) (.bl true)) ∧ ∀ j : Int, (valV (putK F (ik g) (.bl true)) (ik j)).isSome = decide (0 ≤ j ∧ j < g + 1) := by
  have m0 := fk.m0
  have g0 := fk.g0
  have e0 : stp R g g = 0 := by unfold stp; rw [Int.emod_sub_emod, Int.sub_self, Int.zero_emod]
  have pF : ∀ j : Int, (valV (putK F (ik g) (.bl true)) (ik j)).isSome = decide (0 ≤ j ∧ j < g + 1) := fun j => by
    rw [some_put, hF j, Bool.eq_iff_iff, Bool.or_eq_true, decide_eq_true_eq, decide_eq_true_eq, decide_eq_true_eq]
    omega
  refine ⟨?_, pF⟩
  unfold fil1
  dsimp only
  rw [e0, if_neg (by omega), Int.add_zero]
  have tp : Top (putK F (ik g) (.bl true)) g (g + 1) := ⟨by omega, fun i h1 h2 => by rw [pF, decide_eq_true (by omega)], by rw [pF, decide_eq_false (by omega)]⟩
  rw [clm_of tp]
theorem fil_last {R M g : Int} {F : List (Key × V)} (m0 : 0 < M) (mr : M < R) (hg : g = R - M + 1) : (fil1 R M (g, F) 0).1 = .int R := by
  have e0 : stp R g 0 = M - 1 := by
    unfold stp
    rw [Int.zero_emod, hg, show 0 - (R - M + 1) = (M - 1) - R by omega, Int.sub_emod_right]
    exact Int.emod_eq_of_lt (by omega) (by omega)
  unfold fil1
  dsimp only
  rw [e0, if_neg (by omega)]
  show V.int (g + (M - 1)) = _
  congr 1; omega
theorem Jf.plc {R M G : Int} {f : Nat → Trn} {b t g : Nat → Int} {i : Nat} {z : Pr} (h : Jf R M G f b t g i z) {c : Nat} {p : Int} (hc : c < i) (hp : (f c).it = .int p) : K36.plc z.S (c : Int) = p ∧ valV z.S (ik (c : Int)) = some (.int p) := by
  have := h.S c hc
  unfold itm at this
  rw [hp] at this
  exact ⟨plc_of this, this⟩
theorem Jf.earl {R M G : Int} {f : Nat → Trn} {b t g : Nat → Int} {i : Nat} {z : Pr} (h : Jf R M G f b t g i z) {c : Nat} (hc : c < i) (hg : (i : Int) - c ≤ G) : K36.earl z (c : Int) = true := by
  unfold K36.earl
  rw [h.zn, h.zG, decide_eq_true (by split <;> omega), decide_eq_true (by omega)]; rfl
theorem Jf.told {R M G : Int} {f : Nat → Trn} {b t g : Nat → Int} {i : Nat} {z : Pr} (h : Jf R M G f b t g i z) {a : Nat} (ha : a < i) : z.A.getD (a : Int).toNat 0 = g (a + 1) % R := by
  rw [h.A, Int.toNat_natCast, List.getD_eq_getElem?_getD, List.getElem?_map, List.getElem?_range ha]; rfl
theorem Jf.lA {R M G : Int} {f : Nat → Trn} {b t g : Nat → Int} {i : Nat} {z : Pr} (h : Jf R M G f b t g i z) : z.A.length = i := by rw [h.A, List.length_map, List.length_range]
theorem Jf.w {R M G : Int} {N : Nat} {f : Nat → Trn} {b t g : Nat → Int} {i : Nat} {z : Pr} (p : Plan R M G N f b t g) (h : Jf R M G f b t g i z) (hi : i < N) : PlayW z (f i).cs (f i).as (f i).it := by
  have := p.N2
  have := h.lF
  have := h.lS
  have := h.lA
  have := p.lc i
  exact ⟨h.fokz, by omega, by omega, by omega, by omega, by omega, h.S2, by rw [h.zn, h.lA], p.sc i⟩
theorem Jf.base {R M G : Int} {N : Nat} {f : Nat → Trn} {b t g : Nat → Int} {i : Nat} {z : Pr} (p : Plan R M G N f b t g) (h : Jf R M G f b t g i z) (hi : i + 1 < N) : bbs z.R z.t z.b ((f i).as.map fun a => z.A.getD a.toNat 0) = b (i + 1) := by
  rcases p.sa1 i hi with ⟨e1, e2⟩ | ⟨a, e1, a1, a2, a3, a4, a5, e2⟩
  · rw [e1, e2, ← h.zb]; rfl
  · rw [e1, List.map_singleton, h.told a1, h.zR, h.zt, h.zb]
    show bb1 R (t i) (b i) (g (a + 1) % R) = _
    unfold bb1
    rw [Int.emod_sub_emod, Int.emod_eq_of_lt (by omega) a5, if_pos (by omega)]
    omega
theorem Jf.fine {R M G : Int} {N : Nat} {f : Nat → Trn} {b t g : Nat → Int} {i : Nat} {z : Pr} (p : Plan R M G N f b t g) (h : Jf R M G f b t g i z) (hi : i < N) : Fine z (f i).cs (f i).as (f i).it := by
  have key : ∀ {c : Nat} {q : Int}, c < i → (i : Int) - c ≤ G → (f c).it = .int q → (K36.earl z (c : Int) && (valV z.S (ik (c : Int))).isSome) = true := fun {c q} c1 c2 c3 => by
    rw [h.earl c1 c2, (h.plc c1 c3).2]; rfl
  by_cases e : i + 1 < N
  · refine ⟨fun c hc => ?_, fun a ha => ?_, ?_⟩
    · rcases p.sc1 i e with ⟨e1, _⟩ | ⟨c0, e1, c1, c2, c3, _⟩
      · rw [e1] at hc; cases hc
      · rw [e1] at hc
        rw [List.mem_singleton.mp hc]
        exact key c1 c2 c3
    · rcases p.sa1 i e with ⟨e1, _⟩ | ⟨c0, e1, c1, c2, _⟩
      · rw [e1] at ha; cases ha
      · rw [e1] at ha
        rw [List.mem_singleton.mp ha]
        exact h.earl c1 c2
    · rw [h.base p e, h.zM, h.zt]
      rcases p.st1 i e with ⟨e1, _⟩ | ⟨q, e1, e2, e3, e4, _⟩
      · exact .inl e1
      · exact .inr ⟨q, e1, e2, e3, e4⟩
  · obtain rfl : i = N - 1 := by omega
    obtain ⟨c0, c1, c2, c3, hh⟩ := p.lcs
    refine ⟨fun c hc => ?_, fun a ha => ?_, .inl p.li⟩
    · rcases hh with ⟨e1, _⟩ | ⟨d0, e1, d1, d2, d3, _⟩
      · rw [e1] at hc
        rw [List.mem_singleton.mp hc]
        exact key c1 c2 c3
      · rw [e1] at hc
        rcases List.mem_cons.mp hc with rfl | hc
        · exact key d1 d2 d3
        · rw [List.mem_singleton.mp hc]
          exact key c1 c2 c3
    · rw [p.la] at ha; cases ha
theorem Jf.at {R M G : Int} {N : Nat} {f : Nat → Trn} {b t g : Nat → Int} {i : Nat} {z : Pr} (p : Plan R M G N f b t g) (h : Jf R M G f b t g i z) (hi : i < N) {c : Int} (hc : c ∈ (f i).cs) : ∃ n : Nat, c = n ∧ n < i ∧ (i : Int) - n ≤ G ∧ ∃ q, (f n).it = .int q ∧ K36.plc z.S c = q := by
  have k := (h.fine p hi).1 c hc
  rw [Bool.and_eq_true] at k
  have k1 := earl_in k.1
  have k2 := k.1
  unfold K36.earl at k2
  rw [Bool.and_eq_true, decide_eq_true_eq, decide_eq_true_eq, h.zn, h.zG] at k2
  rw [h.zn] at k1
  obtain ⟨n, rfl⟩ : ∃ n : Nat, c = n := ⟨c.toNat, by omega⟩
  refine ⟨n, rfl, by omega, by have := k2.1; split at this <;> omega, ?_⟩
  have e := h.S n (by omega)
  rcases p.sc n with e1 | ⟨q, e1⟩
  · unfold itm at e; rw [e1] at e; rw [e] at k; cases k.2
  · exact ⟨q, e1, (h.plc (by omega) e1).1⟩
theorem Jf.at2 {R M G : Int} {N : Nat} {f : Nat → Trn} {b t g : Nat → Int} {i : Nat} {z : Pr} (p : Plan R M G N f b t g) (h : Jf R M G f b t g i z) (hi : i < N) {c : Int} (hc : c ∈ (f i).as) : ∃ n : Nat, c = n ∧ n < i ∧ (i : Int) - n ≤ G := by
  have k := (h.fine p hi).2.1 c hc
  have k1 := earl_in k
  unfold K36.earl at k
  rw [Bool.and_eq_true, decide_eq_true_eq, decide_eq_true_eq, h.zn, h.zG] at k
  rw [h.zn] at k1
  obtain ⟨n, rfl⟩ : ∃ n : Nat, c = n := ⟨c.toNat, by omega⟩
  exact ⟨n, rfl, by omega, by have := k.1; split at this <;> omega⟩
theorem Jf.next {R M G : Int} {N : Nat} {f : Nat → Trn} {b t g : Nat → Int} {i : Nat} {z : Pr} (p : Plan R M G N f b t g) (h : Jf R M G f b t g i z) (hi : i + 1 < N) : Jf R M G f b t g (i + 1) (after z (f i).cs (f i).as (f i).it) := by
  have hb := h.base p hi
  obtain ⟨F', hf, hF', fk', lF'⟩ : ∃ F', filS z.R z.M ((f i).cs.map (K36.plc z.S)) (z.g, z.F) = (g (i + 1), F') ∧ (∀ j : Int, (valV F' (ik j)).isSome = decide (0 ≤ j ∧ j < g (i + 1))) ∧ Fok R M (g (i + 1)) F' ∧ F'.length ≤ 2 * (i + 1) := by
    have lF := h.lF
    rw [h.zR, h.zM, h.zg]
    rcases p.sc1 i hi with ⟨e1, e2⟩ | ⟨c, e1, c1, c2, c3, e2⟩
    · rw [e1, e2]
      exact ⟨z.F, rfl, h.F, h.fok, by omega⟩
    · obtain ⟨k1, k2⟩ := fil_next h.fok h.F
      have k3 := fil1_ok (p := g i) (s := (g i, z.F)) h.fok
      rw [k1] at k3
      refine ⟨putK z.F (ik (g i)) (.bl true), ?_, by rw [e2]; exact k2, by rw [e2]; exact k3.1, by have := k3.2.1; dsimp only at this; omega⟩
      rw [e1, List.map_singleton, (h.plc c1 c3).1, e2]
      show (fil1 R M (g i, z.F) (g i)).2 = _
      rw [k1]
  have et : (if (f i).it = .int z.t then z.t + 1 else z.t) = t (i + 1) := by
    rw [h.zt]
    rcases p.st1 i hi with ⟨e1, e2⟩ | ⟨q, e1, _, _, _, e2⟩
    · rw [e1, e2, if_neg (by simp)]
    · rw [e1, e2]; simp
  have lS := h.lS
  refine ⟨h.zR, h.zM, h.zG, ?_, hb, et, ?_, (by show Fok R M _ (filS z.R z.M ((f i).cs.map (K36.plc z.S)) (z.g, z.F)).2; rw [hf]; exact fk'), ?_, ?_, fun j hj => ?_, fun c v hv => ?_, fun j hj => ?_, ?_, ?_⟩
  · show z.n + 1 = _; rw [h.zn]; rfl
  · show (filS z.R z.M ((f i).cs.map (K36.plc z.S)) (z.g, z.F)).1 = _; rw [hf]
  · show ∀ j : Int, (valV (filS z.R z.M ((f i).cs.map (K36.plc z.S)) (z.g, z.F)).2 (ik j)).isSome = _; rw [hf]; exact hF'
  · show (filS z.R z.M ((f i).cs.map (K36.plc z.S)) (z.g, z.F)).2.length ≤ _; rw [hf]; exact lF'
  · show valV (sAft z (f i).it) _ = _
    by_cases e : j = i
    · subst e
      rcases p.sc j with e1 | ⟨q, e1⟩
      · have := h.S3 j (Nat.le_refl _)
        unfold itm; rw [e1]; exact this
      · unfold itm; rw [e1]; show valV (putK z.S (ik z.n) (.int q)) _ = _
        rw [h.zn, valV_put, if_pos rfl]
    · have e0 := h.S j (by omega)
      rw [← e0]
      unfold sAft
      split
      · rw [h.zn, valV_put, if_neg (fun hh => e (by injection hh; omega))]
      · rfl
  · change valV (sAft z (f i).it) _ = _ at hv
    unfold sAft at hv
    split at hv
    · rename_i q _
      rw [valV_put] at hv
      split at hv
      · exact ⟨q, by injection hv with hv; exact hv.symm⟩
      · exact h.S2 c v hv
    · exact h.S2 c v hv
  · show valV (sAft z (f i).it) _ = _
    have e0 := h.S3 j (by omega)
    unfold sAft
    split
    · rw [h.zn, valV_put, if_neg (fun hh => by injection hh; omega)]; exact e0
    · exact e0
  · show (sAft z (f i).it).length ≤ _
    unfold sAft
    split
    · have := length_putK z.S (ik z.n) (.int ‹Int›); omega
    · omega
  · show z.A ++ [(filS z.R z.M ((f i).cs.map (K36.plc z.S)) (z.g, z.F)).1 % z.R] = _
    rw [hf, h.A, h.zR, List.range_succ, List.map_append]; rfl
noncomputable def wrB (vs : List V) (ps : List Int) : Bool := (vs.zip ps).any fun vp => match vp.1 with | .int q => decide (q ≠ vp.2) | _ => false
theorem wrB_snoc {vs : List V} {ps : List Int} {v : V} {p : Int} (h : vs.length = ps.length) : wrB (vs ++ [v]) (ps ++ [p]) = (wrB vs ps || match v with | .int q => decide (q ≠ p) | _ => false) := by
  unfold wrB
  rw [List.zip_append h, List.any_append]
  simp
theorem Jf.wrong {R M G : Int} {N : Nat} {f : Nat → Trn} {b t g : Nat → Int} {z : Pr} (p : Plan R M G N f b t g) (h : Jf R M G f b t g (N - 1) z) : ∃ k : Nat, k + 1 = (f (N - 1)).cs.length ∧ ∃ c : Nat, (f (N - 1)).cs[k]? = some (c : Int) ∧ c < N - 1 ∧ (f c).it = .int 0 ∧ (filV z.R z.M ((f (N - 1)).cs.map (K36.plc z.S)) (z.g, z.F))[k]? = some (.int R) ∧ ∀ j : Nat, j < k → ∃ c1 : Nat, (f (N - 1)).cs[j]? = some (c1 : Int) ∧ c1 < N - 1 ∧ (f c1).it = .int (g (N - 1)) ∧ (filV z.R z.M ((f (N - 1)).cs.map (K36.plc z.S)) (z.g, z.F))[j]? = some (.int (g (N - 1))) := by
  obtain ⟨c0, c1, c2, c3, hh⟩ := p.lcs
  rw [h.zR, h.zM, h.zg]
  rcases hh with ⟨e1, e2⟩ | ⟨d0, e1, d1, d2, d3, e2⟩
  · refine ⟨0, by rw [e1]; rfl, c0, by rw [e1]; rfl, c1, c3, ?_, fun j hj => absurd hj (Nat.not_lt_zero _)⟩
    rw [e1, List.map_singleton, (h.plc c1 c3).1]
    show some (fil1 R M (g (N - 1), z.F) 0).1 = _
    rw [fil_last p.m0 p.mr e2]
  · obtain ⟨k1, k2⟩ := fil_next h.fok h.F
    refine ⟨1, by rw [e1]; rfl, c0, by rw [e1]; rfl, c1, c3, ?_, fun j hj => ?_⟩
    · rw [e1, List.map_cons, List.map_singleton, (h.plc c1 c3).1, (h.plc d1 d3).1]
      show some (fil1 R M (fil1 R M (g (N - 1), z.F) (g (N - 1))).2 0).1 = _
      rw [k1]
      show some (fil1 R M (g (N - 1) + 1, _) 0).1 = _
      rw [fil_last p.m0 p.mr e2]
    · obtain rfl : j = 0 := by omega
      refine ⟨d0, by rw [e1]; rfl, d1, d3, ?_⟩
      rw [e1, List.map_cons, List.map_singleton, (h.plc d1 d3).1]
      show some (fil1 R M (g (N - 1), z.F) (g (N - 1))).1 = _
      rw [k1]
theorem Jf.wrB {R M G : Int} {N : Nat} {f : Nat → Trn} {b t g : Nat → Int} {z : Pr} (p : Plan R M G N f b t g) (h : Jf R M G f b t g (N - 1) z) : K36.wrB (filV z.R z.M ((f (N - 1)).cs.map (K36.plc z.S)) (z.g, z.F)) ((f (N - 1)).cs.map (K36.plc z.S)) = true := by
  obtain ⟨k, k1, c, k2, k3, k4, k5, _⟩ := h.wrong p
  unfold K36.wrB
  rw [List.any_eq_true]
  refine ⟨(.int R, 0), ?_, ?_⟩
  · refine List.mem_of_getElem? (i := k) ?_
    rw [List.getElem?_zip_eq_some]
    exact ⟨k5, by rw [List.getElem?_map, k2]; show some (K36.plc z.S c) = _; rw [(h.plc k3 k4).1]⟩
  · have := p.m0
    have := p.mr
    show decide (R ≠ 0) = true
    rw [decide_eq_true_eq]; omega
noncomputable def sp_need  : Sp := fun vs H Q E => match vs with
  | [.int r, .int l] => Q (.int (needF r l)) H
  | _ => False
noncomputable def sp__law_need  : Sp := fun vs H Q E => match vs with
  | [.int r, .int l] => Q (.int (needF r l)) H
  | _ => False
noncomputable def sp_coming_ahead_of  : Sp := fun vs H Q E => match vs with
  | [.int i, .int kb] => ∀ p, H p = none → Q (.ref p) (upd H p (.lst ((comA i kb).map V.int)))
  | _ => False
noncomputable def sp_fooling_one  : Sp := fun vs H Q E => match vs with
  | [.int r] => 1 < r ∧ r ≤ 100 ∧ ∀ p H', Same H H' → TsAt H' p (2 * r).toNat (fOne r) → Q (.ref p) H'
  | _ => False
noncomputable def sp_fooling_many  : Sp := fun vs H Q E => match vs with
  | [.int r, .int m] => 2 ≤ m ∧ m ≤ 60 ∧ m < r ∧ r ≤ 1000 ∧ ∀ p H', Same H H' → TsAt H' p (r - m + 3).toNat (fMany (r - m + 1) (agn r m)) → Q (.ref p) H'
  | _ => False
noncomputable def sp_fooling  : Sp := fun vs H Q E => match vs with
  | [.int r, .int m, .int g] => okP r m g ∧ (needF m g ≤ r → ∀ p H', Same H H' → H' p = some (.lst []) → Q (.ref p) H') ∧ (r < needF m g → ∀ p H', Same H H' → TsAt H' p (nOf r m) (fOf r m) → Q (.ref p) H')
  | _ => False
noncomputable def sp__law_row  : Sp := fun vs H Q E => match vs with
  | [.ref p] => ∃ l : List Int, H p = some (.lst (l.map V.int)) ∧ l.length ≤ 60 ∧ ∀ H', Same H H' → Q (.bl true) H'
  | _ => False
noncomputable def sp__law_formed  : Sp := fun vs H Q E => match vs with
  | [.ref p] => ∃ (N : Nat) (f : Nat → Trn), TsAt H p N f ∧ N ≤ 200 ∧ (∀ i, (f i).cs.length ≤ 60 ∧ (f i).as.length ≤ 60 ∧ ((f i).it = .non ∨ ∃ q, (f i).it = .int q)) ∧ ∀ H', Same H H' → Q (.bl true) H'
  | _ => False
noncomputable def sp__law_may_come  : Sp := fun vs H Q E => match vs with
  | [.ref p, .int now, .int lag] => ∃ l : List Int, H p = some (.lst (l.map V.int)) ∧ (∀ b ∈ l, 0 ≤ b ∧ b < now ∧ now - b ≤ lag) ∧ Q (.bl true) H
  | _ => False
noncomputable def sp__law_file  : Sp := fun vs H Q E => match vs with
  | [.int R, .int M, .int g, .ref pf, .int n] => ∃ (F : List (Key × V)) (p : Int), H pf = some (.dK F) ∧ Fok R M g F ∧ F.length < 100000 ∧ n = p % R ∧ ∀ q H', But pf H H' → H' pf = some (.dK (fil1 R M (g, F) p).2.2) → H' q = some (.tup [(fil1 R M (g, F) p).1, .int (fil1 R M (g, F) p).2.1]) → Q (.ref q) H'
  | _ => False
noncomputable def sp__law_walked  : Sp := fun vs H Q E => match vs with
  | [.ref p, .int R, .int M, .int G] => ∃ (N : Nat) (f : Nat → Trn) (b t g : Nat → Int), Plan R M G N f b t g ∧ TsAt H p N f ∧ ∀ H', Same H H' → Q (.bl true) H'
  | _ => False
noncomputable def sp__law_played  : Sp := fun vs H Q E => match vs with
  | [.ref p, .int R, .int M, .int G] => ∃ (N : Nat) (f : Nat → Trn) (b t g : Nat → Int), Plan R M G N f b t g ∧ okP R M G ∧ TsAt H p N f ∧ ∀ H', Same H H' → Q (.bl true) H'
  | _ => False
set_option compiler.extract_closed false in
local macro_rules | `(tactic| exists $es,*) => `(tactic| simp only [tRet, tRetN, tOp, tUn, tVar, tC, tAsg, gName, tSeq, tNext, tBreak, tCont, tIfS, tTest, tB, tNot, tAnd, tOr, tCall, tCons, tNil, tCB, tChain, tAndV, tOrV, tNotV, tIf, tDrop, tSl, tNoPart, tPart, rI0_int, rI_int, rU_int, ex_bl, ex_sv, rEq_int, rNe_int, rEq_str, rNe_str, rEq_bl, rNe_bl, rAddA_int, rAddA_str, rLenA_ref, rLenA_str, rIsi_ii, rIsi_ib, rIsi_is, rIsi_bi, rIsi_bb, rIsi_ss, rIsi_si, rMinA_int, rMaxA_int, rEqA_int, rNeA_int, rEqA_str, rNeA_str, rEqA_bl, rNeA_bl, rIsB_bl, rIsnotB_bl, rIsN_f, rIsN_t, tBM0, tBM, tyV_int, tyV_str, rBitlen_int, rSlA_str, rInA_str, rInA_ref, tFor_seq, tFor_rng1, tFor_rng2, tFor_rng3, tComp_seq, tComp_rng1, tComp_rng2, tComp_rng3, rngR1_int, rngR2_int, rngR3_int, compSt_one, rAll_ref, rAny_ref, rSum_ref, rListA_ref, rTupleA_ref, rDivmodA_int, rAppendA_ref, rSetA_ref, tTup, tLst, tCs, tTC, gTup_ref, gCons_cons, gNil_nil, gSub, tYes, tDrop, small_line, small_lt, Option.join_some, CDiv, CPowA, CMul, cxOf_K, ex_int,
  L2.start, List.map_cons, List.map_nil, List.length_cons, List.length_nil, List.replicate_zero, List.replicate_succ, List.append_nil, List.nil_append, List.cons_append, List.getElem?_cons_zero, List.getElem?_cons_succ, List.set_cons_zero, List.set_cons_succ, decide_eq_true_eq, Bool.not_eq_true', decide_eq_false_iff_not, if_true, if_false, ite_true, ite_false, Bool.false_eq_true, true_and, and_true, Bool.not_true, Bool.not_false, Int.reduceLT, Int.reduceLE, Int.reducePow, Int.reduceToNat, Int.reduceAdd, Int.reduceSub, Int.reduceMul, Int.reduceNeg, Nat.reducePow, Nat.reduceLT, Nat.reduceLeDiff, true_or, or_true, Int.reduceEq, and_self, Nat.reduceAdd, Nat.reduceSub, Int.neg_neg, reduceCtorEq, not_true_eq_false, not_false_eq_true,
  sp_is_from, sp_ahead, sp_check_pair, sp_Pair___init__, sp_Pair_is_earlier, sp_Pair_may_come, sp_Pair_note_sending, sp_Pair_file_coming, sp_Pair_base_behind, sp_BadTurn___init__, sp_Pair_play, sp__law_whole, sp__law_cell_at, sp_need, sp__law_need, sp_coming_ahead_of, sp_fooling_one, sp_fooling_many, sp_fooling, sp__law_row, sp__law_formed, sp__law_may_come, sp__law_file, sp__law_walked, sp__law_played, tFldC, sFldC, sAugC, tMtC, tMake, rFld_ref, rSetF_ref, rAugF_ref, rMt_ref, ex_ins, upd_same, upd_upd, L2.ex_som, fl_Pair_1_len, fl_Pair_1_new, fl_Pair_2_len, fl_Pair_2_new, fl_Pair_3_len, fl_Pair_3_new, fl_Pair_4_len, fl_Pair_4_new, fl_Pair_5_len, fl_Pair_5_new, fl_Pair_6_len, fl_Pair_6_new, fl_Pair_7_len, fl_Pair_7_new, fl_Pair_8_len, fl_Pair_8_new, fl_Pair_9_len, fl_Pair_9_new, fl_Pair_len, fl_Pair_new, fl_Pair_get_ring, fl_Pair_get_room, fl_Pair_get_lag, fl_Pair_get_base, fl_Pair_get_top, fl_Pair_get_got, fl_Pair_get_turn, fl_Pair_get_sent_places, fl_Pair_get_told_answers, fl_Pair_get_filed_places, fl_Pair_put_base, fl_Pair_put_top, fl_Pair_put_got, fl_Pair_put_turn, fl_Pair_no_play, fl_Pair_no_is_earlier, fl_Pair_no_may_come, fl_Pair_no_base_behind, fl_Pair_no_file_coming, fl_Pair_no_note_sending, tDNewK, rDIn_ref, dinO_t, dinO_f, rDGet_ref, dgO_k, sDPutI, rDPut_ref, dpO_k, tDPopI, rIsD_ref, isDO_k, rDPop_ref, dopO_k, tAug, tFor_zip, tTry, tHc, tH0, hx2_t, hx2_f, tCallS, tMakeS, tMtS, Ends.un, tRaise0, tRaiseI, sFldX, tFldX, rFldX_ref, ex_exf, ex_exc, ex_xd, ex_xd1, rEqX_int, rNeX_int, rEqX_str, rNeX_str, rEqX_bl, rNeX_bl, isbO_some, xdOk_n, xdOk_s, rIsiX_ref, rIsiX_ty, gTupX_ref, gOx_tup, gOx_lst, rIxB_ref, rIxB_str, ixO_lst, ixO_tup, atI_0, atI_1, atI_2, atI_3, atI_4, atI_5, L2.atI_last, gTupB_ref, gO_tup, rLenB_ref, rLenB_str, lenO_lst, lenO_tup, rIsiB_ref, rIsiB_i, rIsiB_b, rIsiB_s, isiO_tup, isiO_lst, ex_lst, ex_lst2, tSw, swV_ref, swO_tup, rMinB_ref, rMaxB_ref, $[$es:term],*])
local macro_rules | `(tactic| walk_at "wps") => `(tactic| exists true_and)
section
variable {C_Pair C_RoadError C_BadPair C_BadTurn : Addr} {P : Program} {w : World} {K : PySem.W.Frag} {mg : Str → Option Value} {base : Heap}
theorem ok_is_from (T : Txt K mg C_Pair C_RoadError C_BadPair C_BadTurn)  : FnAt P w K mg base (CX1 P w) "is_from" 1 ["value", "low", "high"] sp_is_from := by
  refine T.d_is_from.fn sc_is_from bd_is_from (fun vs H Q E h => ?_) fun f cdv A outer s H vs Q E HR h => ?_
  · unfold sp_is_from at h; split at h <;> first | rfl | exact h.elim
  · unfold sp_is_from at h
    split at h
    · rename_i v lo hi
      refine ⟨_, (pss_one (ps_ret (pe_and (pe_callBQ (call_isiB K rfl) (by rfl) T.b_isinstance bt_isinstance (pa_q (pv 0) (pa_q (pe_ty rfl T.b_int bt_int) pa_nil))) (pe_and (pe_not (pe_callBQ (call_isiB K rfl) (by rfl) T.b_isinstance bt_isinstance (pa_q (pv 0) (pa_q (pe_ty rfl T.b_bool bt_bool) pa_nil)))) (pe_one (pe_chain op_le op_le (pv 1) (pv 0) (pv 2))))))), ?_⟩
      walk_at "wps"
      split
      · rename_i c; simpa [c] using h
      · rename_i c; simpa [c] using h
    · exact h.elim
theorem ok_ahead (T : Txt K mg C_Pair C_RoadError C_BadPair C_BadTurn)  : FnAt P w K mg base (CX1 P w) "ahead" 1 ["ring", "one", "other"] sp_ahead := by
  refine T.d_ahead.fn sc_ahead bd_ahead (fun vs H Q E h => ?_) fun f cdv A outer s H vs Q E HR h => ?_
  · unfold sp_ahead at h; split at h <;> first | rfl | exact h.elim
  · unfold sp_ahead at h
    split at h
    · rename_i r a b
      refine ⟨_, (pss_one (ps_ret (pe_op op_mod (pe_op op_sub (pv 2) (pv 1)) (pv 0)))), ?_⟩
      walk_at "wps"
      exact h
    · exact h.elim
theorem ok_check_pair (T : Txt K mg C_Pair C_RoadError C_BadPair C_BadTurn)  : FnAt P w K mg base (CX1 P w) "check_pair" 2 ["ring", "room", "lag"] (sp_check_pair C_BadPair) := by
  refine T.d_check_pair.fnX sc_check_pair bd_check_pair (fun vs H Q E h => ?_) fun f cdv A outer s H vs Q E HR h => ?_
  · unfold sp_check_pair at h; split at h <;> first | rfl | exact h.elim
  · unfold sp_check_pair at h
    split at h
    · rename_i r m g
      refine ⟨_, (pss_one (ps_if (PT.nox (PW.pt (pw_or (pt_not (pt_q (pe_fnQ (ok_is_from T) HR (by decide) rfl (pa_q (pv 1) (pa_q pe_int (pa_q (pe_cst rfl T.c_ROOM_MOST) pa_nil)))))) (pw_or (pt_not (pt_q (pe_fnQ (ok_is_from T) HR (by decide) rfl (pa_q (pv 0) (pa_q (pe_op (op_addK K rfl) (pv 1) pe_int) (pa_q (pe_cst rfl T.c_RING_MOST) pa_nil)))))) (pw_or1 (pt_not (pt_q (pe_fnQ (ok_is_from T) HR (by decide) rfl (pa_q (pv 2) (pa_q pe_int (pa_q (pe_cst rfl T.c_LAG_MOST) pa_nil))))))))))) (pss_one (ps_raise0 T.x_BadPair rz_fn rfl rfl rfl)) pss_nil)), ?_⟩
      obtain ⟨q1, q2⟩ := h
      walk_at "wps"
      by_cases c : okP r m g
      · have := q1 c
        unfold okP at c
        rw [if_neg (by simp; omega), if_neg (by simp; omega), if_neg (by simp; omega)]
        exact this
      · have := q2 c
        unfold okP at c
        split
        · exact this
        · split
          · exact this
          · split
            · exact this
            · rename_i c1 c2 c3
              exfalso
              simp at c1 c2 c3
              exact c ⟨c1.1, c1.2, by omega, c2.2, c3.1, c3.2⟩
    · exact h.elim
theorem ok_Pair___init__ (T : Txt K mg C_Pair C_RoadError C_BadPair C_BadTurn)   : MtAt P w K mg base (CX1 P w) C_Pair "__init__" 3 ["self", "ring", "room", "lag"] (sp_Pair___init__ C_Pair C_BadPair) := by
  refine T.d_Pair___init__.fnX sc_Pair___init__ bd_Pair___init__ (fun vs H Q E h => ?_) fun f cdv A outer s H vs Q E HR h => ?_
  · unfold sp_Pair___init__ at h; split at h <;> first | rfl | exact h.elim
  · unfold sp_Pair___init__ at h
    split at h
    · rename_i x r m g
      refine ⟨_, (pss_cons (ps_exprQ (pe_fnE (ok_check_pair T) HR (by decide) rfl rz_fn rfl (pa_q (pv 1) (pa_q (pv 2) (pa_q (pv 3) pa_nil)))))
  (pss_hold (pss_cons (PS.nox (ps_fldC (pv 0) (pv 1) T.k_Pair T.n_Pair_ring))
  (pss_cons (PS.nox (ps_fldC (pv 0) (pv 2) T.k_Pair T.n_Pair_room))
  (pss_cons (PS.nox (ps_fldC (pv 0) (pv 3) T.k_Pair T.n_Pair_lag))
  (pss_cons (PS.nox (ps_fldC (pv 0) pe_int T.k_Pair T.n_Pair_base))
  (pss_cons (PS.nox (ps_fldC (pv 0) pe_int T.k_Pair T.n_Pair_top))
  (pss_cons (PS.nox (ps_fldC (pv 0) pe_int T.k_Pair T.n_Pair_got))
  (pss_cons (PS.nox (ps_fldC (pv 0) pe_int T.k_Pair T.n_Pair_turn))
  (pss_cons (PS.nox (ps_fldC (pv 0) pe_dnewK T.k_Pair T.n_Pair_sent_places))
  (pss_cons (PS.nox (ps_fldC (pv 0) (pe_lst pa_nil) T.k_Pair T.n_Pair_told_answers))
  (pss_one (PS.nox (ps_fldC (pv 0) pe_dnewK T.k_Pair T.n_Pair_filed_places)))))))))))))), ?_⟩
      obtain ⟨dx, hx, q1, q2⟩ := h
      generalize h_u0 : tHold _ = u0
      exists hx
      refine ⟨fun hb => ?_, q2⟩
      have q := q1 hb
      rw [← h_u0, tHold]
      exists hx
      intro p1 h1
      have n1 : x ≠ p1 := (fresh_ne h1).symm
      exists upd_ne n1
      intro p2 h2
      have n2 : x ≠ p2 := (fresh_ne h2).symm
      exists upd_ne n1, upd_ne n2
      intro p3 h3
      have n3 : x ≠ p3 := (fresh_ne h3).symm
      exists upd_ne n1, upd_ne n2, upd_ne n3
      have k1 : H p1 = none := by rw [upd_ne n1.symm] at h1; exact h1
      have m12 : p2 ≠ p1 := fun e => by rw [e, upd_ne n1.symm, upd_same] at h2; cases h2
      have k2 : H p2 = none := by rw [upd_ne n2.symm, upd_ne m12, upd_ne n2.symm] at h2; exact h2
      have m23 : p3 ≠ p2 := fun e => by rw [e, upd_ne n2.symm, upd_same] at h3; cases h3
      have m13 : p3 ≠ p1 := fun e => by rw [e, upd_ne n1.symm, upd_ne m12.symm, upd_ne n1.symm, upd_same] at h3; cases h3
      have k3 : H p3 = none := by rw [upd_ne n3.symm, upd_ne m23, upd_ne n3.symm, upd_ne m13, upd_ne n3.symm] at h3; exact h3
      refine q p1 p2 p3 _ ?_ ⟨upd_same, ?_, ?_, ?_, m13.symm⟩ k1 k2 k3
      · intro b o hb' hne
        rw [upd_ne hne, upd_ne (ne_of_none hb' k3), upd_ne hne, upd_ne (ne_of_none hb' k2), upd_ne hne, upd_ne (ne_of_none hb' k1), upd_ne hne]
        exact hb'
      · rw [upd_ne n1.symm, upd_ne m13.symm, upd_ne n1.symm, upd_ne m12.symm, upd_ne n1.symm, upd_same]
      · rw [upd_ne n2.symm, upd_ne m23.symm, upd_ne n2.symm, upd_same]; rfl
      · rw [upd_ne n3.symm, upd_same]
    · exact h.elim
theorem ok_Pair_is_earlier (T : Txt K mg C_Pair C_RoadError C_BadPair C_BadTurn)  : MtAt P w K mg base (CX1 P w) C_Pair "is_earlier" 1 ["self", "turn"] (sp_Pair_is_earlier C_Pair) := by
  refine T.d_Pair_is_earlier.fn sc_Pair_is_earlier bd_Pair_is_earlier (fun vs H Q E h => ?_) fun f cdv A outer s H vs Q E HR h => ?_
  · unfold sp_Pair_is_earlier at h; split at h <;> first | rfl | exact h.elim
  · unfold sp_Pair_is_earlier at h
    split at h
    · rename_i x t
      refine ⟨_, (pss_one (ps_ret (pe_chain op_le op_lt (pe_callBQ (call_maxA rfl) (by rfl) T.b_max bt_max (pa_q pe_int (pa_q (pe_op op_sub (pe_fldC (pv 0) T.k_Pair T.n_Pair_turn rfl) (pe_fldC (pv 0) T.k_Pair T.n_Pair_lag rfl)) pa_nil))) (pv 1) (pe_fldC (pv 0) T.k_Pair T.n_Pair_turn rfl)))), ?_⟩
      obtain ⟨dx, ps, pa, pf, z, hP, q⟩ := h
      exists hP.hx
      unfold earl at q
      by_cases c : (if 0 < z.n - z.G then z.n - z.G else 0) ≤ t
      · rw [if_pos c]; rw [decide_eq_true c, Bool.true_and] at q; exact q
      · rw [if_neg c]; rw [decide_eq_false c, Bool.false_and] at q; exact q
    · exact h.elim
theorem ok_Pair_may_come (T : Txt K mg C_Pair C_RoadError C_BadPair C_BadTurn)  : MtAt P w K mg base (CX1 P w) C_Pair "may_come" 2 ["self", "turn"] (sp_Pair_may_come C_Pair) := by
  refine T.d_Pair_may_come.fn sc_Pair_may_come bd_Pair_may_come (fun vs H Q E h => ?_) fun f cdv A outer s H vs Q E HR h => ?_
  · unfold sp_Pair_may_come at h; split at h <;> first | rfl | exact h.elim
  · unfold sp_Pair_may_come at h
    split at h
    · rename_i x t
      refine ⟨_, (pss_one (ps_ret (pe_and (pe_mtC (pv 0) T.k_Pair (ok_Pair_is_earlier T) HR (by decide) (pa_q (pv 1) pa_nil)) (pe_one (pe_cmp (pc_dI HR.units (pv 1) (pe_fldC (pv 0) T.k_Pair T.n_Pair_sent_places rfl)) (nomarkQ rfl)))))), ?_⟩
      obtain ⟨dx, ps, pa, pf, z, hP, q⟩ := h
      exists hP.hx, hP.hS
      refine ⟨dx, ps, pa, pf, z, hP, ?_⟩
      cases c : earl z t
      · rw [c, Bool.false_and] at q; rw [if_neg (by decide)]; exact q
      · rw [c, Bool.true_and] at q; rw [if_pos rfl]; exact q
    · exact h.elim
theorem ok_Pair_note_sending (T : Txt K mg C_Pair C_RoadError C_BadPair C_BadTurn)  : MtAt P w K mg base (CX1 P w) C_Pair "note_sending" 1 ["self", "place"] (sp_Pair_note_sending C_Pair) := by
  refine T.d_Pair_note_sending.fn sc_Pair_note_sending bd_Pair_note_sending (fun vs H Q E h => ?_) fun f cdv A outer s H vs Q E HR h => ?_
  · unfold sp_Pair_note_sending at h; split at h <;> first | rfl | exact h.elim
  · unfold sp_Pair_note_sending at h
    split at h
    · rename_i x p
      refine ⟨_, (pss_cons (ps_dpI HR.units (pe_fldC (pv 0) T.k_Pair T.n_Pair_sent_places rfl) (pe_fldC (pv 0) T.k_Pair T.n_Pair_turn rfl) (pv 1))
  (pss_one (ps_if (pt_cmpR (op_eqXK K rfl HR.units) (pv 1) (pe_fldC (pv 0) T.k_Pair T.n_Pair_top rfl) (nomark _)) (pss_one (ps_augC (pv 0) pe_int T.k_Pair T.n_Pair_top iop_add)) pss_nil))), ?_⟩
      obtain ⟨dx, ps, pa, pf, z, hP, hl, q⟩ := h
      exists hP.hx, hP.hS, upd_ne hP.n1.symm
      refine ⟨by rw [sizeLine_eq]; omega, ?_⟩
      by_cases c : p = z.t
      · rw [if_pos c] at q ⊢
        refine q _ ?_ ⟨upd_same, ?_, ?_, ?_, hP.ne⟩
        · intro b o hb h1 h2 _ _
          rw [upd_ne h1, upd_ne h2]; exact hb
        · rw [upd_ne hP.n1, upd_same]
        · rw [upd_ne hP.n2, upd_ne hP.n4]; exact hP.hA
        · rw [upd_ne hP.n3, upd_ne hP.ne.symm]; exact hP.hF
      · rw [if_neg c] at q ⊢
        refine q _ ?_ ⟨?_, upd_same, ?_, ?_, hP.ne⟩
        · intro b o hb h1 h2 _ _
          rw [upd_ne h2]; exact hb
        · rw [upd_ne hP.n1.symm]; exact hP.hx
        · rw [upd_ne hP.n4]; exact hP.hA
        · rw [upd_ne hP.ne.symm]; exact hP.hF
    · exact h.elim
theorem ok_Pair_file_coming (T : Txt K mg C_Pair C_RoadError C_BadPair C_BadTurn)  : MtAt P w K mg base (CX1 P w) C_Pair "file_coming" 2 ["self", "turn"] (sp_Pair_file_coming C_Pair) := by
  refine T.d_Pair_file_coming.fn sc_Pair_file_coming bd_Pair_file_coming (fun vs H Q E h => ?_) fun f cdv A outer s H vs Q E HR h => ?_
  · unfold sp_Pair_file_coming at h; split at h <;> first | rfl | exact h.elim
  · unfold sp_Pair_file_coming at h
    split at h
    · rename_i x c
      refine ⟨_, (pss_cons (ps_setQ (i := 2) sc_Pair_file_coming.nd rfl (Or.inl rfl) (pe_op op_mod (pe_dgI HR.units (pe_fldC (pv 0) T.k_Pair T.n_Pair_sent_places rfl) (pv 1) (fun _ _ => rfl)) (pe_fldC (pv 0) T.k_Pair T.n_Pair_ring rfl)))
  (pss_cons (ps_setQ (i := 3) sc_Pair_file_coming.nd rfl (Or.inl rfl) (pe_fnQ (ok_ahead T) HR (by decide) rfl (pa_q (pe_fldC (pv 0) T.k_Pair T.n_Pair_ring rfl) (pa_q (pe_fldC (pv 0) T.k_Pair T.n_Pair_got rfl) (pa_q (pv 2) pa_nil)))))
  (pss_hold (pss_cons (ps_if (pt_cmpR op_ge (pv 3) (pe_fldC (pv 0) T.k_Pair T.n_Pair_room rfl) (nomark _)) (pss_one (ps_ret pe_non)) pss_nil)
  (pss_hold (pss_cons (ps_setQ (i := 4) sc_Pair_file_coming.nd rfl (Or.inl rfl) (pe_op (op_addK K rfl) (pe_fldC (pv 0) T.k_Pair T.n_Pair_got rfl) (pv 3)))
  (pss_cons (ps_dpI HR.units (pe_fldC (pv 0) T.k_Pair T.n_Pair_filed_places rfl) (pv 4) pe_bl)
  (pss_hold (pss_cons (ps_while PassesOwn.never (pt_cmp (pc_dI HR.units (pe_fldC (pv 0) T.k_Pair T.n_Pair_got rfl) (pe_fldC (pv 0) T.k_Pair T.n_Pair_filed_places rfl)) (nomarkQ rfl)) (pss_one (ps_augC (pv 0) pe_int T.k_Pair T.n_Pair_got iop_add)))
  (pss_one (ps_ret (pv 4)))))))))))), ?_⟩
      obtain ⟨dx, ps, pa, pf, z, p, hP, hF, hl, hc, q⟩ := h
      have m0 := hF.m0
      have mr := hF.mr
      generalize h_u1 : tHold _ = u1
      exists hP.hx, hP.hS, hc
      refine ⟨by omega, by omega, ?_⟩
      rw [← h_u1, tHold]
      generalize h_u2 : tHold _ = u2
      exists hP.hx
      by_cases c0 : z.M ≤ (p % z.R - z.g) % z.R
      · rw [if_pos c0]
        have e : fil1 z.R z.M (z.g, z.F) p = (.non, (z.g, z.F)) := if_pos c0
        rw [e] at q
        exact q H (fun b o e _ _ _ _ => e) hP
      rw [if_neg c0]
      have e : fil1 z.R z.M (z.g, z.F) p = (.int (z.g + (p % z.R - z.g) % z.R), clm (putK z.F (ik (z.g + (p % z.R - z.g) % z.R)) (.bl true)) z.g, putK z.F (ik (z.g + (p % z.R - z.g) % z.R)) (.bl true)) := if_neg c0
      rw [e] at q
      generalize hs : (p % z.R - z.g) % z.R = s at *
      have kk := hF.put (s := s) (by omega)
      rw [← h_u2, tHold]
      generalize h_u3 : tHold _ = u3
      exists hP.hx, hP.hF
      refine ⟨by rw [sizeLine_eq]; omega, ?_⟩
      rw [← h_u3, tHold]
      walk_at "wps"
      generalize hF' : putK z.F (ik (z.g + s)) (.bl true) = F' at *
      have P1 : PairAt C_Pair (upd H pf (.dK F')) x dx ps pa pf ⟨z.R, z.M, z.G, z.b, z.t, z.g, z.n, z.S, z.A, F'⟩ := ⟨by rw [upd_ne hP.n3.symm]; exact hP.hx, by rw [upd_ne hP.ne]; exact hP.hS, by rw [upd_ne hP.n5]; exact hP.hA, upd_same, hP.ne⟩
      have f1 : Fr4 x ps pa pf H (upd H pf (.dK F')) := fun b o e _ _ _ h4 => by rw [upd_ne h4]; exact e
      generalize upd H pf (.dK F') = H1 at *
      refine ⟨fun m σ H' => σ = [some (.ref x), some (.int c), some (.int (p % z.R)), some (.int s), some (.int (z.g + s))] ∧ ∃ g, z.g ≤ g ∧ g ≤ z.g + z.M ∧ m = (z.g + z.M - g).toNat ∧ (∀ i, z.g ≤ i → i < g → (valV F' (ik i)).isSome = true) ∧ Fr4 x ps pa pf H H' ∧ PairAt C_Pair H' x dx ps pa pf ⟨z.R, z.M, z.G, z.b, z.t, g, z.n, z.S, z.A, F'⟩, ⟨_, rfl, z.g, Int.le_refl _, by omega, rfl, fun i _ _ => by omega, f1, P1⟩, ?_⟩
      rintro m σ H' ⟨rfl, g, g1, g2, rfl, hall, fr, PP⟩
      exists PP.hx, PP.hF
      cases ec : (valV F' (ik g)).isSome
      · rw [if_neg (by decide)]
        have tp : Top F' z.g g := ⟨g1, hall, ec⟩
        rw [clm_of tp] at q
        exact q H' fr PP
      · rw [if_pos rfl]
        have gl := kk g ec
        have P2 := PP.put z.R z.M z.G z.b z.t (g + 1) z.n
        refine ⟨fun σ' H'' => σ' = [some (.ref x), some (.int c), some (.int (p % z.R)), some (.int s), some (.int (z.g + s))] ∧ H'' = upd H' x (.ins C_Pair dx (fl_Pair (.int z.R) (.int z.M) (.int z.G) (.int z.b) (.int z.t) (.int (g + 1)) (.int z.n) (.ref ps) (.ref pa) (.ref pf))), ?_, ?_⟩
        · rintro σ' H'' ⟨e1, rfl⟩
          refine ⟨(z.g + z.M - (g + 1)).toNat, by omega, e1, g + 1, by omega, by omega, rfl, fun i h1 h2 => ?_, fun b o e k1 k2 k3 k4 => by rw [upd_ne k1]; exact fr b o e k1 k2 k3 k4, P2⟩
          by_cases c1 : i = g
          · rw [c1]; exact ec
          · exact hall i h1 (by omega)
        · exists PP.hx
    · exact h.elim
theorem ok_Pair_base_behind (T : Txt K mg C_Pair C_RoadError C_BadPair C_BadTurn)   : MtAt P w K mg base (CX1 P w) C_Pair "base_behind" 2 ["self", "answers"] (sp_Pair_base_behind C_Pair K) := by
  refine T.d_Pair_base_behind.fn sc_Pair_base_behind bd_Pair_base_behind (fun vs H Q E h => ?_) fun f cdv A outer s H vs Q E HR h => ?_
  · unfold sp_Pair_base_behind at h; split at h <;> first | rfl | exact h.elim
  · unfold sp_Pair_base_behind at h
    split at h
    · rename_i x l
      refine ⟨_, (pss_cons (ps_setQ (i := 2) sc_Pair_base_behind.nd rfl (Or.inl rfl) (pe_fldC (pv 0) T.k_Pair T.n_Pair_base rfl))
  (pss_cons (ps_for PassesOwn.never rfl (pi_seqK K rfl (pv 1)) (pg_name (i := 3) sc_Pair_base_behind.nd rfl (Or.inl rfl)) (pss_cons (ps_setQ (i := 4) sc_Pair_base_behind.nd rfl (Or.inl rfl) (pe_fnQ (ok_ahead T) HR (by decide) rfl (pa_q (pe_fldC (pv 0) T.k_Pair T.n_Pair_ring rfl) (pa_q (pv 2) (pa_q (pe_ix (ix_B K rfl) (pe_fldC (pv 0) T.k_Pair T.n_Pair_told_answers rfl) (pv 3) (fun _ _ => rfl)) pa_nil)))))
  (pss_one (ps_if (pt_cmpR op_le (pv 4) (pe_op op_sub (pe_fldC (pv 0) T.k_Pair T.n_Pair_top rfl) (pv 2)) (nomark _)) (pss_one (ps_augN (j := 2) sc_Pair_base_behind.nd rfl (Or.inl rfl) (pv 4) iop_add)) pss_nil))))
  (pss_one (ps_ret (pv 2))))), ?_⟩
      obtain ⟨dx, ps, pa, pf, z, as, hP, hR, hl, ha, q⟩ := h
      exists hP.hx
      refine fo_list (xs := as.map V.int) (SqL.of hl) (fun i σ H' => H' = H ∧ ∃ v3 v4, σ = [some (.ref x), some (.ref l), some (.int (bbs z.R z.t z.b ((as.take i).map fun a => z.A.getD a.toNat 0))), v3, v4]) ⟨rfl, _, _, rfl⟩ (fun i σ H' _ hp => by rw [hp.1]; exact SqL.of hl) (fun i y σ H' hy hp => ?_) (fun σ H' hp => ?_)
      · obtain ⟨rfl, v3, v4, rfl⟩ := hp
        obtain ⟨a, rfl, hai⟩ := map_int_get hy
        obtain ⟨a0, a1⟩ := ha a (List.mem_of_getElem? hai)
        exists hP.hx, hP.hA
        refine ⟨_, atI_getI a0 a1, ?_⟩
        exists hP.hx
        refine ⟨hR, ?_⟩
        rw [take_snoc hai, List.map_append, List.map_singleton, bbs_snoc]
        unfold bb1
        split <;> exact ⟨_, _, rfl⟩
      · obtain ⟨rfl, v3, v4, rfl⟩ := hp
        rw [List.length_map, List.take_length]
        walk_at "wps"
        exact q
    · exact h.elim
theorem ok_BadTurn___init__ (T : Txt K mg C_Pair C_RoadError C_BadPair C_BadTurn)  : MtAt P w K mg base (CX1 P w) C_BadTurn "__init__" 1 ["self", "turn"] (sp_BadTurn___init__ C_BadTurn) := by
  refine T.d_BadTurn___init__.fn sc_BadTurn___init__ bd_BadTurn___init__ (fun vs H Q E h => ?_) fun f cdv A outer s H vs Q E HR h => ?_
  · unfold sp_BadTurn___init__ at h; split at h <;> first | rfl | exact h.elim
  · unfold sp_BadTurn___init__ at h
    split at h
    · rename_i e l
      refine ⟨_, (pss_one (ps_fldXQ T.x_BadTurn T.xf_BadTurn_turn (pv 0) (pv 1))), ?_⟩
      obtain ⟨he, q⟩ := h
      exists he
      exact ⟨e, rfl, he, q⟩
    · exact h.elim
theorem ok_Pair_play (T : Txt K mg C_Pair C_RoadError C_BadPair C_BadTurn)    : MtAt P w K mg base (CX1 P w) C_Pair "play" 3 ["self", "comings", "answers", "item"] (sp_Pair_play C_Pair C_BadTurn K) := by
  refine T.d_Pair_play.fnX sc_Pair_play bd_Pair_play (fun vs H Q E h => ?_) fun f cdv A outer s H vs Q E HR h => ?_
  · unfold sp_Pair_play at h; split at h <;> first | rfl | exact h.elim
  · unfold sp_Pair_play at h
    split at h
    · rename_i x cl al it
      refine ⟨_, (pss_cons (ps_if (PT.nox (pt_not (pt_q (pe_callBQ (call_allK K rfl rfl) (by rfl) T.b_all bt_all (pa_q (pe_comp (N := (["coming", "self"] : List Str)) (nv := 1) (ix := [0]) rfl (cs_of (by kernel_rfl)) (pi_seqK K rfl (pv 1)) (fun _ _ _ _ _ => (pg_name (i := 0) (show ((["coming", "self"] : List Str)).Nodup by decide) rfl (Or.inl rfl))) (fun _ _ _ _ _ => pts_nil) (fun _ _ _ _ _ => (pe_mtC (pv 1) T.k_Pair (ok_Pair_may_come T) HR (by decide) (pa_q (pv 0) pa_nil)))) pa_nil))))) (pss_one (ps_raiseIQ T.x_BadTurn (ok_BadTurn___init__ T) T.kp_BadTurn HR (by decide) rz_fn rfl rfl rfl (pa_q (pe_fldC (pv 0) T.k_Pair T.n_Pair_turn rfl) pa_nil))) pss_nil)
  (pss_hold (pss_cons (ps_if (PT.nox (pt_not (pt_q (pe_callBQ (call_allK K rfl rfl) (by rfl) T.b_all bt_all (pa_q (pe_comp (N := (["answer", "self"] : List Str)) (nv := 1) (ix := [0]) rfl (cs_of (by kernel_rfl)) (pi_seqK K rfl (pv 2)) (fun _ _ _ _ _ => (pg_name (i := 0) (show ((["answer", "self"] : List Str)).Nodup by decide) rfl (Or.inl rfl))) (fun _ _ _ _ _ => pts_nil) (fun _ _ _ _ _ => (pe_mtC (pv 1) T.k_Pair (ok_Pair_is_earlier T) HR (by decide) (pa_q (pv 0) pa_nil)))) pa_nil))))) (pss_one (ps_raiseIQ T.x_BadTurn (ok_BadTurn___init__ T) T.kp_BadTurn HR (by decide) rz_fn rfl rfl rfl (pa_q (pe_fldC (pv 0) T.k_Pair T.n_Pair_turn rfl) pa_nil))) pss_nil)
  (pss_hold (pss_cons (PS.nox (ps_setQ (i := 4) sc_Pair_play.nd rfl (Or.inl rfl) (pe_mtC (pv 0) T.k_Pair (ok_Pair_base_behind T) HR (by decide) (pa_q (pv 2) pa_nil))))
  (pss_cons (ps_if (PT.nox (PW.pt (pw_and (pt_cmpR op_notNA (pv 3) pe_non (nomark _)) (pw_and1 (pt_not (pt_chain op_le op_le (pv 4) (pv 3) (pe_callBQ (call_minA rfl) (by rfl) T.b_min bt_min (pa_q (pe_op op_sub (pe_op (op_addK K rfl) (pv 4) (pe_fldC (pv 0) T.k_Pair T.n_Pair_room rfl)) pe_int) (pa_q (pe_fldC (pv 0) T.k_Pair T.n_Pair_top rfl) pa_nil))))))))) (pss_one (ps_raiseIQ T.x_BadTurn (ok_BadTurn___init__ T) T.kp_BadTurn HR (by decide) rz_fn rfl rfl rfl (pa_q (pe_fldC (pv 0) T.k_Pair T.n_Pair_turn rfl) pa_nil))) pss_nil)
  (pss_hold (pss_cons (PS.nox (ps_setQ (i := 5) sc_Pair_play.nd rfl (Or.inl rfl) (pe_lst pa_nil)))
  (pss_cons (PS.nox (ps_for PassesOwn.never rfl (pi_seqK K rfl (pv 1)) (pg_name (i := 6) sc_Pair_play.nd rfl (Or.inl rfl)) (pss_one (ps_exprQ (pe_appendK K rfl (pv 5) (pe_mtC (pv 0) T.k_Pair (ok_Pair_file_coming T) HR (by decide) (pa_q (pv 6) pa_nil)))))))
  (pss_hold (pss_cons (PS.nox (ps_fldC (pv 0) (pv 4) T.k_Pair T.n_Pair_base))
  (pss_mid (PS.nox (ps_if (pt_cmpR op_notNA (pv 3) pe_non (nomark _)) (pss_one (ps_exprQ (pe_mtC (pv 0) T.k_Pair (ok_Pair_note_sending T) HR (by decide) (pa_q (pv 3) pa_nil)))) pss_nil))
  (pss_cons (PS.nox (ps_exprQ (pe_appendK K rfl (pe_fldC (pv 0) T.k_Pair T.n_Pair_told_answers rfl) (pe_op op_mod (pe_fldC (pv 0) T.k_Pair T.n_Pair_got rfl) (pe_fldC (pv 0) T.k_Pair T.n_Pair_ring rfl)))))
  (pss_cons (PS.nox (ps_augC (pv 0) pe_int T.k_Pair T.n_Pair_turn iop_add))
  (pss_one (PS.nox (ps_ret (pv 5)))))))))))))))))), ?_⟩
      obtain ⟨dx, ps, pa, pf, z, cs, as, hP, w, ncl, hcl, hal, q1, q2⟩ := h
      by_cases hf : Fine z cs as it
      · have q := q1 hf
        have W := w.ok hf
        clear q1 q2
        generalize h_u1 : tHold _ = u1
        walk_at "wps"
        refine co_list (xs := cs.map V.int) (p := fun _ => true) (f := fun _ => V.bl true) (SqL.of hcl) (small_ok (by rw [List.length_map]; exact W.lc)) (fun y _ Q' q' => by walk_at "wps"; exact q') ?_ ?_
        · intro y hy _ Q' q'
          obtain ⟨c, hc, rfl⟩ := List.mem_map.mp hy
          obtain ⟨h1, p, h2⟩ := W.hc c hc
          exists hP.hx
          refine ⟨dx, ps, pa, pf, z, hP, ?_⟩
          rw [h1, h2]
          exact q'
        refine ⟨small_ok (by rw [List.length_map]; exact Nat.le_trans (List.length_filter_le _ _) (by rw [List.length_map]; exact W.lc)), fun l1 hl1 => ⟨(cs.map V.int).map fun _ => true, SqL.of (by rw [upd_same, map_true]), ?_⟩⟩
        rw [if_neg (by rw [all_true]; decide)]
        have P1 := hP.same (same_upd (o := .lst (List.map (fun _ => V.bl true) (List.filter (fun _ => true) (List.map V.int cs)))) hl1)
        have cl1 := upd_old (o := .lst (List.map (fun _ => V.bl true) (List.filter (fun _ => true) (List.map V.int cs)))) hcl hl1
        have al1 := upd_old (o := .lst (List.map (fun _ => V.bl true) (List.filter (fun _ => true) (List.map V.int cs)))) hal hl1
        have S1 := same_upd (o := .lst (List.map (fun _ => V.bl true) (List.filter (fun _ => true) (List.map V.int cs)))) hl1
        generalize upd H l1 (.lst (List.map (fun _ => V.bl true) (List.filter (fun _ => true) (List.map V.int cs)))) = H1 at *
        rw [← h_u1, tHold]
        generalize h_u2 : tHold _ = u2
        walk_at "wps"
        refine co_list (xs := as.map V.int) (p := fun _ => true) (f := fun _ => V.bl true) (SqL.of al1) (small_ok (by rw [List.length_map]; exact W.la)) (fun y _ Q' q' => by walk_at "wps"; exact q') ?_ ?_
        · intro y hy _ Q' q'
          obtain ⟨c, hc, rfl⟩ := List.mem_map.mp hy
          exists P1.hx
          refine ⟨dx, ps, pa, pf, z, P1, ?_⟩
          rw [(W.ha c hc).1]
          exact q'
        refine ⟨small_ok (by rw [List.length_map]; exact Nat.le_trans (List.length_filter_le _ _) (by rw [List.length_map]; exact W.la)), fun l2 hl2 => ⟨(as.map V.int).map fun _ => true, SqL.of (by rw [upd_same, map_true]), ?_⟩⟩
        rw [if_neg (by rw [all_true]; decide)]
        have P2 := P1.same (same_upd (o := .lst (List.map (fun _ => V.bl true) (List.filter (fun _ => true) (List.map V.int as)))) hl2)
        have cl2 := upd_old (o := .lst (List.map (fun _ => V.bl true) (List.filter (fun _ => true) (List.map V.int as)))) cl1 hl2
        have al2 := upd_old (o := .lst (List.map (fun _ => V.bl true) (List.filter (fun _ => true) (List.map V.int as)))) al1 hl2
        have S2 : Same H _ := fun b o e => same_upd (o := .lst (List.map (fun _ => V.bl true) (List.filter (fun _ => true) (List.map V.int as)))) hl2 b o (S1 b o e)
        generalize upd H1 l2 (.lst (List.map (fun _ => V.bl true) (List.filter (fun _ => true) (List.map V.int as)))) = H2 at *
        rw [← h_u2, tHold]
        generalize h_u3 : tHold _ = u3
        exists P2.hx
        have m0 := W.fok.m0
        have mr := W.fok.mr
        refine ⟨dx, ps, pa, pf, z, as, P2, by omega, al2, fun a h => (W.ha a h).2, ?_⟩
        have hi := W.hi
        have ea : after z cs as it = { z with b := bbs z.R z.t z.b (as.map fun a => z.A.getD a.toNat 0), t := if it = .int z.t then z.t + 1 else z.t, g := (filS z.R z.M (cs.map (plc z.S)) (z.g, z.F)).1, n := z.n + 1, S := sAft z it, A := z.A ++ [(filS z.R z.M (cs.map (plc z.S)) (z.g, z.F)).1 % z.R], F := (filS z.R z.M (cs.map (plc z.S)) (z.g, z.F)).2 } := rfl
        rw [ea] at q
        clear ea
        generalize bbs z.R z.t z.b (as.map fun a => z.A.getD a.toNat 0) = b' at *
        have tail : u3 { nx := fun _ H' => Q .non H', rt := Q } [some (.ref x), some (.ref cl), some (.ref al), some it, some (.int b'), none, none] H2 := by
          rw [← h_u3, tHold]
          generalize h_u4 : tHold _ = u4
          walk_at "wps"
          intro pl hpl
          have npa : pl ≠ pa := fun e => by rw [e, P2.hA] at hpl; cases hpl
          have ncl2 : cl ≠ pl := ne_of_none cl2 hpl
          have P3 := P2.new (o := .lst []) hpl
          have cl3 := upd_old (o := .lst []) cl2 hpl
          have l3 := upd_same (H := H2) (a := pl) (o := .lst [])
          have F3 : ∀ b o, H b = some o → upd H2 pl (.lst []) b = some o := fun b o e => upd_old (S2 b o e) hpl
          have hpl0 : H pl = none := by
            cases e : H pl with
            | none => rfl
            | some o => rw [S2 _ _ e] at hpl; cases hpl
          generalize upd H2 pl (.lst []) = H3 at *
          refine fo_list (xs := cs.map V.int) (SqL.of cl3) (fun i σ H' => H' cl = some (.lst (cs.map V.int)) ∧ Fr4 x ps pa pf H H' ∧ ∃ v6, σ = [some (.ref x), some (.ref cl), some (.ref al), some it, some (.int b'), some (.ref pl), v6] ∧ PairAt C_Pair H' x dx ps pa pf { z with g := (filS z.R z.M ((cs.take i).map (plc z.S)) (z.g, z.F)).1, F := (filS z.R z.M ((cs.take i).map (plc z.S)) (z.g, z.F)).2 } ∧ H' pl = some (.lst (filV z.R z.M ((cs.take i).map (plc z.S)) (z.g, z.F))))
            ⟨cl3, fun b o e _ _ _ _ => F3 b o e, none, rfl, P3, l3⟩ (fun i σ H' _ hp => SqL.of hp.1) (fun i y σ H' hy hp => ?_) (fun σ H4 hp => ?_)
          · obtain ⟨hcl', hFr, v6, rfl, PP, hl⟩ := hp
            obtain ⟨c, rfl, hci⟩ := map_int_get hy
            obtain ⟨h1, p, h2⟩ := W.hc c (List.mem_of_getElem? hci)
            have ep := plc_of h2
            have fo := filS_ok (l := (cs.take i).map (plc z.S)) (s := (z.g, z.F)) W.fok
            have lim : (cs.take i).length ≤ 1000 := by rw [List.length_take]; have := W.lc; omega
            have lF := W.lF
            have fo2 : (filS z.R z.M ((cs.take i).map (plc z.S)) (z.g, z.F)).2.length ≤ z.F.length + (cs.take i).length := by have := fo.2; rw [List.length_map] at this; exact this
            have lV : (filV z.R z.M ((cs.take i).map (plc z.S)) (z.g, z.F)).length ≤ 1000 := by rw [filV_len, List.length_map]; exact lim
            rw [take_snoc hci, List.map_append, List.map_singleton, filS_snoc, filV_snoc, ep]
            generalize (filV z.R z.M ((cs.take i).map (plc z.S)) (z.g, z.F)) = vs at *
            generalize (filS z.R z.M ((cs.take i).map (plc z.S)) (z.g, z.F)) = st at *
            exists PP.hx
            refine ⟨tyV_list (SqL.of hl), dx, ps, pa, pf, _, p, PP, fo.1, by show st.2.length < 100000; omega, h2, fun H5 hFr' PP' => ?_⟩
            have hl' := hFr' pl _ hl (ne_of hl PP.hx (by simp)) (ne_of hl PP.hS (by simp)) npa (ne_of hl PP.hF (by simp))
            have hcl5 := hFr' cl _ hcl' (ne_of hcl' PP.hx (by simp)) (ne_of hcl' PP.hS (by simp)) ncl (ne_of hcl' PP.hF (by simp))
            exists hl'
            refine ⟨by rw [sizeLine_eq]; omega, by rw [upd_ne ncl2]; exact hcl5, fun b o e k1 k2 k3 k4 => by rw [upd_ne (ne_of_none e hpl0)]; exact hFr' b o (hFr b o e k1 k2 k3 k4) k1 k2 k3 k4, _, rfl, PP'.lst hl' npa⟩
          · obtain ⟨hcl', hFr, v6, rfl, P4, l4⟩ := hp
            rw [List.length_map, List.take_length] at P4 l4
            generalize (filV z.R z.M (cs.map (plc z.S)) (z.g, z.F)) = vs at *
            generalize (filS z.R z.M (cs.map (plc z.S)) (z.g, z.F)) = st at *
            rw [← h_u4, tHold]
            exists P4.hx
            have P5 := P4.put z.R z.M z.G b' z.t st.1 z.n
            have fr5 : Fr4 x ps pa pf H (upd H4 x (.ins C_Pair dx (fl_Pair (.int z.R) (.int z.M) (.int z.G) (.int b') (.int z.t) (.int st.1) (.int z.n) (.ref ps) (.ref pa) (.ref pf)))) := fun b o e k1 k2 k3 k4 => by rw [upd_ne k1]; exact hFr b o e k1 k2 k3 k4
            have l5 : upd H4 x (.ins C_Pair dx (fl_Pair (.int z.R) (.int z.M) (.int z.G) (.int b') (.int z.t) (.int st.1) (.int z.n) (.ref ps) (.ref pa) (.ref pf))) pl = some (.lst vs) := by rw [upd_ne (ne_of l4 P4.hx (by simp))]; exact l4
            generalize upd H4 x (.ins C_Pair dx (fl_Pair (.int z.R) (.int z.M) (.int z.G) (.int b') (.int z.t) (.int st.1) (.int z.n) (.ref ps) (.ref pa) (.ref pf))) = H5 at *
            refine ⟨fun σ' H' => Fr4 x ps pa pf H H' ∧ PairAt C_Pair H' x dx ps pa pf ⟨z.R, z.M, z.G, b', (if it = .int z.t then z.t + 1 else z.t), st.1, z.n, sAft z it, z.A, st.2⟩ ∧ H' pl = some (.lst vs) ∧ σ' = [some (.ref x), some (.ref cl), some (.ref al), some it, some (.int b'), some (.ref pl), v6], ?_, ?_⟩
            · rcases hi with rfl | ⟨p, rfl, _⟩
              · walk_at "wps"
                exact ⟨fr5, P5, l5⟩
              · exists P5.hx
                refine ⟨dx, ps, pa, pf, _, P5, W.lS, fun H6 fr6 P6 => ⟨fun b o e k1 k2 k3 k4 => fr6 b o (fr5 b o e k1 k2 k3 k4) k1 k2 k3 k4, ?_, fr6 pl _ l5 (ne_of l5 P5.hx (by simp)) (ne_of l5 P5.hS (by simp)) npa (ne_of l5 P5.hF (by simp))⟩⟩
                have et : (if V.int p = V.int z.t then z.t + 1 else z.t) = if p = z.t then z.t + 1 else z.t := by simp
                rw [et]
                exact P6
            rintro σ' H6 ⟨fr6, P6, l6, rfl⟩
            generalize (if it = .int z.t then z.t + 1 else z.t) = t' at *
            generalize sAft z it = S' at *
            exists P6.hx, P6.hA, upd_ne P6.n2.symm
            refine ⟨tyV_list (SqL.of P6.hA), by omega, by rw [List.length_map, sizeLine_eq]; have := W.lA; show z.A.length < _; omega, ?_⟩
            refine q pl _ hpl0 ?_ ⟨?_, ?_, ?_, ?_, P6.ne⟩ ?_
            · intro b o e k1 k2 k3 k4
              rw [upd_ne k1, upd_ne k3]; exact fr6 b o e k1 k2 k3 k4
            · rw [upd_same]
            · rw [upd_ne P6.n1, upd_ne P6.n4.symm]; exact P6.hS
            · rw [upd_ne P6.n2, upd_same]; simp
            · rw [upd_ne P6.n3, upd_ne P6.n5.symm]; exact P6.hF
            · rw [upd_ne (ne_of l6 P6.hx (by simp)), upd_ne npa]; exact l6
        rcases hi with rfl | ⟨p, rfl, i1, i2, i3⟩
        · walk_at "wps"
          exact tail
        · exists P2.hx
          rw [if_pos i1, if_neg (by split <;> omega)]
          exact tail
      · clear q1
        have fail : ∀ H1, Same H H1 → ∀ e, H1 e = none → ∀ d, upd H1 e (.ext (exN e C_BadTurn none)) d = none → E (.ref C_BadTurn) (some d) (dropH (upd (upd (upd H1 e (.ext (exN e C_BadTurn none))) d (.xd [("turn", .int z.n)])) e (.ext (exN e C_BadTurn (some d)))) e) := fun H1 S1 e he d hd => by
          obtain ⟨s1, s2⟩ := dropx (C := C_BadTurn) (f := "turn") (v := .int z.n) S1 he hd
          exact q2 hf _ d s1 s2
        generalize h_u1 : tHold _ = u1
        walk_at "wps"
        refine co_list (xs := cs.map V.int) (p := fun _ => true) (f := fun v => match v with | .int c => V.bl (earl z c && (valV z.S (ik c)).isSome) | _ => .non) (SqL.of hcl) (small_ok (by rw [List.length_map]; exact w.lc)) (fun y _ Q' q' => by walk_at "wps"; exact q') ?_ ?_
        · intro y hy _ Q' q'
          obtain ⟨c, hc, rfl⟩ := List.mem_map.mp hy
          exists hP.hx
          exact ⟨dx, ps, pa, pf, z, hP, q'⟩
        rw [filt_bl (fun c => earl z c && (valV z.S (ik c)).isSome)]
        refine ⟨small_ok (by rw [List.length_map, List.length_map]; exact w.lc), fun l1 hl1 => ⟨_, SqL.of upd_same, ?_⟩⟩
        have S1 := same_upd (o := .lst ((cs.map fun c => earl z c && (valV z.S (ik c)).isSome).map V.bl)) hl1
        have P1 := hP.same S1
        have al1 := S1 _ _ hal
        generalize upd H l1 (.lst ((cs.map fun c => earl z c && (valV z.S (ik c)).isSome).map V.bl)) = H1 at *
        cases ec : (cs.map fun c => earl z c && (valV z.S (ik c)).isSome).all id
        · rw [if_pos rfl]
          exists P1.hx
          exact fun e he d hd => ⟨_, rfl, fail H1 S1 e he d hd⟩
        rw [if_neg (by decide)]
        rw [← h_u1, tHold]
        generalize h_u2 : tHold _ = u2
        walk_at "wps"
        refine co_list (xs := as.map V.int) (p := fun _ => true) (f := fun v => match v with | .int c => V.bl (earl z c) | _ => .non) (SqL.of al1) (small_ok (by rw [List.length_map]; exact w.la)) (fun y _ Q' q' => by walk_at "wps"; exact q') ?_ ?_
        · intro y hy _ Q' q'
          obtain ⟨c, hc, rfl⟩ := List.mem_map.mp hy
          exists P1.hx
          exact ⟨dx, ps, pa, pf, z, P1, q'⟩
        rw [filt_bl (fun c => earl z c)]
        refine ⟨small_ok (by rw [List.length_map, List.length_map]; exact w.la), fun l2 hl2 => ⟨_, SqL.of upd_same, ?_⟩⟩
        have S2 := same_upd (o := .lst ((as.map fun c => earl z c).map V.bl)) hl2
        have P2 := P1.same S2
        have al2 := S2 _ _ al1
        have S3 : Same H _ := fun b o e => S2 b o (S1 b o e)
        generalize upd H1 l2 (.lst ((as.map fun c => earl z c).map V.bl)) = H2 at *
        cases ea : (as.map fun c => earl z c).all id
        · rw [if_pos rfl]
          exists P2.hx
          exact fun e he d hd => ⟨_, rfl, fail H2 S3 e he d hd⟩
        rw [if_neg (by decide)]
        have ec' : ∀ c ∈ cs, (earl z c && (valV z.S (ik c)).isSome) = true := fun c hc => by
          rw [List.all_eq_true] at ec
          exact ec _ (List.mem_map.mpr ⟨c, hc, rfl⟩)
        have ea' : ∀ a ∈ as, earl z a = true := fun c hc => by
          rw [List.all_eq_true] at ea
          exact ea _ (List.mem_map.mpr ⟨c, hc, rfl⟩)
        rw [← h_u2, tHold]
        generalize h_u3 : tHold _ = u3
        exists P2.hx
        have m0 := w.fok.m0
        have mr := w.fok.mr
        refine ⟨dx, ps, pa, pf, z, as, P2, by omega, al2, fun a h => ?_, ?_⟩
        · have h2 := earl_in (ea' a h)
          have := w.hn
          exact ⟨h2.1, by omega⟩
        rcases w.sc with rfl | ⟨p, rfl⟩
        · exact absurd ⟨ec', ea', .inl rfl⟩ hf
        have nf : ¬ (bbs z.R z.t z.b (as.map fun a => z.A.getD a.toNat 0) ≤ p ∧ p ≤ bbs z.R z.t z.b (as.map fun a => z.A.getD a.toNat 0) + z.M - 1 ∧ p ≤ z.t) := fun hh => hf ⟨ec', ea', .inr ⟨p, rfl, hh⟩⟩
        generalize bbs z.R z.t z.b (as.map fun a => z.A.getD a.toNat 0) = b' at *
        exists P2.hx
        have ff : ∀ e, H2 e = none → ∀ d, upd H2 e (.ext (exN e C_BadTurn none)) d = none → ∃ dx, some (HO.ext (exN e C_BadTurn (some d))) = some (HO.ext (exN e C_BadTurn dx)) ∧ E (.ref C_BadTurn) dx (dropH (upd (upd (upd H2 e (.ext (exN e C_BadTurn none))) d (.xd [("turn", .int z.n)])) e (.ext (exN e C_BadTurn (some d)))) e) := fun e he d hd => ⟨_, rfl, fail H2 S3 e he d hd⟩
        by_cases c1 : b' ≤ p
        · rw [if_pos c1, if_pos (fun c2 => nf ⟨c1, by split at c2 <;> omega⟩)]
          exact ff
        · rw [if_neg c1]
          exact ff
    · exact h.elim
theorem ok__law_whole (T : Txt K mg C_Pair C_RoadError C_BadPair C_BadTurn)  : FnAt P w K mg base (CX1 P w) "_law_whole" 1 ["_law_found"] sp__law_whole := by
  refine T.d__law_whole.fn sc__law_whole bd__law_whole (fun vs H Q E h => ?_) fun f cdv A outer s H vs Q E HR h => ?_
  · unfold sp__law_whole at h; split at h <;> first | rfl | exact h.elim
  · unfold sp__law_whole at h
    split at h
    · skip
      refine ⟨_, (pss_one (ps_ret (pe_and (pe_callBQ (call_isiB K rfl) (by rfl) T.b_isinstance bt_isinstance (pa_q (pv 0) (pa_q (pe_ty rfl T.b_int bt_int) pa_nil))) (pe_one (pe_not (pe_callBQ (call_isiB K rfl) (by rfl) T.b_isinstance bt_isinstance (pa_q (pv 0) (pa_q (pe_ty rfl T.b_bool bt_bool) pa_nil)))))))), ?_⟩
      walk_at "wps"
      exact h
    · exact h.elim
theorem ok__law_cell_at (T : Txt K mg C_Pair C_RoadError C_BadPair C_BadTurn)  (a₀ : Addr) (ns : List Int) : FnAt P w K mg base (CX1 P w) "_law_cell_at" 1 ["_law_script", "_law_k"] (sp__law_cell_at K a₀ ns) := by
  refine T.d__law_cell_at.fn sc__law_cell_at bd__law_cell_at (fun vs H Q E h => ?_) fun f cdv A outer s H vs Q E HR h => ?_
  · unfold sp__law_cell_at at h; split at h <;> first | rfl | exact h.elim
  · unfold sp__law_cell_at at h
    split at h
    · rename_i a k
      refine ⟨_, (pss_cons (ps_if (pt_cmpR op_lt (pv 1) (pe_callBQ (call_lenK K rfl) (by rfl) T.b_len bt_len (pa_q (pv 0) pa_nil)) (nomark _)) (pss_one (ps_ret (pe_ix (ix_K K rfl) (pv 0) (pv 1) (fun _ _ => rfl)))) pss_nil)
  (pss_one (ps_ret pe_int))), ?_⟩
      obtain ⟨rfl, hS, h0, q⟩ := h
      walk_at "wps"
      refine ⟨_, .inl hS, ?_⟩
      rw [List.length_map]
      split
      · rename_i c; exact ixA_ints hS h0 c (q _)
      · exact q _
    · exact h.elim
theorem ok_need (T : Txt K mg C_Pair C_RoadError C_BadPair C_BadTurn)  : FnAt P w K mg base (CX1 P w) "need" 1 ["room", "lag"] sp_need := by
  refine T.d_need.fn sc_need bd_need (fun vs H Q E h => ?_) fun f cdv A outer s H vs Q E HR h => ?_
  · unfold sp_need at h; split at h <;> first | rfl | exact h.elim
  · unfold sp_need at h
    split at h
    · rename_i r l
      refine ⟨_, (pss_one (ps_ret (pe_ifExp (pt_cmpR (op_eqXK K rfl HR.units) (pv 0) pe_int (nomark _)) (pe_op (op_addK K rfl) pe_int (pe_op op_fdiv (pv 1) pe_int)) (pe_op op_sub (pe_op (op_addK K rfl) (pe_op op_mul pe_int (pv 0)) (pv 1)) pe_int)))), ?_⟩
      walk_at "wps"
      unfold needF at h
      split
      · rename_i c; rw [if_pos c] at h; exact h
      · rename_i c; rw [if_neg c] at h; exact h
    · exact h.elim
theorem ok__law_need (T : Txt K mg C_Pair C_RoadError C_BadPair C_BadTurn)  : FnAt P w K mg base (CX1 P w) "_law_need" 1 ["_law_room", "_law_lag"] sp__law_need := by
  refine T.d__law_need.fn sc__law_need bd__law_need (fun vs H Q E h => ?_) fun f cdv A outer s H vs Q E HR h => ?_
  · unfold sp__law_need at h; split at h <;> first | rfl | exact h.elim
  · unfold sp__law_need at h
    split at h
    · rename_i r l
      refine ⟨_, (pss_cons (ps_if (pt_cmpR (op_eqXK K rfl HR.units) (pv 0) pe_int (nomark _)) (pss_one (ps_ret (pe_op (op_addK K rfl) pe_int (pe_op op_fdiv (pv 1) pe_int)))) pss_nil)
  (pss_one (ps_ret (pe_op op_sub (pe_op (op_addK K rfl) (pe_op op_mul pe_int (pv 0)) (pv 1)) pe_int)))), ?_⟩
      walk_at "wps"
      unfold needF at h
      split
      · rename_i c; rw [if_pos c] at h; exact h
      · rename_i c; rw [if_neg c] at h; exact h
    · exact h.elim
--SPLIT
theorem ok_coming_ahead_of (T : Txt K mg C_Pair C_RoadError C_BadPair C_BadTurn)  : FnAt P w K mg base (CX1 P w) "coming_ahead_of" 1 ["turn", "kept_back"] sp_coming_ahead_of := by
  refine T.d_coming_ahead_of.fn sc_coming_ahead_of bd_coming_ahead_of (fun vs H Q E h => ?_) fun f cdv A outer s H vs Q E HR h => ?_
  · unfold sp_coming_ahead_of at h; split at h <;> first | rfl | exact h.elim
  · unfold sp_coming_ahead_of at h
    split at h
    · rename_i i kb
      refine ⟨_, (pss_one (ps_ret (pe_ifExp (pt_cmpR (op_eqXK K rfl HR.units) (pe_op op_sub (pv 0) pe_int) (pv 1) (nomark _)) (pe_lst pa_nil) (pe_lst (pa_q (pe_op op_sub (pv 0) pe_int) pa_nil))))), ?_⟩
      walk_at "wps"
      unfold comA at h
      split
      · rename_i c; rw [if_pos c] at h; exact h
      · rename_i c; rw [if_neg c] at h; exact h
    · exact h.elim
theorem ok_fooling_one (T : Txt K mg C_Pair C_RoadError C_BadPair C_BadTurn)  : FnAt P w K mg base (CX1 P w) "fooling_one" 1 ["ring"] sp_fooling_one := by
  refine T.d_fooling_one.fn sc_fooling_one bd_fooling_one (fun vs H Q E h => ?_) fun f cdv A outer s H vs Q E HR h => ?_
  · unfold sp_fooling_one at h; split at h <;> first | rfl | exact h.elim
  · unfold sp_fooling_one at h
    split at h
    · rename_i r
      refine qex (qss_cons (qs_setQ (i := 1) sc_fooling_one.nd rfl (Or.inl rfl) (qe_lst (qa_q (qe_tup (qa_q (qe_lst qa_nil) (qa_q (qe_lst qa_nil) (qa_q ⟨pe_int⟩ qa_nil)))) (qa_q (qe_tup (qa_q (qe_lst (qa_q ⟨pe_int⟩ qa_nil)) (qa_q (qe_lst qa_nil) (qa_q ⟨pe_int⟩ qa_nil)))) qa_nil))))
  (qss_hold (qss_cons ⟨(ps_for PassesOwn.never rfl (pj_range2 rfl T.b_range (pa_q pe_int (pa_q (pv 0) pa_nil))) (pg_name (i := 2) sc_fooling_one.nd rfl (Or.inl rfl)) (pss_cons (ps_exprQ (pe_appendK K rfl (pv 1) (pe_tup (pa_q (pe_lst pa_nil) (pa_q (pe_lst (pa_q (pe_op op_sub (pe_op op_mul pe_int (pv 2)) pe_int) pa_nil)) (pa_q (pv 2) pa_nil))))))
  (pss_one (ps_exprQ (pe_appendK K rfl (pv 1) (pe_tup (pa_q (pe_ifExp (pt_cmpR op_lt (pv 2) (pe_op op_sub (pv 0) pe_int) (nomark _)) (pe_lst (pa_q (pe_op op_mul pe_int (pv 2)) pa_nil)) (pe_lst (pa_q (pe_op op_mul pe_int (pv 2)) (pa_q pe_int pa_nil)))) (pa_q (pe_lst pa_nil) (pa_q pe_non pa_nil)))))))))⟩
  (qss_hold (qss_one ⟨(ps_ret (pv 1))⟩))))) ?_
      obtain ⟨h1, h2, q⟩ := h
      generalize h_u1 : tHold _ = u1
      walk_at "wps"
      have S0 : Same H H := Same.refl H
      intro c0 n_c0
      have e_c0 := upd_same (H := H) (a := c0) (o := (.lst []))
      have s_c0 := same_upd (H := H) (o := (.lst [])) n_c0
      replace S0 := S0.trans s_c0
      generalize upd H c0 ((.lst [])) = H1 at *
      intro a0 n_a0
      have e_a0 := upd_same (H := H1) (a := a0) (o := (.lst []))
      have s_a0 := same_upd (H := H1) (o := (.lst [])) n_a0
      replace e_c0 := s_a0 _ _ e_c0
      replace S0 := S0.trans s_a0
      generalize upd H1 a0 ((.lst [])) = H2 at *
      intro q0 n_q0
      have e_q0 := upd_same (H := H2) (a := q0) (o := (.tup [.ref c0, .ref a0, .int 0]))
      have s_q0 := same_upd (H := H2) (o := (.tup [.ref c0, .ref a0, .int 0])) n_q0
      replace e_c0 := s_q0 _ _ e_c0
      replace e_a0 := s_q0 _ _ e_a0
      replace S0 := S0.trans s_q0
      generalize upd H2 q0 ((.tup [.ref c0, .ref a0, .int 0])) = H3 at *
      intro c1 n_c1
      have e_c1 := upd_same (H := H3) (a := c1) (o := (.lst [.int 0]))
      have s_c1 := same_upd (H := H3) (o := (.lst [.int 0])) n_c1
      replace e_c0 := s_c1 _ _ e_c0
      replace e_a0 := s_c1 _ _ e_a0
      replace e_q0 := s_c1 _ _ e_q0
      replace S0 := S0.trans s_c1
      generalize upd H3 c1 ((.lst [.int 0])) = H4 at *
      intro a1 n_a1
      have e_a1 := upd_same (H := H4) (a := a1) (o := (.lst []))
      have s_a1 := same_upd (H := H4) (o := (.lst [])) n_a1
      replace e_c0 := s_a1 _ _ e_c0
      replace e_a0 := s_a1 _ _ e_a0
      replace e_q0 := s_a1 _ _ e_q0
      replace e_c1 := s_a1 _ _ e_c1
      replace S0 := S0.trans s_a1
      generalize upd H4 a1 ((.lst [])) = H5 at *
      intro q1 n_q1
      have e_q1 := upd_same (H := H5) (a := q1) (o := (.tup [.ref c1, .ref a1, .int 0]))
      have s_q1 := same_upd (H := H5) (o := (.tup [.ref c1, .ref a1, .int 0])) n_q1
      replace e_c0 := s_q1 _ _ e_c0
      replace e_a0 := s_q1 _ _ e_a0
      replace e_q0 := s_q1 _ _ e_q0
      replace e_c1 := s_q1 _ _ e_c1
      replace e_a1 := s_q1 _ _ e_a1
      replace S0 := S0.trans s_q1
      generalize upd H5 q1 ((.tup [.ref c1, .ref a1, .int 0])) = H6 at *
      have S6 := S0
      intro pl n_pl
      have e_pl := upd_same (H := H6) (a := pl) (o := (.lst [.ref q0, .ref q1]))
      have s_pl := same_upd (H := H6) (o := (.lst [.ref q0, .ref q1])) n_pl
      replace e_c0 := s_pl _ _ e_c0
      replace e_a0 := s_pl _ _ e_a0
      replace e_q0 := s_pl _ _ e_q0
      replace e_c1 := s_pl _ _ e_c1
      replace e_a1 := s_pl _ _ e_a1
      replace e_q1 := s_pl _ _ e_q1
      replace S0 := S0.trans s_pl
      generalize upd H6 pl ((.lst [.ref q0, .ref q1])) = H7 at *
      have f_pl : H pl = none := free_of S6 n_pl
      have T0 : TsAt H7 pl 2 (fOne r) := ⟨_, e_pl, rfl, fun i v hv => match i, hv with
        | 0, hv => ⟨q0, c0, a0, by simpa using hv.symm, e_q0, e_c0, e_a0, ne_of e_c0 e_pl (by simp), ne_of e_a0 e_pl (by simp)⟩
        | 1, hv => ⟨q1, c1, a1, by simpa using hv.symm, e_q1, e_c1, e_a1, ne_of e_c1 e_pl (by simp), ne_of e_a1 e_pl (by simp)⟩
        | i + 2, hv => by simp at hv⟩
      clear S6 e_c0 e_a0 e_q0 e_c1 e_a1 e_q1 e_pl
      rw [← h_u1, tHold]
      generalize h_u2 : tHold _ = u2
      walk_at "wps"
      refine ⟨by omega, ?_⟩
      refine fo_rng (lo := 1) (n := (r - 1).toNat) (fun k σ H' => (∃ v2, σ = [some (.int r), some (.ref pl), v2]) ∧ Same H H' ∧ TsAt H' pl (2 + 2 * k) (fOne r)) ⟨⟨_, rfl⟩, S0, T0⟩ (fun k σ H' hk hp => ?_) (fun σ H' hp => ?_)
      · obtain ⟨⟨v2, rfl⟩, Sk, vs, t1, t2, t3⟩ := hp
        exists t1
        refine ⟨tyV_list (SqL.of t1), fun c hc a ha qq hq => ?_⟩
        have ef : fOne r (2 + 2 * k) = ⟨[], [2 * (1 + (k : Int)) - 1], .int (1 + (k : Int))⟩ := by
          unfold fOne
          rw [if_neg (by omega), if_neg (by omega), if_pos (by omega), show ((2 + 2 * k) / 2 : Nat) = 1 + k by omega]
          rfl
        obtain ⟨e1, S2, T2⟩ := ts_app (f := fOne r) Sk f_pl t1 t2 t3 hc ha hq (by rw [ef]; rfl) (by rw [ef]; rfl) (by rw [ef])
        refine ⟨vs, e1, by rw [sizeLine_eq]; omega, ?_⟩
        clear e1 t1 t3 hc ha hq
        generalize upd (upd (upd (upd H' c (.lst [])) a (.lst [.int (2 * (1 + (k : Int)) - 1)])) qq (.tup [.ref c, .ref a, .int (1 + (k : Int))])) pl (.lst (vs ++ [.ref qq])) = H8 at *
        clear Sk t2 vs
        obtain ⟨vs, t1, t2, t3⟩ := T2
        refine ⟨tyV_list (SqL.of t1), ?_⟩
        by_cases ck : 1 + (k : Int) < r - 1
        · rw [if_pos ck]
          intro c2 hc2 a2 ha2 q2 hq2
          have ef2 : fOne r (2 + 2 * k + 1) = ⟨[2 * (1 + (k : Int))], [], .non⟩ := by
            unfold fOne
            rw [if_neg (by omega), if_neg (by omega), if_neg (by omega), show ((2 + 2 * k + 1) / 2 : Nat) = 1 + k by omega]
            rw [if_pos (by omega)]; rfl
          obtain ⟨e1, S3, T3⟩ := ts_app (f := fOne r) S2 f_pl t1 t2 t3 hc2 ha2 hq2 (by rw [ef2]; rfl) (by rw [ef2]; rfl) (by rw [ef2])
          exact ⟨vs, e1, by rw [sizeLine_eq]; omega, ⟨_, rfl⟩, S3, T3⟩
        · rw [if_neg ck]
          intro c2 hc2 a2 ha2 q2 hq2
          have ef2 : fOne r (2 + 2 * k + 1) = ⟨[2 * (1 + (k : Int)), 1], [], .non⟩ := by
            unfold fOne
            rw [if_neg (by omega), if_neg (by omega), if_neg (by omega), show ((2 + 2 * k + 1) / 2 : Nat) = 1 + k by omega]
            rw [if_neg (by omega)]; rfl
          obtain ⟨e1, S3, T3⟩ := ts_app (f := fOne r) S2 f_pl t1 t2 t3 hc2 ha2 hq2 (by rw [ef2]; rfl) (by rw [ef2]; rfl) (by rw [ef2])
          exact ⟨vs, e1, by rw [sizeLine_eq]; omega, ⟨_, rfl⟩, S3, T3⟩
      · obtain ⟨⟨v2, rfl⟩, Sk, Tk⟩ := hp
        rw [← h_u2, tHold]
        walk_at "wps"
        rw [show 2 + 2 * (r - 1).toNat = (2 * r).toNat by omega] at Tk
        exact q pl H' Sk Tk
    · exact h.elim
theorem ok_fooling_many (T : Txt K mg C_Pair C_RoadError C_BadPair C_BadTurn)  : FnAt P w K mg base (CX1 P w) "fooling_many" 2 ["ring", "room"] sp_fooling_many := by
  refine T.d_fooling_many.fn sc_fooling_many bd_fooling_many (fun vs H Q E h => ?_) fun f cdv A outer s H vs Q E HR h => ?_
  · unfold sp_fooling_many at h; split at h <;> first | rfl | exact h.elim
  · unfold sp_fooling_many at h
    split at h
    · rename_i r m
      refine qex (qss_cons ⟨(ps_setQ (i := 2) sc_fooling_many.nd rfl (Or.inl rfl) (pe_op (op_addK K rfl) (pe_op op_sub (pv 0) (pv 1)) pe_int))⟩
  (qss_cons ⟨(ps_setQ (i := 3) sc_fooling_many.nd rfl (Or.inl rfl) (pe_callBQ (call_minA rfl) (by rfl) T.b_min bt_min (pa_q (pv 2) (pa_q (pv 1) pa_nil))))⟩
  (qss_hold (qss_cons (qs_setQ (i := 4) sc_fooling_many.nd rfl (Or.inl rfl) (qe_lst (qa_q (qe_tup (qa_q (qe_lst qa_nil) (qa_q (qe_lst qa_nil) (qa_q ⟨pe_int⟩ qa_nil)))) qa_nil)))
  (qss_hold (qss_cons ⟨(ps_for PassesOwn.never rfl (pj_range2 rfl T.b_range (pa_q pe_int (pa_q (pv 3) pa_nil))) (pg_name (i := 5) sc_fooling_many.nd rfl (Or.inl rfl)) (pss_one (ps_exprQ (pe_appendK K rfl (pv 4) (pe_tup (pa_q (pe_lst (pa_q (pe_op op_sub (pv 5) pe_int) pa_nil)) (pa_q (pe_lst pa_nil) (pa_q (pv 5) pa_nil))))))))⟩
  (qss_hold (qss_cons ⟨(ps_exprQ (pe_appendK K rfl (pv 4) (pe_tup (pa_q (pe_lst (pa_q (pe_op op_sub (pv 3) pe_int) pa_nil)) (pa_q (pe_lst pa_nil) (pa_q pe_int pa_nil))))))⟩
  (qss_hold (qss_cons ⟨(ps_for PassesOwn.never rfl (pj_range2 rfl T.b_range (pa_q (pe_op (op_addK K rfl) (pv 3) pe_int) (pa_q (pe_op (op_addK K rfl) (pv 2) pe_int) pa_nil))) (pg_name (i := 5) sc_fooling_many.nd rfl (Or.inl rfl)) (pss_one (ps_exprQ (pe_appendK K rfl (pv 4) (pe_tup (pa_q (pe_fnQ (ok_coming_ahead_of T) HR (by decide) rfl (pa_q (pv 5) (pa_q (pv 3) pa_nil))) (pa_q (pe_lst (pa_q (pe_op op_sub (pv 5) pe_int) pa_nil)) (pa_q (pe_op op_sub (pv 5) pe_int) pa_nil))))))))⟩
  (qss_hold (qss_cons ⟨(ps_exprQ (pe_appendK K rfl (pv 4) (pe_tup (pa_q (pe_op (op_addK K rfl) (pe_fnQ (ok_coming_ahead_of T) HR (by decide) rfl (pa_q (pe_op (op_addK K rfl) (pv 2) pe_int) (pa_q (pv 3) pa_nil))) (pe_lst (pa_q (pv 3) pa_nil))) (pa_q (pe_lst pa_nil) (pa_q pe_non pa_nil))))))⟩
  (qss_hold (qss_one ⟨(ps_ret (pv 4))⟩)))))))))))))) ?_
      obtain ⟨h1, h2, h3, h4, q⟩ := h
      generalize h_u1 : tHold _ = u1
      walk_at "wps"
      rw [show (if m < r - m + 1 then m else r - m + 1) = agn r m from rfl]
      have a1 : 2 ≤ agn r m ∧ agn r m ≤ m ∧ agn r m ≤ r - m + 1 := by unfold agn; split <;> omega
      generalize agn r m = A at *
      rw [show (r - m + 3).toNat = (r - m + 1).toNat + 2 by omega] at q
      have g1 : 2 ≤ r - m + 1 ∧ r - m + 1 ≤ 1000 := by omega
      generalize r - m + 1 = G at *
      rw [← h_u1, tHold]
      generalize h_u2 : tHold _ = u2
      walk_at "wps"
      have S0 : Same H H := Same.refl H
      intro c0 n_c0
      have e_c0 := upd_same (H := H) (a := c0) (o := (.lst []))
      have s_c0 := same_upd (H := H) (o := (.lst [])) n_c0
      replace S0 := S0.trans s_c0
      generalize upd H c0 ((.lst [])) = H1 at *
      intro a0 n_a0
      have e_a0 := upd_same (H := H1) (a := a0) (o := (.lst []))
      have s_a0 := same_upd (H := H1) (o := (.lst [])) n_a0
      replace e_c0 := s_a0 _ _ e_c0
      replace S0 := S0.trans s_a0
      generalize upd H1 a0 ((.lst [])) = H2 at *
      intro q0 n_q0
      have e_q0 := upd_same (H := H2) (a := q0) (o := (.tup [.ref c0, .ref a0, .int 0]))
      have s_q0 := same_upd (H := H2) (o := (.tup [.ref c0, .ref a0, .int 0])) n_q0
      replace e_c0 := s_q0 _ _ e_c0
      replace e_a0 := s_q0 _ _ e_a0
      replace S0 := S0.trans s_q0
      generalize upd H2 q0 ((.tup [.ref c0, .ref a0, .int 0])) = H3 at *
      have S3 := S0
      intro pl n_pl
      have e_pl := upd_same (H := H3) (a := pl) (o := (.lst [.ref q0]))
      have s_pl := same_upd (H := H3) (o := (.lst [.ref q0])) n_pl
      replace e_c0 := s_pl _ _ e_c0
      replace e_a0 := s_pl _ _ e_a0
      replace e_q0 := s_pl _ _ e_q0
      replace S0 := S0.trans s_pl
      generalize upd H3 pl ((.lst [.ref q0])) = H4 at *
      have f_pl : H pl = none := free_of S3 n_pl
      have T0 : TsAt H4 pl 1 (fMany G A) := ⟨_, e_pl, rfl, fun i v hv => match i, hv with
        | 0, hv => ⟨q0, c0, a0, by simpa using hv.symm, e_q0, e_c0, e_a0, ne_of e_c0 e_pl (by simp), ne_of e_a0 e_pl (by simp)⟩
        | i + 1, hv => by simp at hv⟩
      clear S3 e_c0 e_a0 e_q0 e_pl
      rw [← h_u2, tHold]
      generalize h_u3 : tHold _ = u3
      walk_at "wps"
      refine ⟨by omega, ?_⟩
      refine fo_rng (lo := 1) (n := (A - 1).toNat) (fun k σ H' => (∃ v5, σ = [some (.int r), some (.int m), some (.int G), some (.int A), some (.ref pl), v5]) ∧ Same H H' ∧ TsAt H' pl (1 + k) (fMany G A)) ⟨⟨_, rfl⟩, S0, T0⟩ (fun k σ H' hk hp => ?_) (fun σ H' hp => ?_)
      · obtain ⟨⟨v5, rfl⟩, Sk, vs, t1, t2, t3⟩ := hp
        exists t1
        refine ⟨tyV_list (SqL.of t1), fun c hc a ha qq hq => ?_⟩
        have ef : fMany G A (1 + k) = ⟨[1 + (k : Int) - 1], [], .int (1 + (k : Int))⟩ := by
          unfold fMany
          rw [if_neg (by omega), if_pos (by omega), show ((1 + k : Nat) : Int) = 1 + (k : Int) by omega]
        obtain ⟨e1, S2, T2⟩ := ts_app (f := fMany G A) Sk f_pl t1 t2 t3 hc ha hq (by rw [ef]; rfl) (by rw [ef]; rfl) (by rw [ef])
        exact ⟨vs, e1, by rw [sizeLine_eq]; omega, ⟨_, rfl⟩, S2, T2⟩
      obtain ⟨⟨v5, rfl⟩, Sk, vs, t1, t2, t3⟩ := hp
      rw [show 1 + (A - 1).toNat = A.toNat by omega] at t2
      rw [← h_u3, tHold]
      generalize h_u4 : tHold _ = u4
      exists t1
      refine ⟨tyV_list (SqL.of t1), fun c hc a ha qq hq => ?_⟩
      have ef : fMany G A A.toNat = ⟨[A - 1], [], .int 0⟩ := by
        unfold fMany
        rw [if_neg (by omega), if_neg (by omega), if_pos (by omega)]
      obtain ⟨e1, S2, T2⟩ := ts_app (f := fMany G A) Sk f_pl t1 t2 t3 hc ha hq (by rw [ef]; rfl) (by rw [ef]; rfl) (by rw [ef])
      refine ⟨vs, e1, by rw [sizeLine_eq]; omega, ?_⟩
      clear e1 t1 t3 hc ha hq
      generalize upd (upd (upd (upd H' c (.lst [.int (A - 1)])) a (.lst [])) qq (.tup [.ref c, .ref a, .int 0])) pl (.lst (vs ++ [.ref qq])) = H8 at *
      clear Sk t2 vs ef
      rw [← h_u4, tHold]
      generalize h_u5 : tHold _ = u5
      walk_at "wps"
      refine ⟨⟨by omega, by omega⟩, ?_⟩
      refine fo_rng (lo := A + 1) (n := (G + 1 - (A + 1)).toNat) (fun k σ H' => (∃ v5, σ = [some (.int r), some (.int m), some (.int G), some (.int A), some (.ref pl), v5]) ∧ Same H H' ∧ TsAt H' pl (A.toNat + 1 + k) (fMany G A)) ⟨⟨_, rfl⟩, S2, T2⟩ (fun k σ H' hk hp => ?_) (fun σ H' hp => ?_)
      · obtain ⟨⟨v5, rfl⟩, Sk, vs, t1, t2, t3⟩ := hp
        exists t1
        refine ⟨tyV_list (SqL.of t1), fun c hc a ha qq hq => ?_⟩
        have ef : fMany G A (A.toNat + 1 + k) = ⟨comA (A + 1 + k) A, [A + 1 + (k : Int) - 1], .int (A + 1 + (k : Int) - 1)⟩ := by
          unfold fMany
          rw [if_neg (by omega), if_neg (by omega), if_neg (by omega), if_pos (by omega), show ((A.toNat + 1 + k : Nat) : Int) = A + 1 + (k : Int) by omega]
        obtain ⟨e1, S2, T2⟩ := ts_app (f := fMany G A) Sk f_pl t1 t2 t3 hc ha hq (by rw [ef]) (by rw [ef]; rfl) (by rw [ef])
        exact ⟨vs, e1, by rw [sizeLine_eq]; omega, ⟨_, rfl⟩, S2, T2⟩
      obtain ⟨⟨v6, rfl⟩, Sk, vs, t1, t2, t3⟩ := hp
      rw [show A.toNat + 1 + (G + 1 - (A + 1)).toNat = G.toNat + 1 by omega] at t2
      rw [← h_u5, tHold]
      exists t1
      refine ⟨tyV_list (SqL.of t1), ?_⟩
      have T1 : TsAt H' pl (G.toNat + 1) (fMany G A) := ⟨vs, t1, t2, t3⟩
      clear t1 t2 t3
      intro y1 n_y1
      have e_y1 := upd_same (H := H') (a := y1) (o := (.lst ((comA (G + 1) A).map V.int)))
      have s_y1 := same_upd (H := H') (o := (.lst ((comA (G + 1) A).map V.int))) n_y1
      replace Sk := Sk.trans s_y1
      generalize upd H' y1 ((.lst ((comA (G + 1) A).map V.int))) = H9 at *
      replace T1 := T1.same s_y1
      intro y2 n_y2
      have e_y2 := upd_same (H := H9) (a := y2) (o := (.lst [.int A]))
      have s_y2 := same_upd (H := H9) (o := (.lst [.int A])) n_y2
      replace e_y1 := s_y2 _ _ e_y1
      replace Sk := Sk.trans s_y2
      generalize upd H9 y2 ((.lst [.int A])) = H10 at *
      replace T1 := T1.same s_y2
      refine addA_lists e_y1 e_y2 (by rw [List.length_map, sizeLine_eq]; unfold comA; split <;> simp) ?_
      intro c hc a ha qq hq
      obtain ⟨vs, t1, t2, t3⟩ := T1
      have ef : fMany G A (G.toNat + 1) = ⟨comA (G + 1) A ++ [A], [], .non⟩ := by
        unfold fMany
        rw [if_neg (by omega), if_neg (by omega), if_neg (by omega), if_neg (by omega)]
      obtain ⟨e1, S2, T2⟩ := ts_app (f := fMany G A) Sk f_pl t1 t2 t3 hc ha hq (by rw [ef, List.map_append]; rfl) (by rw [ef]; rfl) (by rw [ef])
      refine ⟨vs, e1, by rw [sizeLine_eq]; omega, ?_⟩
      rw [tHold]
      walk_at "wps"
      exact q pl _ S2 T2
    · exact h.elim
theorem ok_fooling (T : Txt K mg C_Pair C_RoadError C_BadPair C_BadTurn)  : FnAt P w K mg base (CX1 P w) "fooling" 3 ["ring", "room", "lag"] sp_fooling := by
  refine T.d_fooling.fnX sc_fooling bd_fooling (fun vs H Q E h => ?_) fun f cdv A outer s H vs Q E HR h => ?_
  · unfold sp_fooling at h; split at h <;> first | rfl | exact h.elim
  · unfold sp_fooling at h
    split at h
    · rename_i r m g
      refine ⟨_, (pss_cons (ps_exprQ (pe_fnE (ok_check_pair T) HR (by decide) rfl rz_fn rfl (pa_q (pv 0) (pa_q (pv 1) (pa_q (pv 2) pa_nil)))))
  (pss_cons (PS.nox (ps_if (pt_cmpR op_ge (pv 0) (pe_fnQ (ok_need T) HR (by decide) rfl (pa_q (pv 1) (pa_q (pv 2) pa_nil))) (nomark _)) (pss_one (ps_ret (pe_lst pa_nil))) pss_nil))
  (pss_one (PS.nox (ps_ret (pe_ifExp (pt_cmpR (op_eqXK K rfl HR.units) (pv 1) pe_int (nomark _)) (pe_fnQ (ok_fooling_one T) HR (by decide) rfl (pa_q (pv 0) pa_nil)) (pe_fnQ (ok_fooling_many T) HR (by decide) rfl (pa_q (pv 0) (pa_q (pv 1) pa_nil))))))))), ?_⟩
      obtain ⟨h1, q1, q2⟩ := h
      walk_at "wps"
      refine ⟨fun _ => ?_, fun n => absurd h1 n⟩
      by_cases c : needF m g ≤ r
      · rw [if_pos c]
        exact fun p hp => q1 c p _ (same_upd hp) upd_same
      rw [if_neg c]
      have q := q2 (by omega)
      obtain ⟨k1, k2, k3, k4, k5, k6⟩ := h1
      unfold needF at c
      unfold nOf fOf at q
      by_cases c1 : m = 1
      · rw [if_pos c1] at c ⊢
        rw [if_pos c1, if_pos c1] at q
        exact ⟨by omega, by omega, q⟩
      · rw [if_neg c1] at c ⊢
        rw [if_neg c1, if_neg c1] at q
        exact ⟨by omega, by omega, by omega, by omega, q⟩
    · exact h.elim
theorem ok__law_row (T : Txt K mg C_Pair C_RoadError C_BadPair C_BadTurn)  : FnAt P w K mg base (CX1 P w) "_law_row" 2 ["_law_found"] sp__law_row := by
  refine T.d__law_row.fn sc__law_row bd__law_row (fun vs H Q E h => ?_) fun f cdv A outer s H vs Q E HR h => ?_
  · unfold sp__law_row at h; split at h <;> first | rfl | exact h.elim
  · unfold sp__law_row at h
    split at h
    · rename_i p
      refine ⟨_, (pss_cons (ps_if (PW.pt (pw_or (pt_not (pt_q (pe_callBQ (call_isiB K rfl) (by rfl) T.b_isinstance bt_isinstance (pa_q (pv 0) (pa_q (pe_ty rfl T.b_list bt_list) pa_nil))))) (pw_or1 (pt_cmpR op_gt (pe_callBQ (call_lenB K rfl) (by rfl) T.b_len bt_len (pa_q (pv 0) pa_nil)) pe_int (nomark _))))) (pss_one (ps_ret pe_bl)) pss_nil)
  (pss_one (ps_ret (pe_callBQ (call_allK K rfl rfl) (by rfl) T.b_all bt_all (pa_q (pe_comp (N := (["_law_birth"] : List Str)) (nv := 1) (ix := []) rfl (cs_of (by kernel_rfl)) (pi_seqK K rfl (pv 0)) (fun _ _ _ _ _ => (pg_name (i := 0) (show ((["_law_birth"] : List Str)).Nodup by decide) rfl (Or.inl rfl))) (fun _ _ _ _ _ => pts_nil) (fun _ _ _ _ _ => (pe_fnQ (ok__law_whole T) HR (by decide) rfl (pa_q (pv 0) pa_nil)))) pa_nil))))), ?_⟩
      obtain ⟨l, hp, hl, q⟩ := h
      exists hp
      rw [List.length_map, if_neg (by omega)]
      refine co_list (xs := l.map V.int) (p := fun _ => true) (f := fun _ => V.bl true) (SqL.of hp) (small_ok (by rw [List.length_map]; omega)) (fun y _ Q' q' => by walk_at "wps"; exact q') ?_ ?_
      · intro y hy _ Q' q'
        obtain ⟨c, hc, rfl⟩ := List.mem_map.mp hy
        walk_at "wps"
        exact q'
      refine ⟨small_ok (by rw [List.length_map]; exact Nat.le_trans (List.length_filter_le _ _) (by rw [List.length_map]; omega)), fun l1 hl1 => ⟨(l.map V.int).map fun _ => true, SqL.of (by rw [upd_same, map_true]), ?_⟩⟩
      rw [all_true]
      exact q _ (same_upd hl1)
    · exact h.elim
theorem ok__law_formed (T : Txt K mg C_Pair C_RoadError C_BadPair C_BadTurn)  : FnAt P w K mg base (CX1 P w) "_law_formed" 3 ["_law_turns"] sp__law_formed := by
  refine T.d__law_formed.fn sc__law_formed bd__law_formed (fun vs H Q E h => ?_) fun f cdv A outer s H vs Q E HR h => ?_
  · unfold sp__law_formed at h; split at h <;> first | rfl | exact h.elim
  · unfold sp__law_formed at h
    split at h
    · rename_i p
      refine ⟨_, (pss_cons (ps_if (PW.pt (pw_or (pt_not (pt_q (pe_callBQ (call_isiB K rfl) (by rfl) T.b_isinstance bt_isinstance (pa_q (pv 0) (pa_q (pe_ty rfl T.b_list bt_list) pa_nil))))) (pw_or1 (pt_cmpR op_gt (pe_callBQ (call_lenB K rfl) (by rfl) T.b_len bt_len (pa_q (pv 0) pa_nil)) pe_int (nomark _))))) (pss_one (ps_ret pe_bl)) pss_nil)
  (pss_hold (pss_cons (ps_for PassesOwn.never rfl (pi_seqK K rfl (pv 0)) (pg_name (i := 1) sc__law_formed.nd rfl (Or.inl rfl)) (pss_cons (ps_if (PW.pt (pw_or (pt_not (pt_q (pe_callBQ (call_isiB K rfl) (by rfl) T.b_isinstance bt_isinstance (pa_q (pv 1) (pa_q (pe_ty rfl T.b_tuple bt_tuple) pa_nil))))) (pw_or1 (pt_cmpR (op_neXK K rfl HR.units) (pe_callBQ (call_lenB K rfl) (by rfl) T.b_len bt_len (pa_q (pv 1) pa_nil)) pe_int (nomark _))))) (pss_one (ps_ret pe_bl)) pss_nil)
  (pss_cons (ps_if (PW.pt (pw_or (pt_not (pt_q (pe_fnQ (ok__law_row T) HR (by decide) rfl (pa_q (pe_ix (ix_B K rfl) (pv 1) pe_int (fun _ _ => rfl)) pa_nil)))) (pw_or1 (pt_not (pt_q (pe_fnQ (ok__law_row T) HR (by decide) rfl (pa_q (pe_ix (ix_B K rfl) (pv 1) pe_int (fun _ _ => rfl)) pa_nil))))))) (pss_one (ps_ret pe_bl)) pss_nil)
  (pss_one (ps_if (PW.pt (pw_and (pt_cmpR op_notNA (pe_ix (ix_B K rfl) (pv 1) pe_int (fun _ _ => rfl)) pe_non (nomark _)) (pw_and1 (pt_not (pt_q (pe_fnQ (ok__law_whole T) HR (by decide) rfl (pa_q (pe_ix (ix_B K rfl) (pv 1) pe_int (fun _ _ => rfl)) pa_nil))))))) (pss_one (ps_ret pe_bl)) pss_nil)))))
  (pss_one (ps_ret pe_bl))))), ?_⟩
      obtain ⟨N, f, hp, hN, hf, q⟩ := h
      have hp0 := hp
      obtain ⟨vs, h1, h2, h3⟩ := hp
      generalize h_u1 : tHold _ = u1
      exists h1
      rw [if_neg (by omega)]
      rw [← h_u1, tHold]
      walk_at "wps"
      refine fo_list (xs := vs) (SqL.of h1) (fun i σ H' => (∃ v1, σ = [some (.ref p), v1]) ∧ Same H H') ⟨⟨_, rfl⟩, Same.refl _⟩ (fun i σ H' _ hp => SqL.of (hp.2 _ _ h1)) (fun i y σ H' hy hp => ?_) (fun σ H' hp => ?_)
      · obtain ⟨⟨v1, rfl⟩, S1⟩ := hp
        obtain ⟨qa, ca, aa, rfl, k⟩ := h3 i y hy
        obtain ⟨f1, f2, f3⟩ := hf i
        have k1 := k.same S1
        exists k1.hq
        rw [if_neg (by decide)]
        refine ⟨_, k1.hc, f1, fun H2 S2 => ?_⟩
        rw [S2 _ _ k1.hq]
        exists S2 _ _ k1.hq
        refine ⟨_, S2 _ _ k1.ha, f2, fun H3 S3 => ?_⟩
        have S4 : Same H H3 := fun b o e => S3 _ _ (S2 _ _ (S1 _ _ e))
        rw [S3 _ _ (S2 _ _ k1.hq)]
        rcases f3 with e | ⟨qv, e⟩
        · exists S3 _ _ (S2 _ _ k1.hq), e
          exact ⟨⟨_, rfl⟩, S4⟩
        · exists S3 _ _ (S2 _ _ k1.hq), e
          exact ⟨⟨_, rfl⟩, S4⟩
      · obtain ⟨⟨v1, rfl⟩, S1⟩ := hp
        walk_at "wps"
        exact q H' S1
    · exact h.elim
theorem ok__law_may_come (T : Txt K mg C_Pair C_RoadError C_BadPair C_BadTurn)  : FnAt P w K mg base (CX1 P w) "_law_may_come" 1 ["_law_births", "_law_now", "_law_lag"] sp__law_may_come := by
  refine T.d__law_may_come.fn sc__law_may_come bd__law_may_come (fun vs H Q E h => ?_) fun f cdv A outer s H vs Q E HR h => ?_
  · unfold sp__law_may_come at h; split at h <;> first | rfl | exact h.elim
  · unfold sp__law_may_come at h
    split at h
    · rename_i p now lag
      refine ⟨_, (pss_cons (ps_for PassesOwn.never rfl (pi_seqK K rfl (pv 0)) (pg_name (i := 3) sc__law_may_come.nd rfl (Or.inl rfl)) (pss_one (ps_if (PW.pt (pw_or (pt_cmpR op_lt (pv 3) pe_int (nomark _)) (pw_or (pt_cmpR op_ge (pv 3) (pv 1) (nomark _)) (pw_or1 (pt_cmpR op_gt (pe_op op_sub (pv 1) (pv 3)) (pv 2) (nomark _)))))) (pss_one (ps_ret pe_bl)) pss_nil)))
  (pss_one (ps_ret pe_bl))), ?_⟩
      obtain ⟨l, hp, hl, q⟩ := h
      walk_at "wps"
      refine fo_list (xs := l.map V.int) (SqL.of hp) (fun i σ H' => (∃ v1, σ = [some (.ref p), some (.int now), some (.int lag), v1]) ∧ H' = H) ⟨⟨_, rfl⟩, rfl⟩ (fun i σ H' _ hp' => by rw [hp'.2]; exact SqL.of hp) (fun i y σ H' hy hp' => ?_) (fun σ H' hp' => ?_)
      · obtain ⟨⟨v1, rfl⟩, rfl⟩ := hp'
        obtain ⟨c, rfl, hc⟩ := map_int_get hy
        obtain ⟨l1, l2, l3⟩ := hl c (List.mem_of_getElem? hc)
        walk_at "wps"
        rw [if_neg (by omega), if_neg (by omega), if_neg (by omega)]
        exact ⟨_, rfl⟩
      · obtain ⟨⟨v1, rfl⟩, rfl⟩ := hp'
        walk_at "wps"
        exact q
    · exact h.elim
theorem ok__law_file (T : Txt K mg C_Pair C_RoadError C_BadPair C_BadTurn)  : FnAt P w K mg base (CX1 P w) "_law_file" 1 ["_law_ring", "_law_room", "_law_got", "_law_filed", "_law_number"] sp__law_file := by
  refine T.d__law_file.fn sc__law_file bd__law_file (fun vs H Q E h => ?_) fun f cdv A outer s H vs Q E HR h => ?_
  · unfold sp__law_file at h; split at h <;> first | rfl | exact h.elim
  · unfold sp__law_file at h
    split at h
    · rename_i R M g pf n
      refine ⟨_, (pss_cons (ps_setQ (i := 5) sc__law_file.nd rfl (Or.inl rfl) (pe_op op_mod (pe_op op_sub (pv 4) (pv 2)) (pv 0)))
  (pss_cons (ps_if (pt_cmpR op_ge (pv 5) (pv 1) (nomark _)) (pss_one (ps_ret (pe_tup (pa_q pe_non (pa_q (pv 2) pa_nil))))) pss_nil)
  (pss_cons (ps_dpI HR.units (pv 3) (pe_op (op_addK K rfl) (pv 2) (pv 5)) pe_bl)
  (pss_cons (ps_setQ (i := 6) sc__law_file.nd rfl (Or.inl rfl) (pe_op (op_addK K rfl) (pv 2) (pv 5)))
  (pss_hold (pss_cons (ps_while PassesOwn.never (pt_cmp (pc_dI HR.units (pv 2) (pv 3)) (nomarkQ rfl)) (pss_one (ps_setQ (i := 2) sc__law_file.nd rfl (Or.inl rfl) (pe_op (op_addK K rfl) (pv 2) pe_int))))
  (pss_one (ps_ret (pe_tup (pa_q (pv 6) (pa_q (pv 2) pa_nil))))))))))), ?_⟩
      obtain ⟨F, p, hpf, hF, lF, rfl, q⟩ := h
      have m0 := hF.m0
      have mr := hF.mr
      generalize h_u1 : tHold _ = u1
      exists hpf
      refine ⟨by omega, ?_⟩
      by_cases c0 : M ≤ (p % R - g) % R
      · rw [if_pos c0]
        have e : fil1 R M (g, F) p = (.non, (g, F)) := if_pos c0
        rw [e] at q
        exact fun p1 hp1 => q p1 _ (fun b o hb _ => upd_old hb hp1) (upd_old hpf hp1) upd_same
      rw [if_neg c0]
      have e : fil1 R M (g, F) p = (.int (g + (p % R - g) % R), clm (putK F (ik (g + (p % R - g) % R)) (.bl true)) g, putK F (ik (g + (p % R - g) % R)) (.bl true)) := if_neg c0
      rw [e] at q
      generalize hs : (p % R - g) % R = s at *
      have kk := hF.put (s := s) (by omega)
      refine ⟨by rw [sizeLine_eq]; omega, ?_⟩
      generalize hF' : putK F (ik (g + s)) (.bl true) = F' at *
      have e1 := upd_same (H := H) (a := pf) (o := .dK F')
      have B1 : But pf H (upd H pf (.dK F')) := But.upd
      generalize upd H pf (.dK F') = H1 at *
      rw [← h_u1, tHold]
      walk_at "wps"
      refine ⟨fun m σ H' => H' = H1 ∧ ∃ g1, g ≤ g1 ∧ g1 ≤ g + M ∧ m = (g + M - g1).toNat ∧ (∀ i, g ≤ i → i < g1 → (valV F' (ik i)).isSome = true) ∧ σ = [some (.int R), some (.int M), some (.int g1), some (.ref pf), some (.int (p % R)), some (.int s), some (.int (g + s))], ⟨_, rfl, g, Int.le_refl _, by omega, rfl, fun i _ _ => by omega, rfl⟩, ?_⟩
      rintro m σ H' ⟨rfl, g1, k1, k2, rfl, hall, rfl⟩
      exists e1
      cases ec : (valV F' (ik g1)).isSome
      · rw [if_neg (by decide)]
        have tp : Top F' g g1 := ⟨k1, hall, ec⟩
        rw [clm_of tp] at q
        exact fun p1 hp1 => q p1 _ (fun b o hb hne => upd_old (B1 b o hb hne) hp1) (upd_old e1 hp1) upd_same
      · rw [if_pos rfl]
        have gl := kk g1 ec
        refine ⟨fun σ' H'' => H'' = H' ∧ σ' = [some (.int R), some (.int M), some (.int (g1 + 1)), some (.ref pf), some (.int (p % R)), some (.int s), some (.int (g + s))], ?_, rfl, rfl⟩
        rintro σ' H'' ⟨rfl, rfl⟩
        refine ⟨(g + M - (g1 + 1)).toNat, by omega, rfl, g1 + 1, by omega, by omega, rfl, fun i h1 h2 => ?_, rfl⟩
        by_cases c1 : i = g1
        · rw [c1]; exact ec
        · exact hall i h1 (by omega)
    · exact h.elim
theorem ok__law_walked (T : Txt K mg C_Pair C_RoadError C_BadPair C_BadTurn)  : FnAt P w K mg base (CX1 P w) "_law_walked" 2 ["_law_turns", "_law_ring", "_law_room", "_law_lag"] sp__law_walked := by
  refine T.d__law_walked.fn sc__law_walked bd__law_walked (fun vs H Q E h => ?_) fun f cdv A outer s H vs Q E HR h => ?_
  · unfold sp__law_walked at h; split at h <;> first | rfl | exact h.elim
  · unfold sp__law_walked at h
    split at h
    · rename_i p R M G
      refine ⟨_, (pss_cons (ps_setQ (i := 4) sc__law_walked.nd rfl (Or.inl rfl) pe_int)
  (pss_hold (pss_cons (ps_setQ (i := 5) sc__law_walked.nd rfl (Or.inl rfl) pe_int)
  (pss_cons (ps_setQ (i := 6) sc__law_walked.nd rfl (Or.inl rfl) pe_int)
  (pss_cons (ps_setQ (i := 7) sc__law_walked.nd rfl (Or.inl rfl) pe_dnewK)
  (pss_cons (ps_setQ (i := 8) sc__law_walked.nd rfl (Or.inl rfl) (pe_lst pa_nil))
  (pss_cons (ps_setQ (i := 9) sc__law_walked.nd rfl (Or.inl rfl) (pe_lst pa_nil))
  (pss_hold (pss_cons (ps_setQ (i := 10) sc__law_walked.nd rfl (Or.inl rfl) pe_bl)
  (pss_hold (pss_cons (ps_for PassesOwn.never rfl (pi_seqK K rfl (pv 0)) (pg_tupX K (n := 3) rfl rfl (pgs_q (pg_name (i := 11) sc__law_walked.nd rfl (Or.inl rfl)) (pgs_q (pg_name (i := 12) sc__law_walked.nd rfl (Or.inl rfl)) (pgs_q (pg_name (i := 13) sc__law_walked.nd rfl (Or.inl rfl)) pgs_nil)))) (pss_cons (ps_if (pt_not (pt_q (pe_fnQ (ok__law_may_come T) HR (by decide) rfl (pa_q (pe_op (op_addK K rfl) (pv 11) (pv 12)) (pa_q (pe_callBQ (call_lenB K rfl) (by rfl) T.b_len bt_len (pa_q (pv 8) pa_nil)) (pa_q (pv 3) pa_nil)))))) (pss_one (ps_ret pe_bl)) pss_nil)
  (pss_hold (pss_cons (ps_setQ (i := 10) sc__law_walked.nd rfl (Or.inl rfl) pe_bl)
  (pss_hold (pss_cons (ps_for PassesOwn.never rfl (pi_seqK K rfl (pv 11)) (pg_name (i := 14) sc__law_walked.nd rfl (Or.inl rfl)) (pss_cons (ps_if (pt_cmpR op_isNA (pe_ix (ix_B K rfl) (pv 8) (pv 14) (fun _ _ => rfl)) pe_non (nomark _)) (pss_one (ps_ret pe_bl)) pss_nil)
  (pss_cons (ps_asgQ (pe_fnQ (ok__law_file T) HR (by decide) rfl (pa_q (pv 1) (pa_q (pv 2) (pa_q (pv 6) (pa_q (pv 7) (pa_q (pe_op op_mod (pe_ix (ix_B K rfl) (pv 8) (pv 14) (fun _ _ => rfl)) (pv 1)) pa_nil)))))) (pg_tupX K (n := 2) rfl rfl (pgs_q (pg_name (i := 15) sc__law_walked.nd rfl (Or.inl rfl)) (pgs_q (pg_name (i := 6) sc__law_walked.nd rfl (Or.inl rfl)) pgs_nil))))
  (pss_one (ps_setQ (i := 10) sc__law_walked.nd rfl (Or.inl rfl) (pe_or (pv 10) (pe_one (pe_and (pe_cmpR op_notNA (pv 15) pe_non (nomark _)) (pe_one (pe_cmpR (op_neXK K rfl HR.units) (pv 15) (pe_ix (ix_B K rfl) (pv 8) (pv 14) (fun _ _ => rfl)) (nomark _)))))))))))
  (pss_hold (pss_cons (ps_for PassesOwn.never rfl (pi_seqK K rfl (pv 12)) (pg_name (i := 14) sc__law_walked.nd rfl (Or.inl rfl)) (pss_one (ps_if (pt_cmpR op_le (pe_op op_mod (pe_op op_sub (pe_ix (ix_B K rfl) (pv 9) (pv 14) (fun _ _ => rfl)) (pv 4)) (pv 1)) (pe_op op_sub (pv 5) (pv 4)) (nomark _)) (pss_one (ps_setQ (i := 4) sc__law_walked.nd rfl (Or.inl rfl) (pe_op (op_addK K rfl) (pv 4) (pe_op op_mod (pe_op op_sub (pe_ix (ix_B K rfl) (pv 9) (pv 14) (fun _ _ => rfl)) (pv 4)) (pv 1))))) pss_nil)))
  (pss_hold (pss_cons (ps_if (PW.pt (pw_and (pt_cmpR op_notNA (pv 13) pe_non (nomark _)) (pw_and1 (PW.pt (pw_or (pt_cmpR op_lt (pv 13) (pv 4) (nomark _)) (pw_or (pt_cmpR op_ge (pv 13) (pe_op (op_addK K rfl) (pv 4) (pv 2)) (nomark _)) (pw_or1 (pt_cmpR op_gt (pv 13) (pv 5) (nomark _))))))))) (pss_one (ps_ret pe_bl)) pss_nil)
  (pss_hold (pss_cons (ps_setQ (i := 5) sc__law_walked.nd rfl (Or.inl rfl) (pe_op (op_addK K rfl) (pv 5) (pe_callTyQ call_int1 (by rfl) T.b_int bt_int (pa_q (pe_cmpR (op_eqXK K rfl HR.units) (pv 13) (pv 5) (nomark _)) pa_nil))))
  (pss_cons (ps_exprQ (pe_appendK K rfl (pv 8) (pv 13)))
  (pss_one (ps_exprQ (pe_appendK K rfl (pv 9) (pe_op op_mod (pv 6) (pv 1))))))))))))))))))
  (pss_hold (pss_one (ps_ret (pv 10))))))))))))))), ?_⟩
      obtain ⟨N, f, b, t, g, pl, hp, q⟩ := h
      generalize h_u1 : tHold _ = u1
      walk_at "wps"
      rw [← h_u1, tHold]
      generalize h_u2 : tHold _ = u2
      walk_at "wps"
      have S0 : Same H H := Same.refl H
      intro pF n_pF
      have e_pF := upd_same (H := H) (a := pF) (o := (.dK []))
      have s_pF := same_upd (H := H) (o := (.dK [])) n_pF
      replace S0 := S0.trans s_pF
      generalize upd H pF ((.dK [])) = H1 at *
      have nS0 := S0
      intro pS n_pS
      have e_pS := upd_same (H := H1) (a := pS) (o := (.lst []))
      have s_pS := same_upd (H := H1) (o := (.lst [])) n_pS
      replace e_pF := s_pS _ _ e_pF
      replace S0 := S0.trans s_pS
      generalize upd H1 pS ((.lst [])) = H2 at *
      have nS1 := S0
      have k_pS := e_pS
      intro pT n_pT
      have e_pT := upd_same (H := H2) (a := pT) (o := (.lst []))
      have s_pT := same_upd (H := H2) (o := (.lst [])) n_pT
      replace e_pF := s_pT _ _ e_pF
      replace e_pS := s_pT _ _ e_pS
      replace S0 := S0.trans s_pT
      generalize upd H2 pT ((.lst [])) = H3 at *
      have f1 : H pS = none := free_of nS0 n_pS
      have f2 : H pT = none := free_of nS1 n_pT
      have ne1 : pS ≠ pT := ne_of_none k_pS n_pT
      obtain ⟨vs, t1, t2, t3⟩ := hp
      have L0 : Lw H H3 pF pS pT [] [] [] := ⟨e_pF, e_pS, e_pT, S0, n_pF, f1, f2, ne1⟩
      clear nS0 nS1 k_pS n_pF n_pS n_pT s_pF s_pS s_pT e_pF e_pS e_pT f1 f2 ne1
      have N0 := pl.N0
      have N2 := pl.N2
      rw [← h_u2, tHold]
      generalize h_u3 : tHold _ = u3
      walk_at "wps"
      rw [← h_u3, tHold]
      generalize h_u4 : tHold _ = u4
      walk_at "wps"
      refine fo_list (xs := vs) (SqL.of (S0 _ _ t1)) (fun i σ H' => (∃ v10 v11 v12 v13 v14 v15, ∃ z : Pr, i < N ∧ Jf R M G f b t g i z ∧ Lw H H' pF pS pT z.F (svOf f i) z.A ∧ σ = [some (.ref p), some (.int R), some (.int M), some (.int G), some (.int z.b), some (.int z.t), some (.int z.g), some (.ref pF), some (.ref pS), some (.ref pT), v10, v11, v12, v13, v14, v15]) ∨ (i = N ∧ ∃ v4 v5 v6 v7 v8 v9 v11 v12 v13 v14 v15, Same H H' ∧ σ = [some (.ref p), some (.int R), some (.int M), some (.int G), v4, v5, v6, v7, v8, v9, some (.bl true), v11, v12, v13, v14, v15])) ?_ ?_ ?_ ?_
      · exact .inl ⟨_, _, _, _, _, _, _, by omega, jf0 pl, L0, rfl⟩
      · rintro i σ H' - (⟨_, _, _, _, _, _, z, _, _, L, _⟩ | ⟨_, _, _, _, _, _, _, _, _, _, _, _, s, _⟩)
        · exact SqL.of (L.sm _ _ t1)
        · exact SqL.of (s _ _ t1)
      · intro i y σ H' hy hp'
        have hi : i < N := by have := (List.getElem?_eq_some_iff.mp hy).1; omega
        rcases hp' with ⟨v10, v11, v12, v13, v14, v15, z, _, J, L, rfl⟩ | ⟨e, _⟩
        rotate_left
        · omega
        obtain ⟨qa, ca, aa, rfl, k0⟩ := t3 i y hy
        have k := k0.same L.sm
        exists k.hq, L.hS
        generalize hD : ({ nx := _, rt := _, bk := _, ct := _ } : Ends) = D
        have lc := pl.lc i
        refine addA_lists k.hc k.ha (by rw [List.length_map, List.length_map, sizeLine_eq]; omega) ?_
        intro p1 hp1
        replace k := k.same (same_upd (o := .lst ((f i).cs.map V.int ++ (f i).as.map V.int)) hp1)
        replace L := L.same (same_upd (o := .lst ((f i).cs.map V.int ++ (f i).as.map V.int)) hp1)
        have e1 := upd_same (H := H') (a := p1) (o := .lst ((f i).cs.map V.int ++ (f i).as.map V.int))
        generalize upd H' p1 (.lst ((f i).cs.map V.int ++ (f i).as.map V.int)) = H5 at *
        exists L.hS
        have rpos : 0 < R := by have := pl.m0; have := pl.mr; omega
        have fz : Fok R M z.g z.F := by have := J.fokz; rwa [J.zR, J.zM] at this
        have lsv : (svOf f i).length = i := by unfold svOf; rw [List.length_map, List.length_range]
        rw [lsv]
        refine ⟨(f i).cs ++ (f i).as, by rw [List.map_append]; exact e1, fun c hc => ?_, ?_⟩
        · rcases List.mem_append.mp hc with hc | hc
          · obtain ⟨n, rfl, n1, n2, _⟩ := J.at pl hi hc
            omega
          · obtain ⟨n, rfl, n1, n2⟩ := J.at2 pl hi hc
            omega
        clear e1 hp1
        rw [← h_u4, tHold]
        generalize h_u5 : tHold _ = u5
        walk_at "wps"
        rw [← h_u5, tHold]
        generalize h_u6 : tHold _ = u6
        walk_at "wps"
        refine fo_list (xs := (f i).cs.map V.int) (SqL.of k.hc) (fun j σ H' => ∃ v14 v15, Lw H H' pF pS pT (filS R M (((f i).cs.take j).map (K36.plc z.S)) (z.g, z.F)).2 (svOf f i) z.A ∧ σ = [some (.ref p), some (.int R), some (.int M), some (.int G), some (.int z.b), some (.int z.t), some (.int (filS R M (((f i).cs.take j).map (K36.plc z.S)) (z.g, z.F)).1), some (.ref pF), some (.ref pS), some (.ref pT), some (.bl (wrB (filV R M (((f i).cs.take j).map (K36.plc z.S)) (z.g, z.F)) (((f i).cs.take j).map (K36.plc z.S)))), some (.ref ca), some (.ref aa), some (f i).it, v14, v15]) ⟨_, _, L, rfl⟩ (fun j σ H' _ hp => ?_) (fun j y σ H6 hy hp => ?_) (fun σ H6 hp => ?_)
        · obtain ⟨_, _, L', _⟩ := hp
          exact SqL.of (L'.sm _ _ k0.hc)
        · obtain ⟨w14, w15, L6, rfl⟩ := hp
          obtain ⟨c, rfl, hci⟩ := map_int_get hy
          obtain ⟨n, rfl, n1, n2, pq, n3, n4⟩ := J.at pl hi (List.mem_of_getElem? hci)
          rw [take_snoc hci, List.map_append, List.map_singleton, filS_snoc, filV_snoc, wrB_snoc (by rw [filV_len]), n4]
          have fo := filS_ok (l := ((f i).cs.take j).map (K36.plc z.S)) (s := (z.g, z.F)) fz
          have lt : ((f i).cs.take j).length ≤ 2 := by rw [List.length_take]; omega
          have lF := J.lF
          have lF2 : (filS R M (((f i).cs.take j).map (K36.plc z.S)) (z.g, z.F)).2.length < 100000 := by have := fo.2; rw [List.length_map] at this; dsimp only at this; omega
          generalize (wrB (filV R M (((f i).cs.take j).map (K36.plc z.S)) (z.g, z.F)) (((f i).cs.take j).map (K36.plc z.S))) = wb at *
          generalize (filS R M (((f i).cs.take j).map (K36.plc z.S)) (z.g, z.F)) = st at *
          exists L6.hS, svOf_at n1, n3
          refine ⟨by have := pl.m0; have := pl.mr; omega, st.2, pq, L6.hF, fo.1, lF2, rfl, fun q2 H7 B7 hF7 hq7 => ?_⟩
          have L7 := L6.but B7 hF7
          rcases fil1_sc (R := R) (M := M) (s := st) (p := pq) with e | ⟨pp, e⟩
          · rw [show (st.1, st.2) = st from rfl, e] at hq7
            rw [show (st.1, st.2) = st from rfl] at L7
            exists hq7, L7.hS, svOf_at n1, n3, e
            rw [Bool.or_false]
            cases wb <;> exact ⟨_, _, L7, rfl⟩
          · rw [show (st.1, st.2) = st from rfl, e] at hq7
            rw [show (st.1, st.2) = st from rfl] at L7
            exists hq7, L7.hS, svOf_at n1, n3, e
            cases wb
            · rw [if_neg (by decide), show (!decide (pp = pq)) = (false || decide (pp ≠ pq)) by simp]
              exact ⟨_, _, L7, rfl⟩
            · exact ⟨_, _, L7, rfl⟩
        obtain ⟨w14, w15, L6, rfl⟩ := hp
        rw [List.length_map, List.take_length] at L6 ⊢
        rw [← h_u6, tHold]
        generalize h_u7 : tHold _ = u7
        walk_at "wps"
        have hfi := J.fine pl hi
        have k6 := k0.same L6.sm
        refine fo_list (xs := (f i).as.map V.int) (SqL.of k6.ha) (fun j σ H' => H' = H6 ∧ ∃ v14, σ = [some (.ref p), some (.int R), some (.int M), some (.int G), some (.int (bbs R z.t z.b (((f i).as.take j).map fun a => z.A.getD a.toNat 0))), some (.int z.t), some (.int (filS R M ((f i).cs.map (K36.plc z.S)) (z.g, z.F)).1), some (.ref pF), some (.ref pS), some (.ref pT), some (.bl (wrB (filV R M ((f i).cs.map (K36.plc z.S)) (z.g, z.F)) ((f i).cs.map (K36.plc z.S)))), some (.ref ca), some (.ref aa), some (f i).it, v14, w15]) ⟨rfl, _, rfl⟩ (fun j σ H' _ hp => by rw [hp.1]; exact SqL.of k6.ha) (fun j y σ H7 hy hp => ?_) (fun σ H7 hp => ?_)
        · obtain ⟨rfl, w14, rfl⟩ := hp
          obtain ⟨c, rfl, hci⟩ := map_int_get hy
          obtain ⟨n, rfl, n1, n2⟩ := J.at2 pl hi (List.mem_of_getElem? hci)
          have ea := atI_getI (xs := z.A) (x := (n : Int)) (by omega) (by have := J.lA; omega)
          rw [take_snoc hci, List.map_append, List.map_singleton, bbs_snoc]
          generalize bbs R z.t z.b (((f i).as.take j).map fun a => z.A.getD a.toNat 0) = b0
          exists L6.hT, ea
          refine ⟨rpos, ?_⟩
          unfold bb1
          split
          · exact ⟨rpos, _, rfl⟩
          · exact ⟨_, rfl⟩
        obtain ⟨rfl, w14, rfl⟩ := hp
        rw [List.length_map, List.take_length]
        rw [← h_u7, tHold]
        generalize h_u8 : tHold _ = u8
        walk_at "wps"
        obtain ⟨_, _, hit⟩ := hfi
        rw [J.zR, J.zM] at hit
        have aF : (after z (f i).cs (f i).as (f i).it).F = (filS R M ((f i).cs.map (K36.plc z.S)) (z.g, z.F)).2 := by show (filS z.R z.M _ _).2 = _; rw [J.zR, J.zM]
        have aA : (after z (f i).cs (f i).as (f i).it).A = z.A ++ [(filS R M ((f i).cs.map (K36.plc z.S)) (z.g, z.F)).1 % R] := by show z.A ++ [(filS z.R z.M _ _).1 % z.R] = _; rw [J.zR, J.zM]
        have ag : (after z (f i).cs (f i).as (f i).it).g = (filS R M ((f i).cs.map (K36.plc z.S)) (z.g, z.F)).1 := by show (filS z.R z.M _ _).1 = _; rw [J.zR, J.zM]
        have ab : (after z (f i).cs (f i).as (f i).it).b = bbs R z.t z.b ((f i).as.map fun a => z.A.getD a.toNat 0) := by show bbs z.R _ _ _ = _; rw [J.zR]
        have at' : (after z (f i).cs (f i).as (f i).it).t = z.t + if (f i).it = .int z.t then 1 else 0 := by show (if (f i).it = .int z.t then z.t + 1 else z.t) = _; split <;> omega
        have hnx : i + 1 < N → Jf R M G f b t g (i + 1) (after z (f i).cs (f i).as (f i).it) := fun h => J.next pl h
        have hwr : i + 1 = N → wrB (filV R M ((f i).cs.map (K36.plc z.S)) (z.g, z.F)) ((f i).cs.map (K36.plc z.S)) = true := fun h => by
          obtain rfl : i = N - 1 := by omega
          have := J.wrB pl
          rwa [J.zR, J.zM] at this
        generalize after z (f i).cs (f i).as (f i).it = z' at *
        generalize bbs R z.t z.b ((f i).as.map fun a => z.A.getD a.toNat 0) = b' at *
        generalize wrB (filV R M ((f i).cs.map (K36.plc z.S)) (z.g, z.F)) ((f i).cs.map (K36.plc z.S)) = wb at *
        generalize filS R M ((f i).cs.map (K36.plc z.S)) (z.g, z.F) = st at *
        have tail : u8 D [some (.ref p), some (.int R), some (.int M), some (.int G), some (.int b'), some (.int z.t), some (.int st.1), some (.ref pF), some (.ref pS), some (.ref pT), some (.bl wb), some (.ref ca), some (.ref aa), some (f i).it, w14, w15] H7 := by
          rw [← h_u8, tHold]
          obtain ⟨ap1, ap2⟩ := L6.app (v := (f i).it) (i := st.1 % R)
          rw [← aA, ← svOf_succ] at ap2
          rw [← svOf_succ] at ap1
          have fin : D.nx [some (.ref p), some (.int R), some (.int M), some (.int G), some (.int b'), some (.int (z.t + if (f i).it = .int z.t then 1 else 0)), some (.int st.1), some (.ref pF), some (.ref pS), some (.ref pT), some (.bl wb), some (.ref ca), some (.ref aa), some (f i).it, w14, w15] (upd (upd H7 pS (.lst (svOf f (i + 1)))) pT (.lst (z.A.map V.int ++ [.int (st.1 % R)]))) := by
            rw [← hD]
            by_cases e : i + 1 < N
            · exact .inl ⟨_, _, _, _, _, _, z', e, hnx e, by rw [aF]; exact ap2, by rw [ab, ag, at']⟩
            · refine .inr ⟨by omega, _, _, _, _, _, _, _, _, _, _, _, ap2.sm, by rw [hwr (by omega)]⟩
          have lA := J.lA
          rcases pl.sc i with e | ⟨pp, e⟩
          · have es : svOf f (i + 1) = svOf f i ++ [V.non] := by rw [svOf_succ, e]
            rw [es] at ap1 fin
            rw [e] at fin ⊢
            exists L6.hS
            refine ⟨rfl, .inr ⟨false, by simp, tyV_list (SqL.of L6.hS), _, L6.hS, by rw [sizeLine_eq]; omega, tyV_list (SqL.of ap1), rpos, _, ap1, by rw [List.length_map, sizeLine_eq]; omega, ?_⟩⟩
            simpa using fin
          · have es : svOf f (i + 1) = svOf f i ++ [V.int pp] := by rw [svOf_succ, e]
            rw [es] at ap1 fin
            rw [e] at fin ⊢
            exists L6.hS
            refine .inr ⟨_, rfl, tyV_list (SqL.of L6.hS), by rw [sizeLine_eq]; omega, tyV_list (SqL.of ap1), rpos, _, ap1, by rw [List.length_map, sizeLine_eq]; omega, ?_⟩
            simpa using fin
        rcases hit with e | ⟨pp, e, i1, i2, i3⟩
        · rw [if_neg (by rw [e]; simp)]
          exact tail
        · rw [if_pos (by rw [e]; simp)]
          rw [e] at tail ⊢
          walk_at "wps"
          rw [if_neg (by omega), if_neg (by omega), if_neg (by omega)]
          exact tail
      · rintro σ H' (⟨_, _, _, _, _, _, z, h1, _⟩ | ⟨_, v4, v5, v6, v7, v8, v9, v11, v12, v13, v14, v15, s, rfl⟩)
        · omega
        rw [tHold]
        walk_at "wps"
        exact q H' s
    · exact h.elim
theorem ok__law_played (T : Txt K mg C_Pair C_RoadError C_BadPair C_BadTurn)  : FnAt P w K mg base (CX1 P w) "_law_played" 5 ["_law_turns", "_law_ring", "_law_room", "_law_lag"] sp__law_played := by
  refine T.d__law_played.fn sc__law_played bd__law_played (fun vs H Q E h => ?_) fun f cdv A outer s H vs Q E HR h => ?_
  · unfold sp__law_played at h; split at h <;> first | rfl | exact h.elim
  · unfold sp__law_played at h
    split at h
    · rename_i p R M G
      refine ⟨_, (pss_cons (ps_setQ (i := 4) sc__law_played.nd rfl (Or.inl rfl) (pe_mkC T.k_Pair (ok_Pair___init__ T) HR (by decide) rfl (pa_q (pv 1) (pa_q (pv 2) (pa_q (pv 3) pa_nil)))))
  (pss_hold (pss_cons (ps_setQ (i := 5) sc__law_played.nd rfl (Or.inl rfl) (pe_lst pa_nil))
  (pss_hold (pss_cons (ps_for PassesOwn.never rfl (pi_seqK K rfl (pv 0)) (pg_tupX K (n := 3) rfl rfl (pgs_q (pg_name (i := 6) sc__law_played.nd rfl (Or.inl rfl)) (pgs_q (pg_name (i := 7) sc__law_played.nd rfl (Or.inl rfl)) (pgs_q (pg_name (i := 8) sc__law_played.nd rfl (Or.inl rfl)) pgs_nil)))) (pss_one (ps_setQ (i := 5) sc__law_played.nd rfl (Or.inl rfl) (pe_mtC (pv 4) T.k_Pair (ok_Pair_play T) HR (by decide) (pa_q (pe_callTyQ (call_listK K rfl) (by rfl) T.b_list bt_list (pa_q (pv 6) pa_nil)) (pa_q (pe_callTyQ (call_listK K rfl) (by rfl) T.b_list bt_list (pa_q (pv 7) pa_nil)) (pa_q (pv 8) pa_nil)))))))
  (pss_hold (pss_cons (ps_for PassesOwn.never rfl (pj_zip rfl T.b_zip (pa_q (pe_ix (ix_B K rfl) (pe_ix (ix_B K rfl) (pv 0) (pe_un un_neg pe_int) (fun _ _ => rfl)) pe_int (fun _ _ => rfl)) (pa_q (pv 5) pa_nil))) (pg_tupX K (n := 2) rfl rfl (pgs_q (pg_name (i := 9) sc__law_played.nd rfl (Or.inl rfl)) (pgs_q (pg_name (i := 10) sc__law_played.nd rfl (Or.inl rfl)) pgs_nil))) (pss_one (ps_if (PW.pt (pw_and (pt_cmpR op_notNA (pv 10) pe_non (nomark _)) (pw_and1 (pt_cmpR (op_neXK K rfl HR.units) (pv 10) (pe_ix (ix_B K rfl) (pe_ix (ix_B K rfl) (pv 0) (pv 9) (fun _ _ => rfl)) pe_int (fun _ _ => rfl)) (nomark _))))) (pss_one (ps_ret pe_bl)) pss_nil)))
  (pss_one (ps_ret pe_bl))))))))), ?_⟩
      obtain ⟨N, f, b, t, g, pl, ho, hp, q⟩ := h
      generalize h_u1 : tHold _ = u1
      walk_at "wps"
      refine fun x dx hx hdx hne => ⟨dx, rfl, fun _ ps pa pf H1 hB P1 n1 n2 n3 => ?_, fun n => absurd ho n⟩
      have Sm1 : Same H H1 := fun b o e => hB b o (same_new hx hdx b o e) (ne_of_none e hx)
      have f1 : H ps = none := free_of (same_new hx hdx) n1
      have f2 : H pa = none := free_of (same_new hx hdx) n2
      have f3 : H pf = none := free_of (same_new hx hdx) n3
      clear hB n1 n2 n3 hne hdx
      have N0 := pl.N0
      rw [← h_u1, tHold]
      generalize h_u2 : tHold _ = u2
      walk_at "wps"
      intro p0 n_p0
      have e_p0 := upd_same (H := H1) (a := p0) (o := (.lst []))
      have s_p0 := same_upd (H := H1) (o := (.lst [])) n_p0
      replace Sm1 := Sm1.trans s_p0
      generalize upd H1 p0 ((.lst [])) = H2 at *
      replace P1 := P1.same s_p0
      have hp0 := hp
      obtain ⟨vs, t1, t2, t3⟩ := hp
      rw [← h_u2, tHold]
      generalize h_u3 : tHold _ = u3
      walk_at "wps"
      refine fo_list (xs := vs) (SqL.of (Sm1 _ _ t1)) (fun i σ H' => Same H H' ∧ ((∃ v5 v6 v7 v8 v9 v10, ∃ z : Pr, i < N ∧ Jf R M G f b t g i z ∧ PairAt C_Pair H' x dx ps pa pf z ∧ σ = [some (.ref p), some (.int R), some (.int M), some (.int G), some (.ref x), v5, v6, v7, v8, v9, v10]) ∨ (i = N ∧ ∃ v6 v7 v8 v9 v10 pv, ∃ z : Pr, Jf R M G f b t g (N - 1) z ∧ H' pv = some (.lst (filV z.R z.M ((f (N - 1)).cs.map (K36.plc z.S)) (z.g, z.F))) ∧ σ = [some (.ref p), some (.int R), some (.int M), some (.int G), some (.ref x), some (.ref pv), v6, v7, v8, v9, v10]))) ?_ ?_ ?_ ?_
      · exact ⟨Sm1, .inl ⟨_, _, _, _, _, _, _, by omega, jf0 pl, P1, rfl⟩⟩
      · rintro i σ H' - ⟨s, _⟩
        exact SqL.of (s _ _ t1)
      · intro i y σ H' hy hp'
        have hi : i < N := by have := (List.getElem?_eq_some_iff.mp hy).1; omega
        obtain ⟨Sm, hp'⟩ := hp'
        rcases hp' with ⟨v5, v6, v7, v8, v9, v10, z, _, J, PP, rfl⟩ | ⟨e, _⟩
        rotate_left
        · omega
        obtain ⟨qa, ca, aa, rfl, k0⟩ := t3 i y hy
        have k := k0.same Sm
        generalize hD : ({ nx := _, rt := _, bk := _, ct := _ } : Ends) = D
        exists k.hq, PP.hx
        refine ⟨_, .inl (SqL.of k.hc), fun l1 hl1 => ⟨_, .inl (SqL.of (upd_old k.ha hl1)), fun l2 hl2 => ?_⟩⟩
        refine ⟨dx, ps, pa, pf, z, (f i).cs, (f i).as, (PP.new hl1).new hl2, J.w pl hi, (ne_of_none PP.hA hl1).symm, upd_old upd_same hl2, rfl, fun _ p' H8 np fr P8 hv => ?_, fun n => absurd (J.fine pl hi) n⟩
        have Sm8 : Same H H8 := fun b o e => fr b o (upd_old (upd_old (Sm b o e) hl1) hl2) (ne_of_none e hx) (ne_of_none e f1) (ne_of_none e f2) (ne_of_none e f3)
        rw [← hD]
        by_cases e : i + 1 < N
        · exact ⟨Sm8, .inl ⟨_, _, _, _, _, _, _, e, J.next pl e, P8, rfl⟩⟩
        · obtain rfl : i = N - 1 := by omega
          exact ⟨Sm8, .inr ⟨by omega, _, _, _, _, _, p', z, J, hv, rfl⟩⟩
      · rintro σ H' ⟨Sm, (⟨_, _, _, _, _, _, z, h1, _⟩ | ⟨_, v6, v7, v8, v9, v10, pv, z, J, hv, rfl⟩)⟩
        · omega
        rw [← h_u3, tHold]
        have tT := hp0.same Sm
        obtain ⟨vs', t1', t2', t3'⟩ := tT
        exists t1'
        have hlast : vs'[vs'.length - 1]? = some (vs'[vs'.length - 1]'(by omega)) := List.getElem?_eq_getElem _
        obtain ⟨qa, ca, aa, eqa, k⟩ := t3' _ _ hlast
        rw [eqa, ] at hlast
        refine ⟨_, atI_end hlast, ?_⟩
        rw [t2'] at k
        exists k.hq
        obtain ⟨kk, k1, c, k2, k3, k4, k5, k6⟩ := J.wrong pl
        refine fo_zip (xs := (f (N - 1)).cs.map V.int) k.hc hv (by rw [filV_len, List.length_map, List.length_map]) (fun j σ H8 => j ≤ kk ∧ Same H' H8 ∧ ∃ v9 v10, σ = [some (.ref p), some (.int R), some (.int M), some (.int G), some (.ref x), some (.ref pv), v6, v7, v8, v9, v10]) ⟨Nat.zero_le _, Same.refl _, _, _, rfl⟩ (fun j σ H8 h => ⟨h.2.1 _ _ k.hc, h.2.1 _ _ hv⟩) (fun j a1 a2 pz σ H8 ha1 ha2 h hpz => ?_) (fun σ H8 h => ?_)
        · obtain ⟨j1, S8, v9, v10, rfl⟩ := h
          have eT := (hp0.same Sm).same (fun b o e => upd_old (o := .tup [a1, a2]) (S8 b o e) hpz)
          have S9 : Same H' (upd H8 pz (.tup [a1, a2])) := fun b o e => upd_old (S8 b o e) hpz
          have e9 := upd_same (H := H8) (a := pz) (o := .tup [a1, a2])
          generalize upd H8 pz (.tup [a1, a2]) = H9 at *
          obtain ⟨ws, w1, w2, w3⟩ := eT
          have key : ∀ n : Nat, n < N - 1 → ∃ q3 c3 a3, atI ws (n : Int) = some (.ref q3) ∧ TAt H9 p q3 c3 a3 (f n) := fun n hn => by
            obtain ⟨q3, c3, a3, e3, k3⟩ := w3 n _ (List.getElem?_eq_getElem (by omega))
            exact ⟨q3, c3, a3, atI_n (by rw [← e3]; exact List.getElem?_eq_getElem (by omega)), k3⟩
          rw [List.getElem?_map] at ha1
          by_cases e : j = kk
          · subst e
            rw [k2] at ha1
            rw [k5] at ha2
            obtain rfl : V.int (c : Int) = a1 := by simpa using ha1
            obtain rfl : V.int R = a2 := by simpa using ha2
            obtain ⟨q3, c3, a3, m1, m2⟩ := key c k3
            exists e9, w1, m1, m2.hq, k4
            rw [if_pos (by have := pl.m0; have := pl.mr; omega)]
            exact q _ (fun b o e => S9 _ _ (Sm _ _ e))
          · obtain ⟨c1, l1, l2, l3, l4⟩ := k6 j (by omega)
            rw [l1] at ha1
            rw [l4] at ha2
            obtain rfl : V.int (c1 : Int) = a1 := by simpa using ha1
            obtain rfl : V.int (g (N - 1)) = a2 := by simpa using ha2
            obtain ⟨q3, c3, a3, m1, m2⟩ := key c1 l2
            exists e9, w1, m1, m2.hq, l3
            exact ⟨by omega, S9, _, _, rfl⟩
        · rw [List.length_map] at h
          have := h.1
          omega
    · exact h.elim
theorem ok_law (T : Txt K mg C_Pair C_RoadError C_BadPair C_BadTurn) : FnAt P w K mg base CX0 "law" 6 ["_law_script"] (spLaw K) := by
  refine T.d_law.fn sc_law bd_law (fun vs H Q E h => ?_) fun f cdv A outer s H vs Q E HR h => ?_
  · unfold spLaw at h; split at h <;> first | rfl | exact h.elim
  · unfold spLaw at h
    split at h
    · rename_i a
      obtain ⟨ns, hS, hl, _, q⟩ := h
      refine ⟨_, (pss_cons (ps_setQ (i := 1) sc_law.nd rfl (Or.inl rfl) (pe_op (op_addK K rfl) pe_int (pe_op op_mod (pe_fnQ (ok__law_cell_at T a ns) HR (by decide) rfl (pa_q (pv 0) (pa_q pe_int pa_nil))) pe_int)))
  (pss_cons (ps_setQ (i := 2) sc_law.nd rfl (Or.inl rfl) (pe_op (op_addK K rfl) pe_int (pe_op op_mod (pe_fnQ (ok__law_cell_at T a ns) HR (by decide) rfl (pa_q (pv 0) (pa_q pe_int pa_nil))) pe_int)))
  (pss_cons (ps_setQ (i := 3) sc_law.nd rfl (Or.inl rfl) (pe_fnQ (ok__law_need T) HR (by decide) rfl (pa_q (pv 1) (pa_q (pv 2) pa_nil))))
  (pss_cons (ps_setQ (i := 4) sc_law.nd rfl (Or.inl rfl) (pe_op op_mod (pe_fnQ (ok__law_cell_at T a ns) HR (by decide) rfl (pa_q (pv 0) (pa_q pe_int pa_nil))) pe_int))
  (pss_cons (ps_setQ (i := 5) sc_law.nd rfl (Or.inl rfl) (pe_callBQ (call_maxA rfl) (by rfl) T.b_max bt_max (pa_q (pe_op (op_addK K rfl) (pv 1) pe_int) (pa_q (pe_op op_sub (pv 3) pe_int) pa_nil))))
  (pss_hold (pss_mid (ps_if (PW.pt (pw_or (pt_cmpR (op_eqXK K rfl HR.units) (pv 4) pe_int (nomark _)) (pw_or (pt_cmpR (op_eqXK K rfl HR.units) (pv 4) pe_int (nomark _)) (pw_or1 (pt_cmpR (op_eqXK K rfl HR.units) (pv 4) pe_int (nomark _)))))) (pss_one (ps_setQ (i := 5) sc_law.nd rfl (Or.inl rfl) (pe_op (op_addK K rfl) (pe_op (op_addK K rfl) (pv 1) pe_int) (pe_op op_mod (pe_fnQ (ok__law_cell_at T a ns) HR (by decide) rfl (pa_q (pv 0) (pa_q pe_int pa_nil))) (pe_callBQ (call_maxA rfl) (by rfl) T.b_max bt_max (pa_q pe_int (pa_q (pe_op op_sub (pe_op op_sub (pv 3) (pv 1)) pe_int) pa_nil))))))) pss_nil)
  (pss_hold (pss_mid (ps_if (pt_cmpR (op_eqXK K rfl HR.units) (pv 4) pe_int (nomark _)) (pss_one (ps_setQ (i := 5) sc_law.nd rfl (Or.inl rfl) (pe_op (op_addK K rfl) (pv 3) (pe_op op_mod (pe_fnQ (ok__law_cell_at T a ns) HR (by decide) rfl (pa_q (pv 0) (pa_q pe_int pa_nil))) (pe_op op_sub pe_int (pv 3)))))) pss_nil)
  (pss_hold (pss_cons (ps_setQ (i := 6) sc_law.nd rfl (Or.inl rfl) (pe_fnQ (ok_fooling T) HR (by decide) rfl (pa_q (pv 5) (pa_q (pv 1) (pa_q (pv 2) pa_nil)))))
  (pss_hold (pss_cons (ps_if (pt_not (pt_q (pe_fnQ (ok__law_formed T) HR (by decide) rfl (pa_q (pv 6) pa_nil)))) (pss_one (ps_ret pe_bl)) pss_nil)
  (pss_hold (pss_cons (ps_if (pt_cmpR op_ge (pv 5) (pv 3) (nomark _)) (pss_one (ps_ret (pe_cmpR (op_eqXK K rfl HR.units) (pv 6) (pe_lst pa_nil) (nomark _)))) pss_nil)
  (pss_hold (pss_cons (ps_if (PW.pt (pw_or (pt_cmpR (op_eqXK K rfl HR.units) (pv 6) (pe_lst pa_nil) (nomark _)) (pw_or (pt_not (pt_q (pe_fnQ (ok__law_walked T) HR (by decide) rfl (pa_q (pv 6) (pa_q (pv 5) (pa_q (pv 1) (pa_q (pv 2) pa_nil))))))) (pw_or1 (pt_not (pt_q (pe_fnQ (ok__law_played T) HR (by decide) rfl (pa_q (pv 6) (pa_q (pv 5) (pa_q (pv 1) (pa_q (pv 2) pa_nil))))))))))) (pss_one (ps_ret pe_bl)) pss_nil)
  (pss_hold (pss_cons (ps_exprQ (pe_bm0 PySem.F.plainAttrs_list PySem.F.slot_list_clear PySem.F.type_list_clear mt_clear (pe_ix (ix_B K rfl) (pe_ix (ix_B K rfl) (pv 6) (pe_un un_neg pe_int) (fun _ _ => rfl)) pe_int (fun _ _ => rfl))))
  (pss_hold (pss_cons (ps_exprQ (pe_bm0 PySem.F.plainAttrs_list PySem.F.slot_list_pop PySem.F.type_list_pop mt_pop (pv 6)))
  (pss_hold (pss_cons (ps_setQ (i := 7) sc_law.nd rfl (Or.inl rfl) (pe_fnQ (ok_fooling T) HR (by decide) rfl (pa_q (pv 5) (pa_q (pv 1) (pa_q (pv 2) pa_nil)))))
  (pss_hold (pss_one (ps_ret (pe_and (pe_fnQ (ok__law_formed T) HR (by decide) rfl (pa_q (pv 7) pa_nil)) (pe_and (pe_cmpR (op_neXK K rfl HR.units) (pv 7) (pe_lst pa_nil) (nomark _)) (pe_one (pe_fnQ (ok__law_walked T) HR (by decide) rfl (pa_q (pv 7) (pa_q (pv 5) (pa_q (pv 1) (pa_q (pv 2) pa_nil)))))))))))))))))))))))))))))))))), ?_⟩
      generalize h_ua : tHold _ = ua
      walk_at "wps"
      refine ⟨hS, fun n0 => ⟨hS, fun n1 => ⟨hS, fun n2 => ?_⟩⟩⟩
      have b1 : 1 ≤ 1 + n0 % 60 ∧ 1 + n0 % 60 ≤ 60 := by omega
      have b2 : 1 ≤ 1 + n1 % 60 ∧ 1 + n1 % 60 ≤ 60 := by omega
      generalize 1 + n0 % 60 = M at *
      generalize 1 + n1 % 60 = G at *
      have b3 : M + 1 ≤ needF M G + 200 ∧ 2 ≤ needF M G ∧ needF M G ≤ 200 ∧ M < needF M G := by unfold needF; split <;> omega
      have b0 : M < (if M + 1 < needF M G - 1 then needF M G - 1 else M + 1) ∧ (if M + 1 < needF M G - 1 then needF M G - 1 else M + 1) ≤ 1000000 := by split <;> omega
      generalize (if M + 1 < needF M G - 1 then needF M G - 1 else M + 1) = R0 at *
      rw [← h_ua, tHold]
      generalize h_ub : tHold _ = ub
      refine ⟨fun σ' H' => H' = H ∧ ∃ R1, M < R1 ∧ R1 ≤ 1000000 ∧ σ' = [some (.ref a), some (.int M), some (.int G), some (.int (needF M G)), some (.int (n2 % 8)), some (.int R1), none, none], ?_, ?_⟩
      · have tl : ∀ n3 : Int, M < M + 1 + n3 % (if 1 < needF M G - M - 1 then needF M G - M - 1 else 1) ∧ M + 1 + n3 % (if 1 < needF M G - M - 1 then needF M G - M - 1 else 1) ≤ 1000000 := fun n3 => by
          have p1 : 0 < (if 1 < needF M G - M - 1 then needF M G - M - 1 else 1) ∧ (if 1 < needF M G - M - 1 then needF M G - M - 1 else 1) ≤ 200 := by split <;> omega
          have p2 := Int.emod_nonneg n3 (show (if 1 < needF M G - M - 1 then needF M G - M - 1 else 1) ≠ 0 by omega)
          have p3 := Int.emod_lt_of_pos n3 p1.1
          omega
        have p0 : 0 < (if 1 < needF M G - M - 1 then needF M G - M - 1 else 1) := by split <;> omega
        walk_at "wps"
        have go : ∀ n3 : Int, ∃ R1, M < R1 ∧ R1 ≤ 1000000 ∧ [some (V.ref a), some (.int M), some (.int G), some (.int (needF M G)), some (.int (n2 % 8)), some (.int (M + 1 + n3 % if 1 < needF M G - M - 1 then needF M G - M - 1 else 1)), none, none] = [some (.ref a), some (.int M), some (.int G), some (.int (needF M G)), some (.int (n2 % 8)), some (.int R1), none, none] := fun n3 => ⟨_, (tl n3).1, (tl n3).2, rfl⟩
        split
        · exact ⟨hS, fun n3 => ⟨p0, go n3⟩⟩
        · split
          · exact ⟨hS, fun n3 => ⟨p0, go n3⟩⟩
          · split
            · exact ⟨hS, fun n3 => ⟨p0, go n3⟩⟩
            · exact ⟨_, b0.1, b0.2, rfl⟩
      rintro σ' H' ⟨rfl, R1, r1, r2, rfl⟩
      clear b0
      rw [← h_ub, tHold]
      generalize h_uc : tHold _ = uc
      refine ⟨fun σ' H1 => H1 = H' ∧ ∃ R1, M < R1 ∧ R1 ≤ 1000000 ∧ σ' = [some (.ref a), some (.int M), some (.int G), some (.int (needF M G)), some (.int (n2 % 8)), some (.int R1), none, none], ?_, ?_⟩
      · walk_at "wps"
        split
        · refine ⟨hS, fun n3 => ⟨by omega, _, ?_, ?_, rfl⟩⟩
          · have := Int.emod_nonneg n3 (show 1000001 - needF M G ≠ 0 by omega)
            omega
          · have := Int.emod_lt_of_pos n3 (show 0 < 1000001 - needF M G by omega)
            omega
        · exact ⟨_, r1, r2, rfl⟩
      clear r1 r2 R1
      rintro σ' H1 ⟨rfl, R, r1, r2, rfl⟩
      have ho : okP R M G := ⟨b1.1, b1.2, r1, r2, b2.1, b2.2⟩
      rw [← h_uc, tHold]
      generalize h_ud : tHold _ = ud
      walk_at "wps"
      refine ⟨ho, fun hn p H2 S2 e2 => ?_, fun hn p H2 S2 T2 => ?_⟩
      · rw [← h_ud, tHold]
        generalize h_ue : tHold _ = ue
        walk_at "wps"
        refine ⟨0, fun _ => ⟨[], [], .non⟩, ⟨[], e2, rfl, fun i v hv => by simp at hv⟩, by omega, fun i => ⟨Nat.zero_le _, Nat.zero_le _, .inl rfl⟩, fun H3 S3 => ?_⟩
        rw [← h_ue, tHold]
        generalize h_uf : tHold _ = uf
        walk_at "wps"
        rw [if_pos hn]
        intro p3 hp3
        refine ⟨1, _, _, by decide, dn_lst (upd_old (S3 _ _ e2) hp3) .nil, dn_lst upd_same .nil, .inl ⟨rfl, q _⟩⟩
      · obtain ⟨b, t, g, pl⟩ := plan_of ho hn
        have N0 := pl.N0
        have N2 := pl.N2
        rw [← h_ud, tHold]
        generalize h_ue : tHold _ = ue
        walk_at "wps"
        refine ⟨_, _, T2, pl.N2, fun i => ⟨by have := pl.lc i; omega, by have := pl.lc i; omega, pl.sc i⟩, fun H3 S3 => ?_⟩
        have T3 := T2.same S3
        rw [← h_ue, tHold]
        generalize h_uf : tHold _ = uf
        walk_at "wps"
        rw [if_neg (by omega)]
        rw [← h_uf, tHold]
        generalize h_ug : tHold _ = ug
        walk_at "wps"
        intro p4 n_p4
        have e_p4 := upd_same (H := H3) (a := p4) (o := (.lst []))
        have s_p4 := same_upd (H := H3) (o := (.lst [])) n_p4
        replace S3 := S3.trans s_p4
        generalize upd H3 p4 ((.lst [])) = H4 at *
        replace T3 := T3.same s_p4
        obtain ⟨ds, d1, d2⟩ := T3.dn (K := K) pl.sc
        refine ⟨3, _, _, by decide, d2, (dn_lst (n := 0) e_p4 .nil).up (by decide), .inr ⟨fun e => ?_, ?_⟩⟩
        · have e' : ds = [] := Dt.l.inj e
          rw [e'] at d1
          simp at d1
          omega
        refine ⟨_, rfl, ?_⟩
        rw [if_neg (by decide)]
        refine ⟨_, _, b, t, g, pl, T3, fun H5 S5 => ⟨_, _, b, t, g, pl, ho, T3.same S5, fun H6 S6 => ?_⟩⟩
        have T6 := (T3.same S5).same S6
        obtain ⟨vs, t1, t2, t3⟩ := T6
        have hlast : vs[vs.length - 1]? = some (vs[vs.length - 1]'(by omega)) := List.getElem?_eq_getElem _
        obtain ⟨qa, ca, aa, eqa, k⟩ := t3 _ _ hlast
        rw [eqa] at hlast
        rw [← h_ug, tHold]
        generalize h_uh : tHold _ = uh
        exists t1, atI_end hlast, k.hq
        refine ⟨tyV_list (SqL.of k.hc), ca, _, rfl, rfl, k.hc, ?_⟩
        have t7 : upd H6 ca (.lst []) p = some (.lst vs) := by rw [upd_ne k.nc.symm]; exact t1
        generalize upd H6 ca (.lst []) = H7 at *
        rw [← h_uh, tHold]
        generalize h_ui : tHold _ = ui
        walk_at "wps"
        refine ⟨tyV_list (SqL.of t7), p, vs, _, rfl, rfl, t7, hlast, ?_⟩
        generalize upd H7 p (.lst vs.dropLast) = H8
        rw [← h_ui, tHold]
        generalize h_uj : tHold _ = uj
        walk_at "wps"
        refine ⟨ho, fun n => absurd hn (by omega), fun _ p9 H9 S9 T9 => ?_⟩
        rw [← h_uj, tHold]
        walk_at "wps"
        refine ⟨_, _, T9, pl.N2, fun i => ⟨by have := pl.lc i; omega, by have := pl.lc i; omega, pl.sc i⟩, fun H10 S10 => ?_⟩
        have T10 := T9.same S10
        intro p11 n_p11
        have e_p11 := upd_same (H := H10) (a := p11) (o := (.lst []))
        have s_p11 := same_upd (H := H10) (o := (.lst [])) n_p11
        replace S10 := S10.trans s_p11
        generalize upd H10 p11 ((.lst [])) = H11 at *
        replace T10 := T10.same s_p11
        obtain ⟨ds, d1, d2⟩ := T10.dn (K := K) pl.sc
        refine ⟨3, _, _, by decide, d2, (dn_lst (n := 0) e_p11 .nil).up (by decide), .inr ⟨fun e => ?_, _, rfl, ?_⟩⟩
        · have e' : ds = [] := Dt.l.inj e
          rw [e'] at d1
          simp at d1
          omega
        rw [if_pos rfl]
        exact ⟨_, _, b, t, g, pl, T10, fun H' _ => q H'⟩
    · exact h.elim
end
theorem fin {P : Program} {w : World} {K : PySem.W.Frag} {h : Heap} {mg : Str → Option Value} {fa : Addr} {C_Pair C_RoadError C_BadPair C_BadTurn : Addr} (KX : K.In h) (G : h.Ns mainGlobals mg) (hmg : mg "law" = some (.ref fa)) (T : Txt K mg C_Pair C_RoadError C_BadPair C_BadTurn) :
    ∃ fd : FuncData, (∀ (s : Shared) (u : Value), BindsTo s fd ⟨[u], []⟩ [("_law_script", u)]) ∧ ∀ base : Heap, K.In base → base.Ns mainGlobals mg → FnOk P w K mg base CX0 6 fa fd ["_law_script"] (spLaw K) :=
  law_fin hmg T.d_law bd_law fun base => ok_law T
end K36
open PySem PySem.W PyProof.Rows
set_option maxRecDepth 100000 in
set_option maxHeartbeats 0 in
theorem PySem.Challenge.cw_slowroad_k36_whole_fooled_holds : PySem.Challenge.rw_slowroad_k36_whole_fooled.Holds := by
  w_on; o_law; k_head; (case hw => w_witness2)
  k_fill
  refine L2.law_walk (l := PySem.Challenge.rw_slowroad_k36_whole_fooled) (k := 6) (x := "_law_script") rfl rfl ⟨rfl, by decide, by decide⟩ (fun w h Y => PySem.W.kIn_of Y) ?F
  case F =>
    intro w mg fa h KX G hmg
    refine' K36.fin KX G hmg ?TT
    case TT =>
      refine' K36.Txt.mk ?k_Pair ?n_Pair_ring ?n_Pair_room ?n_Pair_lag ?n_Pair_base ?n_Pair_top ?n_Pair_got ?n_Pair_turn ?n_Pair_sent_places ?n_Pair_told_answers ?n_Pair_filed_places ?xm_RoadError ?xm_BadPair ?xm_BadTurn ?x_BadPair ?g_BadPair ?qv_BadPair ?q_BadPair_RoadError ?m_BadPair_RoadError ?q_BadPair_BadPair ?m_BadPair_BadPair ?q_BadPair_BadTurn ?m_BadPair_BadTurn ?x_BadTurn ?g_BadTurn ?kp_BadTurn ?xf_BadTurn_turn ?qv_BadTurn ?q_BadTurn_RoadError ?m_BadTurn_RoadError ?q_BadTurn_BadPair ?m_BadTurn_BadPair ?q_BadTurn_BadTurn ?m_BadTurn_BadTurn ?d_is_from ?d_BadTurn___init__ ?d_ahead ?d_check_pair ?d_Pair___init__ ?d_Pair_play ?d_Pair_is_earlier ?d_Pair_may_come ?d_Pair_base_behind ?d_Pair_file_coming ?d_Pair_note_sending ?d_need ?d_fooling ?d_fooling_one ?d_fooling_many ?d_coming_ahead_of ?d__law_whole ?d__law_cell_at ?d__law_need ?d__law_row ?d__law_formed ?d__law_may_come ?d__law_file ?d__law_walked ?d__law_played ?d_law ?b_ValueError ?b_all ?b_bool ?b_int ?b_isinstance ?b_len ?b_list ?b_max ?b_min ?b_range ?b_tuple ?b_zip ?c_ROOM_MOST ?c_RING_MOST ?c_LAG_MOST
      case k_Pair => refine' L2.klsat_mk KX G ?a ?pg ?hd ?po ?sa ?mk ?kc; (case a => k_is); (case pg => k_is); (case hd => k_is); (case po => k_is); (case sa => k_is); (case mk => k_is); (case kc => k_is)
      case n_Pair_ring => refine' L2.noattr_mk ?a; (case a => k_is)
      case n_Pair_room => refine' L2.noattr_mk ?a; (case a => k_is)
      case n_Pair_lag => refine' L2.noattr_mk ?a; (case a => k_is)
      case n_Pair_base => refine' L2.noattr_mk ?a; (case a => k_is)
      case n_Pair_top => refine' L2.noattr_mk ?a; (case a => k_is)
      case n_Pair_got => refine' L2.noattr_mk ?a; (case a => k_is)
      case n_Pair_turn => refine' L2.noattr_mk ?a; (case a => k_is)
      case n_Pair_sent_places => refine' L2.noattr_mk ?a; (case a => k_is)
      case n_Pair_told_answers => refine' L2.noattr_mk ?a; (case a => k_is)
      case n_Pair_filed_places => refine' L2.noattr_mk ?a; (case a => k_is)
      case xm_RoadError => refine' L2.xmat_mk KX G ?a ?t ?b; (case a => k_is); (case t => k_is); (case b => k_is)
      case xm_BadPair => refine' L2.xmat_mk KX G ?a ?t ?b; (case a => k_is); (case t => k_is); (case b => k_is)
      case xm_BadTurn => refine' L2.xmat_mk KX G ?a ?t ?b; (case a => k_is); (case t => k_is); (case b => k_is)
      case x_BadPair => refine' L2.xcat_mk KX G ?a ?l ?o ?i ?t ?l2 ?o2 ?i2 ?t2; (case a => k_is); (case l => k_is); (case o => kernel_rfl); (case i => k_is); (case t => k_is); (case l2 => k_is); (case o2 => kernel_rfl); (case i2 => k_is); (case t2 => k_is)
      case g_BadPair => refine' L2.xgat_mk ?a ?b ?c ?d ?e ?f ?g ?h; (case a => k_is); (case b => k_is); (case c => k_is); (case d => k_is); (case e => k_is); (case f => k_is); (case g => k_is); (case h => k_is)
      case qv_BadPair => kit_is
      case q_BadPair_RoadError => kit_is
      case m_BadPair_RoadError => refine' (show PySem.W.mroIn _ _ _ = _ from ?a); (case a => k_is)
      case q_BadPair_BadPair => kit_is
      case m_BadPair_BadPair => refine' (show PySem.W.mroIn _ _ _ = _ from ?a); (case a => k_is)
      case q_BadPair_BadTurn => kit_is
      case m_BadPair_BadTurn => refine' (show PySem.W.mroIn _ _ _ = _ from ?a); (case a => k_is)
      case x_BadTurn => refine' ⟨_, L2.xcat_mk KX G ?a ?l ?o ?i ?t ?l2 ?o2 ?i2 ?t2⟩; (case a => k_is); (case l => k_is); (case o => kernel_rfl); (case i => k_is); (case t => k_is); (case l2 => k_is); (case o2 => kernel_rfl); (case i2 => k_is); (case t2 => k_is)
      case g_BadTurn => refine' L2.xgat_mk ?a ?b ?c ?d ?e ?f ?g ?h; (case a => k_is); (case b => k_is); (case c => k_is); (case d => k_is); (case e => k_is); (case f => k_is); (case g => k_is); (case h => k_is)
      case kp_BadTurn => k_is
      case xf_BadTurn_turn => refine' ⟨?a, ?b⟩; (case a => k_is); (case b => k_is)
      case qv_BadTurn => kit_is
      case q_BadTurn_RoadError => kit_is
      case m_BadTurn_RoadError => refine' (show PySem.W.mroIn _ _ _ = _ from ?a); (case a => k_is)
      case q_BadTurn_BadPair => kit_is
      case m_BadTurn_BadPair => refine' (show PySem.W.mroIn _ _ _ = _ from ?a); (case a => k_is)
      case q_BadTurn_BadTurn => kit_is
      case m_BadTurn_BadTurn => refine' (show PySem.W.mroIn _ _ _ = _ from ?a); (case a => k_is)
      case d_is_from => refine' L2.defat_mk KX G ?a ?l ?c ?k; (case a => k_is); (case l => k_is); (case c => k_is); (case k => k_is)
      case d_BadTurn___init__ => refine' L2.methat_mk ?a ?i ?l ?c ?k; (case a => k_is); (case i => k_is); (case l => k_is); (case c => k_is); (case k => k_is)
      case d_ahead => refine' L2.defat_mk KX G ?a ?l ?c ?k; (case a => k_is); (case l => k_is); (case c => k_is); (case k => k_is)
      case d_check_pair => refine' L2.defat_mk KX G ?a ?l ?c ?k; (case a => k_is); (case l => k_is); (case c => k_is); (case k => k_is)
      case d_Pair___init__ => refine' L2.methat_mk ?a ?i ?l ?c ?k; (case a => k_is); (case i => k_is); (case l => k_is); (case c => k_is); (case k => k_is)
      case d_Pair_play => refine' L2.methat_mk ?a ?i ?l ?c ?k; (case a => k_is); (case i => k_is); (case l => k_is); (case c => k_is); (case k => k_is)
      case d_Pair_is_earlier => refine' L2.methat_mk ?a ?i ?l ?c ?k; (case a => k_is); (case i => k_is); (case l => k_is); (case c => k_is); (case k => k_is)
      case d_Pair_may_come => refine' L2.methat_mk ?a ?i ?l ?c ?k; (case a => k_is); (case i => k_is); (case l => k_is); (case c => k_is); (case k => k_is)
      case d_Pair_base_behind => refine' L2.methat_mk ?a ?i ?l ?c ?k; (case a => k_is); (case i => k_is); (case l => k_is); (case c => k_is); (case k => k_is)
      case d_Pair_file_coming => refine' L2.methat_mk ?a ?i ?l ?c ?k; (case a => k_is); (case i => k_is); (case l => k_is); (case c => k_is); (case k => k_is)
      case d_Pair_note_sending => refine' L2.methat_mk ?a ?i ?l ?c ?k; (case a => k_is); (case i => k_is); (case l => k_is); (case c => k_is); (case k => k_is)
      case d_need => refine' L2.defat_mk KX G ?a ?l ?c ?k; (case a => k_is); (case l => k_is); (case c => k_is); (case k => k_is)
      case d_fooling => refine' L2.defat_mk KX G ?a ?l ?c ?k; (case a => k_is); (case l => k_is); (case c => k_is); (case k => k_is)
      case d_fooling_one => refine' L2.defat_mk KX G ?a ?l ?c ?k; (case a => k_is); (case l => k_is); (case c => k_is); (case k => k_is)
      case d_fooling_many => refine' L2.defat_mk KX G ?a ?l ?c ?k; (case a => k_is); (case l => k_is); (case c => k_is); (case k => k_is)
      case d_coming_ahead_of => refine' L2.defat_mk KX G ?a ?l ?c ?k; (case a => k_is); (case l => k_is); (case c => k_is); (case k => k_is)
      case d__law_whole => refine' L2.defat_mk KX G ?a ?l ?c ?k; (case a => k_is); (case l => k_is); (case c => k_is); (case k => k_is)
      case d__law_cell_at => refine' L2.defat_mk KX G ?a ?l ?c ?k; (case a => k_is); (case l => k_is); (case c => k_is); (case k => k_is)
      case d__law_need => refine' L2.defat_mk KX G ?a ?l ?c ?k; (case a => k_is); (case l => k_is); (case c => k_is); (case k => k_is)
      case d__law_row => refine' L2.defat_mk KX G ?a ?l ?c ?k; (case a => k_is); (case l => k_is); (case c => k_is); (case k => k_is)
      case d__law_formed => refine' L2.defat_mk KX G ?a ?l ?c ?k; (case a => k_is); (case l => k_is); (case c => k_is); (case k => k_is)
      case d__law_may_come => refine' L2.defat_mk KX G ?a ?l ?c ?k; (case a => k_is); (case l => k_is); (case c => k_is); (case k => k_is)
      case d__law_file => refine' L2.defat_mk KX G ?a ?l ?c ?k; (case a => k_is); (case l => k_is); (case c => k_is); (case k => k_is)
      case d__law_walked => refine' L2.defat_mk KX G ?a ?l ?c ?k; (case a => k_is); (case l => k_is); (case c => k_is); (case k => k_is)
      case d__law_played => refine' L2.defat_mk KX G ?a ?l ?c ?k; (case a => k_is); (case l => k_is); (case c => k_is); (case k => k_is)
      case d_law => refine' L2.defat_mk KX G ?a ?l ?c ?k; (case a => k_is); (case l => k_is); (case c => k_is); (case k => k_is)
      case b_ValueError => refine' PySem.W.mg_none_of KX G ?a; (case a => k_is)
      case b_all => refine' PySem.W.mg_none_of KX G ?a; (case a => k_is)
      case b_bool => refine' PySem.W.mg_none_of KX G ?a; (case a => k_is)
      case b_int => refine' PySem.W.mg_none_of KX G ?a; (case a => k_is)
      case b_isinstance => refine' PySem.W.mg_none_of KX G ?a; (case a => k_is)
      case b_len => refine' PySem.W.mg_none_of KX G ?a; (case a => k_is)
      case b_list => refine' PySem.W.mg_none_of KX G ?a; (case a => k_is)
      case b_max => refine' PySem.W.mg_none_of KX G ?a; (case a => k_is)
      case b_min => refine' PySem.W.mg_none_of KX G ?a; (case a => k_is)
      case b_range => refine' PySem.W.mg_none_of KX G ?a; (case a => k_is)
      case b_tuple => refine' PySem.W.mg_none_of KX G ?a; (case a => k_is)
      case b_zip => refine' PySem.W.mg_none_of KX G ?a; (case a => k_is)
      case c_ROOM_MOST => refine' ⟨_, PySem.W.mg_of KX G ?a, ?r⟩; (case a => k_is); (case r => exact ⟨_, rfl⟩)
      case c_RING_MOST => refine' ⟨_, PySem.W.mg_of KX G ?a, ?r⟩; (case a => k_is); (case r => exact ⟨_, rfl⟩)
      case c_LAG_MOST => refine' ⟨_, PySem.W.mg_of KX G ?a, ?r⟩; (case a => k_is); (case r => exact ⟨_, rfl⟩)
#print axioms PySem.Challenge.cw_slowroad_k36_whole_fooled_holds


